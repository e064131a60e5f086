/-
  Walks over package ring: the rings of numbered whole numbers.
-/
import Derived.Test.YtnomoekbfclckaaNPair
namespace Go.Proofs.Ytnomoekbfclckaa
open Go.RowKit

theorem Try.info58' : (Try.prog.info? 58).map (fun i => (i.zero, i.size, i.bytes)) = some (some (.agg #[.int .u64 0, .int .i64 0]), 2, 16) := by kernel_rfl
theorem makeMI (w : World) (n : Nat) (hn : n ≤ 1000000) : ∃ cs : Array Value, cs.size = n * 2 ∧ (Instr.makeSlice 69 (.int .i64 (n : Int)) (.int .i64 (n : Int))).run Try.prog w = .ok (.slice (some ⟨w.heap.size, 0, none⟩) n n) (w.alloc (.cells cs 58)) := by
  obtain ⟨i0, hi, hz0, hz1, hz2⟩ := info_parts Try.info58'
  have := run_make (P := Try.prog) w 69 58 i0 (.agg #[.int .u64 0, .int .i64 0]) Try.underlying69 hi hz0 .i64 .i64 (n : Int) (n : Int) (by omega) (Int.le_refl _) (by rw [hz2]; omega) (by omega)
  rw [hz1, Int.toNat_natCast] at this
  exact ⟨_, by simp [size_madeCells], this⟩
set_option maxRecDepth 100000 in
theorem slotMI {w : World} {k L h i : Nat} {so : Option Addr} {vm vn : Value} (hb : BoxT 104 w k #[vm, .slice so L L, .int .i64 h, vn]) (hL : 0 < L) (hL2 : L ≤ 1000000) (hh : h + i ≤ 1000000) {s : Nat} (hs : (h + i) % L = s) {vi : Int} (hvi : vi = (i : Int)) :
    Calls Try.prog 83 #[.pointer (some ⟨k, 0, none⟩), .int .i64 vi] w fun e w' => e = .returned (.int .i64 (s : Int)) ∧ Below w.heap.size w w' := by
  subst hvi
  obtain ⟨c0, c1, c2, c3⟩ := hb.cells4
  have hw : wrap64 ((h : Int) + i) = ((h + i : Nat) : Int) := by unfold wrap64; omega
  have hm := tmod_nat (h + i) L
  have hlt : (h + i) % L < L := Nat.mod_lt _ hL
  have hL0 : ((L : Int) == 0) = false := by simp; omega
  go_enter Try.func83, Try.ntmps83
  go_wp2
  go_region
  all_goals
    go_wp2
    go_ret
    refine ⟨?_, (Below.refl _ _).drew⟩
    rw [← hs, Int.natCast_emod, Int.natCast_add]
    rfl
set_option maxHeartbeats 1000000 in
set_option maxRecDepth 100000 in
theorem inSlotsMI {w : World} {k b mo L h n : Nat} {so : Option Addr} {q : List (Int × Int)} (H : R2X 104 58 (Value.int .i64) w k b mo q L h so) (hq : q.length ≤ n) (hn : n ≤ 300000) {vn : Int} (hvn : vn = (n : Int)) :
    Calls Try.prog 87 #[.pointer (some ⟨k, 0, none⟩), .int .i64 vn] w fun e w' => e = .returned (.slice (some ⟨w.heap.size, 0, none⟩) n n) ∧ InP 58 (Value.int .i64) w w' w.heap.size q n q.length := by
  subst hvn
  obtain ⟨cs, hcs, hmk⟩ := makeMI w n (by omega)
  have HB := hide H
  obtain ⟨c0, c1, c2, c3⟩ := (H.box.alloc (.cells cs 58)).cells4
  have hkw := H.box.lt
  have hI0 : Hid (InP 58 (Value.int .i64) w (w.alloc (.cells cs 58)) w.heap.size q n 0) := ⟨(Below.refl _ _).alloc (Nat.le_refl _) _, Nat.le_refl _, cs, BoxT.new _ _ _, hcs, fun i p hp => by simp at hp⟩
  clear H hcs
  generalize hlq : q.length = m at *
  have HQ := hide hlq
  clear hlq
  generalize w.alloc (.cells cs 58) = w1 at *
  go_enter Try.func87, Try.ntmps87
  go_wp2_with fail
  go_loopw [13] (fun iv wr => ∃ i : Nat, i ≤ m ∧ iv = .int .i64 i ∧ Hid (InP 58 (Value.int .i64) w wr w.heap.size q n i)) (fun iv _ => m - (intOf iv).toNat)
  case atStart => exact ⟨0, Nat.zero_le _, rfl, hI0.out⟩
  case round =>
    obtain ⟨i, hi, rfl, HI⟩ := hrel
    by_cases hlt : i < m
    · obtain ⟨p, hx⟩ : ∃ x, q[i]? = some x := ⟨_, List.getElem?_eq_getElem (by rw [HQ.out]; exact hlt)⟩
      rcases HB.out.pl with ⟨hL0, _⟩ | ⟨hhL, hso, hkb, cur, hcur, hprs⟩
      · exact absurd HB.out.le (by rw [HQ.out]; omega)
      subst hso
      have hLb := HB.out.big
      have hLm : m ≤ L := by rw [← HQ.out]; exact HB.out.le
      obtain ⟨hcell, hcell2⟩ := hprs.each i p hx
      obtain ⟨s, hs⟩ : ∃ s, (h + i) % L = s := ⟨_, rfl⟩
      rw [hs] at hcell hcell2
      have hix : s < L := by rw [← hs]; exact Nat.mod_lt _ (by omega)
      have HSS := hide hs
      clear hs
      have hbxr : BoxT 104 wr k #[.int .i64 mo, .slice (some ⟨b, 0, none⟩) L L, .int .i64 h, .int .i64 q.length] := by
        have h1 := HB.out.box
        unfold BoxT at *
        rw [HI.out.bel.block k hkw]; exact h1
      have hcur2 : BoxT 58 wr b cur := by
        have h1 := hcur.lt
        unfold BoxT at *
        rw [HI.out.bel.block b h1]; exact hcur
      have y1 := hbxr.cells4.2.1
      have hw0 := HI.out.bel.size
      have hin : i < n := by omega
      have hbw : b < w.heap.size := hcur.lt
      have hn1 : ∀ j, (⟨w.heap.size, j, none⟩ : Addr) ≠ ⟨k, 1, none⟩ := fun j e => by have := congrArg Addr.block e; simp at this; omega
      have hn2 : ∀ j t, (⟨w.heap.size, j, none⟩ : Addr) ≠ ⟨b, t, none⟩ := fun j t e => by have := congrArg Addr.block e; simp at this; omega
      have HX := hide hx
      have HBX := hide hbxr
      have y2 := (hcur2.cellAt (s * 2)).trans hcell
      have y3 := (hcur2.cellAt (s * 2 + 1)).trans hcell2
      have hbl := hcur2.lt
      clear hcell hcell2 hbxr hcur2 hx hcur hprs
      obtain ⟨p1, p2⟩ := p
      dsimp only at y2 y3
      go_wp2_with fail
      go_region_held3 (fun w' => w'.cell? ⟨k, 1, none⟩ = some (.slice (some ⟨b, 0, none⟩) L L) ∧ w'.cell? ⟨b, s * 2, none⟩ = some (.int .u64 p1) ∧ w'.cell? ⟨b, s * 2 + 1, none⟩ = some (Value.int .i64 p2)) (first | go_keep | exact ⟨y1, y2, y3⟩ | exact ⟨z1, z2, z3⟩ | exact ⟨(World.cell?_setCell_other _ _ _ _ (hn1 _)).trans ((World.cell?_setCell_other _ _ _ _ (hn1 _)).trans z1), (World.cell?_setCell_other _ _ _ _ (hn2 _ _)).trans ((World.cell?_setCell_other _ _ _ _ (hn2 _ _)).trans z2), (World.cell?_setCell_other _ _ _ _ (hn2 _ _)).trans ((World.cell?_setCell_other _ _ _ _ (hn2 _ _)).trans z3)⟩)
        (first | (go_at_call 83; refine (slotMI (L := L) (h := h) (i := i) HBX.out.drew (by omega) (by omega) (by omega) HSS.out rfl).mono ?_; rintro e w2 ⟨rfl, b2⟩; have B2 := hide (((Below.refl wr.heap.size wr).drew).trans b2); have z1 : w2.cell? ⟨k, 1, none⟩ = some (.slice (some ⟨b, 0, none⟩) L L) := (b2.cell (p := ⟨k, 1, none⟩) HBX.out.lt).trans y1; have z2 : w2.cell? ⟨b, s * 2, none⟩ = some (.int .u64 p1) := (b2.cell (p := ⟨b, s * 2, none⟩) hbl).trans y2; have z3 : w2.cell? ⟨b, s * 2 + 1, none⟩ = some (Value.int .i64 p2) := (b2.cell (p := ⟨b, s * 2 + 1, none⟩) hbl).trans y3; have HS := hide (HI.out.step B2.out HX.out (by rw [HQ.out]; exact hq)); have z4 : ∀ t, t < n * 2 → ∃ u, w2.cell? ⟨w.heap.size, t, none⟩ = some u := (by intro t ht; obtain ⟨cs, h1, h2⟩ := HI.out.box; obtain ⟨u, hu⟩ := h2.all t ht; exact ⟨u, (b2.cell (p := ⟨w.heap.size, t, none⟩) h1.lt).trans ((h1.cellAt _).trans hu)⟩); have z5 : ∀ t, w2.frozen? ⟨w.heap.size, t, none⟩ = false := (by obtain ⟨cs, h1, _⟩ := HI.out.box; have h5 : BoxT 58 w2 w.heap.size cs := (by have h6 := h1.lt; unfold BoxT at *; rw [b2.block _ h6]; exact h1); exact h5.free); obtain ⟨u4, z6⟩ := z4 (i * 2) (by omega); obtain ⟨u5, z7⟩ := z4 (i * 2 + 1) (by omega); clear b2 z4))
      go_wp2
      go_roundw
      case rel => exact ⟨i + 1, by omega, by go_num, HS.out⟩
      case measure => simp [intOf]; omega
    · obtain rfl : i = m := by omega
      go_wp2
      go_ret
      exact ⟨rfl, HI.out⟩
set_option maxRecDepth 100000 in
theorem LenMI {w : World} {k b mo : Nat} {q : List (Int × Int)} (H : R2 104 58 (Value.int .i64) w k b mo q) :
    Calls Try.prog 77 #[.pointer (some ⟨k, 0, none⟩)] w fun e w' => e = .returned (.int .i64 q.length) ∧ w' = w := by
  obtain ⟨L, h, so, H⟩ := H
  obtain ⟨c0, c1, c2, c3⟩ := H.box.cells4
  clear H
  go_enter Try.func77, Try.ntmps77
  go_wp2
  go_ret
  exact ⟨rfl, rfl⟩
set_option maxRecDepth 100000 in
theorem RoomMI {w : World} {k b mo : Nat} {q : List (Int × Int)} (H : R2 104 58 (Value.int .i64) w k b mo q) (hmo : mo ≤ 65536) :
    Calls Try.prog 72 #[.pointer (some ⟨k, 0, none⟩)] w fun e w' => e = .returned (.int .i64 ((mo - q.length : Nat) : Int)) ∧ Below w.heap.size w w' := by
  obtain ⟨L, h, so, H⟩ := H
  obtain ⟨c0, c1, c2, c3⟩ := H.box.cells4
  have h1 := H.le
  have h2 := H.big
  clear H
  generalize q.length = m at *
  go_enter Try.func72, Try.ntmps72
  go_wp2
  go_region
  all_goals go_wp2
  all_goals
    go_ret
    refine ⟨congrArg (fun z : Int => Ending.returned (.int .i64 z)) ?_, (Below.refl _ _).drew⟩
    omega
set_option maxHeartbeats 1000000 in
set_option maxRecDepth 100000 in
theorem widenMI {w : World} {k b mo L hd : Nat} {so : Option Addr} {q : List (Int × Int)} (H : R2X 104 58 (Value.int .i64) w k b mo q L hd so) (hq : q.length ≤ 131072) :
    Calls Try.prog 82 #[.pointer (some ⟨k, 0, none⟩)] w fun e w' => e = .returned (.tuple #[]) ∧ ∃ b' L' h' so', R2X 104 58 (Value.int .i64) w' k b' mo q L' h' so' ∧ q.length < L' ∧ Turned k b w w' ∧ (b' = b ∨ w.heap.size ≤ b') := by
  obtain ⟨c0, c1, c2, c3⟩ := H.box.cells4
  have h1 := H.le
  have h2 := H.big
  have HB := hide H
  have hkf := H.box.free
  clear H
  generalize hlq : q.length = m at *
  have HQ := hide hlq
  clear hlq
  go_enter Try.func82, Try.ntmps82
  by_cases hm : m = L
  · subst hm
    go_wp2
    go_region
    all_goals go_wp2_with fail
    · go_at_call 87
      refine (inSlotsMI (n := 1) (HB.out.below ((Below.refl _ _).drew)) (by rw [HQ.out]; omega) (by omega) (by omega)).mono ?_
      rintro e w2 ⟨rfl, h3⟩
      have HM := hide (h3.moved (HB.out.below ((Below.refl _ _).drew)) (by rw [HQ.out]; omega) (by omega) (by omega))
      have hb2 : BoxT 104 w2 k #[.int .i64 mo, .slice so m m, .int .i64 hd, .int .i64 q.length] := by have h4 := HB.out.box; have h5 := h4.lt; unfold BoxT at *; rw [h3.bel.block k h5]; exact h4
      obtain ⟨d0, d1, d2, d3⟩ := hb2.cells4
      have df := hb2.free
      clear h3 hb2
      go_wp2
      go_end0
      exact ⟨rfl, _, 1, 0, _, HM.out.1, by omega, (Turned.below ((Below.refl _ _).drew)).trans HM.out.2, .inr (Nat.le_refl _)⟩
    · go_at_call 87
      refine (inSlotsMI (n := 2 * m) (HB.out.below ((Below.refl _ _).drew)) (by rw [HQ.out]; omega) (by omega) (by omega)).mono ?_
      rintro e w2 ⟨rfl, h3⟩
      have HM := hide (h3.moved (HB.out.below ((Below.refl _ _).drew)) (by rw [HQ.out]; omega) (by omega) (by omega))
      have hb2 : BoxT 104 w2 k #[.int .i64 mo, .slice so m m, .int .i64 hd, .int .i64 q.length] := by have h4 := HB.out.box; have h5 := h4.lt; unfold BoxT at *; rw [h3.bel.block k h5]; exact h4
      obtain ⟨d0, d1, d2, d3⟩ := hb2.cells4
      have df := hb2.free
      clear h3 hb2
      go_wp2
      go_end0
      exact ⟨rfl, _, 2 * m, 0, _, HM.out.1, by omega, (Turned.below ((Below.refl _ _).drew)).trans HM.out.2, .inr (Nat.le_refl _)⟩
  · have hm2 : ¬ ((m : Int) = L) := by omega
    go_wp2
    go_region
    all_goals
      go_wp2
      go_end0
      exact ⟨rfl, b, L, hd, so, HB.out.below ((Below.refl _ _).drew), by omega, Turned.below ((Below.refl _ _).drew), .inl rfl⟩
set_option maxHeartbeats 1000000 in
set_option maxRecDepth 100000 in
theorem narrowMI {w : World} {k b mo L hd : Nat} {so : Option Addr} {q : List (Int × Int)} (H : R2X 104 58 (Value.int .i64) w k b mo q L hd so) :
    Calls Try.prog 89 #[.pointer (some ⟨k, 0, none⟩)] w fun e w' => e = .returned (.tuple #[]) ∧ ∃ b', R2 104 58 (Value.int .i64) w' k b' mo q ∧ Turned k b w w' ∧ (b' = b ∨ w.heap.size ≤ b') := by
  obtain ⟨c0, c1, c2, c3⟩ := H.box.cells4
  have h1 := H.le
  have h2 := H.big
  have HB := hide H
  have hkf := H.box.free
  clear H
  generalize hlq : q.length = m at *
  have HQ := hide hlq
  clear hlq
  go_enter Try.func89, Try.ntmps89
  by_cases hL : 4 < L
  · have hL1 : (4 : Int) < L := by omega
    have hd1 : decide ((L : Int) > 4) = true := by simp; omega
    by_cases hm : m ≤ L / 4
    · have hm1 : (m : Int) ≤ L / 4 := by omega
      go_wp2
      go_quiet (fail)
      have HN := hide (below_drewN (Below.refl w.heap.size w) nq)
      have HB2 := hide (HB.out.below HN.out)
      obtain ⟨d0, d1, d2, d3⟩ := HB2.out.box.cells4
      have hsz := HN.out.size
      generalize w.drewN nq = w1 at *
      clear c0 c1 c2 c3 hkf
      go_wp2_with fail
      go_at_call 87
      refine (inSlotsMI (n := L / 2) HB2.out (by rw [HQ.out]; omega) (by omega) (by omega)).mono ?_
      rintro e w2 ⟨rfl, h3⟩
      have HM := hide (h3.moved HB2.out (by rw [HQ.out]; omega) (by omega) (by omega))
      have hb2 : BoxT 104 w2 k #[.int .i64 mo, .slice so L L, .int .i64 hd, .int .i64 q.length] := by have h4 := HB2.out.box; have h5 := h4.lt; unfold BoxT at *; rw [h3.bel.block k h5]; exact h4
      obtain ⟨e0, e1, e2, e3⟩ := hb2.cells4
      have df := hb2.free
      clear h3 hb2 d0 d1 d2 d3
      go_wp2
      go_end0
      exact ⟨rfl, _, ⟨L / 2, 0, _, HM.out.1⟩, (Turned.below HN.out).trans HM.out.2, .inr hsz⟩
    · have hm1 : ¬ ((m : Int) ≤ L / 4) := by omega
      go_wp2
      go_quiet (fail)
      go_wp2
      go_end0
      have HN := below_drewN (Below.refl w.heap.size w) nq
      exact ⟨rfl, b, ⟨L, hd, so, HB.out.below HN⟩, Turned.below HN, .inl rfl⟩
  · have hL1 : ¬ ((4 : Int) < L) := by omega
    have hd1 : decide ((L : Int) > 4) = false := by simp; omega
    go_wp2
    go_quiet (fail)
    go_wp2
    go_end0
    have HN := below_drewN (Below.refl w.heap.size w) nq
    exact ⟨rfl, b, ⟨L, hd, so, HB.out.below HN⟩, Turned.below HN, .inl rfl⟩
set_option maxRecDepth 100000 in
theorem NewMI (w : World) (n : Int) :
    Calls Try.prog 73 #[.int .i64 n] w fun e w' => e = .returned (.pointer (some ⟨w.heap.size, 0, none⟩)) ∧ R2 104 58 (Value.int .i64) w' w.heap.size w.heap.size (min (max n 1) 65536).toNat [] ∧ Below w.heap.size w w' := by
  go_enter Try.func73, Try.ntmps73
  go_wp2_with (first | (go_at_call 55; refine (within_any w n).mono ?_; rintro e w1 ⟨rfl, rfl⟩) | fail)
  go_ret
  have hn : (((min (max n 1) 65536).toNat : Nat) : Int) = min (max n 1) 65536 := Int.toNat_of_nonneg (by omega)
  refine ⟨rfl, ⟨0, 0, none, ⟨?_, Nat.le_refl _, by omega, .inl ⟨rfl, rfl, rfl, rfl⟩⟩⟩, (Below.refl _ _).alloc (Nat.le_refl _) _⟩
  rw [hn]
  exact BoxT.new _ _ _
end Go.Proofs.Ytnomoekbfclckaa
