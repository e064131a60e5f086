/-
  Walks over package ring: the rings of whole numbers.
-/
import Derived.Test.YtnomoekbfclckaaRBase
namespace Go.Proofs.Ytnomoekbfclckaa
open Go.RowKit

theorem Try.info3' : (Try.prog.info? 3).map (fun i => (i.zero, i.size, i.bytes)) = some (some (.int .i64 0), 1, 8) := by kernel_rfl
theorem makeI (w : World) (n : Nat) (hn : n ≤ 1000000) : ∃ cs : Array Value, (cs.size = n ∧ ∀ i : Nat, i < n → ∃ x : Int, cs[i]? = some (Value.int .i64 x)) ∧ (Instr.makeSlice 35 (.int .i64 (n : Int)) (.int .i64 (n : Int))).run Try.prog w = .ok (.slice (some ⟨w.heap.size, 0, none⟩) n n) (w.alloc (.cells cs 3)) := by
  obtain ⟨i0, hi, hz0, hz1, hz2⟩ := info_parts Try.info3'
  have := run_make (P := Try.prog) w 35 3 i0 (.int .i64 0) Try.underlying35 hi hz0 .i64 .i64 (n : Int) (n : Int) (by omega) (Int.le_refl _) (by rw [hz2]; omega) (by omega)
  rw [hz1, Nat.mul_one, Int.toNat_natCast] at this
  exact ⟨_, ⟨by simp [size_madeCells], fun i hi => ⟨0, by simp [madeCells, Value.cells, hi, Nat.mod_one]⟩⟩, this⟩

set_option maxRecDepth 100000 in
theorem slotI {w : World} {k L h i : Nat} {so : Option Addr} {vm vn : Value} (hb : BoxT 85 w k #[vm, .slice so L L, .int .i64 h, vn]) (hL : 0 < L) (hL2 : L ≤ 1000000) (hh : h + i ≤ 1000000) {s : Nat} (hs : (h + i) % L = s) {vi : Int} (hvi : vi = (i : Int)) :
    Calls Try.prog 60 #[.pointer (some ⟨k, 0, none⟩), .int .i64 vi] w fun e w' => e = .returned (.int .i64 (s : Int)) ∧ Below w.heap.size w w' := by
  subst hvi
  obtain ⟨c0, c1, c2, c3⟩ := hb.cells4
  have hw : wrap64 ((h : Int) + i) = ((h + i : Nat) : Int) := by unfold wrap64; omega
  have hm := tmod_nat (h + i) L
  have hlt : (h + i) % L < L := Nat.mod_lt _ hL
  have hL0 : ((L : Int) == 0) = false := by simp; omega
  go_enter Try.func60, Try.ntmps60
  go_wp2
  go_region
  all_goals
    go_wp2
    go_ret
    refine ⟨?_, (Below.refl _ _).drew⟩
    rw [← hs, Int.natCast_emod, Int.natCast_add]
    rfl
/-- In the midst of inSlots. -/
structure InI (w wr : World) (q : List Int) (n i : Nat) : Prop where
  bel : Below w.heap.size w wr
  box : ∃ cs : Array Value, BoxT 3 wr w.heap.size cs ∧ cs.size = n ∧ (∀ j : Nat, j < n → ∃ x : Int, cs[j]? = some (Value.int .i64 x)) ∧ ∀ (j : Nat) (x : Int), j < i → q[j]? = some x → cs[j]? = some (Value.int .i64 x)
theorem InI.step {w wr w' : World} {q : List Int} {n i : Nat} {x : Int} (h : InI w wr q n i) (hb : Below wr.heap.size wr w') (hx : q[i]? = some x) (hn : q.length ≤ n) : InI w (w'.setCell ⟨w.heap.size, i, none⟩ (Value.int .i64 x)) q n (i + 1) := by
  obtain ⟨cs, h1, h2, h4, h3⟩ := h.box
  have h1' : BoxT 3 w' w.heap.size cs := by have := h1.lt; unfold BoxT at *; rw [hb.block _ this]; exact h1
  have hlt : i < cs.size := by rw [h2]; have := (List.getElem?_eq_some_iff.1 hx).1; omega
  refine ⟨(h.bel.trans (hb.mono h.bel.size)).setCell (Nat.le_refl _) _, _, h1'.set i _, by simpa using h2, fun j hj => ?_, fun j y hj hy => ?_⟩
  · by_cases hji : i = j
    · subst hji; exact ⟨x, by simp [hlt]⟩
    · rw [Array.getElem?_setIfInBounds_ne hji]; exact h4 j hj
  · by_cases hji : i = j
    · subst hji
      rw [hx] at hy
      cases hy
      simp [hlt]
    · rw [Array.getElem?_setIfInBounds_ne hji]
      exact h3 j y (by omega) hy

set_option maxHeartbeats 1000000 in
set_option maxRecDepth 100000 in
theorem inSlotsI {w : World} {k b mo L h n : Nat} {so : Option Addr} {q : List Int} (H : RgX 85 3 (Value.int .i64) w k b mo q L h so) (hq : q.length ≤ n) (hn : n ≤ 300000) {vn : Int} (hvn : vn = (n : Int)) :
    Calls Try.prog 62 #[.pointer (some ⟨k, 0, none⟩), .int .i64 vn] w fun e w' => e = .returned (.slice (some ⟨w.heap.size, 0, none⟩) n n) ∧ InI w w' q n q.length := by
  subst hvn
  obtain ⟨cs, ⟨hcs, hcx⟩, hmk⟩ := makeI w n (by omega)
  have HB := hide H
  obtain ⟨c0, c1, c2, c3⟩ := (H.box.alloc (.cells cs 3)).cells4
  have hkw := H.box.lt
  have hI0 : Hid (InI w (w.alloc (.cells cs 3)) q n 0) := ⟨(Below.refl _ _).alloc (Nat.le_refl _) _, cs, BoxT.new _ _ _, hcs, hcx, fun j x hj => by omega⟩
  clear H hcs hcx
  generalize hlq : q.length = m at *
  have HQ := hide hlq
  clear hlq
  generalize w.alloc (.cells cs 3) = w1 at *
  go_enter Try.func62, Try.ntmps62
  go_wp2_with fail
  go_loopw [13] (fun iv wr => ∃ i : Nat, i ≤ m ∧ iv = .int .i64 i ∧ Hid (InI w wr q n i)) (fun iv _ => m - (intOf iv).toNat)
  case atStart => exact ⟨0, Nat.zero_le _, rfl, hI0.out⟩
  case round =>
    obtain ⟨i, hi, rfl, HI⟩ := hrel
    by_cases hlt : i < m
    · obtain ⟨x, hx⟩ : ∃ x, q[i]? = some x := ⟨_, List.getElem?_eq_getElem (by rw [HQ.out]; exact hlt)⟩
      rcases HB.out.pl with ⟨hL0, _⟩ | ⟨hhL, hso, hkb, cur, hcur, hsz, hget⟩
      · exact absurd HB.out.le (by rw [HQ.out]; omega)
      subst hso
      have hLb := HB.out.big
      have hLm : m ≤ L := by rw [← HQ.out]; exact HB.out.le
      have hcell := hget i x hx
      obtain ⟨s, hs⟩ : ∃ s, (h + i) % L = s := ⟨_, rfl⟩
      rw [hs] at hcell
      have hix : s < L := by rw [← hs]; exact Nat.mod_lt _ (by omega)
      have HSS := hide hs
      clear hs
      have hbxr : BoxT 85 wr k #[.int .i64 mo, .slice (some ⟨b, 0, none⟩) L L, .int .i64 h, .int .i64 q.length] := by
        have h1 := HB.out.box
        unfold BoxT at *
        rw [HI.out.bel.block k hkw]; exact h1
      have hcur2 : BoxT 3 wr b cur := by
        have h1 := hcur.lt
        unfold BoxT at *
        rw [HI.out.bel.block b h1]; exact hcur
      have y1 := hbxr.cells4.2.1
      have hw0 := HI.out.bel.size
      have hin : i < n := by omega
      have hbw : b < w.heap.size := hcur.lt
      have hn1 : (⟨w.heap.size, i, none⟩ : Addr) ≠ ⟨k, 1, none⟩ := fun e => by have := congrArg Addr.block e; simp at this; omega
      have hn2 : (⟨w.heap.size, i, none⟩ : Addr) ≠ ⟨b, s, none⟩ := fun e => by have := congrArg Addr.block e; simp at this; omega
      have HX := hide hx
      have HBX := hide hbxr
      have y2 := (hcur2.cellAt s).trans hcell
      have HC2 := hide hcur2
      have HCE := hide hcell
      clear hget hcell hbxr hcur2 hx hcur
      go_wp2_with fail
      go_region_held3 (fun w' => w'.cell? ⟨k, 1, none⟩ = some (.slice (some ⟨b, 0, none⟩) L L) ∧ w'.cell? ⟨b, s, none⟩ = some (Value.int .i64 x)) (first | go_keep | exact ⟨y1, y2⟩ | exact ⟨z1, z2⟩ | exact ⟨(World.cell?_setCell_other _ _ _ _ hn1).trans z1, (World.cell?_setCell_other _ _ _ _ hn2).trans z2⟩)
        (first | (go_at_call 60; refine (slotI (L := L) (h := h) (i := i) HBX.out.drew (by omega) (by omega) (by omega) HSS.out rfl).mono ?_; rintro e w2 ⟨rfl, b2⟩; have B2 := hide (((Below.refl wr.heap.size wr).drew).trans b2); have z1 : w2.cell? ⟨k, 1, none⟩ = some (.slice (some ⟨b, 0, none⟩) L L) := (b2.cell (p := ⟨k, 1, none⟩) HBX.out.lt).trans y1; have z2 : w2.cell? ⟨b, s, none⟩ = some (Value.int .i64 x) := (b2.cell (p := ⟨b, s, none⟩) HC2.out.lt).trans ((HC2.out.cellAt _).trans HCE.out); have HS := hide (HI.out.step B2.out HX.out (by rw [HQ.out]; exact hq)); have z3 : ∃ u, w2.cell? ⟨w.heap.size, i, none⟩ = some (Value.int .i64 u) := (by obtain ⟨cs, h1, h2, h3, _⟩ := HI.out.box; obtain ⟨u, hu⟩ := h3 i (by omega); exact ⟨u, (b2.cell (p := ⟨w.heap.size, i, none⟩) h1.lt).trans ((h1.cellAt _).trans hu)⟩); have z4 : w2.frozen? ⟨w.heap.size, i, none⟩ = false := (by obtain ⟨cs, h1, _⟩ := HI.out.box; have h5 : BoxT 3 w2 w.heap.size cs := (by have h6 := h1.lt; unfold BoxT at *; rw [b2.block _ h6]; exact h1); exact h5.free i); obtain ⟨u3, z3⟩ := z3; clear b2))
      go_wp2
      go_roundw
      case rel => exact ⟨i + 1, by omega, by go_num, HS.out⟩
      case measure => simp [intOf]; omega
    · obtain rfl : i = m := by omega
      go_wp2
      go_ret
      exact ⟨rfl, HI.out⟩
theorem InI.moved {w w2 : World} {k b mo L h n : Nat} {so : Option Addr} {q : List Int} (H : RgX 85 3 (Value.int .i64) w k b mo q L h so) (HI : InI w w2 q n q.length) (hq : q.length ≤ n) (hn : 0 < n) (hn2 : n ≤ 262144) :
    RgX 85 3 (Value.int .i64) ((w2.setCell ⟨k, 1, none⟩ (.slice (some ⟨w.heap.size, 0, none⟩) n n)).setCell ⟨k, 2, none⟩ (.int .i64 0)) k w.heap.size mo q n 0 (some ⟨w.heap.size, 0, none⟩) ∧ Turned k b w ((w2.setCell ⟨k, 1, none⟩ (.slice (some ⟨w.heap.size, 0, none⟩) n n)).setCell ⟨k, 2, none⟩ (.int .i64 0)) := by
  obtain ⟨cs, h1, h2, _, h3⟩ := HI.box
  have hk := H.box.lt
  have hb : BoxT 85 w2 k #[.int .i64 mo, .slice so L L, .int .i64 h, .int .i64 q.length] := by have := H.box; unfold BoxT at *; rw [HI.bel.block k hk]; exact this
  refine ⟨⟨?_, hq, hn2, .inr ⟨hn, rfl, by omega, cs, (h1.other 1 _ (by omega)).other 2 _ (by omega), h2, fun i x hx => ?_⟩⟩, ((Turned.below HI.bel).trans (Turned.set k b _ 1 _)).trans (Turned.set k b _ 2 _)⟩
  · simpa using (hb.set 1 (.slice (some ⟨w.heap.size, 0, none⟩) n n)).set 2 (.int .i64 0)
  · have hi := (List.getElem?_eq_some_iff.1 hx).1
    rw [Nat.zero_add, Nat.mod_eq_of_lt (by omega)]
    exact h3 i x hi hx

set_option maxRecDepth 100000 in
theorem LenI {w : World} {k b mo : Nat} {q : List Int} (H : Rg 85 3 (Value.int .i64) w k b mo q) :
    Calls Try.prog 49 #[.pointer (some ⟨k, 0, none⟩)] w fun e w' => e = .returned (.int .i64 q.length) ∧ w' = w := by
  obtain ⟨L, h, so, H⟩ := H
  obtain ⟨c0, c1, c2, c3⟩ := H.box.cells4
  clear H
  go_enter Try.func49, Try.ntmps49
  go_wp2
  go_ret
  exact ⟨rfl, rfl⟩
set_option maxRecDepth 100000 in
theorem RoomI {w : World} {k b mo : Nat} {q : List Int} (H : Rg 85 3 (Value.int .i64) w k b mo q) (hmo : mo ≤ 65536) :
    Calls Try.prog 53 #[.pointer (some ⟨k, 0, none⟩)] w fun e w' => e = .returned (.int .i64 ((mo - q.length : Nat) : Int)) ∧ Below w.heap.size w w' := by
  obtain ⟨L, h, so, H⟩ := H
  obtain ⟨c0, c1, c2, c3⟩ := H.box.cells4
  have h1 := H.le
  have h2 := H.big
  clear H
  generalize q.length = m at *
  go_enter Try.func53, Try.ntmps53
  go_wp2
  go_region
  all_goals go_wp2
  all_goals
    go_ret
    refine ⟨congrArg (fun z : Int => Ending.returned (.int .i64 z)) ?_, (Below.refl _ _).drew⟩
    omega
set_option maxHeartbeats 1000000 in
set_option maxRecDepth 100000 in
theorem widenI {w : World} {k b mo L hd : Nat} {so : Option Addr} {q : List Int} (H : RgX 85 3 (Value.int .i64) w k b mo q L hd so) (hq : q.length ≤ 131072) :
    Calls Try.prog 68 #[.pointer (some ⟨k, 0, none⟩)] w fun e w' => e = .returned (.tuple #[]) ∧ ∃ b' L' h' so', RgX 85 3 (Value.int .i64) w' k b' mo q L' h' so' ∧ q.length < L' ∧ Turned k b w w' ∧ (b' = b ∨ w.heap.size ≤ b') := by
  obtain ⟨c0, c1, c2, c3⟩ := H.box.cells4
  have h1 := H.le
  have h2 := H.big
  have HB := hide H
  have hkf := H.box.free
  clear H
  generalize hlq : q.length = m at *
  have HQ := hide hlq
  clear hlq
  go_enter Try.func68, Try.ntmps68
  by_cases hm : m = L
  · subst hm
    go_wp2
    go_region
    all_goals go_wp2_with fail
    · go_at_call 62
      refine (inSlotsI (n := 1) (HB.out.below ((Below.refl _ _).drew)) (by rw [HQ.out]; omega) (by omega) (by omega)).mono ?_
      rintro e w2 ⟨rfl, h3⟩
      have HM := hide (h3.moved (HB.out.below ((Below.refl _ _).drew)) (by rw [HQ.out]; omega) (by omega) (by omega))
      have hb2 : BoxT 85 w2 k #[.int .i64 mo, .slice so m m, .int .i64 hd, .int .i64 q.length] := by have h4 := HB.out.box; have h5 := h4.lt; unfold BoxT at *; rw [h3.bel.block k h5]; exact h4
      obtain ⟨d0, d1, d2, d3⟩ := hb2.cells4
      have df := hb2.free
      clear h3 hb2
      go_wp2
      go_end0
      exact ⟨rfl, _, 1, 0, _, HM.out.1, by omega, (Turned.below ((Below.refl _ _).drew)).trans HM.out.2, .inr (Nat.le_refl _)⟩
    · go_at_call 62
      refine (inSlotsI (n := 2 * m) (HB.out.below ((Below.refl _ _).drew)) (by rw [HQ.out]; omega) (by omega) (by omega)).mono ?_
      rintro e w2 ⟨rfl, h3⟩
      have HM := hide (h3.moved (HB.out.below ((Below.refl _ _).drew)) (by rw [HQ.out]; omega) (by omega) (by omega))
      have hb2 : BoxT 85 w2 k #[.int .i64 mo, .slice so m m, .int .i64 hd, .int .i64 q.length] := by have h4 := HB.out.box; have h5 := h4.lt; unfold BoxT at *; rw [h3.bel.block k h5]; exact h4
      obtain ⟨d0, d1, d2, d3⟩ := hb2.cells4
      have df := hb2.free
      clear h3 hb2
      go_wp2
      go_end0
      exact ⟨rfl, _, 2 * m, 0, _, HM.out.1, by omega, (Turned.below ((Below.refl _ _).drew)).trans HM.out.2, .inr (Nat.le_refl _)⟩
  · have hm2 : ¬ ((m : Int) = L) := by omega
    go_wp2
    go_region
    all_goals
      go_wp2
      go_end0
      exact ⟨rfl, b, L, hd, so, HB.out.below ((Below.refl _ _).drew), by omega, Turned.below ((Below.refl _ _).drew), .inl rfl⟩
end Go.Proofs.Ytnomoekbfclckaa
