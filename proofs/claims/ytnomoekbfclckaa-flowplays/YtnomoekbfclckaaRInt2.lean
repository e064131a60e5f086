/-
  Walks over package ring: the rings of whole numbers: Put, Front, Take, New.
-/
import Derived.Test.YtnomoekbfclckaaRInt
namespace Go.Proofs.Ytnomoekbfclckaa
open Go.RowKit

set_option maxHeartbeats 1000000 in
set_option maxRecDepth 100000 in
theorem narrowI {w : World} {k b mo L hd : Nat} {so : Option Addr} {q : List Int} (H : RgX 85 3 (Value.int .i64) w k b mo q L hd so) :
    Calls Try.prog 61 #[.pointer (some ⟨k, 0, none⟩)] w fun e w' => e = .returned (.tuple #[]) ∧ ∃ b', Rg 85 3 (Value.int .i64) w' k b' mo q ∧ Turned k b w w' ∧ (b' = b ∨ w.heap.size ≤ b') := by
  obtain ⟨c0, c1, c2, c3⟩ := H.box.cells4
  have h1 := H.le
  have h2 := H.big
  have HB := hide H
  have hkf := H.box.free
  clear H
  generalize hlq : q.length = m at *
  have HQ := hide hlq
  clear hlq
  go_enter Try.func61, Try.ntmps61
  by_cases hL : 4 < L
  · have hL1 : (4 : Int) < L := by omega
    have hd1 : decide ((L : Int) > 4) = true := by simp; omega
    by_cases hm : m ≤ L / 4
    · have hm1 : (m : Int) ≤ L / 4 := by omega
      go_wp2
      go_quiet (fail)
      have HN := hide (below_drewN (Below.refl w.heap.size w) nq)
      have HB2 := hide (HB.out.below HN.out)
      obtain ⟨d0, d1, d2, d3⟩ := HB2.out.box.cells4
      have hsz := HN.out.size
      generalize w.drewN nq = w1 at *
      clear c0 c1 c2 c3 hkf
      go_wp2_with fail
      go_at_call 62
      refine (inSlotsI (n := L / 2) HB2.out (by rw [HQ.out]; omega) (by omega) (by omega)).mono ?_
      rintro e w2 ⟨rfl, h3⟩
      have HM := hide (h3.moved HB2.out (by rw [HQ.out]; omega) (by omega) (by omega))
      have hb2 : BoxT 85 w2 k #[.int .i64 mo, .slice so L L, .int .i64 hd, .int .i64 q.length] := by have h4 := HB2.out.box; have h5 := h4.lt; unfold BoxT at *; rw [h3.bel.block k h5]; exact h4
      obtain ⟨e0, e1, e2, e3⟩ := hb2.cells4
      have df := hb2.free
      clear h3 hb2 d0 d1 d2 d3
      go_wp2
      go_end0
      exact ⟨rfl, _, ⟨L / 2, 0, _, HM.out.1⟩, (Turned.below HN.out).trans HM.out.2, .inr hsz⟩
    · have hm1 : ¬ ((m : Int) ≤ L / 4) := by omega
      go_wp2
      go_quiet (fail)
      go_wp2
      go_end0
      have HN := below_drewN (Below.refl w.heap.size w) nq
      exact ⟨rfl, b, ⟨L, hd, so, HB.out.below HN⟩, Turned.below HN, .inl rfl⟩
  · have hL1 : ¬ ((4 : Int) < L) := by omega
    have hd1 : decide ((L : Int) > 4) = false := by simp; omega
    go_wp2
    go_quiet (fail)
    go_wp2
    go_end0
    have HN := below_drewN (Below.refl w.heap.size w) nq
    exact ⟨rfl, b, ⟨L, hd, so, HB.out.below HN⟩, Turned.below HN, .inl rfl⟩

set_option maxHeartbeats 1000000 in
set_option maxRecDepth 100000 in
theorem PutI {w : World} {k b mo : Nat} {q : List Int} (H : Rg 85 3 (Value.int .i64) w k b mo q) (hmo : mo ≤ 65536) (x : Int) :
    Calls Try.prog 52 #[.pointer (some ⟨k, 0, none⟩), Value.int .i64 x] w fun e w' => e = .returned (.bool (decide (q.length < mo))) ∧ ∃ b', Rg 85 3 (Value.int .i64) w' k b' mo (if q.length < mo then q ++ [x] else q) ∧ Turned k b w w' ∧ (b' = b ∨ w.heap.size ≤ b') := by
  have hroom := RoomI H hmo
  have HB := hide H
  clear H
  by_cases hlt : q.length < mo
  · rw [if_pos hlt]
    simp only [hlt, decide_true]
    go_enter Try.func52, Try.ntmps52
    go_wp2_with fail
    go_at_call 53
    refine hroom.mono ?_
    rintro e w1 ⟨rfl, b1⟩
    clear hroom
    have hr0 : ¬ (((mo - q.length : Nat) : Int) = 0) := by omega
    obtain ⟨L, h, so, H1⟩ := HB.out.below b1
    go_wp2_with fail
    go_at_call 68
    refine (widenI H1 (by omega)).mono ?_
    rintro e w2 ⟨rfl, b2, L2, h2, so2, H2, hlt2, t2, hbb⟩
    have T2 := hide ((Turned.below b1).trans t2)
    have hsz1 := b1.size
    clear H1 t2 b1 HB
    rcases H2.pl with ⟨h0, _⟩ | ⟨p1, p2, p3, cur, p4, p5, p6⟩
    · omega
    subst p2
    obtain ⟨c0, c1, c2, c3⟩ := H2.box.cells4
    have cf := H2.box.free
    have hbig := H2.big
    obtain ⟨s, hs⟩ : ∃ s, (h2 + q.length) % L2 = s := ⟨_, rfl⟩
    have hix : s < L2 := by rw [← hs]; exact Nat.mod_lt _ (by omega)
    have HPU := fun w3 hb => hide (H2.push hlt2 x (w3 := w3) hb hs)
    have HBX : Hid (BoxT 85 (w2.setCell ⟨k, 3, none⟩ (.int .i64 ((q.length : Int) + 1))) k #[.int .i64 mo, .slice (some ⟨b2, 0, none⟩) L2 L2, .int .i64 h2, .int .i64 ((q.length : Int) + 1)]) := by simpa using hide (H2.box.set 3 (.int .i64 ((q.length : Int) + 1)))
    have HBC := hide (p4.other 3 (.int .i64 ((q.length : Int) + 1)) (k' := k) (fun e => p3 e.symm))
    have HSS := hide hs
    have HP5 := hide p5
    have hn1 : (⟨b2, s, none⟩ : Addr) ≠ ⟨k, 1, none⟩ := fun e => p3 (congrArg Addr.block e).symm
    have hn3 : (⟨b2, s, none⟩ : Addr) ≠ ⟨k, 3, none⟩ := fun e => p3 (congrArg Addr.block e).symm
    generalize hlq : q.length = m at *
    have HQ := hide hlq
    clear H2 p4 p5 p6 hs hlq
    go_wp2
    obtain ⟨c0, c1, c2, c3⟩ := HBX.out.cells4
    generalize w2.setCell ⟨k, 3, none⟩ (.int .i64 ((m : Int) + 1)) = w3 at *
    have hwm : IntKind.i64.wrap (m : Int) = m := by rw [IntKind.wrap_i64]; omega
    go_region_held3 (fun w' => w'.cell? ⟨k, 1, none⟩ = some (.slice (some ⟨b2, 0, none⟩) L2 L2) ∧ w'.cell? ⟨k, 3, none⟩ = some (.int .i64 ((m : Int) + 1))) (first | go_keep | exact ⟨c1, c3⟩ | exact ⟨z1, z3⟩ | exact ⟨(World.cell?_setCell_other _ _ _ _ hn1).trans z1, (World.cell?_setCell_other _ _ _ _ hn3).trans z3⟩)
      (first | (go_at_call 60; refine (slotI (k := k) (L := L2) (h := h2) (i := m) HBX.out.drew (by omega) (by omega) (by omega) HSS.out (by omega)).mono ?_; rintro e w4 ⟨rfl, b4⟩; have HP := HPU w4 (((Below.refl _ _).drew).trans b4); have z1 : w4.cell? ⟨k, 1, none⟩ = some (.slice (some ⟨b2, 0, none⟩) L2 L2) := (b4.cell (p := ⟨k, 1, none⟩) HBX.out.lt).trans c1; have z3 : w4.cell? ⟨k, 3, none⟩ = some (.int .i64 ((m : Int) + 1)) := (b4.cell (p := ⟨k, 3, none⟩) HBX.out.lt).trans c3; have z5 : ∃ u, w4.cell? ⟨b2, s, none⟩ = some u := (⟨cur[s]'(by rw [HP5.out]; exact hix), (b4.cell (p := ⟨b2, s, none⟩) HBC.out.lt).trans ((HBC.out.cellAt _).trans (Array.getElem?_eq_getElem _))⟩); have z4 : w4.frozen? ⟨b2, s, none⟩ = false := (by have h5 : BoxT 3 w4 b2 cur := (by have h6 := HBC.out.lt; have h7 := HBC.out; unfold BoxT at *; rw [b4.block _ h6]; exact h7); exact h5.free s); obtain ⟨u5, z5⟩ := z5; clear b4))
    go_wp2
    go_ret
    exact ⟨rfl, b2, ⟨L2, h2, _, HP.out.1⟩, T2.out.trans2 HP.out.2 (hbb.imp id (fun h => by omega)), hbb.imp id (fun h => by omega)⟩
  · have hr0 : (mo - q.length : Nat) = 0 := by omega
    rw [if_neg hlt]
    rw [hr0] at hroom
    simp only [hlt, decide_false]
    go_enter Try.func52, Try.ntmps52
    go_wp2_with fail
    go_at_call 53
    refine hroom.mono ?_
    rintro e w1 ⟨rfl, b1⟩
    clear hroom
    go_wp2
    go_ret
    exact ⟨rfl, b, HB.out.below b1, Turned.below b1, .inl rfl⟩

set_option maxHeartbeats 1000000 in
set_option maxRecDepth 100000 in
theorem FrontI {w : World} {k b mo : Nat} {q : List Int} (H : Rg 85 3 (Value.int .i64) w k b mo q) (hmo : mo ≤ 65536) (x : Int) :
    Calls Try.prog 81 #[.pointer (some ⟨k, 0, none⟩), Value.int .i64 x] w fun e w' => e = .returned (.bool (decide (q.length < 2 * mo))) ∧ ∃ b', Rg 85 3 (Value.int .i64) w' k b' mo (if q.length < 2 * mo then x :: q else q) ∧ Turned k b w w' ∧ (b' = b ∨ w.heap.size ≤ b') := by
  obtain ⟨L, h, so, H⟩ := H
  obtain ⟨d0, d1, d2, d3⟩ := H.box.cells4
  have hL := H.big
  have hle := H.le
  have HB := hide H
  clear H
  by_cases hlt : q.length < 2 * mo
  · rw [if_pos hlt]
    simp only [hlt, decide_true]
    have hge : ¬ (2 * (mo : Int) ≤ q.length) := by omega
    go_enter Try.func81, Try.ntmps81
    go_wp2
    go_quiet (fail)
    have b1 := below_drewN (Below.refl w.heap.size w) nq
    have H1 := HB.out.below b1
    generalize w.drewN nq = w1 at *
    clear d0 d1 d2 d3
    go_wp2_with fail
    go_at_call 68
    refine (widenI H1 (by omega)).mono ?_
    rintro e w2 ⟨rfl, b2, L2, h2, so2, H2, hlt2, t2, hbb⟩
    have T2 := hide ((Turned.below b1).trans t2)
    have hsz1 := b1.size
    clear H1 t2 b1 HB
    rcases H2.pl with ⟨h0, _⟩ | ⟨p1, p2, p3, cur, p4, p5, p6⟩
    · omega
    subst p2
    obtain ⟨c0, c1, c2, c3⟩ := H2.box.cells4
    have cf := H2.box.free
    have hbig := H2.big
    obtain ⟨s, hs⟩ : ∃ s, (h2 + (L2 - 1)) % L2 = s := ⟨_, rfl⟩
    have hix : s < L2 := by rw [← hs]; exact Nat.mod_lt _ (by omega)
    have HPU := fun w3 hb => hide (H2.ahead hlt2 x (w3 := w3) hb hs)
    have HBX : Hid (BoxT 85 (w2.setCell ⟨k, 3, none⟩ (.int .i64 ((q.length : Int) + 1))) k #[.int .i64 mo, .slice (some ⟨b2, 0, none⟩) L2 L2, .int .i64 h2, .int .i64 ((q.length : Int) + 1)]) := by simpa using hide (H2.box.set 3 (.int .i64 ((q.length : Int) + 1)))
    have HBC := hide (p4.other 3 (.int .i64 ((q.length : Int) + 1)) (k' := k) (fun e => p3 e.symm))
    have HSS := hide hs
    have HP5 := hide p5
    generalize hlq : q.length = m at *
    have HQ := hide hlq
    clear H2 p4 p5 p6 hs hlq
    go_wp2_with fail
    obtain ⟨c0, c1, c2, c3⟩ := HBX.out.cells4
    generalize w2.setCell ⟨k, 3, none⟩ (.int .i64 ((m : Int) + 1)) = w3 at *
    go_at_call 60
    refine (slotI (k := k) (L := L2) (h := h2) (i := L2 - 1) HBX.out (by omega) (by omega) (by omega) HSS.out (by omega)).mono ?_
    rintro e w4 ⟨rfl, b4⟩
    have HP := HPU w4 b4
    have hbk : BoxT 85 w4 k #[.int .i64 mo, .slice (some ⟨b2, 0, none⟩) L2 L2, .int .i64 h2, .int .i64 ((m : Int) + 1)] := by
      have h6 := HBX.out.lt
      have h7 := HBX.out
      unfold BoxT at *
      rw [b4.block _ h6]; exact h7
    have hbc : BoxT 3 w4 b2 cur := by
      have h6 := HBC.out.lt
      have h7 := HBC.out
      unfold BoxT at *
      rw [b4.block _ h6]; exact h7
    obtain ⟨f0, f1, f2, f3⟩ := hbk.cells4
    have ff := hbk.free
    have HK5 : Hid (BoxT 85 (w4.setCell ⟨k, 2, none⟩ (.int .i64 (s : Int))) k #[.int .i64 mo, .slice (some ⟨b2, 0, none⟩) L2 L2, .int .i64 (s : Int), .int .i64 ((m : Int) + 1)]) := by simpa using hide (hbk.set 2 (.int .i64 (s : Int)))
    have HC5 := hide (hbc.other 2 (.int .i64 (s : Int)) (k' := k) (fun e => p3 e.symm))
    clear b4 hbk hbc HPU HBX HBC c0 c1 c2 c3
    go_wp2
    generalize w4.setCell ⟨k, 2, none⟩ (.int .i64 (s : Int)) = w5 at *
    clear f0 f1 f2 f3 ff cf
    obtain ⟨g0, g1, g2, g3⟩ := HK5.out.cells4
    have gf := HC5.out.free s
    obtain ⟨u, gu⟩ : ∃ u, w5.cell? ⟨b2, s, none⟩ = some u := ⟨cur[s]'(by rw [HP5.out]; exact hix), (HC5.out.cellAt _).trans (Array.getElem?_eq_getElem _)⟩
    clear HK5 HC5
    go_region
    all_goals
      go_wp2
      go_ret
      exact ⟨rfl, b2, ⟨L2, s, _, HP.out.1⟩, T2.out.trans2 HP.out.2 (hbb.imp id (fun h => by omega)), hbb.imp id (fun h => by omega)⟩
  · rw [if_neg hlt]
    simp only [hlt, decide_false]
    have hge : 2 * (mo : Int) ≤ q.length := by omega
    go_enter Try.func81, Try.ntmps81
    go_wp2
    go_quiet (fail)
    go_wp2
    go_ret
    have b1 := below_drewN (Below.refl w.heap.size w) nq
    exact ⟨rfl, b, ⟨L, h, so, HB.out.below b1⟩, Turned.below b1, .inl rfl⟩

set_option maxHeartbeats 1000000 in
set_option maxRecDepth 100000 in
theorem TakeNI {w : World} {k b mo : Nat} (H : Rg 85 3 (Value.int .i64) w k b mo []) :
    Calls Try.prog 42 #[.pointer (some ⟨k, 0, none⟩)] w fun e w' => e = .returned (.tuple #[.int .i64 0, .bool false]) ∧ w' = w := by
  obtain ⟨L, h, so, H⟩ := H
  obtain ⟨d0, d1, d2, d3⟩ := H.box.cells4
  simp only [List.length_nil] at d3
  clear H
  go_enter Try.func42, Try.ntmps42
  go_wp2
  go_ret2
  exact ⟨rfl, rfl⟩
set_option maxHeartbeats 1000000 in
set_option maxRecDepth 100000 in
theorem TakeI {w : World} {k b mo : Nat} {x : Int} {q : List Int} (H : Rg 85 3 (Value.int .i64) w k b mo (x :: q)) :
    Calls Try.prog 42 #[.pointer (some ⟨k, 0, none⟩)] w fun e w' => e = .returned (.tuple #[Value.int .i64 x, .bool true]) ∧ ∃ b', Rg 85 3 (Value.int .i64) w' k b' mo q ∧ Turned k b w w' ∧ (b' = b ∨ w.heap.size ≤ b') := by
  obtain ⟨L, h, so, H⟩ := H
  have hL := H.big
  have hle := H.le
  simp only [List.length_cons] at hle
  rcases H.pl with ⟨h0, _⟩ | ⟨p1, p2, p3, cur, p4, p5, p6⟩
  · omega
  subst p2
  have hx := p6 0 x rfl
  rw [Nat.add_zero, Nat.mod_eq_of_lt p1] at hx
  obtain ⟨c0, c1, c2, c3⟩ := H.box.cells4
  simp only [List.length_cons] at c3
  have c4 := (p4.cellAt h).trans hx
  have HB := hide H
  have HC := hide p4
  obtain ⟨s, hs⟩ : ∃ s, (h + 1) % L = s := ⟨_, rfl⟩
  have HSS := hide hs
  have hix : s < L := by rw [← hs]; exact Nat.mod_lt _ (by omega)
  clear H p4 p5 p6 hx hs
  generalize hlq : q.length = m at *
  have HQ := hide hlq
  clear hlq
  go_enter Try.func42, Try.ntmps42
  go_wp2
  go_quiet (fail)
  have b1 := below_drewN (Below.refl w.heap.size w) nq
  have HB1 := hide (HB.out.below b1)
  have hc1 : BoxT 3 (w.drewN nq) b cur := by
    have h6 := HC.out.lt
    have h7 := HC.out
    unfold BoxT at *
    rw [b1.block _ h6]; exact h7
  have B1 := hide b1
  have hsz := b1.size
  generalize w.drewN nq = w1 at *
  obtain ⟨e0, e1, e2, e3⟩ := HB1.out.box.cells4
  simp only [List.length_cons, HQ.out] at e3
  obtain ⟨u, e4⟩ : ∃ u, w1.cell? ⟨b, h, none⟩ = some u := ⟨Value.int .i64 x, ((b1.cell (p := ⟨b, h, none⟩) HC.out.lt).trans c4)⟩
  have ef := hc1.free h
  clear c0 c1 c2 c3 c4 b1 hc1
  go_wp2
  have HTK := fun w3 hb => hide (RgX.took (z := 0) HB1.out (w3 := w3) hb HSS.out)
  have HBX := hide (HB1.out.box.other (k' := b) h (.int .i64 0) p3)
  rw [List.length_cons, HQ.out] at HBX
  go_region
  all_goals
    generalize w1.setCell ⟨b, h, none⟩ (.int .i64 0) = w2 at *
    clear e0 e1 e2 e3 e4 ef
    go_wp2_with fail
    go_at_call 60
    refine (slotI (k := k) (L := L) (h := h) (i := 1) HBX.out.drew (by omega) (by omega) (by omega) HSS.out (by omega)).mono ?_
    rintro e w4 ⟨rfl, b4⟩
    have HT := HTK w4 (((Below.refl _ _).drew).trans b4)
    rw [HQ.out] at HT
    have hbk : BoxT 85 w4 k #[.int .i64 mo, .slice (some ⟨b, 0, none⟩) L L, .int .i64 h, .int .i64 ((m + 1 : Nat) : Int)] := by
      have h6 := HBX.out.lt
      have h7 := HBX.out
      unfold BoxT at *
      rw [b4.block _ h6]; exact h7
    obtain ⟨f0, f1, f2, f3⟩ := hbk.cells4
    have ff := hbk.free
    clear b4 hbk HTK HBX
    go_wp2_with fail
    go_at_call 61
    refine (narrowI HT.out.1).mono ?_
    rintro e w5 ⟨rfl, b5, R5, t5, hb5⟩
    have hs4 := HT.out.2.size
    have HF := hide (And.intro R5 (((Turned.below B1.out).trans HT.out.2).trans t5))
    clear HT R5 t5
    go_wp2
    go_ret2
    exact ⟨rfl, b5, HF.out.1, HF.out.2, hb5.imp id (fun h => by omega)⟩

set_option maxRecDepth 100000 in
theorem NewI (w : World) (n : Int) :
    Calls Try.prog 37 #[.int .i64 n] w fun e w' => e = .returned (.pointer (some ⟨w.heap.size, 0, none⟩)) ∧ Rg 85 3 (Value.int .i64) w' w.heap.size w.heap.size (min (max n 1) 65536).toNat [] ∧ Below w.heap.size w w' := by
  go_enter Try.func37, Try.ntmps37
  go_wp2_with (first | (go_at_call 55; refine (within_any w n).mono ?_; rintro e w1 ⟨rfl, rfl⟩) | fail)
  go_ret
  have hn : (((min (max n 1) 65536).toNat : Nat) : Int) = min (max n 1) 65536 := Int.toNat_of_nonneg (by omega)
  refine ⟨rfl, ⟨0, 0, none, ⟨?_, Nat.le_refl _, by omega, .inl ⟨rfl, rfl, rfl, rfl⟩⟩⟩, (Below.refl _ _).alloc (Nat.le_refl _) _⟩
  rw [hn]
  exact BoxT.new _ _ _
end Go.Proofs.Ytnomoekbfclckaa
