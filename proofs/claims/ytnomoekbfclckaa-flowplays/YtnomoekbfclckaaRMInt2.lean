/-
  Walks over package ring: the rings of numbered whole numbers: Put, Front, Take, Peek.
-/
import Derived.Test.YtnomoekbfclckaaRMInt
namespace Go.Proofs.Ytnomoekbfclckaa
open Go.RowKit

theorem R2.blkMI {w : World} {k b mo : Nat} {q : List (Int × Int)} (H : R2 104 58 (Value.int .i64) w k b mo q) : b < w.heap.size := by
  obtain ⟨L, h, so, H⟩ := H
  rcases H.pl with ⟨_, _, _, rfl⟩ | ⟨_, _, _, cur, p4, _⟩
  · exact H.box.lt
  · exact p4.lt
set_option maxHeartbeats 1000000 in
set_option maxRecDepth 100000 in
theorem PutMI {w : World} {k b mo : Nat} {q : List (Int × Int)} (H : R2 104 58 (Value.int .i64) w k b mo q) (hmo : mo ≤ 65536) (x : (Int × Int)) (hlt : q.length < mo) :
    Calls Try.prog 74 #[.pointer (some ⟨k, 0, none⟩), .agg #[.int .u64 x.1, Value.int .i64 x.2]] w fun e w' => e = .returned (.bool true) ∧ ∃ b', R2 104 58 (Value.int .i64) w' k b' mo (q ++ [x]) ∧ Turned k b w w' ∧ (b' = b ∨ w.heap.size ≤ b') := by
  obtain ⟨x1, x2⟩ := x
  have hkw := H.lt
  have hbw := H.blkMI
  have ba : Below w.heap.size w (w.alloc (.cells #[.int .u64 x1, Value.int .i64 x2] 58)) := (Below.refl _ _).alloc (Nat.le_refl _) _
  have g1 : BoxT 58 (w.alloc (.cells #[.int .u64 x1, Value.int .i64 x2] 58)) w.heap.size #[.int .u64 x1, Value.int .i64 x2] := BoxT.new _ _ _
  have hroom := RoomMI (H.below ba) hmo
  have HB := hide (H.below ba)
  have G1 := hide g1
  have BA := hide ba
  clear H ba g1
  go_enter Try.func74, Try.ntmps74
  go_wp2_with fail
  generalize w.alloc (.cells #[.int .u64 x1, Value.int .i64 x2] 58) = w0 at *
  go_at_call 72
  refine hroom.mono ?_
  rintro e w1 ⟨rfl, b1⟩
  clear hroom
  have hr0 : ¬ (((mo - q.length : Nat) : Int) = 0) := by omega
  obtain ⟨L, h, so, H1⟩ := HB.out.below b1
  have hg0 := G1.out.lt
  have hs01 := b1.size
  go_wp2_with fail
  go_at_call 82
  refine (widenMI H1 (by omega)).mono ?_
  rintro e w2 ⟨rfl, b2, L2, h2, so2, H2, hlt2, t2, hbb⟩
  have T2 := hide (((Turned.below BA.out).trans (Turned.below b1)).trans t2)
  have hsz1 := b1.size
  have hsz2 := t2.size
  have hsz0 := BA.out.size
  have gq : BoxT 58 w2 w.heap.size #[.int .u64 x1, Value.int .i64 x2] := by
    have h1 : BoxT 58 w1 w.heap.size #[.int .u64 x1, Value.int .i64 x2] := by
      have h5 := G1.out
      unfold BoxT at *
      rw [b1.block _ hg0]; exact h5
    exact h1.turned t2 (by omega) (by omega)
  clear H1 t2 b1 HB BA G1
  rcases H2.pl with ⟨h0, _⟩ | ⟨p1, p2, p3, cur, p4, p5⟩
  · omega
  subst p2
  obtain ⟨c0, c1, c2, c3⟩ := H2.box.cells4
  have cf := H2.box.free
  have hbig := H2.big
  obtain ⟨s, hs⟩ : ∃ s, (h2 + q.length) % L2 = s := ⟨_, rfl⟩
  have hix : s < L2 := by rw [← hs]; exact Nat.mod_lt _ (by omega)
  have HPU := fun w3 hb => hide (H2.push hlt2 (x1, x2) (w3 := w3) hb hs)
  dsimp only at HPU
  have HBX : Hid (BoxT 104 (w2.setCell ⟨k, 3, none⟩ (.int .i64 ((q.length : Int) + 1))) k #[.int .i64 mo, .slice (some ⟨b2, 0, none⟩) L2 L2, .int .i64 h2, .int .i64 ((q.length : Int) + 1)]) := by simpa using hide (H2.box.set 3 (.int .i64 ((q.length : Int) + 1)))
  have HBC := hide (p4.other 3 (.int .i64 ((q.length : Int) + 1)) (k' := k) (fun e => p3 e.symm))
  have HG := hide (gq.other 3 (.int .i64 ((q.length : Int) + 1)) (k' := k) (by omega))
  have HSS := hide hs
  have HP5 := hide p5.size
  have hgb : w.heap.size ≠ b2 := by omega
  have hn1 : ∀ j, (⟨b2, j, none⟩ : Addr) ≠ ⟨k, 1, none⟩ := fun j e => p3 (congrArg Addr.block e).symm
  have hn3 : ∀ j, (⟨b2, j, none⟩ : Addr) ≠ ⟨k, 3, none⟩ := fun j e => p3 (congrArg Addr.block e).symm
  have hn4 : ∀ j t, (⟨b2, j, none⟩ : Addr) ≠ ⟨w.heap.size, t, none⟩ := fun j t e => hgb (congrArg Addr.block e).symm
  generalize hlq : q.length = m at *
  have HQ := hide hlq
  clear H2 p4 p5 hs hlq gq
  go_wp2
  obtain ⟨c0, c1, c2, c3⟩ := HBX.out.cells4
  obtain ⟨r0, r1⟩ := HG.out.cells2
  generalize w2.setCell ⟨k, 3, none⟩ (.int .i64 ((m : Int) + 1)) = w3 at *
  have hwm : IntKind.i64.wrap (m : Int) = m := by rw [IntKind.wrap_i64]; omega
  go_region_held3 (fun w' => w'.cell? ⟨k, 1, none⟩ = some (.slice (some ⟨b2, 0, none⟩) L2 L2) ∧ w'.cell? ⟨k, 3, none⟩ = some (.int .i64 ((m : Int) + 1)) ∧ w'.cell? ⟨w.heap.size, 0, none⟩ = some (.int .u64 x1) ∧ w'.cell? ⟨w.heap.size, 1, none⟩ = some (Value.int .i64 x2)) (first | go_keep | exact ⟨c1, c3, r0, r1⟩ | exact ⟨z1, z3, z6, z7⟩ | exact ⟨(World.cell?_setCell_other _ _ _ _ (hn1 _)).trans ((World.cell?_setCell_other _ _ _ _ (hn1 _)).trans z1), (World.cell?_setCell_other _ _ _ _ (hn3 _)).trans ((World.cell?_setCell_other _ _ _ _ (hn3 _)).trans z3), (World.cell?_setCell_other _ _ _ _ (hn4 _ _)).trans ((World.cell?_setCell_other _ _ _ _ (hn4 _ _)).trans z6), (World.cell?_setCell_other _ _ _ _ (hn4 _ _)).trans ((World.cell?_setCell_other _ _ _ _ (hn4 _ _)).trans z7)⟩)
    (first | (go_at_call 83; refine (slotMI (k := k) (L := L2) (h := h2) (i := m) HBX.out.drew (by omega) (by omega) (by omega) HSS.out (by omega)).mono ?_; rintro e w4 ⟨rfl, b4⟩; have HP := HPU w4 (((Below.refl _ _).drew).trans b4); have z1 : w4.cell? ⟨k, 1, none⟩ = some (.slice (some ⟨b2, 0, none⟩) L2 L2) := (b4.cell (p := ⟨k, 1, none⟩) HBX.out.lt).trans c1; have z3 : w4.cell? ⟨k, 3, none⟩ = some (.int .i64 ((m : Int) + 1)) := (b4.cell (p := ⟨k, 3, none⟩) HBX.out.lt).trans c3; have z6 : w4.cell? ⟨w.heap.size, 0, none⟩ = some (.int .u64 x1) := (b4.cell (p := ⟨w.heap.size, 0, none⟩) HG.out.lt).trans r0; have z7 : w4.cell? ⟨w.heap.size, 1, none⟩ = some (Value.int .i64 x2) := (b4.cell (p := ⟨w.heap.size, 1, none⟩) HG.out.lt).trans r1; have z5 : ∀ t, t < L2 * 2 → ∃ u, w4.cell? ⟨b2, t, none⟩ = some u := (fun t ht => ⟨cur[t]'(by rw [HP5.out]; exact ht), (b4.cell (p := ⟨b2, t, none⟩) HBC.out.lt).trans ((HBC.out.cellAt _).trans (Array.getElem?_eq_getElem _))⟩); have z4 : ∀ t, w4.frozen? ⟨b2, t, none⟩ = false := (by have h5 : BoxT 58 w4 b2 cur := (by have h6 := HBC.out.lt; have h7 := HBC.out; unfold BoxT at *; rw [b4.block _ h6]; exact h7); exact h5.free); obtain ⟨u5, z8⟩ := z5 (s * 2) (by omega); obtain ⟨u6, z9⟩ := z5 (s * 2 + 1) (by omega); clear b4 z5))
  go_wp2
  go_ret
  exact ⟨rfl, b2, ⟨L2, h2, _, HP.out.1⟩, T2.out.trans2 HP.out.2 (hbb.imp id (fun h => by omega)), hbb.imp id (fun h => by omega)⟩

set_option maxHeartbeats 1000000 in
set_option maxRecDepth 100000 in
theorem FrontMI {w : World} {k b mo : Nat} {q : List (Int × Int)} (H : R2 104 58 (Value.int .i64) w k b mo q) (hmo : mo ≤ 65536) (x : (Int × Int)) (hlt : q.length < 2 * mo) :
    Calls Try.prog 86 #[.pointer (some ⟨k, 0, none⟩), .agg #[.int .u64 x.1, Value.int .i64 x.2]] w fun e w' => e = .returned (.bool true) ∧ ∃ b', R2 104 58 (Value.int .i64) w' k b' mo (x :: q) ∧ Turned k b w w' ∧ (b' = b ∨ w.heap.size ≤ b') := by
  obtain ⟨x1, x2⟩ := x
  have hkw := H.lt
  have hbw := H.blkMI
  have ba : Below w.heap.size w (w.alloc (.cells #[.int .u64 x1, Value.int .i64 x2] 58)) := (Below.refl _ _).alloc (Nat.le_refl _) _
  have g1 : BoxT 58 (w.alloc (.cells #[.int .u64 x1, Value.int .i64 x2] 58)) w.heap.size #[.int .u64 x1, Value.int .i64 x2] := BoxT.new _ _ _
  obtain ⟨L, h, so, H⟩ := H.below ba
  obtain ⟨d0, d1, d2, d3⟩ := H.box.cells4
  have hL := H.big
  have hle := H.le
  have HB := hide H
  have G1 := hide g1
  have BA := hide ba
  clear H ba g1
  have hge : ¬ (2 * (mo : Int) ≤ q.length) := by omega
  go_enter Try.func86, Try.ntmps86
  go_wp2
  generalize w.alloc (.cells #[.int .u64 x1, Value.int .i64 x2] 58) = w0 at *
  go_quiet (fail)
  have b1 := below_drewN (Below.refl w0.heap.size w0) nq
  have H1 := HB.out.below b1
  generalize w0.drewN nq = w1 at *
  clear d0 d1 d2 d3
  have hg0 := G1.out.lt
  go_wp2_with fail
  go_at_call 82
  refine (widenMI H1 (by omega)).mono ?_
  rintro e w2 ⟨rfl, b2, L2, h2, so2, H2, hlt2, t2, hbb⟩
  have T2 := hide (((Turned.below BA.out).trans (Turned.below b1)).trans t2)
  have hsz1 := b1.size
  have hsz2 := t2.size
  have hsz0 := BA.out.size
  have gq : BoxT 58 w2 w.heap.size #[.int .u64 x1, Value.int .i64 x2] := by
    have h1 : BoxT 58 w1 w.heap.size #[.int .u64 x1, Value.int .i64 x2] := by
      have h5 := G1.out
      unfold BoxT at *
      rw [b1.block _ hg0]; exact h5
    exact h1.turned t2 (by omega) (by omega)
  clear H1 t2 b1 HB BA G1
  rcases H2.pl with ⟨h0, _⟩ | ⟨p1, p2, p3, cur, p4, p5⟩
  · omega
  subst p2
  obtain ⟨c0, c1, c2, c3⟩ := H2.box.cells4
  have cf := H2.box.free
  have hbig := H2.big
  obtain ⟨s, hs⟩ : ∃ s, (h2 + (L2 - 1)) % L2 = s := ⟨_, rfl⟩
  have hix : s < L2 := by rw [← hs]; exact Nat.mod_lt _ (by omega)
  have HPU := fun w3 hb => hide (H2.ahead hlt2 (x1, x2) (w3 := w3) hb hs)
  dsimp only at HPU
  have HBX : Hid (BoxT 104 (w2.setCell ⟨k, 3, none⟩ (.int .i64 ((q.length : Int) + 1))) k #[.int .i64 mo, .slice (some ⟨b2, 0, none⟩) L2 L2, .int .i64 h2, .int .i64 ((q.length : Int) + 1)]) := by simpa using hide (H2.box.set 3 (.int .i64 ((q.length : Int) + 1)))
  have HBC := hide (p4.other 3 (.int .i64 ((q.length : Int) + 1)) (k' := k) (fun e => p3 e.symm))
  have HG := hide (gq.other 3 (.int .i64 ((q.length : Int) + 1)) (k' := k) (by omega))
  have HSS := hide hs
  have HP5 := hide p5.size
  have hgb : w.heap.size ≠ b2 := by omega
  generalize hlq : q.length = m at *
  have HQ := hide hlq
  clear H2 p4 p5 hs hlq gq
  go_wp2_with fail
  obtain ⟨c0, c1, c2, c3⟩ := HBX.out.cells4
  generalize w2.setCell ⟨k, 3, none⟩ (.int .i64 ((m : Int) + 1)) = w3 at *
  go_at_call 83
  refine (slotMI (k := k) (L := L2) (h := h2) (i := L2 - 1) HBX.out (by omega) (by omega) (by omega) HSS.out (by omega)).mono ?_
  rintro e w4 ⟨rfl, b4⟩
  have HP := HPU w4 b4
  have hbk : BoxT 104 w4 k #[.int .i64 mo, .slice (some ⟨b2, 0, none⟩) L2 L2, .int .i64 h2, .int .i64 ((m : Int) + 1)] := by
    have h6 := HBX.out.lt
    have h7 := HBX.out
    unfold BoxT at *
    rw [b4.block _ h6]; exact h7
  have hbc : BoxT 58 w4 b2 cur := by
    have h6 := HBC.out.lt
    have h7 := HBC.out
    unfold BoxT at *
    rw [b4.block _ h6]; exact h7
  have hgg : BoxT 58 w4 w.heap.size #[.int .u64 x1, Value.int .i64 x2] := by
    have h6 := HG.out.lt
    have h7 := HG.out
    unfold BoxT at *
    rw [b4.block _ h6]; exact h7
  obtain ⟨f0, f1, f2, f3⟩ := hbk.cells4
  have ff := hbk.free
  have HK5 : Hid (BoxT 104 (w4.setCell ⟨k, 2, none⟩ (.int .i64 (s : Int))) k #[.int .i64 mo, .slice (some ⟨b2, 0, none⟩) L2 L2, .int .i64 (s : Int), .int .i64 ((m : Int) + 1)]) := by simpa using hide (hbk.set 2 (.int .i64 (s : Int)))
  have HC5 := hide (hbc.other 2 (.int .i64 (s : Int)) (k' := k) (fun e => p3 e.symm))
  have HG5 := hide (hgg.other 2 (.int .i64 (s : Int)) (k' := k) (by omega))
  clear b4 hbk hbc hgg HPU HBX HBC HG c0 c1 c2 c3
  go_wp2
  generalize w4.setCell ⟨k, 2, none⟩ (.int .i64 (s : Int)) = w5 at *
  clear f0 f1 f2 f3 ff cf
  obtain ⟨g0, g1, g2, g3⟩ := HK5.out.cells4
  obtain ⟨r0, r1⟩ := HG5.out.cells2
  have gf := HC5.out.free
  have gu : ∀ t, t < L2 * 2 → ∃ u, w5.cell? ⟨b2, t, none⟩ = some u := fun t ht => ⟨cur[t]'(by rw [HP5.out]; exact ht), (HC5.out.cellAt _).trans (Array.getElem?_eq_getElem _)⟩
  obtain ⟨u5, z8⟩ := gu (s * 2) (by omega)
  obtain ⟨u6, z9⟩ := gu (s * 2 + 1) (by omega)
  clear HK5 HC5 HG5 gu
  go_region
  all_goals
    go_wp2
    go_ret
    exact ⟨rfl, b2, ⟨L2, s, _, HP.out.1⟩, T2.out.trans2 HP.out.2 (hbb.imp id (fun h => by omega)), hbb.imp id (fun h => by omega)⟩

set_option maxHeartbeats 2000000 in
set_option maxRecDepth 100000 in
theorem TakeMI {w : World} {k b mo : Nat} {x : (Int × Int)} {q : List (Int × Int)} (H : R2 104 58 (Value.int .i64) w k b mo (x :: q)) :
    Calls Try.prog 84 #[.pointer (some ⟨k, 0, none⟩)] w fun e w' => e = .returned (.tuple #[.agg #[.int .u64 x.1, Value.int .i64 x.2], .bool true]) ∧ ∃ b', R2 104 58 (Value.int .i64) w' k b' mo q ∧ Turned k b w w' ∧ (b' = b ∨ w.heap.size ≤ b') := by
  have ba : Below w.heap.size w ((w.alloc (.cells #[.int .u64 0, .int .i64 0] 58)).alloc (.cells #[.int .u64 0, .int .i64 0] 58)) := ((Below.refl _ _).alloc (Nat.le_refl _) _).alloc (by simp) _
  have g1 : BoxT 58 ((w.alloc (.cells #[.int .u64 0, .int .i64 0] 58)).alloc (.cells #[.int .u64 0, .int .i64 0] 58)) w.heap.size #[.int .u64 0, .int .i64 0] := (BoxT.new _ _ _).alloc _
  have g2 : BoxT 58 ((w.alloc (.cells #[.int .u64 0, .int .i64 0] 58)).alloc (.cells #[.int .u64 0, .int .i64 0] 58)) (w.heap.size + 1) #[.int .u64 0, .int .i64 0] := BoxT.new_at (by simp)
  have hkw := H.lt
  obtain ⟨L, h, so, H⟩ := H
  have hbw : b < w.heap.size ∧ 0 < L ∧ h < L ∧ so = some ⟨b, 0, none⟩ ∧ k ≠ b := by
    have hle := H.le
    simp only [List.length_cons] at hle
    rcases H.pl with ⟨h0, _⟩ | ⟨p1, p2, p3, cur, p4, p5⟩
    · omega
    · exact ⟨p4.lt, by omega, p1, p2, p3⟩
  obtain ⟨hbw, hL0, hhL, rfl, hkb⟩ := hbw
  replace H := H.below ba
  have hL := H.big
  have hle := H.le
  simp only [List.length_cons] at hle
  obtain ⟨cur, p4, p5⟩ : ∃ cur, BoxT 58 ((w.alloc (.cells #[.int .u64 0, .int .i64 0] 58)).alloc (.cells #[.int .u64 0, .int .i64 0] 58)) b cur ∧ Prs (Value.int .i64) cur L (fun i => (h + i) % L) (x :: q) := by
    rcases H.pl with ⟨h0, _⟩ | ⟨p1, p2, p3, cur, p4, p5⟩
    · omega
    · exact ⟨cur, p4, p5⟩
  obtain ⟨hx1, hx2⟩ := p5.each 0 x rfl
  have e00 : (h + 0) % L = h := by rw [Nat.add_zero, Nat.mod_eq_of_lt hhL]
  rw [e00] at hx1 hx2
  obtain ⟨c0, c1, c2, c3⟩ := H.box.cells4
  simp only [List.length_cons] at c3
  have c4 := (p4.cellAt (h * 2)).trans hx1
  have c5 := (p4.cellAt (h * 2 + 1)).trans hx2
  have HB := hide H
  have HC := hide p4
  obtain ⟨s, hs⟩ : ∃ s, (h + 1) % L = s := ⟨_, rfl⟩
  have HSS := hide hs
  have hix : s < L := by rw [← hs]; exact Nat.mod_lt _ (by omega)
  have BA := hide ba
  have G1 := hide g1
  have G2 := hide g2
  have hsz : ((w.alloc (.cells #[.int .u64 0, .int .i64 0] 58)).alloc (.cells #[.int .u64 0, .int .i64 0] 58)).heap.size = w.heap.size + 2 := by simp
  clear H p4 p5 hx1 hx2 hs ba g1 g2
  generalize hlq : q.length = m at *
  have HQ := hide hlq
  clear hlq
  go_enter Try.func84, Try.ntmps84
  go_wp2
  generalize (w.alloc (.cells #[.int .u64 0, .int .i64 0] 58)).alloc (.cells #[.int .u64 0, .int .i64 0] 58) = w1 at *
  have HSZ := hide hsz
  clear hsz
  obtain ⟨x1, x2⟩ := x
  obtain ⟨f0, f1, f2, f3⟩ := (HB.out.box.alloc (.cells #[.int .u64 0, .int .i64 0] 58)).cells4
  have hcb := (HC.out.alloc (.cells #[.int .u64 0, .int .i64 0] 58))
  have f4 := (hcb.cellAt (h * 2)).trans ((HC.out.cellAt _).symm.trans c4)
  have f5 := (hcb.cellAt (h * 2 + 1)).trans ((HC.out.cellAt _).symm.trans c5)
  clear hcb
  go_region
  have b2 : Below w1.heap.size w1 (w1.alloc (.cells #[.int .u64 x1, Value.int .i64 x2] 58)).drew := ((Below.refl _ _).alloc (Nat.le_refl _) _).drew
  have G3 : Hid (BoxT 58 (w1.alloc (.cells #[.int .u64 x1, Value.int .i64 x2] 58)).drew w1.heap.size #[.int .u64 x1, Value.int .i64 x2]) := BoxT.new _ _ _
  have HB2 := hide (HB.out.below b2)
  have bt : ∀ {g : Nat} {cs : Array Value}, BoxT 58 w1 g cs → BoxT 58 (w1.alloc (.cells #[.int .u64 x1, Value.int .i64 x2] 58)).drew g cs := fun hg => by
    have hl := hg.lt
    unfold BoxT at *
    rw [b2.block _ hl]; exact hg
  have G1' := hide (bt G1.out)
  have G2' := hide (bt G2.out)
  have HC' := hide (bt HC.out)
  have BA2 := hide (BA.out.trans (b2.mono (by have := HSZ.out; omega)))
  have hg3 : w.heap.size + 1 < w1.heap.size := by have := HSZ.out; omega
  clear b2 G1 G2 HC BA HB bt f0 f1 f2 f3 f4 f5 c0 c1 c2 c3
  generalize (w1.alloc (.cells #[.int .u64 x1, Value.int .i64 x2] 58)).drew = w2 at *
  generalize w1.heap.size = g3 at *
  obtain ⟨e0, e1, e2, e3⟩ := HB2.out.box.cells4
  simp only [List.length_cons, HQ.out] at e3
  obtain ⟨z0, z1⟩ := G2'.out.cells2
  have e4 : ∃ u, w2.cell? ⟨b, h * 2, none⟩ = some u := by
    rcases HB2.out.pl with ⟨h0, _⟩ | ⟨_, _, _, cu, hcu, hpr⟩
    · omega
    · obtain ⟨u, hu⟩ := hpr.all (h * 2) (by omega)
      exact ⟨_, (hcu.cellAt _).trans hu⟩
  have e5 : ∃ u, w2.cell? ⟨b, h * 2 + 1, none⟩ = some u := by
    rcases HB2.out.pl with ⟨h0, _⟩ | ⟨_, _, _, cu, hcu, hpr⟩
    · omega
    · obtain ⟨u, hu⟩ := hpr.all (h * 2 + 1) (by omega)
      exact ⟨_, (hcu.cellAt _).trans hu⟩
  obtain ⟨u4, e4⟩ := e4
  obtain ⟨u5, e5⟩ := e5
  have ef := HC'.out.free
  have HTK := fun w3 hb => hide (R2X.took (.int .i64 0) HB2.out (w3 := w3) hb HSS.out)
  have HBX := hide ((HB2.out.box.other (k' := b) (h * 2) (.int .u64 0) hkb).other (k' := b) (h * 2 + 1) (.int .i64 0) hkb)
  rw [List.length_cons, HQ.out] at HBX
  clear c4 c5 HC'
  go_wp2
  go_region
  generalize (w2.setCell ⟨b, h * 2, none⟩ (.int .u64 0)).setCell ⟨b, h * 2 + 1, none⟩ (.int .i64 0) = w3 at *
  clear e0 e1 e2 e3 e4 e5 ef z0 z1
  go_wp2_with fail
  go_at_call 83
  refine (slotMI (k := k) (L := L) (h := h) (i := 1) HBX.out.drew (by omega) (by omega) (by omega) HSS.out (by omega)).mono ?_
  rintro e w4 ⟨rfl, b4⟩
  have HT := HTK w4 (((Below.refl _ _).drew).trans b4)
  rw [HQ.out] at HT
  have hbk : BoxT 104 w4 k #[.int .i64 mo, .slice (some ⟨b, 0, none⟩) L L, .int .i64 h, .int .i64 ((m + 1 : Nat) : Int)] := by
    have h6 := HBX.out.lt
    have h7 := HBX.out
    unfold BoxT at *
    rw [b4.block _ h6]; exact h7
  obtain ⟨f0, f1, f2, f3⟩ := hbk.cells4
  have ff := hbk.free
  clear b4 hbk HTK HBX
  go_wp2_with fail
  go_at_call 89
  refine (narrowMI HT.out.1).mono ?_
  rintro e w5 ⟨rfl, b5, R5, t5, hb5⟩
  have hs4 := HT.out.2.size
  have hl1 := G1'.out.lt
  have hl3 := G3.out.lt
  have T5 := hide (HT.out.2.trans t5)
  have q1 := G1'.out.turned T5.out (by omega) (by omega)
  have q3 := G3.out.turned T5.out (by omega) (by omega)
  obtain ⟨r0, r1⟩ := q3.cells2
  obtain ⟨v0, v1⟩ := q1.cells2
  have vf := q1.free
  have HF := hide (And.intro R5 (((Turned.below BA2.out).trans T5.out).then (((Below.refl w.heap.size w5).setCell (p := ⟨w.heap.size, 0, none⟩) (Nat.le_refl _) (.int .u64 x1)).setCell (p := ⟨w.heap.size, 1, none⟩) (Nat.le_refl _) (Value.int .i64 x2))))
  have HRB : Hid (R2 104 58 (Value.int .i64) ((w5.setCell ⟨w.heap.size, 0, none⟩ (.int .u64 x1)).setCell ⟨w.heap.size, 1, none⟩ (Value.int .i64 x2)) k b5 mo q) := by
    have hn : ∀ i, i ≠ w.heap.size → ((w5.setCell ⟨w.heap.size, 0, none⟩ (.int .u64 x1)).setCell ⟨w.heap.size, 1, none⟩ (Value.int .i64 x2)).heap[i]? = w5.heap[i]? := fun i hi => (Below.heap_setCell _ ⟨w.heap.size, 1, none⟩ _ i hi).trans (Below.heap_setCell _ ⟨w.heap.size, 0, none⟩ _ i hi)
    exact R5.back (hn k (by omega)) (fun _ => hn b5 (by rcases hb5 with rfl | hb5 <;> omega))
  have HQ1 := hide (q1.pair 0 (.int .u64 x1) (Value.int .i64 x2))
  have hb6 : b5 = b ∨ w.heap.size ≤ b5 := hb5.imp id (fun h => by omega)
  clear HT R5 t5 T5 q1 q3 hb5 f0 f1 f2 f3 ff
  go_wp2
  obtain ⟨y0, y1⟩ := BoxT.cells2 (c0 := .int .u64 x1) (c1 := Value.int .i64 x2) (by simpa using HQ1.out)
  exact bodyPost_ret (v := .tuple #[.agg #[.int .u64 x1, Value.int .i64 x2], .bool true]) (by simp [results, Try.results84, go_sem, y0, y1]) rfl ⟨rfl, b5, HRB.out, HF.out.2, hb6⟩

end Go.Proofs.Ytnomoekbfclckaa
