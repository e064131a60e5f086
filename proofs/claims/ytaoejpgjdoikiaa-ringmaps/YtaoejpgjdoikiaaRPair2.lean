/-
  Walks over package ring: rings of pairs: narrow, Len, Room, Take.
-/
import Derived.Test.YtaoejpgjdoikiaaRPair
namespace Go.Proofs.Ytaoejpgjdoikiaa
open Go.RowKit

theorem InP.moved {w w2 : World} {k b mo L h n : Nat} {so : Option Addr} {q : List (Int × Int)} (H : R2X w k b mo q L h so) (HI : InP w w2 w.heap.size q n q.length) (hq : q.length ≤ n) (hn : 0 < n) (hn2 : n ≤ 262144) :
    R2X ((w2.setCell ⟨k, 1, none⟩ (.slice (some ⟨w.heap.size, 0, none⟩) n n)).setCell ⟨k, 2, none⟩ (.int .i64 0)) k w.heap.size mo q n 0 (some ⟨w.heap.size, 0, none⟩) ∧ Turned k b w ((w2.setCell ⟨k, 1, none⟩ (.slice (some ⟨w.heap.size, 0, none⟩) n n)).setCell ⟨k, 2, none⟩ (.int .i64 0)) := by
  obtain ⟨cs, h1, h2⟩ := HI.box
  rw [List.take_length] at h2
  have hk := H.box.lt
  have hb : BoxT 68 w2 k #[.int .i64 mo, .slice so L L, .int .i64 h, .int .i64 q.length] := by have := H.box; unfold BoxT at *; rw [HI.bel.block k hk]; exact this
  refine ⟨⟨?_, hq, hn2, .inr ⟨hn, rfl, by omega, cs, (h1.other 1 _ (by omega)).other 2 _ (by omega), h2.size, h2.all, fun i x hx => ?_⟩⟩, ((Turned.below HI.bel).trans (Turned.set k b _ 1 _)).trans (Turned.set k b _ 2 _)⟩
  · simpa using (hb.set 1 (.slice (some ⟨w.heap.size, 0, none⟩) n n)).set 2 (.int .i64 0)
  · have hi := (List.getElem?_eq_some_iff.1 hx).1
    show cs[((0 + i) % n) * 2]? = _ ∧ cs[((0 + i) % n) * 2 + 1]? = _
    rw [Nat.zero_add, Nat.mod_eq_of_lt (by omega)]
    exact h2.each i x hx
/-- The first one gone. -/
theorem R2X.took {w w3 : World} {k b mo L h : Nat} {so : Option Addr} {q : List (Int × Int)} {x : Int × Int} (H : R2X w k b mo (x :: q) L h so) (hb : Below ((w.setCell ⟨b, h * 2, none⟩ (.int .i64 0)).setCell ⟨b, h * 2 + 1, none⟩ (.int .i64 0)).heap.size ((w.setCell ⟨b, h * 2, none⟩ (.int .i64 0)).setCell ⟨b, h * 2 + 1, none⟩ (.int .i64 0)) w3) {s : Nat} (hs : (h + 1) % L = s) :
    R2X ((w3.setCell ⟨k, 2, none⟩ (.int .i64 (s : Int))).setCell ⟨k, 3, none⟩ (.int .i64 (q.length : Int))) k b mo q L s so ∧ Turned k b w ((w3.setCell ⟨k, 2, none⟩ (.int .i64 (s : Int))).setCell ⟨k, 3, none⟩ (.int .i64 (q.length : Int))) := by
  have hle := H.le
  simp only [List.length_cons] at hle
  rcases H.pl with ⟨h0, _⟩ | ⟨p1, p2, p3, cur, p4, p5⟩
  · omega
  have hb1 := (H.box.other (h * 2) (.int .i64 0) (k' := b) p3).other (h * 2 + 1) (.int .i64 0) (k' := b) p3
  have hb2 := p4.pair (h * 2) (.int .i64 0) (.int .i64 0)
  have hk1 := hb1.lt
  have hk2 := hb2.lt
  have ha : BoxT 68 w3 k #[.int .i64 mo, .slice so L L, .int .i64 h, .int .i64 ((x :: q).length : Nat)] := by unfold BoxT at *; rw [hb.block k hk1]; exact hb1
  have hc : BoxT 39 w3 b ((cur.setIfInBounds (h * 2) (.int .i64 0)).setIfInBounds (h * 2 + 1) (.int .i64 0)) := by unfold BoxT at *; rw [hb.block b hk2]; exact hb2
  refine ⟨⟨?_, by omega, H.big, .inr ⟨by rw [← hs]; exact Nat.mod_lt _ (by omega), p2, p3, _, (hc.other 2 _ (fun e => p3 e.symm)).other 3 _ (fun e => p3 e.symm), p5.put h p1 0 0 _ _ fun i p hp => .inr ⟨?_, i + 1, ?_, by simpa using hp⟩⟩⟩, ?_⟩
  · simpa using (ha.set 2 (.int .i64 (s : Int))).set 3 (.int .i64 (q.length : Int))
  · have hi := (List.getElem?_eq_some_iff.1 hp).1
    intro e2
    have e3 : (h + (i + 1)) % L = (h + 0) % L := by
      have e4 : (s + i) % L = (h + (i + 1)) % L := by rw [← hs, Nat.mod_add_mod]; congr 1; omega
      rw [← e4, Nat.add_zero, Nat.mod_eq_of_lt p1]
      exact e2
    have := mod_inj p1 (by omega) (by omega) e3
    omega
  · show (s + i) % L = (h + (i + 1)) % L
    rw [← hs, Nat.mod_add_mod]; congr 1; omega
  · exact ((((Turned.setB k b w _ _).trans (Turned.setB k b _ _ _)).trans (Turned.below hb)).trans (Turned.set k b _ 2 _)).trans (Turned.set k b _ 3 _)

set_option maxHeartbeats 1000000 in
set_option maxRecDepth 100000 in
theorem narrowP {w : World} {k b mo L hd : Nat} {so : Option Addr} {q : List (Int × Int)} (H : R2X w k b mo q L hd so) :
    Calls Try.prog 44 #[.pointer (some ⟨k, 0, none⟩)] w fun e w' => e = .returned (.tuple #[]) ∧ ∃ b', R2 w' k b' mo q ∧ Turned k b w w' ∧ (b' = b ∨ w.heap.size ≤ b') := by
  obtain ⟨c0, c1, c2, c3⟩ := H.box.cells4
  have h1 := H.le
  have h2 := H.big
  have HB := hide H
  have hkf := H.box.free
  clear H
  generalize hlq : q.length = m at *
  have HQ := hide hlq
  clear hlq
  go_enter Try.func44, Try.ntmps44
  by_cases hL : 4 < L
  · have hL1 : (4 : Int) < L := by omega
    have hd1 : decide ((L : Int) > 4) = true := by simp; omega
    by_cases hm : m ≤ L / 4
    · have hm1 : (m : Int) ≤ L / 4 := by omega
      go_wp2
      go_quiet (fail)
      have HN := hide (below_drewN (Below.refl w.heap.size w) nq)
      have HB2 := hide (HB.out.below HN.out)
      obtain ⟨d0, d1, d2, d3⟩ := HB2.out.box.cells4
      have hsz := HN.out.size
      generalize w.drewN nq = w1 at *
      clear c0 c1 c2 c3 hkf
      go_wp2_with fail
      go_at_call 51
      refine (inSlotsP (n := L / 2) HB2.out (by rw [HQ.out]; omega) (by omega) (by omega)).mono ?_
      rintro e w2 ⟨rfl, h3⟩
      have HM := hide (h3.moved HB2.out (by rw [HQ.out]; omega) (by omega) (by omega))
      have hb2 : BoxT 68 w2 k #[.int .i64 mo, .slice so L L, .int .i64 hd, .int .i64 q.length] := by have h4 := HB2.out.box; have h5 := h4.lt; unfold BoxT at *; rw [h3.bel.block k h5]; exact h4
      obtain ⟨e0, e1, e2, e3⟩ := hb2.cells4
      have df := hb2.free
      clear h3 hb2 d0 d1 d2 d3
      go_wp2
      go_end0
      exact ⟨rfl, _, ⟨L / 2, 0, _, HM.out.1⟩, (Turned.below HN.out).trans HM.out.2, .inr hsz⟩
    · have hm1 : ¬ ((m : Int) ≤ L / 4) := by omega
      go_wp2
      go_quiet (fail)
      go_wp2
      go_end0
      have HN := below_drewN (Below.refl w.heap.size w) nq
      exact ⟨rfl, b, ⟨L, hd, so, HB.out.below HN⟩, Turned.below HN, .inl rfl⟩
  · have hL1 : ¬ ((4 : Int) < L) := by omega
    have hd1 : decide ((L : Int) > 4) = false := by simp; omega
    go_wp2
    go_quiet (fail)
    go_wp2
    go_end0
    have HN := below_drewN (Below.refl w.heap.size w) nq
    exact ⟨rfl, b, ⟨L, hd, so, HB.out.below HN⟩, Turned.below HN, .inl rfl⟩
set_option maxRecDepth 100000 in
theorem LenP {w : World} {k b mo : Nat} {q : List (Int × Int)} (H : R2 w k b mo q) :
    Calls Try.prog 20 #[.pointer (some ⟨k, 0, none⟩)] w fun e w' => e = .returned (.int .i64 q.length) ∧ w' = w := by
  obtain ⟨L, h, so, H⟩ := H
  obtain ⟨c0, c1, c2, c3⟩ := H.box.cells4
  clear H
  go_enter Try.func20, Try.ntmps20
  go_wp2
  go_ret
  exact ⟨rfl, rfl⟩
set_option maxRecDepth 100000 in
theorem RoomP {w : World} {k b mo : Nat} {q : List (Int × Int)} (H : R2 w k b mo q) (hmo : mo ≤ 65536) :
    Calls Try.prog 21 #[.pointer (some ⟨k, 0, none⟩)] w fun e w' => e = .returned (.int .i64 ((mo - q.length : Nat) : Int)) ∧ Below w.heap.size w w' := by
  obtain ⟨L, h, so, H⟩ := H
  obtain ⟨c0, c1, c2, c3⟩ := H.box.cells4
  have h1 := H.le
  have h2 := H.big
  clear H
  generalize q.length = m at *
  go_enter Try.func21, Try.ntmps21
  go_wp2
  go_region
  all_goals go_wp2
  all_goals
    go_ret
    refine ⟨congrArg (fun z : Int => Ending.returned (.int .i64 z)) ?_, (Below.refl _ _).drew⟩
    omega
set_option maxHeartbeats 1000000 in
set_option maxRecDepth 100000 in
theorem TakeNP {w : World} {k b mo : Nat} (H : R2 w k b mo []) :
    Calls Try.prog 22 #[.pointer (some ⟨k, 0, none⟩)] w fun e w' => e = .returned (.tuple #[.agg #[.int .i64 0, .int .i64 0], .bool false]) ∧ Below w.heap.size w w' := by
  have ba : Below w.heap.size w ((w.alloc (.cells #[.int .i64 0, .int .i64 0] 39)).alloc (.cells #[.int .i64 0, .int .i64 0] 39)) := ((Below.refl _ _).alloc (Nat.le_refl _) _).alloc (by simp) _
  obtain ⟨L, h, so, H⟩ := H.below ba
  obtain ⟨d0, d1, d2, d3⟩ := H.box.cells4
  simp only [List.length_nil] at d3
  clear H
  go_enter Try.func22, Try.ntmps22
  go_wp2
  exact bodyPost_ret (v := .tuple #[.agg #[.int .i64 0, .int .i64 0], .bool false]) (by simp [results, Try.results22, go_sem]) rfl ⟨rfl, ba⟩
theorem Turned.then {k b : Nat} {u v x : World} (h : Turned k b u v) (hb : Below u.heap.size v x) : Turned k b u x :=
  ⟨hb.os.trans h.os, hb.tape.trans h.tape, hb.output.trans h.output, Nat.le_trans h.size hb.size, fun i hi hk hb2 => (hb.block i hi).trans (h.block i hi hk hb2)⟩
theorem BoxT.turned {t k b g : Nat} {w w' : World} {cs : Array Value} (h : BoxT t w g cs) (ht : Turned k b w w') (h1 : g ≠ k) (h2 : g ≠ b) : BoxT t w' g cs := by
  have := h.lt
  unfold BoxT at *
  rw [ht.block g this h1 h2]; exact h
set_option maxHeartbeats 2000000 in
set_option maxRecDepth 100000 in
theorem TakeP {w : World} {k b mo : Nat} {x : Int × Int} {q : List (Int × Int)} (H : R2 w k b mo (x :: q)) :
    Calls Try.prog 22 #[.pointer (some ⟨k, 0, none⟩)] w fun e w' => e = .returned (.tuple #[.agg #[.int .i64 x.1, .int .i64 x.2], .bool true]) ∧ ∃ b', R2 w' k b' mo q ∧ Turned k b w w' ∧ (b' = b ∨ w.heap.size ≤ b') := by
  have ba : Below w.heap.size w ((w.alloc (.cells #[.int .i64 0, .int .i64 0] 39)).alloc (.cells #[.int .i64 0, .int .i64 0] 39)) := ((Below.refl _ _).alloc (Nat.le_refl _) _).alloc (by simp) _
  have g1 : BoxT 39 ((w.alloc (.cells #[.int .i64 0, .int .i64 0] 39)).alloc (.cells #[.int .i64 0, .int .i64 0] 39)) w.heap.size #[.int .i64 0, .int .i64 0] := (BoxT.new _ _ _).alloc _
  have g2 : BoxT 39 ((w.alloc (.cells #[.int .i64 0, .int .i64 0] 39)).alloc (.cells #[.int .i64 0, .int .i64 0] 39)) (w.heap.size + 1) #[.int .i64 0, .int .i64 0] := BoxT.new_at (by simp)
  have hkw := H.lt
  obtain ⟨L, h, so, H⟩ := H
  have hbw : b < w.heap.size ∧ 0 < L ∧ h < L ∧ so = some ⟨b, 0, none⟩ ∧ k ≠ b := by
    have hle := H.le
    simp only [List.length_cons] at hle
    rcases H.pl with ⟨h0, _⟩ | ⟨p1, p2, p3, cur, p4, p5⟩
    · omega
    · exact ⟨p4.lt, by omega, p1, p2, p3⟩
  obtain ⟨hbw, hL0, hhL, rfl, hkb⟩ := hbw
  replace H := H.below ba
  have hL := H.big
  have hle := H.le
  simp only [List.length_cons] at hle
  obtain ⟨cur, p4, p5⟩ : ∃ cur, BoxT 39 ((w.alloc (.cells #[.int .i64 0, .int .i64 0] 39)).alloc (.cells #[.int .i64 0, .int .i64 0] 39)) b cur ∧ Prs cur L (fun i => (h + i) % L) (x :: q) := by
    rcases H.pl with ⟨h0, _⟩ | ⟨p1, p2, p3, cur, p4, p5⟩
    · omega
    · exact ⟨cur, p4, p5⟩
  obtain ⟨hx1, hx2⟩ := p5.each 0 x rfl
  have e00 : (h + 0) % L = h := by rw [Nat.add_zero, Nat.mod_eq_of_lt hhL]
  rw [e00] at hx1 hx2
  obtain ⟨c0, c1, c2, c3⟩ := H.box.cells4
  simp only [List.length_cons] at c3
  have c4 := (p4.cellAt (h * 2)).trans hx1
  have c5 := (p4.cellAt (h * 2 + 1)).trans hx2
  have HB := hide H
  have HC := hide p4
  obtain ⟨s, hs⟩ : ∃ s, (h + 1) % L = s := ⟨_, rfl⟩
  have HSS := hide hs
  have hix : s < L := by rw [← hs]; exact Nat.mod_lt _ (by omega)
  have BA := hide ba
  have G1 := hide g1
  have G2 := hide g2
  have hsz : ((w.alloc (.cells #[.int .i64 0, .int .i64 0] 39)).alloc (.cells #[.int .i64 0, .int .i64 0] 39)).heap.size = w.heap.size + 2 := by simp
  clear H p4 p5 hx1 hx2 hs ba g1 g2
  generalize hlq : q.length = m at *
  have HQ := hide hlq
  clear hlq
  go_enter Try.func22, Try.ntmps22
  go_wp2
  generalize (w.alloc (.cells #[.int .i64 0, .int .i64 0] 39)).alloc (.cells #[.int .i64 0, .int .i64 0] 39) = w1 at *
  have HSZ := hide hsz
  clear hsz
  obtain ⟨x1, x2⟩ := x
  obtain ⟨f0, f1, f2, f3⟩ := (HB.out.box.alloc (.cells #[.int .i64 0, .int .i64 0] 39)).cells4
  have hcb := (HC.out.alloc (.cells #[.int .i64 0, .int .i64 0] 39))
  have f4 := (hcb.cellAt (h * 2)).trans ((HC.out.cellAt _).symm.trans c4)
  have f5 := (hcb.cellAt (h * 2 + 1)).trans ((HC.out.cellAt _).symm.trans c5)
  clear hcb
  go_region
  have b2 : Below w1.heap.size w1 (w1.alloc (.cells #[.int .i64 x1, .int .i64 x2] 39)).drew := ((Below.refl _ _).alloc (Nat.le_refl _) _).drew
  have G3 : Hid (BoxT 39 (w1.alloc (.cells #[.int .i64 x1, .int .i64 x2] 39)).drew w1.heap.size #[.int .i64 x1, .int .i64 x2]) := BoxT.new _ _ _
  have HB2 := hide (HB.out.below b2)
  have bt : ∀ {g : Nat} {cs : Array Value}, BoxT 39 w1 g cs → BoxT 39 (w1.alloc (.cells #[.int .i64 x1, .int .i64 x2] 39)).drew g cs := fun hg => by
    have hl := hg.lt
    unfold BoxT at *
    rw [b2.block _ hl]; exact hg
  have G1' := hide (bt G1.out)
  have G2' := hide (bt G2.out)
  have HC' := hide (bt HC.out)
  have BA2 := hide (BA.out.trans (b2.mono (by have := HSZ.out; omega)))
  have hg3 : w.heap.size + 1 < w1.heap.size := by have := HSZ.out; omega
  clear b2 G1 G2 HC BA HB bt f0 f1 f2 f3 f4 f5 c0 c1 c2 c3
  generalize (w1.alloc (.cells #[.int .i64 x1, .int .i64 x2] 39)).drew = w2 at *
  generalize w1.heap.size = g3 at *
  obtain ⟨e0, e1, e2, e3⟩ := HB2.out.box.cells4
  simp only [List.length_cons, HQ.out] at e3
  obtain ⟨z0, z1⟩ := G2'.out.cells2
  have e4 : ∃ u, w2.cell? ⟨b, h * 2, none⟩ = some u := by
    rcases HB2.out.pl with ⟨h0, _⟩ | ⟨_, _, _, cu, hcu, hpr⟩
    · omega
    · obtain ⟨u, hu⟩ := hpr.all (h * 2) (by omega)
      exact ⟨_, (hcu.cellAt _).trans hu⟩
  have e5 : ∃ u, w2.cell? ⟨b, h * 2 + 1, none⟩ = some u := by
    rcases HB2.out.pl with ⟨h0, _⟩ | ⟨_, _, _, cu, hcu, hpr⟩
    · omega
    · obtain ⟨u, hu⟩ := hpr.all (h * 2 + 1) (by omega)
      exact ⟨_, (hcu.cellAt _).trans hu⟩
  obtain ⟨u4, e4⟩ := e4
  obtain ⟨u5, e5⟩ := e5
  have ef := HC'.out.free
  have HTK := fun w3 hb => hide (R2X.took HB2.out (w3 := w3) hb HSS.out)
  have HBX := hide ((HB2.out.box.other (k' := b) (h * 2) (.int .i64 0) hkb).other (k' := b) (h * 2 + 1) (.int .i64 0) hkb)
  rw [List.length_cons, HQ.out] at HBX
  clear c4 c5 HC'
  go_wp2
  go_region
  generalize (w2.setCell ⟨b, h * 2, none⟩ (.int .i64 0)).setCell ⟨b, h * 2 + 1, none⟩ (.int .i64 0) = w3 at *
  clear e0 e1 e2 e3 e4 e5 ef z0 z1
  go_wp2_with fail
  go_at_call 43
  refine (slotP (k := k) (L := L) (h := h) (i := 1) HBX.out.drew (by omega) (by omega) (by omega) HSS.out (by omega)).mono ?_
  rintro e w4 ⟨rfl, b4⟩
  have HT := HTK w4 (((Below.refl _ _).drew).trans b4)
  rw [HQ.out] at HT
  have hbk : BoxT 68 w4 k #[.int .i64 mo, .slice (some ⟨b, 0, none⟩) L L, .int .i64 h, .int .i64 ((m + 1 : Nat) : Int)] := by
    have h6 := HBX.out.lt
    have h7 := HBX.out
    unfold BoxT at *
    rw [b4.block _ h6]; exact h7
  obtain ⟨f0, f1, f2, f3⟩ := hbk.cells4
  have ff := hbk.free
  clear b4 hbk HTK HBX
  go_wp2_with fail
  go_at_call 44
  refine (narrowP HT.out.1).mono ?_
  rintro e w5 ⟨rfl, b5, R5, t5, hb5⟩
  have hs4 := HT.out.2.size
  have hl1 := G1'.out.lt
  have hl3 := G3.out.lt
  have T5 := hide (HT.out.2.trans t5)
  have q1 := G1'.out.turned T5.out (by omega) (by omega)
  have q3 := G3.out.turned T5.out (by omega) (by omega)
  obtain ⟨r0, r1⟩ := q3.cells2
  obtain ⟨v0, v1⟩ := q1.cells2
  have vf := q1.free
  have HF := hide (And.intro R5 (((Turned.below BA2.out).trans T5.out).then (((Below.refl w.heap.size w5).setCell (p := ⟨w.heap.size, 0, none⟩) (Nat.le_refl _) (.int .i64 x1)).setCell (p := ⟨w.heap.size, 1, none⟩) (Nat.le_refl _) (.int .i64 x2))))
  have HRB : Hid (R2 ((w5.setCell ⟨w.heap.size, 0, none⟩ (.int .i64 x1)).setCell ⟨w.heap.size, 1, none⟩ (.int .i64 x2)) k b5 mo q) := by
    have hn : ∀ i, i ≠ w.heap.size → ((w5.setCell ⟨w.heap.size, 0, none⟩ (.int .i64 x1)).setCell ⟨w.heap.size, 1, none⟩ (.int .i64 x2)).heap[i]? = w5.heap[i]? := fun i hi => (Below.heap_setCell _ ⟨w.heap.size, 1, none⟩ _ i hi).trans (Below.heap_setCell _ ⟨w.heap.size, 0, none⟩ _ i hi)
    exact R5.back (hn k (by omega)) (fun _ => hn b5 (by rcases hb5 with rfl | hb5 <;> omega))
  have HQ1 := hide (q1.pair 0 (.int .i64 x1) (.int .i64 x2))
  have hb6 : b5 = b ∨ w.heap.size ≤ b5 := hb5.imp id (fun h => by omega)
  clear HT R5 t5 T5 q1 q3 hb5 f0 f1 f2 f3 ff
  go_wp2
  obtain ⟨y0, y1⟩ := BoxT.cells2 (c0 := .int .i64 x1) (c1 := .int .i64 x2) (by simpa using HQ1.out)
  exact bodyPost_ret (v := .tuple #[.agg #[.int .i64 x1, .int .i64 x2], .bool true]) (by simp [results, Try.results22, go_sem, y0, y1]) rfl ⟨rfl, b5, HRB.out, HF.out.2, hb6⟩
end Go.Proofs.Ytaoejpgjdoikiaa
