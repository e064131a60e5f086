import Derived.Test.YtaajjejgjnlbgaaDoorNum
namespace Go.Proofs.YtaajjejgjnlbgaaDoor
open Go.RowKit
/-- A frame. -/
structure Frm where
  kd : Int
  ke : Int
  ti : Int
  va : Int
  ma : Int
  n : Int
  ov : Bool
def Frm.cs (f : Frm) : Array Value := #[.int .i64 f.kd, .int .i64 f.ke, .int .i64 f.ti, .int .i64 f.va, .int .i64 f.ma, .int .u64 f.n, .bool f.ov]
def Frm.val (f : Frm) : Value := .agg f.cs
def rFrame (s : List Nat × Bool) : Frm × (List Nat × Bool) :=
  if (num 1 s).1 = 1 then (⟨1, i64of (num 8 (num 1 s).2).1, i64of (num 8 (num 8 (num 1 s).2).2).1, i64of (num 8 (num 8 (num 8 (num 1 s).2).2).2).1, 0, 0, false⟩, (num 8 (num 8 (num 8 (num 1 s).2).2).2).2)
  else if (num 1 s).1 = 2 then (⟨2, 0, 0, 0, i64of (num 8 (num 1 s).2).1, 0, false⟩, (num 8 (num 1 s).2).2)
  else if (num 1 s).1 = 3 then (⟨3, 0, 0, 0, 0, (num 8 (num 1 s).2).1, (rFlag (num 8 (num 1 s).2).2).1⟩, (rFlag (num 8 (num 1 s).2).2).2)
  else (⟨(num 1 s).1, 0, 0, 0, 0, 0, false⟩, ((num 1 s).2.1, true))

theorem BoxT.grown {t : TypeId} {w w' : World} {k R : Nat} {cs : Array Value} (h : BoxT t w k cs) (hg : w.grownBy w' (some R)) (hne : k ≠ R) : BoxT t w' k cs := by
  unfold BoxT at *
  rw [hg.block k (Array.getElem?_eq_some_iff.1 h).1 (by simpa using hne)]; exact h
theorem RdS.keep {R : Nat} {w w' : World} {s : List Nat × Bool} (h : RdS R w s) (hb : ∀ i, i ≤ R → w'.heap[i]? = w.heap[i]?) : RdS R w' s := by
  obtain ⟨⟨v, hbx, ao, cap, rfl, h1, h2, h3, h4⟩, hbs⟩ := h
  refine ⟨⟨_, ?_, ao, cap, rfl, h1, h2, h3, ?_⟩, hbs⟩
  · unfold BoxT at *; rw [hb R (Nat.le_refl _)]; exact hbx
  · rcases h4 with h4 | ⟨b, off, h5, h6, h7⟩
    · exact .inl h4
    · exact .inr ⟨b, off, h5, h6, fun i x hi => (World.cell?_of_block (hb b (by omega))).trans (h7 i x hi)⟩
theorem RdS.alloc {R : Nat} {w : World} {s : List Nat × Bool} (h : RdS R w s) (o : Obj) : RdS R (w.alloc o) s := h.keep fun i hi => Below.heap_alloc w o i (by have := h.lt; omega)
theorem RdS.set {R : Nat} {w : World} {s : List Nat × Bool} (h : RdS R w s) (k j : Nat) (u : Value) (hk : R < k) : RdS R (w.setCell ⟨k, j, none⟩ u) s := h.keep fun i hi => Below.heap_setCell w ⟨k, j, none⟩ u i (by show i ≠ k; omega)
theorem grown_set {a w : World} {r : Option Nat} (h : a.grownBy w r) (k j : Nat) (u : Value) (hk : a.heap.size ≤ k) : a.grownBy (w.setCell ⟨k, j, none⟩ u) r :=
  ⟨h.os, h.tape, h.output, by have := h.size; simpa using this, fun i hi hne => (Below.heap_setCell w ⟨k, j, none⟩ u i (by show i ≠ k; omega)).trans (h.block i hi hne)⟩
theorem grown_alloc {a w : World} {r : Option Nat} (h : a.grownBy w r) (o : Obj) : a.grownBy (w.alloc o) r := grownBy_trans h (grownBy_alloc' w o r)
theorem BoxT.cells7 {t : TypeId} {w : World} {k : Nat} {c0 c1 c2 c3 c4 c5 c6 : Value} (h : BoxT t w k #[c0, c1, c2, c3, c4, c5, c6]) :
    w.cell? ⟨k, 0, none⟩ = some c0 ∧ w.cell? ⟨k, 1, none⟩ = some c1 ∧ w.cell? ⟨k, 2, none⟩ = some c2 ∧ w.cell? ⟨k, 3, none⟩ = some c3 ∧ w.cell? ⟨k, 4, none⟩ = some c4 ∧ w.cell? ⟨k, 5, none⟩ = some c5 ∧ w.cell? ⟨k, 6, none⟩ = some c6 := by
  unfold BoxT at h
  simp [World.cell?, h]

/-- In the midst of readFrame: the reader, the frame's box kF, the result's box. -/
structure RF (R : Nat) (w0 w : World) (kF : Nat) (cs : Array Value) (s : List Nat × Bool) : Prop where
  rd : RdS R w s
  bF : BoxT 26 w kF cs
  bA : ∃ a0 a1 a2 a3 a4 a5 a6, BoxT 26 w w0.heap.size #[a0, a1, a2, a3, a4, a5, a6]
  gr : w0.grownBy w (some R)
  kl : w0.heap.size < kF
  rl : R < w0.heap.size
theorem RF.call {R : Nat} {w0 w w' : World} {kF : Nat} {cs : Array Value} {s s' : List Nat × Bool} (h : RF R w0 w kF cs s) (hr : RdS R w' s') (hg : w.grownBy w' (some R)) : RF R w0 w' kF cs s' := by
  have := h.kl
  have := h.rl
  obtain ⟨a0, a1, a2, a3, a4, a5, a6, hA⟩ := h.bA
  exact ⟨hr, h.bF.grown hg (by omega), ⟨a0, a1, a2, a3, a4, a5, a6, hA.grown hg (by omega)⟩, grownBy_trans h.gr hg, h.kl, h.rl⟩
theorem BoxT.other {t : TypeId} {w : World} {k k' : Nat} {cs : Array Value} (h : BoxT t w k cs) (j : Nat) (u : Value) (hk : k ≠ k') : BoxT t (w.setCell ⟨k', j, none⟩ u) k cs := by
  unfold BoxT at *
  rw [Below.heap_setCell w ⟨k', j, none⟩ u k hk]; exact h
theorem RF.set {R : Nat} {w0 w : World} {kF : Nat} {cs : Array Value} {s : List Nat × Bool} (h : RF R w0 w kF cs s) (j : Nat) (u : Value) : RF R w0 (w.setCell ⟨kF, j, none⟩ u) kF (cs.setIfInBounds j u) s := by
  have := h.kl
  have := h.rl
  obtain ⟨a0, a1, a2, a3, a4, a5, a6, hA⟩ := h.bA
  exact ⟨h.rd.set _ _ _ (by omega), h.bF.set _ _, ⟨a0, a1, a2, a3, a4, a5, a6, hA.other _ _ (by omega)⟩, grown_set h.gr _ _ _ (by omega), h.kl, h.rl⟩
theorem RF.bad {R : Nat} {w0 w : World} {kF : Nat} {cs : Array Value} {s : List Nat × Bool} (h : RF R w0 w kF cs s) : RF R w0 (w.setCell ⟨R, 1, none⟩ (.bool true)) kF cs (s.1, true) :=
  h.call h.rd.bad (grownBy_set _ _ _ _)
theorem RF.cells {R : Nat} {w0 w : World} {kF : Nat} {c0 c1 c2 c3 c4 c5 c6 : Value} {s : List Nat × Bool} (h : RF R w0 w kF #[c0, c1, c2, c3, c4, c5, c6] s) :
    (w.cell? ⟨kF, 0, none⟩ = some c0 ∧ w.cell? ⟨kF, 1, none⟩ = some c1 ∧ w.cell? ⟨kF, 2, none⟩ = some c2 ∧ w.cell? ⟨kF, 3, none⟩ = some c3 ∧ w.cell? ⟨kF, 4, none⟩ = some c4 ∧ w.cell? ⟨kF, 5, none⟩ = some c5 ∧ w.cell? ⟨kF, 6, none⟩ = some c6) ∧
      ∀ j, w.frozen? ⟨kF, j, none⟩ = false := ⟨h.bF.cells7, fun j => h.bF.free j⟩
theorem RF.start {R : Nat} {w0 w1 : World} {ca cs : Array Value} {s : List Nat × Bool} (hca : ∃ a0 a1 a2 a3 a4 a5 a6, ca = #[a0, a1, a2, a3, a4, a5, a6]) (hR : R < w0.heap.size) (hr : RdS R w1 s) (hg : (w0.alloc (.cells ca 26)).grownBy w1 (some R)) :
    RF R w0 (w1.alloc (.cells cs 26)) w1.heap.size cs s := by
  obtain ⟨a0, a1, a2, a3, a4, a5, a6, rfl⟩ := hca
  have hz := hg.size
  simp only [World.size_alloc] at hz
  exact ⟨hr.alloc _, BoxT.new _ _ _, ⟨a0, a1, a2, a3, a4, a5, a6, ((BoxT.new 26 w0 _).grown hg (by omega)).alloc _⟩, grown_alloc (grownBy_trans (grownBy_alloc' _ _ _) hg) _, by omega, hR⟩

/-- The frame is stored into the result's box. -/
theorem RF.fin {R : Nat} {w0 w : World} {kF : Nat} {cs : Array Value} {s : List Nat × Bool} (h : RF R w0 w kF cs s) (v0 v1 v2 v3 v4 v5 v6 : Value) (W : World)
    (hW : W = (((((((w.setCell ⟨w0.heap.size, 0, none⟩ v0).setCell ⟨w0.heap.size, 1, none⟩ v1).setCell ⟨w0.heap.size, 2, none⟩ v2).setCell ⟨w0.heap.size, 3, none⟩ v3).setCell ⟨w0.heap.size, 4, none⟩ v4).setCell ⟨w0.heap.size, 5, none⟩ v5).setCell ⟨w0.heap.size, 6, none⟩ v6)) :
    RdS R W s ∧ w0.grownBy W (some R) ∧ BoxT 26 W w0.heap.size #[v0, v1, v2, v3, v4, v5, v6] := by
  subst hW
  have hR := h.rl
  obtain ⟨a0, a1, a2, a3, a4, a5, a6, hA⟩ := h.bA
  refine ⟨((((((h.rd.set _ _ _ hR).set _ _ _ hR).set _ _ _ hR).set _ _ _ hR).set _ _ _ hR).set _ _ _ hR).set _ _ _ hR, ?_, ?_⟩
  · exact grown_set (grown_set (grown_set (grown_set (grown_set (grown_set (grown_set h.gr _ _ _ (Nat.le_refl _)) _ _ _ (Nat.le_refl _)) _ _ _ (Nat.le_refl _)) _ _ _ (Nat.le_refl _)) _ _ _ (Nat.le_refl _)) _ _ _ (Nat.le_refl _)) _ _ _ (Nat.le_refl _)
  · have h0 : BoxT 26 _ _ #[v0, a1, a2, a3, a4, a5, a6] := hA.set 0 v0
    have h1 : BoxT 26 _ _ #[v0, v1, a2, a3, a4, a5, a6] := h0.set 1 v1
    have h2 : BoxT 26 _ _ #[v0, v1, v2, a3, a4, a5, a6] := h1.set 2 v2
    have h3 : BoxT 26 _ _ #[v0, v1, v2, v3, a4, a5, a6] := h2.set 3 v3
    have h4 : BoxT 26 _ _ #[v0, v1, v2, v3, v4, a5, a6] := h3.set 4 v4
    have h5 : BoxT 26 _ _ #[v0, v1, v2, v3, v4, v5, a6] := h4.set 5 v5
    exact h5.set 6 v6

set_option maxHeartbeats 1600000 in
set_option maxRecDepth 100000 in
theorem readFrame_any {R : Nat} {w : World} {s : List Nat × Bool} (h : RdS R w s) :
    Calls Tryd.prog 46 #[.pointer (some ⟨R, 0, none⟩)] w fun e w' => e = .returned (rFrame s).1.val ∧ RdS R w' (rFrame s).2 ∧ w.grownBy w' (some R) := by
  have hR := h.lt
  have n0 := fun o => number_any (sz := 1) (h.alloc o) (by omega) (by omega)
  rw [show (1 : Int).toNat = 1 from rfl] at n0
  unfold rFrame
  have hb0 := num_lt (k := 1) h.2
  generalize num 1 s = p0 at *
  obtain ⟨kd, s0⟩ := p0
  simp only at *
  have N0 := n0
  clear n0
  by_cases h1 : kd = 1
  · subst h1
    simp only [if_true]
    go_enter Tryd.func46, Tryd.ntmps46
    go_wp2_with fail
    refine (N0 _).mono ?_
    rintro e w1 ⟨rfl, hr1, hg1⟩
    have q := RF.start (cs := #[.int .i64 1, .int .i64 0, .int .i64 0, .int .i64 0, .int .i64 0, .int .u64 0, .bool false]) ⟨_, _, _, _, _, _, _, rfl⟩ hR hr1 hg1
    clear N0 hg1 hr1
    go_wp2_with fail
    refine (readSigned_any q.rd).mono ?_
    rintro e w2 ⟨rfl, hr, hg⟩
    have q := q.call hr hg
    obtain ⟨⟨c0, c1, c2, c3, c4, c5, c6⟩, fr⟩ := q.cells
    have q := q.set 1 (.int .i64 (i64of (num 8 s0).1))
    clear hg hr
    go_wp2_with fail
    refine (readSigned_any q.rd).mono ?_
    rintro e w3 ⟨rfl, hr, hg⟩
    have q := q.call hr hg
    clear c0 c1 c2 c3 c4 c5 c6 fr
    obtain ⟨⟨c0, c1, c2, c3, c4, c5, c6⟩, fr⟩ := q.cells
    have q := q.set 2 (.int .i64 (i64of (num 8 (num 8 s0).2).1))
    clear hg hr
    go_wp2_with fail
    refine (readSigned_any q.rd).mono ?_
    rintro e w4 ⟨rfl, hr, hg⟩
    have q := q.call hr hg
    clear c0 c1 c2 c3 c4 c5 c6 fr
    obtain ⟨⟨c0, c1, c2, c3, c4, c5, c6⟩, fr⟩ := q.cells
    have q := q.set 3 (.int .i64 (i64of (num 8 (num 8 (num 8 s0).2).2).1))
    clear c0 c1 c2 c4 c5 c6
    obtain ⟨⟨e0, e1, e2, e3, e4, e5, e6⟩, fr'⟩ := q.cells
    obtain ⟨a0, a1, a2, a3, a4, a5, a6, bA⟩ := q.bA
    obtain ⟨d0, d1, d2, d3, d4, d5, d6⟩ := bA.cells7
    have fa := bA.free
    clear hg hr
    go_wp2
    obtain ⟨hrd, hgr, bx⟩ := q.fin (.int .i64 1) (.int .i64 (i64of (num 8 s0).1)) (.int .i64 (i64of (num 8 (num 8 s0).2).1)) (.int .i64 (i64of (num 8 (num 8 (num 8 s0).2).2).1)) (.int .i64 0) (.int .u64 0) (.bool false) _ rfl
    obtain ⟨x0, x1, x2, x3, x4, x5, x6⟩ := bx.cells7
    exact bodyPost_ret (v := Frm.val ⟨1, i64of (num 8 s0).1, i64of (num 8 (num 8 s0).2).1, i64of (num 8 (num 8 (num 8 s0).2).2).1, 0, 0, false⟩) (by simp [results, Tryd.results46, go_sem, x0, x1, x2, x3, x4, x5, x6, Frm.val, Frm.cs]) rfl ⟨rfl, hrd, hgr⟩
  by_cases h2 : kd = 2
  · subst h2
    simp only [if_true, show ¬ (2 : Nat) = 1 from by decide, if_false]
    go_enter Tryd.func46, Tryd.ntmps46
    go_wp2_with fail
    refine (N0 _).mono ?_
    rintro e w1 ⟨rfl, hr1, hg1⟩
    have q := RF.start (cs := #[.int .i64 2, .int .i64 0, .int .i64 0, .int .i64 0, .int .i64 0, .int .u64 0, .bool false]) ⟨_, _, _, _, _, _, _, rfl⟩ hR hr1 hg1
    clear N0 hg1 hr1
    go_wp2_with fail
    refine (readSigned_any q.rd).mono ?_
    rintro e w2 ⟨rfl, hr, hg⟩
    have q := q.call hr hg
    obtain ⟨⟨c0, c1, c2, c3, c4, c5, c6⟩, fr⟩ := q.cells
    have q := q.set 4 (.int .i64 (i64of (num 8 s0).1))
    clear c0 c1 c2 c3 c5 c6
    obtain ⟨⟨e0, e1, e2, e3, e4, e5, e6⟩, fr'⟩ := q.cells
    obtain ⟨a0, a1, a2, a3, a4, a5, a6, bA⟩ := q.bA
    obtain ⟨d0, d1, d2, d3, d4, d5, d6⟩ := bA.cells7
    have fa := bA.free
    clear hg hr
    go_wp2
    obtain ⟨hrd, hgr, bx⟩ := q.fin (.int .i64 2) (.int .i64 0) (.int .i64 0) (.int .i64 0) (.int .i64 (i64of (num 8 s0).1)) (.int .u64 0) (.bool false) _ rfl
    obtain ⟨x0, x1, x2, x3, x4, x5, x6⟩ := bx.cells7
    exact bodyPost_ret (v := Frm.val ⟨2, 0, 0, 0, i64of (num 8 s0).1, 0, false⟩) (by simp [results, Tryd.results46, go_sem, x0, x1, x2, x3, x4, x5, x6, Frm.val, Frm.cs]) rfl ⟨rfl, hrd, hgr⟩
  by_cases h3 : kd = 3
  · subst h3
    simp only [if_true, show ¬ (3 : Nat) = 1 from by decide, show ¬ (3 : Nat) = 2 from by decide, if_false]
    go_enter Tryd.func46, Tryd.ntmps46
    go_wp2_with fail
    refine (N0 _).mono ?_
    rintro e w1 ⟨rfl, hr1, hg1⟩
    have q := RF.start (cs := #[.int .i64 3, .int .i64 0, .int .i64 0, .int .i64 0, .int .i64 0, .int .u64 0, .bool false]) ⟨_, _, _, _, _, _, _, rfl⟩ hR hr1 hg1
    clear N0 hg1 hr1
    go_wp2_with fail
    refine (number_any (sz := 8) q.rd (by omega) (by omega)).mono ?_
    rintro e w2 ⟨rfl, hr, hg⟩
    rw [show (8 : Int).toNat = 8 from rfl] at *
    have q := q.call hr hg
    obtain ⟨⟨c0, c1, c2, c3, c4, c5, c6⟩, fr⟩ := q.cells
    have q := q.set 5 (.int .u64 ((num 8 s0).1 : Nat))
    clear hg hr
    go_wp2_with fail
    refine (readFlag_any q.rd).mono ?_
    rintro e w3 ⟨rfl, hr, hg⟩
    have q := q.call hr hg
    clear c0 c1 c2 c3 c4 c5 c6 fr
    obtain ⟨⟨c0, c1, c2, c3, c4, c5, c6⟩, fr⟩ := q.cells
    have q := q.set 6 (.bool (rFlag (num 8 s0).2).1)
    clear c0 c1 c2 c3 c4 c5
    obtain ⟨⟨e0, e1, e2, e3, e4, e5, e6⟩, fr'⟩ := q.cells
    obtain ⟨a0, a1, a2, a3, a4, a5, a6, bA⟩ := q.bA
    obtain ⟨d0, d1, d2, d3, d4, d5, d6⟩ := bA.cells7
    have fa := bA.free
    clear hg hr
    go_wp2
    obtain ⟨hrd, hgr, bx⟩ := q.fin (.int .i64 3) (.int .i64 0) (.int .i64 0) (.int .i64 0) (.int .i64 0) (.int .u64 ((num 8 s0).1 : Nat)) (.bool (rFlag (num 8 s0).2).1) _ rfl
    obtain ⟨x0, x1, x2, x3, x4, x5, x6⟩ := bx.cells7
    exact bodyPost_ret (v := Frm.val ⟨3, 0, 0, 0, 0, (num 8 s0).1, (rFlag (num 8 s0).2).1⟩) (by simp [results, Tryd.results46, go_sem, x0, x1, x2, x3, x4, x5, x6, Frm.val, Frm.cs]) rfl ⟨rfl, hrd, hgr⟩
  · have e1 : ((kd : Int) == 1) = false := beq_eq_false_iff_ne.2 (by omega)
    have e2 : ((kd : Int) == 2) = false := beq_eq_false_iff_ne.2 (by omega)
    have e3 : ((kd : Int) == 3) = false := beq_eq_false_iff_ne.2 (by omega)
    simp only [h1, h2, h3, if_false]
    have hw : wrap64 (kd : Int) = kd := by unfold wrap64; omega
    go_enter Tryd.func46, Tryd.ntmps46
    go_wp2_with fail
    refine (N0 _).mono ?_
    rintro e w1 ⟨rfl, hr1, hg1⟩
    have q := RF.start (cs := #[.int .i64 kd, .int .i64 0, .int .i64 0, .int .i64 0, .int .i64 0, .int .u64 0, .bool false]) ⟨_, _, _, _, _, _, _, rfl⟩ hR hr1 hg1
    clear N0 hg1 hr1
    obtain ⟨ao, cap, r0, r1, rf⟩ := q.rd.cells
    have q := q.bad
    obtain ⟨⟨e0, e1, e2, e3, e4, e5, e6⟩, fr'⟩ := q.cells
    obtain ⟨a0, a1, a2, a3, a4, a5, a6, bA⟩ := q.bA
    obtain ⟨d0, d1, d2, d3, d4, d5, d6⟩ := bA.cells7
    have fa := bA.free
    go_wp2
    obtain ⟨hrd, hgr, bx⟩ := q.fin (.int .i64 kd) (.int .i64 0) (.int .i64 0) (.int .i64 0) (.int .i64 0) (.int .u64 0) (.bool false) _ rfl
    obtain ⟨x0, x1, x2, x3, x4, x5, x6⟩ := bx.cells7
    exact bodyPost_ret (v := Frm.val ⟨kd, 0, 0, 0, 0, 0, false⟩) (by simp [results, Tryd.results46, go_sem, x0, x1, x2, x3, x4, x5, x6, Frm.val, Frm.cs]) rfl ⟨rfl, hrd, hgr⟩
end Go.Proofs.YtaajjejgjnlbgaaDoor
