import Derived.Test.YtaajjejgjnlbgaaDoorOpenf
namespace Go.Proofs.YtaajjejgjnlbgaaDoor
open Go.RowKit

/-- A control message. -/
structure Ctl where
  kd : Int
  ep : Int
  n : Int
  tk : Int
def Ctl.cs (c : Ctl) : Array Value := #[.int .i64 c.kd, .int .u64 c.ep, .int .u64 c.n, .int .i64 c.tk]
def Ctl.val (c : Ctl) : Value := .agg c.cs
def Ctl.zero : Ctl := ⟨0, 0, 0, 0⟩
def rControl (s : List Nat × Bool) : Ctl × (List Nat × Bool) :=
  (⟨(num 1 s).1, (num 8 (num 1 s).2).1, (num 8 (num 8 (num 1 s).2).2).1, (num 2 (num 8 (num 8 (num 1 s).2).2).2).1⟩,
    if 1 ≤ (num 1 s).1 ∧ (num 1 s).1 ≤ 6 then (num 2 (num 8 (num 8 (num 1 s).2).2).2).2 else ((num 2 (num 8 (num 8 (num 1 s).2).2).2).2.1, true))

/-- In the midst of readControl. -/
structure RC (R : Nat) (w0 w : World) (c0 c1 c2 c3 : Value) (s : List Nat × Bool) : Prop where
  rd : RdS R w s
  bF : BoxT 28 w (w0.heap.size + 1) #[c0, c1, c2, c3]
  bA : ∃ a0 a1 a2 a3, BoxT 28 w w0.heap.size #[a0, a1, a2, a3]
  gr : w0.grownBy w (some R)
  rl : R < w0.heap.size
theorem RC.call {R : Nat} {w0 w w' : World} {c0 c1 c2 c3 : Value} {s s' : List Nat × Bool} (h : RC R w0 w c0 c1 c2 c3 s) (hr : RdS R w' s') (hg : w.grownBy w' (some R)) : RC R w0 w' c0 c1 c2 c3 s' := by
  have := h.rl
  obtain ⟨a0, a1, a2, a3, hA⟩ := h.bA
  exact ⟨hr, h.bF.grown hg (by omega), ⟨a0, a1, a2, a3, hA.grown hg (by omega)⟩, grownBy_trans h.gr hg, h.rl⟩
theorem RC.set0 {R : Nat} {w0 w : World} {c0 c1 c2 c3 : Value} {s : List Nat × Bool} (h : RC R w0 w c0 c1 c2 c3 s) (u : Value) : RC R w0 (w.setCell ⟨w0.heap.size + 1, 0, none⟩ u) u c1 c2 c3 s := by
  have := h.rl
  obtain ⟨a0, a1, a2, a3, hA⟩ := h.bA
  exact ⟨h.rd.set _ _ _ (by omega), h.bF.set 0 u, ⟨a0, a1, a2, a3, hA.other _ _ (by omega)⟩, grown_set h.gr _ _ _ (by omega), h.rl⟩
theorem RC.set1 {R : Nat} {w0 w : World} {c0 c1 c2 c3 : Value} {s : List Nat × Bool} (h : RC R w0 w c0 c1 c2 c3 s) (u : Value) : RC R w0 (w.setCell ⟨w0.heap.size + 1, 1, none⟩ u) c0 u c2 c3 s := by
  have := h.rl
  obtain ⟨a0, a1, a2, a3, hA⟩ := h.bA
  exact ⟨h.rd.set _ _ _ (by omega), h.bF.set 1 u, ⟨a0, a1, a2, a3, hA.other _ _ (by omega)⟩, grown_set h.gr _ _ _ (by omega), h.rl⟩
theorem RC.set2 {R : Nat} {w0 w : World} {c0 c1 c2 c3 : Value} {s : List Nat × Bool} (h : RC R w0 w c0 c1 c2 c3 s) (u : Value) : RC R w0 (w.setCell ⟨w0.heap.size + 1, 2, none⟩ u) c0 c1 u c3 s := by
  have := h.rl
  obtain ⟨a0, a1, a2, a3, hA⟩ := h.bA
  exact ⟨h.rd.set _ _ _ (by omega), h.bF.set 2 u, ⟨a0, a1, a2, a3, hA.other _ _ (by omega)⟩, grown_set h.gr _ _ _ (by omega), h.rl⟩
theorem RC.set3 {R : Nat} {w0 w : World} {c0 c1 c2 c3 : Value} {s : List Nat × Bool} (h : RC R w0 w c0 c1 c2 c3 s) (u : Value) : RC R w0 (w.setCell ⟨w0.heap.size + 1, 3, none⟩ u) c0 c1 c2 u s := by
  have := h.rl
  obtain ⟨a0, a1, a2, a3, hA⟩ := h.bA
  exact ⟨h.rd.set _ _ _ (by omega), h.bF.set 3 u, ⟨a0, a1, a2, a3, hA.other _ _ (by omega)⟩, grown_set h.gr _ _ _ (by omega), h.rl⟩
theorem RC.bad {R : Nat} {w0 w : World} {c0 c1 c2 c3 : Value} {s : List Nat × Bool} (h : RC R w0 w c0 c1 c2 c3 s) : RC R w0 (w.setCell ⟨R, 1, none⟩ (.bool true)) c0 c1 c2 c3 (s.1, true) := h.call h.rd.bad (grownBy_set _ _ _ _)
theorem RC.start {R : Nat} {w0 : World} {a0 a1 a2 a3 c0 c1 c2 c3 : Value} {s : List Nat × Bool} (hr : RdS R w0 s) : RC R w0 ((w0.alloc (.cells #[a0, a1, a2, a3] 28)).alloc (.cells #[c0, c1, c2, c3] 28)) c0 c1 c2 c3 s :=
  ⟨(hr.alloc _).alloc _, BoxT.new_at (by simp), ⟨a0, a1, a2, a3, (BoxT.new 28 w0 _).alloc _⟩, grown_alloc (grownBy_alloc' _ _ _) _, hr.lt⟩
theorem fin4 {w : World} {k : Nat} {a0 a1 a2 a3 : Value} (hA : BoxT 28 w k #[a0, a1, a2, a3]) (v0 v1 v2 v3 : Value) (W : World)
    (hW : W = ((((w.setCell ⟨k, 0, none⟩ v0).setCell ⟨k, 1, none⟩ v1).setCell ⟨k, 2, none⟩ v2).setCell ⟨k, 3, none⟩ v3)) :
    Below k w W ∧ BoxT 28 W k #[v0, v1, v2, v3] := by
  subst hW
  refine ⟨?_, ?_⟩
  · exact ((((Below.refl k w).setCell (Nat.le_refl _) _).setCell (Nat.le_refl _) _).setCell (Nat.le_refl _) _).setCell (Nat.le_refl _) _
  · have h0 : BoxT 28 _ _ #[v0, a1, a2, a3] := hA.set 0 v0
    have h1 : BoxT 28 _ _ #[v0, v1, a2, a3] := h0.set 1 v1
    have h2 : BoxT 28 _ _ #[v0, v1, v2, a3] := h1.set 2 v2
    exact h2.set 3 v3
theorem RC.fin {R : Nat} {w0 w : World} {c0 c1 c2 c3 : Value} {s : List Nat × Bool} (h : RC R w0 w c0 c1 c2 c3 s) (v0 v1 v2 v3 : Value) (W : World)
    (hW : W = ((((w.setCell ⟨w0.heap.size, 0, none⟩ v0).setCell ⟨w0.heap.size, 1, none⟩ v1).setCell ⟨w0.heap.size, 2, none⟩ v2).setCell ⟨w0.heap.size, 3, none⟩ v3)) :
    RdS R W s ∧ w0.grownBy W (some R) ∧ BoxT 28 W w0.heap.size #[v0, v1, v2, v3] := by
  have hR := h.rl
  obtain ⟨a0, a1, a2, a3, hA⟩ := h.bA
  have hb := (fin4 hA v0 v1 v2 v3 W hW).2
  subst hW
  refine ⟨(((h.rd.set _ _ _ hR).set _ _ _ hR).set _ _ _ hR).set _ _ _ hR, ?_, hb⟩
  exact grown_set (grown_set (grown_set (grown_set h.gr _ _ _ (Nat.le_refl _)) _ _ _ (Nat.le_refl _)) _ _ _ (Nat.le_refl _)) _ _ _ (Nat.le_refl _)

set_option maxHeartbeats 1600000 in
set_option maxRecDepth 100000 in
theorem readControl_any {R : Nat} {w : World} {s : List Nat × Bool} (h : RdS R w s) :
    Calls Tryd.prog 48 #[.pointer (some ⟨R, 0, none⟩)] w fun e w' => e = .returned (rControl s).1.val ∧ RdS R w' (rControl s).2 ∧ w.grownBy w' (some R) := by
  have hb0 := num_lt (k := 1) h.2
  have hk1 : (num 1 s).1 < 256 := hb0
  have q := RC.start (a0 := .int .i64 0) (a1 := .int .u64 0) (a2 := .int .u64 0) (a3 := .int .i64 0) (c0 := .int .i64 0) (c1 := .int .u64 0) (c2 := .int .u64 0) (c3 := .int .i64 0) h
  unfold rControl Ctl.val Ctl.cs
  simp only
  have n0 := number_any (sz := 1) q.rd (by omega) (by omega)
  rw [show (1 : Int).toNat = 1 from rfl] at n0
  generalize num 1 s = p0 at *
  obtain ⟨kd, s0⟩ := p0
  simp only at *
  have N0 := n0
  clear n0 hb0
  have hw : wrap64 (kd : Int) = kd := by unfold wrap64; omega
  by_cases hkd : 1 ≤ kd ∧ kd ≤ 6
  · rw [if_pos hkd]
    have ed : decide (1 ≤ (kd : Int) ∧ (kd : Int) ≤ 6) = true := decide_eq_true (by omega)
    go_enter Tryd.func48, Tryd.ntmps48
    go_wp2_with fail
    refine N0.mono ?_
    rintro e w1 ⟨rfl, hr, hg⟩
    have q := q.call hr hg
    clear hr hg N0
    obtain ⟨c0, c1, c2, c3⟩ := q.bF.cells4
    have fr := q.bF.free
    have q := q.set0 (.int .i64 kd)
    go_wp2_with fail
    refine (number_any (sz := 8) q.rd (by omega) (by omega)).mono ?_
    rw [show (8 : Int).toNat = 8 from rfl]
    rintro e w2 ⟨rfl, hr, hg⟩
    have q := q.call hr hg
    clear hr hg c0 c1 c2 c3 fr
    obtain ⟨c0, c1, c2, c3⟩ := q.bF.cells4
    have fr := q.bF.free
    have q := q.set1 (.int .u64 ((num 8 s0).1 : Nat))
    go_wp2_with fail
    refine (number_any (sz := 8) q.rd (by omega) (by omega)).mono ?_
    rw [show (8 : Int).toNat = 8 from rfl]
    rintro e w3 ⟨rfl, hr, hg⟩
    have q := q.call hr hg
    clear hr hg c0 c1 c2 c3 fr
    obtain ⟨c0, c1, c2, c3⟩ := q.bF.cells4
    have fr := q.bF.free
    have q := q.set2 (.int .u64 ((num 8 (num 8 s0).2).1 : Nat))
    have ht : (num 2 (num 8 (num 8 s0).2).2).1 < 65536 := num_lt (k := 2) q.rd.2
    have hwt : wrap64 ((num 2 (num 8 (num 8 s0).2).2).1 : Int) = (num 2 (num 8 (num 8 s0).2).2).1 := by unfold wrap64; omega
    go_wp2_with fail
    refine (number_any (sz := 2) q.rd (by omega) (by omega)).mono ?_
    rw [show (2 : Int).toNat = 2 from rfl]
    rintro e w4 ⟨rfl, hr, hg⟩
    have q := q.call hr hg
    clear hr hg c0 c1 c2 c3 fr
    obtain ⟨c0, c1, c2, c3⟩ := q.bF.cells4
    have fr := q.bF.free
    have q := q.set3 (.int .i64 ((num 2 (num 8 (num 8 s0).2).2).1 : Nat))
    obtain ⟨e0, e1, e2, e3⟩ := q.bF.cells4
    obtain ⟨a0, a1, a2, a3, hA⟩ := q.bA
    obtain ⟨d0, d1, d2, d3⟩ := hA.cells4
    have fa := hA.free
    go_wp2_with fail
    refine (controlKind_any kd _).mono ?_
    rw [ed]
    rintro e w5 ⟨rfl, rfl⟩
    go_wp2
    obtain ⟨hrd, hgr, bx⟩ := q.fin (.int .i64 kd) (.int .u64 ((num 8 s0).1 : Nat)) (.int .u64 ((num 8 (num 8 s0).2).1 : Nat)) (.int .i64 ((num 2 (num 8 (num 8 s0).2).2).1 : Nat)) _ rfl
    obtain ⟨x0, x1, x2, x3⟩ := bx.cells4
    exact bodyPost_ret (v := .agg #[.int .i64 kd, .int .u64 ((num 8 s0).1 : Nat), .int .u64 ((num 8 (num 8 s0).2).1 : Nat), .int .i64 ((num 2 (num 8 (num 8 s0).2).2).1 : Nat)]) (by simp [results, Tryd.results48, go_sem, x0, x1, x2, x3]) rfl ⟨rfl, hrd, hgr⟩
  · rw [if_neg hkd]
    have ed : decide (1 ≤ (kd : Int) ∧ (kd : Int) ≤ 6) = false := decide_eq_false (by omega)
    go_enter Tryd.func48, Tryd.ntmps48
    go_wp2_with fail
    refine N0.mono ?_
    rintro e w1 ⟨rfl, hr, hg⟩
    have q := q.call hr hg
    clear hr hg N0
    obtain ⟨c0, c1, c2, c3⟩ := q.bF.cells4
    have fr := q.bF.free
    have q := q.set0 (.int .i64 kd)
    go_wp2_with fail
    refine (number_any (sz := 8) q.rd (by omega) (by omega)).mono ?_
    rw [show (8 : Int).toNat = 8 from rfl]
    rintro e w2 ⟨rfl, hr, hg⟩
    have q := q.call hr hg
    clear hr hg c0 c1 c2 c3 fr
    obtain ⟨c0, c1, c2, c3⟩ := q.bF.cells4
    have fr := q.bF.free
    have q := q.set1 (.int .u64 ((num 8 s0).1 : Nat))
    go_wp2_with fail
    refine (number_any (sz := 8) q.rd (by omega) (by omega)).mono ?_
    rw [show (8 : Int).toNat = 8 from rfl]
    rintro e w3 ⟨rfl, hr, hg⟩
    have q := q.call hr hg
    clear hr hg c0 c1 c2 c3 fr
    obtain ⟨c0, c1, c2, c3⟩ := q.bF.cells4
    have fr := q.bF.free
    have q := q.set2 (.int .u64 ((num 8 (num 8 s0).2).1 : Nat))
    have ht : (num 2 (num 8 (num 8 s0).2).2).1 < 65536 := num_lt (k := 2) q.rd.2
    have hwt : wrap64 ((num 2 (num 8 (num 8 s0).2).2).1 : Int) = (num 2 (num 8 (num 8 s0).2).2).1 := by unfold wrap64; omega
    go_wp2_with fail
    refine (number_any (sz := 2) q.rd (by omega) (by omega)).mono ?_
    rw [show (2 : Int).toNat = 2 from rfl]
    rintro e w4 ⟨rfl, hr, hg⟩
    have q := q.call hr hg
    clear hr hg c0 c1 c2 c3 fr
    obtain ⟨c0, c1, c2, c3⟩ := q.bF.cells4
    have fr := q.bF.free
    have q := q.set3 (.int .i64 ((num 2 (num 8 (num 8 s0).2).2).1 : Nat))
    obtain ⟨e0, e1, e2, e3⟩ := q.bF.cells4
    obtain ⟨a0, a1, a2, a3, hA⟩ := q.bA
    obtain ⟨d0, d1, d2, d3⟩ := hA.cells4
    have fa := hA.free
    go_wp2_with fail
    refine (controlKind_any kd _).mono ?_
    rw [ed]
    rintro e w5 ⟨rfl, rfl⟩
    obtain ⟨ao, cap, r0, r1, rf⟩ := q.rd.cells
    have q := q.bad
    clear e0 e1 e2 e3 d0 d1 d2 d3 fa hA c0 c1 c2
    obtain ⟨e0, e1, e2, e3⟩ := q.bF.cells4
    obtain ⟨a0, a1, a2, a3, hA⟩ := q.bA
    obtain ⟨d0, d1, d2, d3⟩ := hA.cells4
    have fa := hA.free
    go_wp2
    obtain ⟨hrd, hgr, bx⟩ := q.fin (.int .i64 kd) (.int .u64 ((num 8 s0).1 : Nat)) (.int .u64 ((num 8 (num 8 s0).2).1 : Nat)) (.int .i64 ((num 2 (num 8 (num 8 s0).2).2).1 : Nat)) _ rfl
    obtain ⟨x0, x1, x2, x3⟩ := bx.cells4
    exact bodyPost_ret (v := .agg #[.int .i64 kd, .int .u64 ((num 8 s0).1 : Nat), .int .u64 ((num 8 (num 8 s0).2).1 : Nat), .int .i64 ((num 2 (num 8 (num 8 s0).2).2).1 : Nat)]) (by simp [results, Tryd.results48, go_sem, x0, x1, x2, x3]) rfl ⟨rfl, hrd, hgr⟩

set_option maxHeartbeats 1600000 in
set_option maxRecDepth 100000 in
theorem readAllC_any (v : Value) (l : List Nat) (w : World) (h : Seg w v l) (hb : Byts l) :
    Calls Tryd.prog 47 #[v, .func (.func 48) #[] #[]] w fun e w' => e = .returned (.tuple (if done (rControl (l, false)).2 then #[(rControl (l, false)).1.val, .int .i64 0] else #[Ctl.zero.val, .int .i64 10])) ∧ Below w.heap.size w w' := by
  have hrf := fun o => readControl_any (RdS.start_at (k := w.heap.size + 1) (by simp) (h.alloc o) hb)
  obtain ⟨ao, cap, rfl, h2, h3, h3', h4⟩ := h
  generalize rControl (l, false) = p at *
  obtain ⟨⟨kd, ep, n, tk⟩, s1, bad⟩ := p
  simp only [Ctl.val, Ctl.cs, Ctl.zero] at *
  have HR := hrf
  clear h4 hrf
  cases bad
  · rcases s1 with _ | ⟨x, s1⟩
    · rw [show done ([], false) = true from rfl, if_pos rfl]
      go_enter Tryd.func47, Tryd.ntmps47
      go_wp2_with fail
      refine (HR _).mono ?_
      rintro e w1 ⟨rfl, hr, hg⟩
      clear HR
      obtain ⟨ao', cap', r0, r1, rf⟩ := hr.cells
      have bA := ((BoxT.new 28 w _).alloc (.cells #[.slice ao l.length cap, .bool false] 117) |>.grown hg (by omega)).alloc (.cells #[.int .i64 kd, .int .u64 ep, .int .u64 n, .int .i64 tk] 28)
      have hbel := Below.trans (((Below.refl w.heap.size w).alloc (Nat.le_refl _) _).alloc (by simp) _) (Below.of_grown hg (B := w.heap.size) (by omega) (by simp; omega))
      obtain ⟨d0, d1, d2, d3⟩ := bA.cells4
      have fa := bA.free
      have hz := hbel.size
      have hR := hr.lt
      clear hg
      go_wp2
      obtain ⟨hW, hx⟩ := fin4 bA (.int .i64 kd) (.int .u64 ep) (.int .u64 n) (.int .i64 tk) _ rfl
      obtain ⟨x0, x1, x2, x3⟩ := hx.cells4
      exact bodyPost_ret (v := .tuple #[.agg #[.int .i64 kd, .int .u64 ep, .int .u64 n, .int .i64 tk], .int .i64 0]) (by simp [results, Tryd.results47, go_sem, x0, x1, x2, x3]) rfl ⟨rfl, (hbel.alloc (by omega) _).trans hW⟩
    · rw [show done (x :: s1, false) = false from rfl, if_neg (by decide)]
      go_enter Tryd.func47, Tryd.ntmps47
      go_wp2_with fail
      refine (HR _).mono ?_
      rintro e w1 ⟨rfl, hr, hg⟩
      clear HR
      obtain ⟨ao', cap', r0, r1, rf⟩ := hr.cells
      have bA := (((BoxT.new 28 w _).alloc (.cells #[.slice ao l.length cap, .bool false] 117) |>.grown hg (by omega)).alloc (.cells #[.int .i64 kd, .int .u64 ep, .int .u64 n, .int .i64 tk] 28)).alloc (.cells #[.int .i64 0, .int .u64 0, .int .u64 0, .int .i64 0] 28)
      have hbel := Below.trans (((Below.refl w.heap.size w).alloc (Nat.le_refl _) _).alloc (by simp) _) (Below.of_grown hg (B := w.heap.size) (by omega) (by simp; omega))
      obtain ⟨d0, d1, d2, d3⟩ := bA.cells4
      have fa := bA.free
      have hz := hbel.size
      have hR := hr.lt
      have hpos : (0 : Int) < (s1.length : Int) + 1 := by omega
      clear hg
      go_wp2
      obtain ⟨hW, hx⟩ := fin4 bA (.int .i64 0) (.int .u64 0) (.int .u64 0) (.int .i64 0) _ rfl
      obtain ⟨x0, x1, x2, x3⟩ := hx.cells4
      exact bodyPost_ret (v := .tuple #[.agg #[.int .i64 0, .int .u64 0, .int .u64 0, .int .i64 0], .int .i64 10]) (by simp [results, Tryd.results47, go_sem, x0, x1, x2, x3]) rfl ⟨rfl, ((hbel.alloc (by omega) _).alloc (by simp; omega) _).trans hW⟩
  · rw [show done (s1, true) = false from rfl, if_neg (by decide)]
    go_enter Tryd.func47, Tryd.ntmps47
    go_wp2_with fail
    refine (HR _).mono ?_
    rintro e w1 ⟨rfl, hr, hg⟩
    clear HR
    obtain ⟨ao', cap', r0, r1, rf⟩ := hr.cells
    have bA := (((BoxT.new 28 w _).alloc (.cells #[.slice ao l.length cap, .bool false] 117) |>.grown hg (by omega)).alloc (.cells #[.int .i64 kd, .int .u64 ep, .int .u64 n, .int .i64 tk] 28)).alloc (.cells #[.int .i64 0, .int .u64 0, .int .u64 0, .int .i64 0] 28)
    have hbel := Below.trans (((Below.refl w.heap.size w).alloc (Nat.le_refl _) _).alloc (by simp) _) (Below.of_grown hg (B := w.heap.size) (by omega) (by simp; omega))
    obtain ⟨d0, d1, d2, d3⟩ := bA.cells4
    have fa := bA.free
    have hz := hbel.size
    have hR := hr.lt
    clear hg
    go_wp2
    obtain ⟨hW, hx⟩ := fin4 bA (.int .i64 0) (.int .u64 0) (.int .u64 0) (.int .i64 0) _ rfl
    obtain ⟨x0, x1, x2, x3⟩ := hx.cells4
    exact bodyPost_ret (v := .tuple #[.agg #[.int .i64 0, .int .u64 0, .int .u64 0, .int .i64 0], .int .i64 10]) (by simp [results, Tryd.results47, go_sem, x0, x1, x2, x3]) rfl ⟨rfl, ((hbel.alloc (by omega) _).alloc (by simp; omega) _).trans hW⟩

set_option maxHeartbeats 1600000 in
set_option maxRecDepth 100000 in
theorem OpenControl_any (v : Value) (l : List Nat) (w : World) (h : Seg w v l) (hb : Byts l) :
    Calls Tryd.prog 16 #[v] w fun e w' => e = .returned (.tuple (if done (rControl (l, false)).2 then #[(rControl (l, false)).1.val, .int .i64 0] else #[Ctl.zero.val, .int .i64 10])) ∧ Below w.heap.size w w' := by
  have hra := fun o => readAllC_any v l (w.alloc o) (h.alloc o) hb
  obtain ⟨f, er, hf⟩ : ∃ (f : Ctl) (er : Int), (if done (rControl (l, false)).2 then #[(rControl (l, false)).1.val, .int .i64 0] else #[Ctl.zero.val, .int .i64 10]) = #[f.val, Value.int .i64 er] := by
    split
    · exact ⟨_, _, rfl⟩
    · exact ⟨_, _, rfl⟩
  simp only [hf] at *
  have HR := hra
  clear hf hra
  obtain ⟨kd, ep, n, tk⟩ := f
  simp only [Ctl.val, Ctl.cs] at *
  go_enter Tryd.func16, Tryd.ntmps16
  go_wp2_with fail
  refine (HR _).mono ?_
  rintro e w1 ⟨rfl, hb1⟩
  clear HR
  have bA := (BoxT.new 28 w _).kept (base := 0) (Kept.of_below hb1) (by decide)
  obtain ⟨d0, d1, d2, d3⟩ := bA.cells4
  have fa := bA.free
  go_wp2
  obtain ⟨hW, hx⟩ := fin4 bA (.int .i64 kd) (.int .u64 ep) (.int .u64 n) (.int .i64 tk) _ rfl
  obtain ⟨x0, x1, x2, x3⟩ := hx.cells4
  exact bodyPost_ret (v := .tuple #[.agg #[.int .i64 kd, .int .u64 ep, .int .u64 n, .int .i64 tk], .int .i64 er]) (by simp [results, Tryd.results16, go_sem, x0, x1, x2, x3]) rfl ⟨rfl, (((Below.refl _ _).alloc (Nat.le_refl _) _).trans (hb1.mono (by simp))).trans hW⟩
end Go.Proofs.YtaajjejgjnlbgaaDoor
