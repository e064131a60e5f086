/-
  Walks over package codec's readers of snapshots: panes and captured frames.
-/
import Derived.Test.YtaajjejgjnlbgaaDoorLists
import Derived.Test.YtaajjejgjnlbgaaDoorOpenMan
namespace Go.Proofs.YtaajjejgjnlbgaaDoor
open Go.RowKit

/-- In the midst of a reader that fills a box of type t: its own box is the second that it made, the result's the first. -/
structure RB (t n R : Nat) (w0 w : World) (cs : Array Value) (s : List Nat × Bool) : Prop where
  rd : RdS R w s
  bF : BoxT t w (w0.heap.size + 1) cs
  bA : ∃ ca : Array Value, ca.size = n ∧ BoxT t w w0.heap.size ca
  gr : w0.grownBy w (some R)
  rl : R < w0.heap.size
section
variable {t n R : Nat} {w0 w w' : World} {cs : Array Value} {s s' : List Nat × Bool}
theorem RB.call (h : RB t n R w0 w cs s) (hr : RdS R w' s') (hg : w.grownBy w' (some R)) : RB t n R w0 w' cs s' := by
  have := h.rl
  obtain ⟨ca, hn, hA⟩ := h.bA
  exact ⟨hr, h.bF.grown hg (by omega), ⟨ca, hn, hA.grown hg (by omega)⟩, grownBy_trans h.gr hg, h.rl⟩
theorem RB.set (h : RB t n R w0 w cs s) (j : Nat) (u : Value) : RB t n R w0 (w.setCell ⟨w0.heap.size + 1, j, none⟩ u) (cs.setIfInBounds j u) s := by
  have := h.rl
  obtain ⟨ca, hn, hA⟩ := h.bA
  exact ⟨h.rd.set _ _ _ (by omega), h.bF.set j u, ⟨ca, hn, hA.other _ _ (by omega)⟩, grown_set h.gr _ _ _ (by omega), h.rl⟩
theorem RB.start {ca : Array Value} (hn : ca.size = n) (hr : RdS R w0 s) : RB t n R w0 ((w0.alloc (.cells ca t)).alloc (.cells cs t)) cs s :=
  ⟨(hr.alloc _).alloc _, BoxT.new_at (by simp), ⟨ca, hn, (BoxT.new t w0 _).alloc _⟩, grown_alloc (grownBy_alloc' _ _ _) _, hr.lt⟩
end
/-- So many cells stored one after another. -/
def setAll (w : World) (k j : Nat) : List Value → World
  | [] => w
  | v :: vs => setAll (w.setCell ⟨k, j, none⟩ v) k (j + 1) vs
def setL (ca : Array Value) (j : Nat) : List Value → Array Value
  | [] => ca
  | v :: vs => setL (ca.setIfInBounds j v) (j + 1) vs
theorem BoxT.setAll {t k : Nat} (vs : List Value) : ∀ {w : World} {ca : Array Value} {j : Nat}, BoxT t w k ca → BoxT t (setAll w k j vs) k (setL ca j vs) := by
  induction vs with
  | nil => intro w ca j h; exact h
  | cons v vs ih => intro w ca j h; exact ih (h.set j v)
theorem RdS.setAll {R k : Nat} {s : List Nat × Bool} (hk : R < k) (vs : List Value) : ∀ {w : World} {j : Nat}, RdS R w s → RdS R (setAll w k j vs) s := by
  induction vs with
  | nil => intro w j h; exact h
  | cons v vs ih => intro w j h; exact ih (h.set k j v hk)
theorem grown_setAll {a : World} {r : Option Nat} {k : Nat} (hk : a.heap.size ≤ k) (vs : List Value) : ∀ {w : World} {j : Nat}, a.grownBy w r → a.grownBy (setAll w k j vs) r := by
  induction vs with
  | nil => intro w j h; exact h
  | cons v vs ih => intro w j h; exact ih (grown_set h k j v hk)
theorem arr4 {ca : Array Value} (h : ca.size = 4) : ∃ a0 a1 a2 a3, ca = #[a0, a1, a2, a3] := by
  obtain ⟨l⟩ := ca
  match l, h with
  | [a0, a1, a2, a3], _ => exact ⟨a0, a1, a2, a3, rfl⟩
theorem arr8 {ca : Array Value} (h : ca.size = 8) : ∃ a0 a1 a2 a3 a4 a5 a6 a7, ca = #[a0, a1, a2, a3, a4, a5, a6, a7] := by
  obtain ⟨l⟩ := ca
  match l, h with
  | [a0, a1, a2, a3, a4, a5, a6, a7], _ => exact ⟨a0, a1, a2, a3, a4, a5, a6, a7, rfl⟩

/-- What readPane reads. -/
def rPane (s : List Nat × Bool) : Pn × (List Nat × Bool) :=
  (⟨i64of (num 8 s).1, i64of (num 8 (num 8 s).2).1, i64of (num 8 (num 8 (num 8 s).2).2).1, i64of (num 8 (num 8 (num 8 (num 8 s).2).2).2).1⟩, (num 8 (num 8 (num 8 (num 8 s).2).2).2).2)

set_option maxHeartbeats 2000000 in
set_option maxRecDepth 100000 in
theorem readPane_any {R : Nat} {w : World} {s : List Nat × Bool} (h : RdS R w s) :
    Calls Tryd.prog 81 #[.pointer (some ⟨R, 0, none⟩)] w fun e w' => e = .returned (.agg (rPane s).1.cs.toArray) ∧ RdS R w' (rPane s).2 ∧ w.grownBy w' (some R) := by
  have hR := h.lt
  have q := fun (ca cs : Array Value) (hn : ca.size = 4) => RB.start (t := 100) (n := 4) (cs := cs) hn h
  unfold rPane
  have q := q #[.int .i64 0, .int .i64 0, .int .i64 0, .int .i64 0] #[.int .i64 0, .int .i64 0, .int .i64 0, .int .i64 0] rfl
  go_enter Tryd.func81, Tryd.ntmps81
  go_wp2_with fail
  refine (readSigned_any q.rd).mono ?_
  rintro e w1 ⟨rfl, hr, hg⟩
  have q := q.call hr hg
  obtain ⟨c0, c1, c2, c3⟩ := q.bF.cells4
  have fr := q.bF.free
  have q := q.set 0 (.int .i64 (i64of (num 8 s).1))
  clear hg hr
  go_wp2_with fail
  refine (readSigned_any q.rd).mono ?_
  rintro e w2 ⟨rfl, hr, hg⟩
  have q := q.call hr hg
  clear c0 c1 c2 c3 fr
  obtain ⟨c0, c1, c2, c3⟩ := q.bF.cells4
  have fr := q.bF.free
  have q := q.set 1 (.int .i64 (i64of (num 8 (num 8 s).2).1))
  clear hg hr
  go_wp2_with fail
  refine (readSigned_any q.rd).mono ?_
  rintro e w3 ⟨rfl, hr, hg⟩
  have q := q.call hr hg
  clear c0 c1 c2 c3 fr
  obtain ⟨c0, c1, c2, c3⟩ := q.bF.cells4
  have fr := q.bF.free
  have q := q.set 2 (.int .i64 (i64of (num 8 (num 8 (num 8 s).2).2).1))
  clear hg hr
  go_wp2_with fail
  refine (readSigned_any q.rd).mono ?_
  rintro e w4 ⟨rfl, hr, hg⟩
  have q := q.call hr hg
  clear c0 c1 c2 c3 fr
  obtain ⟨c0, c1, c2, c3⟩ := q.bF.cells4
  have fr := q.bF.free
  have q := q.set 3 (.int .i64 (i64of (num 8 (num 8 (num 8 (num 8 s).2).2).2).1))
  clear c0 c1 c2
  obtain ⟨e0, e1, e2, e3⟩ := q.bF.cells4
  obtain ⟨ca, hca, bA⟩ := q.bA
  obtain ⟨a0, a1, a2, a3, rfl⟩ := arr4 hca
  obtain ⟨d0, d1, d2, d3⟩ := bA.cells4
  have fa := bA.free
  clear hg hr
  go_wp2
  have bx := bA.setAll (j := 0) (rPane s).1.cs
  have hrd := q.rd.setAll hR (j := 0) (rPane s).1.cs
  have hgr := grown_setAll (Nat.le_refl _) (j := 0) (rPane s).1.cs q.gr
  simp only [setAll, rPane, Pn.cs, Nat.reduceAdd] at bx hrd hgr
  obtain ⟨x0, x1, x2, x3⟩ := BoxT.cells4 bx
  exact bodyPost_ret (v := .agg (rPane s).1.cs.toArray) (by simp [results, Tryd.results81, go_sem, x0, x1, x2, x3, rPane, Pn.cs]) rfl ⟨rfl, hrd, hgr⟩

end Go.Proofs.YtaajjejgjnlbgaaDoor
