/-
  Texts in build order: ZJChk, ZJWt, ZJWgt.
-/
import Derived.Test.YtpcbhcdpegbfjaaGreatM18
/-
  One node is checked.
-/
namespace Go.Proofs.YtpcbhcdpegbfjaaGreat.J
open Go.RowKit

def cntOk (k : Int) (m : Nat) : Bool := if k = 1 then decide (m = 0) else if k = 5 then decide (1 ≤ m ∧ m ≤ 4) else decide (m = 1)
def okIn (ks : List Int) (x : Int) : Bool := decide (0 ≤ x ∧ x < (ks.length : Int)) && decide (ks.getD x.toNat 0 ≠ 8)
def inB (ks : List Int) (k : Int) (ins : List Int) : Bool := cntOk k ins.length && ins.all (okIn ks)
end Go.Proofs.YtpcbhcdpegbfjaaGreat.J
/-
  checkNode; weight.
-/
namespace Go.Proofs.YtpcbhcdpegbfjaaGreat.J
open Go.RowKit

theorem ret_int {k : IntKind} {a b : Int} (h : a = b) : Ending.returned (.int k a) = .returned (.int k b) := by rw [h]
/-- What checkNode tells of a node; c: what Check tells of its expression. -/
def ckN (ks : List Int) (n : Nd) (c : Int) : Int :=
  if n.kind < 1 ∨ 8 < n.kind then 81 else if inB ks n.kind n.ins = false then 82 else if n.par < 1 ∨ 4 < n.par then 84 else if exB n.kind n.e.op n.e.n n.e.l.length c = false then 85 else if aggB n.kind n.agg = false then 86 else if winB n.kind n.wk n.ws n.wl = false then 87 else 0
theorem BoxT.cells10 {t : TypeId} {w : World} {k : Nat} {c0 c1 c2 c3 c4 c5 c6 c7 c8 c9 : Value} (h : BoxT t w k #[c0, c1, c2, c3, c4, c5, c6, c7, c8, c9]) :
    w.cell? ⟨k, 0, none⟩ = some c0 ∧ w.cell? ⟨k, 1, none⟩ = some c1 ∧ w.cell? ⟨k, 2, none⟩ = some c2 ∧ w.cell? ⟨k, 3, none⟩ = some c3 ∧ w.cell? ⟨k, 4, none⟩ = some c4 ∧ w.cell? ⟨k, 5, none⟩ = some c5 ∧ w.cell? ⟨k, 6, none⟩ = some c6 ∧ w.cell? ⟨k, 7, none⟩ = some c7 ∧ w.cell? ⟨k, 8, none⟩ = some c8 ∧ w.cell? ⟨k, 9, none⟩ = some c9 := by
  unfold BoxT at h
  simp [World.cell?, h]
theorem BoxT.below {t : TypeId} {w w' : World} {k : Nat} {cs : Array Value} (h : BoxT t w k cs) (hb : Below w.heap.size w w') : BoxT t w' k cs := by
  have := hb.block k h.lt
  unfold BoxT at *
  rw [this]; exact h

end Go.Proofs.YtpcbhcdpegbfjaaGreat.J
/-
  weight.
-/
namespace Go.Proofs.YtpcbhcdpegbfjaaGreat.J
open Go.RowKit

/-- By how much a window that slides multiplies. -/
def mulN (n : Nd) : Nat := if n.kind = 7 ∧ n.wk = 2 then ((n.ws + n.wl - 1) / n.wl).toNat else 1
def sumN (ins : List Int) (ws : List Nat) : Nat := (ins.map fun x => ws.getD x.toNat 0).sum
def wt1 (n : Nd) (ws : List Nat) : Nat := if n.kind = 1 then 1 else min (sumN n.ins ws * mulN n) 65
theorem sumN_take {ins : List Int} {ws : List Nat} {t : Nat} {x : Int} (hx : ins[t]? = some x) : sumN (ins.take (t + 1)) ws = sumN (ins.take t) ws + ws.getD x.toNat 0 := by
  have hl := lt_of_get hx
  rw [List.getElem?_eq_getElem hl] at hx
  cases hx
  unfold sumN
  rw [List.take_succ_eq_append_getElem hl, List.map_append, List.sum_append]
  simp
end Go.Proofs.YtpcbhcdpegbfjaaGreat.J
