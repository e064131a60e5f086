/-
  Texts in build order: ZJRefNode.
-/
import Derived.Test.YtpcbhcdpegbfjaaGreatM27
/-
 The document's node: of nodes that have no fault.
-/
namespace Go.Proofs.YtpcbhcdpegbfjaaGreat.J
open Go.RowKit
def Shp (n : Nd) : Prop :=
 n.e = e0 ∧ n.par = 1 ∧
  ((n.kind = 1 ∧ n.ins.length = 0 ∧ n.agg = 0 ∧ n.wk = 0 ∧ n.ws = 0 ∧ n.wl = 0) ∨ (n.kind = 5 ∧ (1 ≤ n.ins.length ∧ n.ins.length ≤ 4) ∧ n.agg = 0 ∧ n.wk = 0 ∧ n.ws = 0 ∧ n.wl = 0) ∨
   (n.kind = 6 ∧ n.ins.length = 1 ∧ n.agg = 4 ∧ n.wk = 0 ∧ n.ws = 0 ∧ n.wl = 0) ∨ (n.kind = 7 ∧ n.ins.length = 1 ∧ n.agg = 1 ∧ n.wk = 2 ∧ (1 ≤ n.ws ∧ n.ws ≤ 7) ∧ (1 ≤ n.wl ∧ n.wl ≤ 4)) ∨ (n.kind = 8 ∧ n.ins.length = 1 ∧ n.agg = 0 ∧ n.wk = 0 ∧ n.ws = 0 ∧ n.wl = 0))
def InOk (ns : List Nd) (n : Nd) : Prop := ∀ x ∈ n.ins, ∃ (f : Nat) (m : Nd), x = (f : Int) ∧ ns[f]? = some m ∧ m.kind ≠ 8
end Go.Proofs.YtpcbhcdpegbfjaaGreat.J
