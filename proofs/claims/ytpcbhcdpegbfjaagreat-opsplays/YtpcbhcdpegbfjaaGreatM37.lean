/-
  Texts in build order: ZJRefLight, ZJTopo.
-/
import Derived.Test.YtpcbhcdpegbfjaaGreatM28
import Derived.Test.YtpcbhcdpegbfjaaGreatM22
/-
 The document's light: of a job in a row.
-/
namespace Go.Proofs.YtpcbhcdpegbfjaaGreat.J
open Go.RowKit
structure InRow (ns : List Nd) : Prop where
 l1 : 1 ≤ ns.length
 l2 : ns.length ≤ 12
 shp : ∀ n ∈ ns, Shp n
 ok : ∀ n ∈ ns, InOk ns n
 ch : Chain (ns.map Nd.ins)
theorem InRow.ordR {ns : List Nd} (h : InRow ns) : Go.Proofs.YtpcbhcdpegbfjaaGreat.J.ordR (ns.map Nd.ins) (ns.length + 1) (List.replicate ns.length false) = List.range ns.length := by
 have := ordR_chain h.ch ns.length 0 (ns.length + 1) (by simp) (by omega)
 rw [List.length_map, upTo_zero] at this
 rw [this, List.range_eq_range']
end Go.Proofs.YtpcbhcdpegbfjaaGreat.J
/-
 The order that Order tells: each node once, behind all its inputs. No program in it.
-/
namespace Go.Proofs.YtpcbhcdpegbfjaaGreat.J
open Go.RowKit
def Topo (inss : List (List Int)) : List Bool → List Nat → Prop
 | _, [] => True
 | pl, i :: r => (pl[i]? = some false ∧ ∃ is : List Int, inss[i]? = some is ∧ ∀ y ∈ is, 0 ≤ y ∧ pl[y.toNat]? = some true) ∧ Topo inss (pl.set i true) r
theorem Topo.len {inss : List (List Int)} : ∀ {l : List Nat} {pl : List Bool}, Topo inss pl l → l.length ≤ left pl
 | [], _, _ => by simp
 | i :: r, pl, h => by
  have h1 := Topo.len h.2
  have h2 := left_set h.1.1
  rw [List.length_cons]
  omega
end Go.Proofs.YtpcbhcdpegbfjaaGreat.J
