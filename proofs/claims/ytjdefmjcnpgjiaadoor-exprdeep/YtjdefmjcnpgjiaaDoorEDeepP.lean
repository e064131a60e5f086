/-
  ExprDeep: what its two trees come to. No walk in it.
-/
import Derived.Test.YtjdefmjcnpgjiaaDoorECheck
import Derived.Test.YtjdefmjcnpgjiaaDoorEKnown
namespace Go.Proofs.YtjdefmjcnpgjiaaDoor
open Go.RowKit

theorem places_len (e : Ex) : (places e).length + 1 = size e := by
  refine Ex.ind (P := fun e => (places e).length + 1 = size e) ?_ e
  intro op n a c l ih
  have h0 : (places ⟨op, n, a, c, l⟩).length = l.length + (l.map fun x => (places x).length).sum := by
    unfold places
    rw [Ex.sub_eq, List.flatMap_cons, List.length_append, List.length_map, List.length_range]
    simp only
    congr 1
    clear ih
    induction l with
    | nil => rfl
    | cons x r ih => rw [List.flatMap_cons, List.flatMap_append, List.length_append, ih, List.map_cons, List.sum_cons]
  rw [h0, size_mk]
  have h1 : l.length + (l.map fun x => (places x).length).sum = (l.map size).sum := by
    clear h0
    induction l with
    | nil => rfl
    | cons x r ihr =>
      have h2 := ih x (by simp)
      have h3 := ihr fun y hy => ih y (by simp [hy])
      rw [List.map_cons, List.map_cons, List.sum_cons, List.sum_cons, List.length_cons]
      omega
  omega
/-- Well formed, so deep, so large. -/
structure Sh (d s : Nat) (e : Ex) : Prop where
  f : formed e = true
  d : dep e = d
  s : size e = s
theorem Sh.leaf4 : Sh 1 1 (leaf 4 0) := ⟨by simp [leaf, formed_mk, snd1, ari], by simp [leaf, dep_mk], by simp [leaf, size_mk]⟩
theorem Sh.leaf1 : Sh 1 1 (leaf 1 1) := ⟨by simp [leaf, formed_mk, snd1, ari], by simp [leaf, dep_mk], by simp [leaf, size_mk]⟩
theorem Sh.two {op : Int} {g d s d' s' : Nat} {a b : Ex} (hop : ari op = 2) (ha : Sh d s a) (hb : Sh d' s' b) : Sh (1 + max d d') (1 + (s + s')) (mk2 op g a b) := by
  refine ⟨?_, ?_, ?_⟩
  · simp [mk2, formed_mk, snd1, hop, ha.f, hb.f]
  · simp [mk2, dep_mk, ha.d, hb.d]
  · simp [mk2, size_mk, ha.s, hb.s]
theorem Sh.chk {d s : Nat} {e : Ex} (h : Sh d s e) : chk e = if 32 < s ∨ 8 < d then 71 else 0 := by
  unfold YtjdefmjcnpgjiaaDoor.chk
  rw [h.f, h.d, h.s]
  simp
theorem Sh.small {d s : Nat} {e : Ex} (h : Sh d s e) (hs : s ≤ 100000) : (places e).length ≤ 100000 := by
  have := places_len e
  rw [h.s] at this
  omega
end Go.Proofs.YtjdefmjcnpgjiaaDoor
