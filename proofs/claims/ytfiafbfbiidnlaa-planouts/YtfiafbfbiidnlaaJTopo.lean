/-
  The order that Order tells: each node once, behind all its inputs. No program in it.
-/
import Derived.Test.YtfiafbfbiidnlaaJWeighW
namespace Go.Proofs.Ytfiafbfbiidnlaa
open Go.RowKit

/-- The nodes l come one by one, each one new, and behind all its inputs. -/
def Topo (inss : List (List Int)) : List Bool → List Nat → Prop
  | _, [] => True
  | pl, i :: r => (pl[i]? = some false ∧ ∃ is : List Int, inss[i]? = some is ∧ ∀ y ∈ is, 0 ≤ y ∧ pl[y.toNat]? = some true) ∧ Topo inss (pl.set i true) r
theorem ordP_topo {inss : List (List Int)} (f : Nat) : ∀ {pl : List Bool} {s : LS}, Inv inss pl s.1 s.2.1 s.2.2 [] → Topo inss pl (ordP inss f pl s) := by
  induction f with
  | zero => intro pl s _; exact trivial
  | succ f ih =>
    intro pl s h
    by_cases hr : s.2.2 = []
    · rw [ordP_nil hr]; exact trivial
    · have hp : popL s.2.2 ≠ [] := by
        intro e
        have := popL_len s.2.2
        rw [e] at this
        exact hr (List.length_eq_zero_iff.1 this.symm)
      have hpl : popL s.2.2 = (popL s.2.2).dropLast ++ [(popL s.2.2).getLast hp] := (List.dropLast_concat_getLast hp).symm
      obtain ⟨r, i, hri⟩ : ∃ r i, popL s.2.2 = r ++ [i] := ⟨_, _, hpl⟩
      have hperm : s.2.2.Perm (r ++ [i]) := by rw [← hri]; exact (popL_perm hr).symm
      obtain ⟨hpi, is, his, hps⟩ := h.rr i (hperm.mem_iff.2 (by simp))
      have hil : i < inss.length := by rw [← h.l1]; exact lt_of_get hpi
      obtain ⟨b, hb⟩ := get_of_lt (l := s.2.1) (i := i) (by rw [h.l3]; exact hil)
      rw [ordP_cons hr hri]
      refine ⟨⟨hpi, is, his, fun y hy => ?_⟩, ?_⟩
      · obtain ⟨k, hk⟩ := List.getElem?_of_mem hy
        exact (h.pf i is _ his hps).2 k y (lt_of_get hk) hk
      · have h2 := Inv.looks (s := (s.1, s.2.1, r)) (rest := []) b (by rw [List.append_nil]; exact h.take hperm hb)
        rw [getD_of hb]
        exact ih h2
theorem ordC_topo (inss : List (List Int)) : Topo inss (List.replicate inss.length false) (ordC inss) := ordP_topo _ (Inv.begun inss)
theorem Topo.len {inss : List (List Int)} : ∀ {l : List Nat} {pl : List Bool}, Topo inss pl l → l.length ≤ left pl
  | [], _, _ => by simp
  | i :: r, pl, h => by
    have h1 := Topo.len h.2
    have h2 := left_set h.1.1
    rw [List.length_cons]
    omega
theorem ordC_le (inss : List (List Int)) : (ordC inss).length ≤ inss.length := by
  have := (ordC_topo inss).len
  rwa [left_all] at this
end Go.Proofs.Ytfiafbfbiidnlaa
