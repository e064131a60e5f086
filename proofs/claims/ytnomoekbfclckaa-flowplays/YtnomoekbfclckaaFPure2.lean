/-
  What stays small while a channel works, and that it comes on.
-/
import Derived.Test.YtnomoekbfclckaaFPure
namespace Go.Proofs.Ytnomoekbfclckaa

section
variable {α : Type} {cr n : Nat} {S : FS α}
/-- At most 64 things move; the numbers are at most n + 1. -/
def Nb (n : Nat) (S : FS α) : Prop := S.mov.length ≤ 64 ∧ (0 ≤ S.s ∧ S.s ≤ n + 1) ∧ 0 ≤ S.r ∧ S.r ≤ n + 1
theorem Nb.mono {m : Nat} (h : Nb n S) (hm : n ≤ m) : Nb m S := by unfold Nb at *; omega
theorem Nb.new (e : Int) : Nb 0 (pNew e : FS α) := by simp [Nb, pNew]
theorem Nb.offer (h : Nb n S) (x : α) : Nb n (pOffer S x) := h
theorem Nb.send (h : Nb n S) (hcr : cr ≤ 64) : Nb (n + 1) (pSend cr S).1 := by
  rcases send_cases cr S with ⟨e, _⟩ | ⟨x, B, h1, h2, e⟩
  · rw [e]; exact h.mono (by omega)
  · rw [e]
    unfold pCr at h2
    unfold Nb at *
    simp only [List.length_append, List.length_singleton]
    omega
theorem arr_cases (cr : Nat) (S : FS α) (e q : Int) (x : α) : ((pArr cr S e q x).1 = S) ∨ ((pArr cr S e q x) = ({ S with wait := S.wait ++ [x], r := S.r + 1, mo := max S.mo ((S.wait.length : Int) + 1) }, 0) ∧ S.wait.length < cr) := by
  unfold pArr
  split
  · exact .inl rfl
  · split
    · exact .inl rfl
    · refine .inr ⟨rfl, ?_⟩
      omega
theorem Nb.arr (h : Nb n S) (e q : Int) (x : α) : Nb (n + 1) (pArr cr S e q x).1 := by
  rcases arr_cases cr S e q x with h1 | ⟨h1, _⟩
  · rw [h1]; exact h.mono (by omega)
  · rw [h1]
    unfold Nb at *
    simp only
    omega
theorem Nb.del (h : Nb n S) : Nb (n + 1) (pDel cr S).1 := by
  cases hM : S.mov with
  | nil => rw [del_nil hM]; exact h.mono (by omega)
  | cons p M =>
    have e : pDel cr S = pArr cr { S with mov := M } S.e p.1 p.2 := by unfold pDel; rw [hM]
    rw [e]
    refine Nb.arr ?_ _ _ _
    unfold Nb at *
    rw [hM] at h
    simp only [List.length_cons] at h ⊢
    omega
theorem Nb.take (h : Nb n S) : Nb n (pTake S) := h
theorem Nb.drain (h : Nb n S) : Nb n (pDrain S) := by unfold Nb pDrain at *; simp only [List.length_nil]; omega
theorem Nb.kill (S : FS α) (e : Int) : Nb n (pKill S e) := by unfold Nb pKill; simp only [List.length_nil]; omega
theorem back_send : (pSend cr S).1.back.length ≤ S.back.length := by
  rcases send_cases cr S with ⟨e, _⟩ | ⟨x, B, h1, h2, e⟩
  · rw [e]; exact Nat.le_refl _
  · rw [e, h1]; simp
theorem back_arr {e q : Int} {x : α} : (pArr cr S e q x).1.back = S.back := by
  rcases arr_cases cr S e q x with h1 | ⟨h1, _⟩ <;> rw [h1]
theorem back_del : (pDel cr S).1.back = S.back := by
  cases hM : S.mov with
  | nil => rw [del_nil hM]
  | cons p M =>
    have e : pDel cr S = pArr cr { S with mov := M } S.e p.1 p.2 := by unfold pDel; rw [hM]
    rw [e, back_arr]
theorem ep_send : (pSend cr S).1.e = S.e := by
  rcases send_cases cr S with ⟨e, _⟩ | ⟨x, B, h1, h2, e⟩ <;> rw [e]
theorem ep_arr {e q : Int} {x : α} : (pArr cr S e q x).1.e = S.e := by
  rcases arr_cases cr S e q x with h1 | ⟨h1, _⟩ <;> rw [h1]
theorem ep_del : (pDel cr S).1.e = S.e := by
  cases hM : S.mov with
  | nil => rw [del_nil hM]
  | cons p M =>
    have e : pDel cr S = pArr cr { S with mov := M } S.e p.1 p.2 := by unfold pDel; rw [hM]
    rw [e, ep_arr]
/-- As long as anything is there, one Send and one Deliver leave something to take. -/
theorem comes (h : Ord cr S) (h1 : 1 ≤ cr) (hne : pAll S ≠ []) : (pDel cr (pSend cr S).1).1.wait ≠ [] := by
  obtain ⟨o1, a1⟩ := h.send
  have w1 : (pSend cr S).1.wait = S.wait := by
    rcases send_cases cr S with ⟨e, _⟩ | ⟨x, B, _, _, e⟩ <;> rw [e]
  cases hM : (pSend cr S).1.mov with
  | cons p M =>
    rw [(o1.del hM).1]
    simp
  | nil =>
    rw [del_nil hM, w1]
    intro hw
    rcases send_cases cr S with ⟨e, he⟩ | ⟨x, B, e1, e2, e⟩
    · rw [e] at hM
      simp only at hM
      rcases he with he | he
      · unfold pCr at he
        rw [hM, hw] at he
        simp at he
        omega
      · exact hne (by simp [pAll, hw, hM, he])
    · rw [e] at hM
      simp at hM
end
end Go.Proofs.Ytnomoekbfclckaa
