/-
  Texts in build order: ZJRefWts.
-/
import Derived.Test.YtpcbhcdpegbfjaaGreatM37
/-
 The document's Weights: of a job in a row.
-/
namespace Go.Proofs.YtpcbhcdpegbfjaaGreat.J
open Go.RowKit
theorem wtsL_len (ns : List Nd) : ∀ (l ws : List Nat), (wtsL ns l ws).length = ws.length := by
 intro l
 induction l with
 | nil => intro ws; rfl
 | cons x r ih => intro ws; unfold wtsL at *; rw [List.foldl_cons, ih]; simp
theorem mul_cap {S m Q P : Nat} (hm : 1 ≤ m) (hQ : Q = min S 65) (hP : P = m * Q) : min P 65 = min (S * m) 65 := by
 subst hP
 by_cases h : S ≤ 65
 ·have : Q = S := by omega
  rw [this, Nat.mul_comm]
 ·have h1 : Q = 65 := by omega
  have h2 : S ≤ S * m := Nat.le_mul_of_pos_right S hm
  have h3 : 65 ≤ m * 65 := Nat.le_mul_of_pos_left 65 hm
  rw [h1]
  omega
theorem div_up {ws wl : Int} (h : 1 ≤ wl) : (ws + wl - 1) / wl = (ws - 1) / wl + 1 := by
 have := Int.add_mul_ediv_right (ws - 1) 1 (c := wl) (by omega)
 rw [Int.one_mul] at this
 rw [← this]
 congr 1
 omega
end Go.Proofs.YtpcbhcdpegbfjaaGreat.J
