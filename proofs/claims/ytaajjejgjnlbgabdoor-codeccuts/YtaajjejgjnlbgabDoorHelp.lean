/-
  Walks over the helps of the laws: lists of marks, of panes, of captured frames held against one another; parts.
-/
import Derived.Test.YtaajjejgjnlbgabDoorLists
import Derived.Test.YtaajjejgjnlbgabDoorSeg
import Derived.Test.YtaajjejgjnlbgabDoorFits
namespace Go.Proofs.YtaajjejgjnlbgabDoor
open Go.RowKit

def decPn : DecidableEq Pn := fun a b => decidable_of_iff (a.ke = b.ke ∧ a.fr = b.fr ∧ a.to = b.to ∧ a.ac = b.ac) (by cases a; cases b; simp)
def decFrm : DecidableEq Frm := fun a b => decidable_of_iff (a.kd = b.kd ∧ a.ke = b.ke ∧ a.ti = b.ti ∧ a.va = b.va ∧ a.ma = b.ma ∧ a.n = b.n ∧ a.ov = b.ov) (by cases a; cases b; simp)
def decOt : DecidableEq Ot := fun a b => decidable_of_iff (a.ch = b.ch ∧ a.f.kd = b.f.kd ∧ a.f.ke = b.f.ke ∧ a.f.ti = b.f.ti ∧ a.f.va = b.f.va ∧ a.f.ma = b.f.ma ∧ a.f.n = b.f.n ∧ a.f.ov = b.f.ov) (by cases a with | mk _ f => cases f; cases b with | mk _ g => cases g; simp)
theorem hideb {p : Prop} (h : p) : Hid p := h
theorem list_eq_any {α : Type} {a b : List α} {n : Nat} (ha : a.length = n) (hb : b.length = n) (h : ∀ i, i < n → a[i]? = b[i]?) : a = b := by
  apply List.ext_getElem?
  intro i
  by_cases hi : i < n
  · exact h i hi
  · rw [List.getElem?_eq_none (by omega), List.getElem?_eq_none (by omega)]

end Go.Proofs.YtaajjejgjnlbgabDoor
