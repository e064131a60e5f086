/-
  What a range over slices.Backward keeps of the blocks that it reads.
-/
import Derived.RangeFuncNested
import Derived.RangeFuncBound
import Derived.RangeFuncCalls
import Derived.RangeFuncLeaves
import Derived.Shelf.Abstract
import Derived.Shelf.RegionOpen
import Derived.OwnWalkIn
import Derived.TacticsInMore
import Derived.LoopNIn
import Derived.LoopIn
import Derived.Test.YtnomoekbfclckaaNPair
namespace Go.Proofs.Ytnomoekbfclckaa
open Go.RowKit Go.Shelf
attribute [local go_sem] Oper.semAt_some

/-- The blocks b and g lie as they lay. -/
def Kept2 (b g : Nat) (A B : World) : Prop := B.heap[b]? = A.heap[b]? ∧ B.heap[g]? = A.heap[g]?
theorem Kept2.refl (b g : Nat) (A : World) : Kept2 b g A A := ⟨rfl, rfl⟩
theorem Kept2.trans {b g : Nat} {A B C : World} (h : Kept2 b g A B) (k : Kept2 b g B C) : Kept2 b g A C := ⟨k.1.trans h.1, k.2.trans h.2⟩
theorem BoxT.kept1 {t b g : Nat} {A B : World} {cs : Array Value} (h : BoxT t A b cs) (k : Kept2 b g A B) : BoxT t B b cs := by unfold BoxT at *; rw [k.1]; exact h
theorem BoxT.kept2 {t b g : Nat} {A B : World} {cs : Array Value} (h : BoxT t A g cs) (k : Kept2 b g A B) : BoxT t B g cs := by unfold BoxT at *; rw [k.2]; exact h
theorem BoxT.grown1 {t b : Nat} {A B : World} {cs : Array Value} {row : Option Nat} (h : BoxT t A b cs) (hg : A.grownBy B row) (hr : ∀ r, row = some r → ∃ o : Obj, A.heap[r]? = some o ∧ o.isCells = false) : BoxT t B b cs := by
  have hl := h.lt
  unfold BoxT at *
  rw [hg.block b hl (fun e => by obtain ⟨o, ho, hc⟩ := hr b e.symm; rw [h] at ho; cases ho; cases hc)]; exact h

/-- What a call that turns a ring's two blocks keeps. -/
theorem R2.keeps {β : Type} {T E : Nat} {f : β → Value} {W W' : World} {k b mo : Nat} {q : List (Int × β)} (H : R2 T E f W k b mo q) (ht : Turned k b W W') : KeepsOthers W W' := by
  obtain ⟨L, h, so, H⟩ := H
  refine ⟨ht.size, fun i o hi ho => ?_⟩
  have hlt := (Array.getElem?_eq_some_iff.1 hi).1
  have hk : i ≠ k := fun e => by subst e; have := H.box; unfold BoxT at this; rw [this] at hi; cases hi; cases ho
  have hb : i ≠ b := fun e => by
    subst e
    rcases H.pl with ⟨_, _, _, e⟩ | ⟨_, _, _, cur, hc, _⟩
    · exact hk e
    · unfold BoxT at hc; rw [hc] at hi; cases hi; cases ho
  rw [ht.block i hlt hk hb]; exact hi
theorem R2.own {β : Type} {T E : Nat} {f : β → Value} {A B : World} {k b mo : Nat} {q : List (Int × β)} {row : Option Nat} (H : R2 T E f A k b mo q) (hg : A.grownBy B row) (hr : ∀ r, row = some r → ∃ o : Obj, A.heap[r]? = some o ∧ o.isCells = false) : R2 T E f B k b mo q := by
  obtain ⟨L, h, so, H⟩ := H
  refine ⟨L, h, so, H.box.grown1 hg hr, H.le, H.big, ?_⟩
  rcases H.pl with p | ⟨p1, p2, p3, cur, p4, p5⟩
  · exact .inl p
  · exact .inr ⟨p1, p2, p3, cur, p4.grown1 hg hr, p5⟩
end Go.Proofs.Ytnomoekbfclckaa
