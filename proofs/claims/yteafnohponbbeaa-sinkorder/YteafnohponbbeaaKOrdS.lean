/-
  SinkOrder: where it starts.
-/
import Derived.Test.YteafnohponbbeaaKOrd
import Derived.Test.YteafnohponbbeaaKKnown
namespace Go.Proofs.Yteafnohponbbeaa
open Go.RowKit

/-- The rows of SinkOrder: three of staged, and want. -/
def rws (v0 v1 v2 wv : Value) (S : Int → List Rc) (O : List Rc) : List Rw := [(v0, S 0), (v1, S 1), (v2, S 2), (wv, O)]
theorem GO.start {w w1 w2 : World} {la : Nat} (hb : Below w.heap.size w w1) (h1 : KW w1 w2 la F0 [] 0) :
    GO w ((w2.alloc (.cells #[.slice none 0 0, .slice none 0 0, .slice none 0 0] 55)).alloc (.cells #[.int .i64 0, .int .i64 0, .int .i64 0] 56)) la (odF (fun _ => []) (fun _ => 0)) [] 0 w2.heap.size #[.slice none 0 0, .slice none 0 0, .slice none 0 0] (w2.heap.size + 1) #[.int .i64 0, .int .i64 0, .int .i64 0] (rws (.slice none 0 0) (.slice none 0 0) (.slice none 0 0) (.slice none 0 0) (fun _ => []) []) := by
  obtain ⟨fa, h5, h6, h7⟩ := h1
  have s1 := hb.size
  have s2 := h7.size
  have b1 := below_box w2 (.cells #[.slice none 0 0, .slice none 0 0, .slice none 0 0] 55)
  have b2 := below_box (w2.alloc (.cells #[.slice none 0 0, .slice none 0 0, .slice none 0 0] 55)) (.cells #[.int .i64 0, .int .i64 0, .int .i64 0] 56)
  have b3 : Below w2.heap.size w2 ((w2.alloc (.cells #[.slice none 0 0, .slice none 0 0, .slice none 0 0] 55)).alloc (.cells #[.int .i64 0, .int .i64 0, .int .i64 0] 56)) := b1.trans (b2.mono b1.size)
  have hno : ∀ (j : Nat) (x : Rw), (rws (.slice none 0 0) (.slice none 0 0) (.slice none 0 0) (.slice none 0 0) (fun _ => []) [])[j]? = some x → x = (.slice none 0 0, []) := fun j x hx => by
    have := List.mem_of_getElem? hx
    simp only [rws, List.mem_cons, List.not_mem_nil, or_false] at this
    rcases this with h | h | h | h <;> exact h
  refine ⟨fa, { log := h5.below b3, at_ := fun i e => by have := h6 i e; omega, wd := (hb.trans (h7.mono hb.size)).trans (b3.mono (by omega)), ba := (BoxT.new _ _ _).below b2, la_ := ⟨by omega, fun e => by have := h5.flt _ e; omega⟩, bb := BoxT.new_at (by simp), lb_ := ⟨by omega, fun e => by have := h5.flt _ e; omega⟩, row := fun j x hx => ?_, ap := fun j k x y _ hx _ g e => ?_ }⟩
  · rw [hno j x hx]
    exact ⟨OwnL.nil _ _ _ _ _, fun g e => by cases e⟩
  · rw [hno j x hx] at e; cases e

end Go.Proofs.Yteafnohponbbeaa
