import Derived.Test.YtaajjejgjnlbgabDoorFrame
import Derived.Deep.RegionHeld3
namespace Go.Proofs.YtaajjejgjnlbgabDoor
open Go.RowKit

theorem Own.lit (base : Nat) (w : World) (x : Nat) (hb : base ≤ w.heap.size) : Own base (w.alloc (.cells #[.int .u8 (x : Int)] 5)) (.slice (some ⟨w.heap.size, 0, none⟩) 1 1) [x] :=
  World.ownsRow_lit (base := base) (e := 5) (size := 1) w #[.int .u8 (x : Int)] 1 hb (by unfold maxLen; omega) rfl
theorem Own.lit_at {base : Nat} {w : World} (x : Nat) {k : Nat} (h : k = w.heap.size) (hb : base ≤ w.heap.size) : Own base (w.alloc (.cells #[.int .u8 (x : Int)] 5)) (.slice (some ⟨k, 0, none⟩) 1 1) [x] := by subst h; exact Own.lit base w x hb
theorem Box.new_at {w : World} {cs : Array Value} {k : Nat} (h : k = w.heap.size) : Box (w.alloc (.cells cs 49)) k cs := by subst h; exact Box.new w cs
theorem Own.drew {base : Nat} {w : World} {v : Value} {l : List Nat} (h : Own base w v l) : Own base w.drew v l := h
theorem Box.drew {w : World} {k : Nat} {cs : Array Value} (h : Box w k cs) : Box w.drew k cs := h
/-- The two boxes of Frame, and that nothing else has turned. -/
def Boxes (w0 w : World) (f g : Array Value) : Prop := (Box w w0.heap.size f ∧ Box w (w0.heap.size + 1) g) ∧ Kept w0.heap.size w0 w
theorem Boxes.kept {w0 w w' : World} {f g : Array Value} (h : Boxes w0 w f g) (hk : Kept w0.heap.size w w') : Boxes w0 w' f g := ⟨⟨h.1.1.kept hk, h.1.2.kept hk⟩, h.2.trans hk⟩
theorem Boxes.size {w0 w : World} {f g : Array Value} (h : Boxes w0 w f g) : w0.heap.size + 1 < w.heap.size := (Array.getElem?_eq_some_iff.1 h.1.2).1
theorem Boxes.size' {w0 w : World} {f g : Array Value} (h : Boxes w0 w f g) : w0.heap.size ≤ w.heap.size := by have := h.size; omega
theorem Boxes.new (w : World) (f g : Array Value) (o : Obj) : Boxes w (((w.alloc (.cells f 49)).alloc (.cells g 49)).alloc o) f g :=
  ⟨⟨((Box.new w _).alloc _).alloc _, (Box.new_at (by simp)).alloc _⟩, (((Kept.refl _ _).alloc _).alloc _).alloc _⟩
theorem Boxes.drew {w0 w : World} {f g : Array Value} (h : Boxes w0 w f g) : Boxes w0 w.drew f g := ⟨h.1, h.2.drew⟩
theorem Boxes.reads {w0 w : World} {kd ke ti va ma n o : Value} {g : Array Value} (h : Boxes w0 w #[kd, ke, ti, va, ma, n, o] g) :
    (w.cell? ⟨w0.heap.size, 1, none⟩ = some ke ∧ w.cell? ⟨w0.heap.size, 2, none⟩ = some ti ∧ w.cell? ⟨w0.heap.size, 3, none⟩ = some va) ∧ Boxes w0 w #[kd, ke, ti, va, ma, n, o] g := by
  obtain ⟨c0, c1, c2, c3, c4, c5, c6⟩ := h.1.1.cells
  exact ⟨⟨c1, c2, c3⟩, h⟩

/-- What a writer of the document's tells: the bytes and 0, or none and 10. -/
def RefPost (w : World) (b : Bool) (l : List Nat) (e : Ending) (w' : World) : Prop :=
  (b = true ∧ ∃ v', e = .returned (.tuple #[v', .int .i64 0]) ∧ Own w.heap.size w' v' l ∧ Below w.heap.size w w') ∨ (b = false ∧ e = .returned (.tuple #[.slice none 0 0, .int .i64 10]) ∧ Below w.heap.size w w')
theorem RefPost.yes {w : World} {b : Bool} {l : List Nat} {w' : World} {v' : Value} (hb : b = true) (ho : Own w.heap.size w' v' l) (h : Below w.heap.size w w') : RefPost w b l (.returned (.tuple #[v', .int .i64 0])) w' :=
  .inl ⟨hb, v', rfl, ho, h⟩
theorem RefPost.no {w : World} {b : Bool} {l : List Nat} {w' : World} (hb : b = false) (h : Below w.heap.size w w') : RefPost w b l (.returned (.tuple #[.slice none 0 0, .int .i64 10])) w' :=
  .inr ⟨hb, rfl, h⟩

theorem fits_1 (ke ti va ma n : Int) (ov : Bool) : fits 1 ke ti va ma n ov = decide (ma = 0 ∧ n = 0 ∧ ov = false) := rfl
theorem fits_2 (ke ti va ma n : Int) (ov : Bool) : fits 2 ke ti va ma n ov = decide (ke = 0 ∧ ti = 0 ∧ va = 0 ∧ n = 0 ∧ ov = false) := rfl
theorem fits_3 (ke ti va ma n : Int) (ov : Bool) : fits 3 ke ti va ma n ov = decide (ke = 0 ∧ ti = 0 ∧ va = 0 ∧ ma = 0) := rfl

end Go.Proofs.YtaajjejgjnlbgabDoor
