/-
  Texts of the vault, in build order: Ref.
-/
import Derived.Test.YtbfhcbihgleddaaGreatDoorM01
import Derived.Deep.RegionHeld3
namespace Go.Proofs.YtbfhcbihgleddaaGreatDoor
open Go.RowKit

theorem Own.lit (base : Nat) (w : World) (x : Nat) (hb : base ≤ w.heap.size) : Own base (w.alloc (.cells #[.int .u8 (x : Int)] 5)) (.slice (some ⟨w.heap.size, 0, none⟩) 1 1) [x] :=
  World.ownsRow_lit (base := base) (e := 5) (size := 1) w #[.int .u8 (x : Int)] 1 hb (by unfold maxLen; omega) rfl
theorem Own.lit_at {base : Nat} {w : World} (x : Nat) {k : Nat} (h : k = w.heap.size) (hb : base ≤ w.heap.size) : Own base (w.alloc (.cells #[.int .u8 (x : Int)] 5)) (.slice (some ⟨k, 0, none⟩) 1 1) [x] := by subst h; exact Own.lit base w x hb
theorem Box.new_at {w : World} {cs : Array Value} {k : Nat} (h : k = w.heap.size) : Box (w.alloc (.cells cs 149)) k cs := by subst h; exact Box.new w cs
theorem Own.drew {base : Nat} {w : World} {v : Value} {l : List Nat} (h : Own base w v l) : Own base w.drew v l := h
theorem Box.drew {w : World} {k : Nat} {cs : Array Value} (h : Box w k cs) : Box w.drew k cs := h
theorem put_of {base : Nat} {v : Value} {l : List Nat} {sz m : Int} {w : World} (hown : Own base w v l) (hb : base ≤ w.heap.size) (hl : l.length ≤ 10000000000) (h0 : 0 ≤ sz) (hs : sz ≤ 8) (hm : 0 ≤ m) :
    Calls Tryz.prog 104 #[v, .int .i64 sz, .int .u64 m] w fun e w' => ∃ v', e = .returned v' ∧ Own base w' v' (l ++ be sz.toNat m.toNat) ∧ Kept base w w' := put_at base v l sz m w h0 hs hm hl hb hown
/-- The two boxes of Frame, and that nothing else has turned. -/
def Boxes (w0 w : World) (f g : Array Value) : Prop := (Box w w0.heap.size f ∧ Box w (w0.heap.size + 1) g) ∧ Kept w0.heap.size w0 w
theorem Boxes.kept {w0 w w' : World} {f g : Array Value} (h : Boxes w0 w f g) (hk : Kept w0.heap.size w w') : Boxes w0 w' f g := ⟨⟨h.1.1.kept hk, h.1.2.kept hk⟩, h.2.trans hk⟩
theorem Boxes.size {w0 w : World} {f g : Array Value} (h : Boxes w0 w f g) : w0.heap.size + 1 < w.heap.size := (Array.getElem?_eq_some_iff.1 h.1.2).1
theorem Boxes.size' {w0 w : World} {f g : Array Value} (h : Boxes w0 w f g) : w0.heap.size ≤ w.heap.size := by have := h.size; omega
theorem Boxes.new (w : World) (f g : Array Value) (o : Obj) : Boxes w (((w.alloc (.cells f 149)).alloc (.cells g 149)).alloc o) f g :=
  ⟨⟨((Box.new w _).alloc _).alloc _, (Box.new_at (by simp)).alloc _⟩, (((Kept.refl _ _).alloc _).alloc _).alloc _⟩
theorem Boxes.drew {w0 w : World} {f g : Array Value} (h : Boxes w0 w f g) : Boxes w0 w.drew f g := ⟨h.1, h.2.drew⟩
theorem Boxes.reads {w0 w : World} {kd ke ti va ma n o : Value} {g : Array Value} (h : Boxes w0 w #[kd, ke, ti, va, ma, n, o] g) :
    (w.cell? ⟨w0.heap.size, 1, none⟩ = some ke ∧ w.cell? ⟨w0.heap.size, 2, none⟩ = some ti ∧ w.cell? ⟨w0.heap.size, 3, none⟩ = some va) ∧ Boxes w0 w #[kd, ke, ti, va, ma, n, o] g := by
  obtain ⟨c0, c1, c2, c3, c4, c5, c6⟩ := h.1.1.cells
  exact ⟨⟨c1, c2, c3⟩, h⟩

/-- What a writer of the document's tells: the bytes and 0, or none and 10. -/
def RefPost (w : World) (b : Bool) (l : List Nat) (e : Ending) (w' : World) : Prop :=
  (b = true ∧ ∃ v', e = .returned (.tuple #[v', .int .i64 0]) ∧ Own w.heap.size w' v' l ∧ Below w.heap.size w w') ∨ (b = false ∧ e = .returned (.tuple #[.slice none 0 0, .int .i64 10]) ∧ Below w.heap.size w w')
theorem RefPost.yes {w : World} {b : Bool} {l : List Nat} {w' : World} {v' : Value} (hb : b = true) (ho : Own w.heap.size w' v' l) (h : Below w.heap.size w w') : RefPost w b l (.returned (.tuple #[v', .int .i64 0])) w' :=
  .inl ⟨hb, v', rfl, ho, h⟩
theorem RefPost.no {w : World} {b : Bool} {l : List Nat} {w' : World} (hb : b = false) (h : Below w.heap.size w w') : RefPost w b l (.returned (.tuple #[.slice none 0 0, .int .i64 10])) w' :=
  .inr ⟨hb, rfl, h⟩

theorem fits_1 (ke ti va ma n : Int) (ov : Bool) : fits 1 ke ti va ma n ov = decide (ma = 0 ∧ n = 0 ∧ ov = false) := rfl
theorem fits_2 (ke ti va ma n : Int) (ov : Bool) : fits 2 ke ti va ma n ov = decide (ke = 0 ∧ ti = 0 ∧ va = 0 ∧ n = 0 ∧ ov = false) := rfl
theorem fits_3 (ke ti va ma n : Int) (ov : Bool) : fits 3 ke ti va ma n ov = decide (ke = 0 ∧ ti = 0 ∧ va = 0 ∧ ma = 0) := rfl

set_option maxHeartbeats 1000000 in
set_option maxRecDepth 100000 in
theorem refFrame_1 (ke ti va ma n : Int) (ov : Bool) (w : World) :
    Calls Tryz.prog 105 #[.agg #[.int .i64 1, .int .i64 ke, .int .i64 ti, .int .i64 va, .int .i64 ma, .int .u64 n, .bool ov]] w (RefPost w (fits 1 ke ti va ma n ov) (frb 1 ke ti va ma n ov)) := by
  generalize hfb : fits 1 ke ti va ma n ov = fb
  rw [fits_1] at hfb
  have HF : Hid (decide (ma = 0 ∧ n = 0 ∧ ov = false) = fb) := hfb
  clear hfb
  cases ov
  all_goals
    go_enter Tryz.func105, Tryz.ntmps105
    go_wp2_with fail
  · go_region_held3 (fun w' => (w'.cell? ⟨w.heap.size, 1, none⟩ = some (.int .i64 ke) ∧ w'.cell? ⟨w.heap.size, 2, none⟩ = some (.int .i64 ti) ∧ w'.cell? ⟨w.heap.size, 3, none⟩ = some (.int .i64 va)) ∧ Boxes w w' #[.int .i64 1, .int .i64 ke, .int .i64 ti, .int .i64 va, .int .i64 ma, .int .u64 n, .bool false] #[.int .i64 1, .int .i64 ke, .int .i64 ti, .int .i64 va, .int .i64 0, .int .u64 0, .bool false])
      ((first | exact Boxes.reads (by assumption) | exact Boxes.reads (Boxes.drew (Boxes.new _ _ _ _))))
      (first | (go_at_call 104; refine (put_of (base := w.heap.size) (by first | assumption | exact (Own.lit_at 1 (by simp) (by simp; omega)).drew) (by first | exact Boxes.size' (by assumption) | (simp; omega)) (by simp [be_length]) (by omega) (by omega) (wrap_u64_nonneg _)).mono ?_; rintro e w1 ⟨v1, rfl, ho1, hk1⟩; have bx := Boxes.kept (And.right (by assumption)) hk1))
    obtain ⟨c0, c1, c2, c3, c4, c5, c6⟩ := bx.1.1.cells
    obtain ⟨d0, d1, d2, d3, d4, d5, d6⟩ := bx.1.2.cells
    have hbel := bx.2.below (Nat.le_refl _)
    have ho : Own w.heap.size w1 v1 (frb 1 ke ti va ma n false) := by simpa [frb, sbe] using ho1
    clear hk1 ho1 bx
    go_wp2
    all_goals go_ret2
    all_goals first | (refine RefPost.no ?_ hbel; rw [← HF.out]; apply decide_eq_false; rintro ⟨ha, hb, hc⟩; omega) | (refine RefPost.yes ?_ ho hbel; rw [← HF.out]; apply decide_eq_true; refine ⟨?_, ?_, ?_⟩ <;> first | omega | trivial)
  · go_region_held3 (fun w' => (w'.cell? ⟨w.heap.size, 1, none⟩ = some (.int .i64 ke) ∧ w'.cell? ⟨w.heap.size, 2, none⟩ = some (.int .i64 ti) ∧ w'.cell? ⟨w.heap.size, 3, none⟩ = some (.int .i64 va)) ∧ Boxes w w' #[.int .i64 1, .int .i64 ke, .int .i64 ti, .int .i64 va, .int .i64 ma, .int .u64 n, .bool true] #[.int .i64 1, .int .i64 ke, .int .i64 ti, .int .i64 va, .int .i64 0, .int .u64 0, .bool false])
      ((first | exact Boxes.reads (by assumption) | exact Boxes.reads (Boxes.drew (Boxes.new _ _ _ _))))
      (first | (go_at_call 104; refine (put_of (base := w.heap.size) (by first | assumption | exact (Own.lit_at 1 (by simp) (by simp; omega)).drew) (by first | exact Boxes.size' (by assumption) | (simp; omega)) (by simp [be_length]) (by omega) (by omega) (wrap_u64_nonneg _)).mono ?_; rintro e w1 ⟨v1, rfl, ho1, hk1⟩; have bx := Boxes.kept (And.right (by assumption)) hk1))
    obtain ⟨c0, c1, c2, c3, c4, c5, c6⟩ := bx.1.1.cells
    obtain ⟨d0, d1, d2, d3, d4, d5, d6⟩ := bx.1.2.cells
    have hbel := bx.2.below (Nat.le_refl _)
    clear hk1 ho1 bx
    go_wp2
    all_goals go_ret2
    all_goals (refine RefPost.no ?_ hbel; rw [← HF.out]; apply decide_eq_false; rintro ⟨ha, hb, hc⟩; cases hc)

/-- Every other kind of frame: no bytes. -/
theorem refFrame_0 (kd ke ti va ma n : Int) (ov : Bool) (w : World) (h1 : ¬ kd = 1) (h2 : ¬ kd = 2) (h3 : ¬ kd = 3) :
    Calls Tryz.prog 105 #[.agg #[.int .i64 kd, .int .i64 ke, .int .i64 ti, .int .i64 va, .int .i64 ma, .int .u64 n, .bool ov]] w (RefPost w (fits kd ke ti va ma n ov) (frb kd ke ti va ma n ov)) := by
  have hf : fits kd ke ti va ma n ov = false := by simp [fits, h1, h2, h3]
  generalize fits kd ke ti va ma n ov = fb at *
  have HF : Hid (fb = false) := hf
  clear hf
  have e1 : (kd == 1) = false := by simpa using h1
  have e2 : (kd == 2) = false := by simpa using h2
  have e3 : (kd == 3) = false := by simpa using h3
  go_enter Tryz.func105, Tryz.ntmps105
  go_wp2
  go_ret2
  exact RefPost.no HF.out ((((Below.refl _ _).alloc (Nat.le_refl _) _).alloc (by simp) _).alloc (by simp; omega) _)
end Go.Proofs.YtbfhcbihgleddaaGreatDoor
