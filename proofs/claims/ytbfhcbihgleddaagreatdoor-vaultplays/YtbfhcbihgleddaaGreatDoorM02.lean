/-
  Texts of the vault, in build order: Ref, Ref3, Ctl.
-/
import Derived.Test.YtbfhcbihgleddaaGreatDoorM01
import Derived.Deep.RegionHeld3
namespace Go.Proofs.YtbfhcbihgleddaaGreatDoor
open Go.RowKit

theorem Own.lit (base : Nat) (w : World) (x : Nat) (hb : base ≤ w.heap.size) : Own base (w.alloc (.cells #[.int .u8 (x : Int)] 5)) (.slice (some ⟨w.heap.size, 0, none⟩) 1 1) [x] :=
  World.ownsRow_lit (base := base) (e := 5) (size := 1) w #[.int .u8 (x : Int)] 1 hb (by unfold maxLen; omega) rfl
theorem Own.lit_at {base : Nat} {w : World} (x : Nat) {k : Nat} (h : k = w.heap.size) (hb : base ≤ w.heap.size) : Own base (w.alloc (.cells #[.int .u8 (x : Int)] 5)) (.slice (some ⟨k, 0, none⟩) 1 1) [x] := by subst h; exact Own.lit base w x hb
theorem Box.new_at {w : World} {cs : Array Value} {k : Nat} (h : k = w.heap.size) : Box (w.alloc (.cells cs 149)) k cs := by subst h; exact Box.new w cs
theorem Own.drew {base : Nat} {w : World} {v : Value} {l : List Nat} (h : Own base w v l) : Own base w.drew v l := h
theorem Box.drew {w : World} {k : Nat} {cs : Array Value} (h : Box w k cs) : Box w.drew k cs := h
theorem put_of {base : Nat} {v : Value} {l : List Nat} {sz m : Int} {w : World} (hown : Own base w v l) (hb : base ≤ w.heap.size) (hl : l.length ≤ 10000000000) (h0 : 0 ≤ sz) (hs : sz ≤ 8) (hm : 0 ≤ m) :
    Calls Tryz.prog 104 #[v, .int .i64 sz, .int .u64 m] w fun e w' => ∃ v', e = .returned v' ∧ Own base w' v' (l ++ be sz.toNat m.toNat) ∧ Kept base w w' := put_at base v l sz m w h0 hs hm hl hb hown
/-- The two boxes of Frame, and that nothing else has turned. -/
def Boxes (w0 w : World) (f g : Array Value) : Prop := (Box w w0.heap.size f ∧ Box w (w0.heap.size + 1) g) ∧ Kept w0.heap.size w0 w
theorem Boxes.kept {w0 w w' : World} {f g : Array Value} (h : Boxes w0 w f g) (hk : Kept w0.heap.size w w') : Boxes w0 w' f g := ⟨⟨h.1.1.kept hk, h.1.2.kept hk⟩, h.2.trans hk⟩
theorem Boxes.size {w0 w : World} {f g : Array Value} (h : Boxes w0 w f g) : w0.heap.size + 1 < w.heap.size := (Array.getElem?_eq_some_iff.1 h.1.2).1
theorem Boxes.size' {w0 w : World} {f g : Array Value} (h : Boxes w0 w f g) : w0.heap.size ≤ w.heap.size := by have := h.size; omega
theorem Boxes.new (w : World) (f g : Array Value) (o : Obj) : Boxes w (((w.alloc (.cells f 149)).alloc (.cells g 149)).alloc o) f g :=
  ⟨⟨((Box.new w _).alloc _).alloc _, (Box.new_at (by simp)).alloc _⟩, (((Kept.refl _ _).alloc _).alloc _).alloc _⟩
theorem Boxes.drew {w0 w : World} {f g : Array Value} (h : Boxes w0 w f g) : Boxes w0 w.drew f g := ⟨h.1, h.2.drew⟩
theorem Boxes.reads {w0 w : World} {kd ke ti va ma n o : Value} {g : Array Value} (h : Boxes w0 w #[kd, ke, ti, va, ma, n, o] g) :
    (w.cell? ⟨w0.heap.size, 1, none⟩ = some ke ∧ w.cell? ⟨w0.heap.size, 2, none⟩ = some ti ∧ w.cell? ⟨w0.heap.size, 3, none⟩ = some va) ∧ Boxes w0 w #[kd, ke, ti, va, ma, n, o] g := by
  obtain ⟨c0, c1, c2, c3, c4, c5, c6⟩ := h.1.1.cells
  exact ⟨⟨c1, c2, c3⟩, h⟩

/-- What a writer of the document's tells: the bytes and 0, or none and 10. -/
def RefPost (w : World) (b : Bool) (l : List Nat) (e : Ending) (w' : World) : Prop :=
  (b = true ∧ ∃ v', e = .returned (.tuple #[v', .int .i64 0]) ∧ Own w.heap.size w' v' l ∧ Below w.heap.size w w') ∨ (b = false ∧ e = .returned (.tuple #[.slice none 0 0, .int .i64 10]) ∧ Below w.heap.size w w')
theorem RefPost.yes {w : World} {b : Bool} {l : List Nat} {w' : World} {v' : Value} (hb : b = true) (ho : Own w.heap.size w' v' l) (h : Below w.heap.size w w') : RefPost w b l (.returned (.tuple #[v', .int .i64 0])) w' :=
  .inl ⟨hb, v', rfl, ho, h⟩
theorem RefPost.no {w : World} {b : Bool} {l : List Nat} {w' : World} (hb : b = false) (h : Below w.heap.size w w') : RefPost w b l (.returned (.tuple #[.slice none 0 0, .int .i64 10])) w' :=
  .inr ⟨hb, rfl, h⟩

theorem fits_1 (ke ti va ma n : Int) (ov : Bool) : fits 1 ke ti va ma n ov = decide (ma = 0 ∧ n = 0 ∧ ov = false) := rfl
theorem fits_2 (ke ti va ma n : Int) (ov : Bool) : fits 2 ke ti va ma n ov = decide (ke = 0 ∧ ti = 0 ∧ va = 0 ∧ n = 0 ∧ ov = false) := rfl
theorem fits_3 (ke ti va ma n : Int) (ov : Bool) : fits 3 ke ti va ma n ov = decide (ke = 0 ∧ ti = 0 ∧ va = 0 ∧ ma = 0) := rfl

set_option maxHeartbeats 1000000 in
set_option maxRecDepth 100000 in
theorem refFrame_1 (ke ti va ma n : Int) (ov : Bool) (w : World) :
    Calls Tryz.prog 105 #[.agg #[.int .i64 1, .int .i64 ke, .int .i64 ti, .int .i64 va, .int .i64 ma, .int .u64 n, .bool ov]] w (RefPost w (fits 1 ke ti va ma n ov) (frb 1 ke ti va ma n ov)) := by
  generalize hfb : fits 1 ke ti va ma n ov = fb
  rw [fits_1] at hfb
  have HF : Hid (decide (ma = 0 ∧ n = 0 ∧ ov = false) = fb) := hfb
  clear hfb
  cases ov
  all_goals
    go_enter Tryz.func105, Tryz.ntmps105
    go_wp2_with fail
  · go_region_held3 (fun w' => (w'.cell? ⟨w.heap.size, 1, none⟩ = some (.int .i64 ke) ∧ w'.cell? ⟨w.heap.size, 2, none⟩ = some (.int .i64 ti) ∧ w'.cell? ⟨w.heap.size, 3, none⟩ = some (.int .i64 va)) ∧ Boxes w w' #[.int .i64 1, .int .i64 ke, .int .i64 ti, .int .i64 va, .int .i64 ma, .int .u64 n, .bool false] #[.int .i64 1, .int .i64 ke, .int .i64 ti, .int .i64 va, .int .i64 0, .int .u64 0, .bool false])
      ((first | exact Boxes.reads (by assumption) | exact Boxes.reads (Boxes.drew (Boxes.new _ _ _ _))))
      (first | (go_at_call 104; refine (put_of (base := w.heap.size) (by first | assumption | exact (Own.lit_at 1 (by simp) (by simp; omega)).drew) (by first | exact Boxes.size' (by assumption) | (simp; omega)) (by simp [be_length]) (by omega) (by omega) (wrap_u64_nonneg _)).mono ?_; rintro e w1 ⟨v1, rfl, ho1, hk1⟩; have bx := Boxes.kept (And.right (by assumption)) hk1))
    obtain ⟨c0, c1, c2, c3, c4, c5, c6⟩ := bx.1.1.cells
    obtain ⟨d0, d1, d2, d3, d4, d5, d6⟩ := bx.1.2.cells
    have hbel := bx.2.below (Nat.le_refl _)
    have ho : Own w.heap.size w1 v1 (frb 1 ke ti va ma n false) := by simpa [frb, sbe] using ho1
    clear hk1 ho1 bx
    go_wp2
    all_goals go_ret2
    all_goals first | (refine RefPost.no ?_ hbel; rw [← HF.out]; apply decide_eq_false; rintro ⟨ha, hb, hc⟩; omega) | (refine RefPost.yes ?_ ho hbel; rw [← HF.out]; apply decide_eq_true; refine ⟨?_, ?_, ?_⟩ <;> first | omega | trivial)
  · go_region_held3 (fun w' => (w'.cell? ⟨w.heap.size, 1, none⟩ = some (.int .i64 ke) ∧ w'.cell? ⟨w.heap.size, 2, none⟩ = some (.int .i64 ti) ∧ w'.cell? ⟨w.heap.size, 3, none⟩ = some (.int .i64 va)) ∧ Boxes w w' #[.int .i64 1, .int .i64 ke, .int .i64 ti, .int .i64 va, .int .i64 ma, .int .u64 n, .bool true] #[.int .i64 1, .int .i64 ke, .int .i64 ti, .int .i64 va, .int .i64 0, .int .u64 0, .bool false])
      ((first | exact Boxes.reads (by assumption) | exact Boxes.reads (Boxes.drew (Boxes.new _ _ _ _))))
      (first | (go_at_call 104; refine (put_of (base := w.heap.size) (by first | assumption | exact (Own.lit_at 1 (by simp) (by simp; omega)).drew) (by first | exact Boxes.size' (by assumption) | (simp; omega)) (by simp [be_length]) (by omega) (by omega) (wrap_u64_nonneg _)).mono ?_; rintro e w1 ⟨v1, rfl, ho1, hk1⟩; have bx := Boxes.kept (And.right (by assumption)) hk1))
    obtain ⟨c0, c1, c2, c3, c4, c5, c6⟩ := bx.1.1.cells
    obtain ⟨d0, d1, d2, d3, d4, d5, d6⟩ := bx.1.2.cells
    have hbel := bx.2.below (Nat.le_refl _)
    clear hk1 ho1 bx
    go_wp2
    all_goals go_ret2
    all_goals (refine RefPost.no ?_ hbel; rw [← HF.out]; apply decide_eq_false; rintro ⟨ha, hb, hc⟩; cases hc)

/-- Every other kind of frame: no bytes. -/
theorem refFrame_0 (kd ke ti va ma n : Int) (ov : Bool) (w : World) (h1 : ¬ kd = 1) (h2 : ¬ kd = 2) (h3 : ¬ kd = 3) :
    Calls Tryz.prog 105 #[.agg #[.int .i64 kd, .int .i64 ke, .int .i64 ti, .int .i64 va, .int .i64 ma, .int .u64 n, .bool ov]] w (RefPost w (fits kd ke ti va ma n ov) (frb kd ke ti va ma n ov)) := by
  have hf : fits kd ke ti va ma n ov = false := by simp [fits, h1, h2, h3]
  generalize fits kd ke ti va ma n ov = fb at *
  have HF : Hid (fb = false) := hf
  clear hf
  have e1 : (kd == 1) = false := by simpa using h1
  have e2 : (kd == 2) = false := by simpa using h2
  have e3 : (kd == 3) = false := by simpa using h3
  go_enter Tryz.func105, Tryz.ntmps105
  go_wp2
  go_ret2
  exact RefPost.no HF.out ((((Below.refl _ _).alloc (Nat.le_refl _) _).alloc (by simp) _).alloc (by simp; omega) _)
end Go.Proofs.YtbfhcbihgleddaaGreatDoor
namespace Go.Proofs.YtbfhcbihgleddaaGreatDoor
open Go.RowKit

set_option maxHeartbeats 1000000 in
set_option maxRecDepth 100000 in
theorem refFrame_2 (ke ti va ma n : Int) (ov : Bool) (w : World) :
    Calls Tryz.prog 105 #[.agg #[.int .i64 2, .int .i64 ke, .int .i64 ti, .int .i64 va, .int .i64 ma, .int .u64 n, .bool ov]] w (RefPost w (fits 2 ke ti va ma n ov) (frb 2 ke ti va ma n ov)) := by
  generalize hfb : fits 2 ke ti va ma n ov = fb
  rw [fits_2] at hfb
  have HF : Hid (decide (ke = 0 ∧ ti = 0 ∧ va = 0 ∧ n = 0 ∧ ov = false) = fb) := hfb
  clear hfb
  cases ov
  all_goals
    go_enter Tryz.func105, Tryz.ntmps105
    go_wp2_with fail
    refine (put_of (base := w.heap.size) (Own.lit_at 2 (by simp) (by simp; omega)) (by simp; omega) (by simp) (by omega) (by omega) (wrap_u64_nonneg _)).mono ?_
    rintro e w1 ⟨v1, rfl, ho1, hk1⟩
    have bx := Boxes.kept (Boxes.new _ _ _ _) hk1
    obtain ⟨c0, c1, c2, c3, c4, c5, c6⟩ := bx.1.1.cells
    obtain ⟨d0, d1, d2, d3, d4, d5, d6⟩ := bx.1.2.cells
    have hbel := bx.2.below (Nat.le_refl _)
    have ho : ∀ ov, Own w.heap.size w1 v1 (frb 2 ke ti va ma n ov) := by intro ov; simpa [frb, sbe] using ho1
    clear hk1 ho1 bx
    go_wp2
    all_goals go_ret2
    all_goals first | (refine RefPost.no ?_ hbel; rw [← HF.out]; apply decide_eq_false; rintro ⟨ha, hb, hc, hd, he⟩; first | omega | (cases he; done)) | (refine RefPost.yes ?_ (ho _) hbel; rw [← HF.out]; apply decide_eq_true; refine ⟨?_, ?_, ?_, ?_, ?_⟩ <;> first | omega | trivial)

theorem Own.shape {base : Nat} {w : World} {v : Value} {l : List Nat} (h : Own base w v l) (hl : l ≠ []) : ∃ g cap, v = .slice (some ⟨g, 0, none⟩) l.length cap ∧ base ≤ g ∧ g < w.heap.size ∧ l.length ≤ cap ∧ cap ≤ maxLen := by
  rcases h.2 with ⟨_, h0⟩ | ⟨g, cap, cur, h1, h2, h3, h4, h5, _⟩
  · exact absurd (List.length_eq_zero_iff.1 h0) hl
  · exact ⟨g, cap, h1, h2, (Array.getElem?_eq_some_iff.1 h3).1, h4, h5⟩
theorem Own.cellAt {base : Nat} {w : World} {g cap : Nat} {l : List Nat} (h : Own base w (.slice (some ⟨g, 0, none⟩) l.length cap) l) (j : Nat) (hj : j < l.length) : w.cell? ⟨g, j, none⟩ = some (.int .u8 (l[j] : Nat)) := by
  rw [World.ownsRow.cellAt h j (by omega)]
  simp [bs, List.getElem?_eq_getElem hj]
theorem Own.free {base : Nat} {w : World} {g cap : Nat} {l : List Nat} (h : Own base w (.slice (some ⟨g, 0, none⟩) l.length cap) l) (j : Nat) : w.frozen? ⟨g, j, none⟩ = false := World.ownsRow.frozenAt h j
theorem Own.stored {base : Nat} {w : World} {g cap : Nat} {l : List Nat} (h : Own base w (.slice (some ⟨g, 0, none⟩) l.length cap) l) (j x : Nat) :
    Own base (w.setCell ⟨g, j, none⟩ (.int .u8 (x : Int))) (.slice (some ⟨g, 0, none⟩) l.length cap) (l.set j x) ∧ Kept base w (w.setCell ⟨g, j, none⟩ (.int .u8 (x : Int))) := by
  obtain ⟨h1, h2⟩ := World.ownsRow.stored h j (.int .u8 (x : Int))
  refine ⟨?_, Kept.of_grown h h2⟩
  show World.ownsRow _ _ _ _ _ (l.set j x).length (bs (l.set j x))
  simp only [List.length_set, bs, List.map_set] at *
  exact h1

theorem set9 (l : List Nat) (x y : Nat) (h : l.length = 9) : (l ++ [x]).set 9 y = l ++ [y] := by
  rw [List.set_append_right _ _ (by omega), h]; rfl

set_option maxHeartbeats 1000000 in
set_option maxRecDepth 100000 in
theorem refFrame_3 (ke ti va ma n : Int) (ov : Bool) (w : World) (hn : 0 ≤ n) :
    Calls Tryz.prog 105 #[.agg #[.int .i64 3, .int .i64 ke, .int .i64 ti, .int .i64 va, .int .i64 ma, .int .u64 n, .bool ov]] w (RefPost w (fits 3 ke ti va ma n ov) (frb 3 ke ti va ma n ov)) := by
  generalize hfb : fits 3 ke ti va ma n ov = fb
  rw [fits_3] at hfb
  have HF : Hid (decide (ke = 0 ∧ ti = 0 ∧ va = 0 ∧ ma = 0) = fb) := hfb
  clear hfb
  cases ov
  · go_enter Tryz.func105, Tryz.ntmps105
    go_wp2_with fail
    go_region
    go_wp2_with fail
    refine (put_of (base := w.heap.size) (Own.lit_at 3 (by simp) (by simp; omega)).drew (by simp; omega) (by simp) (by omega) (by omega) hn).mono ?_
    rintro e w1 ⟨v1, rfl, ho1, hk1⟩
    have bx := Boxes.kept (Boxes.drew (Boxes.new _ _ _ _)) hk1
    have hz1 := bx.size
    clear hk1
    go_wp2_with (first | (at_builtin; refine app_own rfl _ _ rfl w.heap.size _ _ rfl (ho1.alloc _) ⟨w1.heap.size, 0, none⟩ 1 [0] rfl (one_cell w1 0) ?c1 ?c2 ?_) | fail)
    case c1 => simp [be_length]
    case c2 => simp; omega
    intro v2 w2 ho2 hk2
    have bx := Boxes.kept bx (((Kept.refl _ _).alloc _).trans hk2)
    obtain ⟨c0, c1, c2, c3, c4, c5, c6⟩ := bx.1.1.cells
    obtain ⟨d0, d1, d2, d3, d4, d5, d6⟩ := bx.1.2.cells
    have hbel := bx.2.below (Nat.le_refl _)
    have ho : Own w.heap.size w2 v2 (frb 3 ke ti va ma n false) := by simpa [frb, sbe] using ho2
    clear hk2 ho1 ho2 bx
    go_wp2
    all_goals go_ret2
    all_goals first | (refine RefPost.no ?_ hbel; rw [← HF.out]; apply decide_eq_false; rintro ⟨ha, hb, hc, hd⟩; omega) | (refine RefPost.yes ?_ ho hbel; rw [← HF.out]; apply decide_eq_true; refine ⟨?_, ?_, ?_, ?_⟩ <;> first | omega | trivial)
  · go_enter Tryz.func105, Tryz.ntmps105
    go_wp2_with fail
    go_region
    go_wp2_with fail
    refine (put_of (base := w.heap.size) (Own.lit_at 3 (by simp) (by simp; omega)).drew (by simp; omega) (by simp) (by omega) (by omega) hn).mono ?_
    rintro e w1 ⟨v1, rfl, ho1, hk1⟩
    have bx := Boxes.kept (Boxes.drew (Boxes.new _ _ _ _)) hk1
    have hz1 := bx.size
    clear hk1
    go_wp2_with (first | (at_builtin; refine app_own rfl _ _ rfl w.heap.size _ _ rfl (ho1.alloc _) ⟨w1.heap.size, 0, none⟩ 1 [0] rfl (one_cell w1 0) ?c1 ?c2 ?_) | fail)
    case c1 => simp [be_length]
    case c2 => simp; omega
    intro v2 w2 ho2 hk2
    have bx := Boxes.kept bx (((Kept.refl _ _).alloc _).trans hk2)
    have ho3 : Own w.heap.size w2 v2 ((3 :: be 8 n.toNat) ++ [0]) := by simpa using ho2
    clear hk2 ho1 ho2
    obtain ⟨g, cap, hv, hg1, hg2, hc1, hc2⟩ := ho3.shape (by simp)
    rw [hv] at ho3
    obtain ⟨hst, hks⟩ := ho3.stored 9 1
    have hc9 := ho3.cellAt 9 (by simp [be_length])
    have hf9 := ho3.free 9
    have b6 := bx.1.1.cells.2.2.2.2.2.2
    have hks' : Kept w.heap.size w2 (w2.setCell ⟨g, 9, none⟩ (.int .u8 1)) := hks
    have bx := Boxes.kept bx hks'
    rw [set9 _ _ _ (by simp [be_length])] at hst
    have hlen : ((3 :: be 8 n.toNat) ++ [0]).length = 10 := by simp [be_length]
    rw [hlen] at hst hv
    have HO : Hid (Own w.heap.size (w2.setCell ⟨g, 9, none⟩ (.int .u8 1)) (.slice (some ⟨g, 0, none⟩) 10 cap) (frb 3 ke ti va ma n true)) := by
      show Own _ _ _ _
      simpa [frb, sbe] using hst
    obtain ⟨c0, c1, c2, c3, c4, c5, c6⟩ := bx.1.1.cells
    obtain ⟨d0, d1, d2, d3, d4, d5, d6⟩ := bx.1.2.cells
    have hbel := bx.2.below (Nat.le_refl _)
    rw [hv]
    clear hst hks hks' ho3 hlen hc1
    go_wp2
    all_goals go_ret2
    all_goals first | (refine RefPost.no ?_ hbel; rw [← HF.out]; apply decide_eq_false; rintro ⟨ha, hb, hc, hd⟩; omega) | (refine RefPost.yes ?_ HO.out hbel; rw [← HF.out]; apply decide_eq_true; refine ⟨?_, ?_, ?_, ?_⟩ <;> first | omega | trivial)
end Go.Proofs.YtbfhcbihgleddaaGreatDoor
namespace Go.Proofs.YtbfhcbihgleddaaGreatDoor
open Go.RowKit

theorem refFrame_any (kd ke ti va ma n : Int) (ov : Bool) (w : World) (hn : 0 ≤ n) :
    Calls Tryz.prog 105 #[.agg #[.int .i64 kd, .int .i64 ke, .int .i64 ti, .int .i64 va, .int .i64 ma, .int .u64 n, .bool ov]] w (RefPost w (fits kd ke ti va ma n ov) (frb kd ke ti va ma n ov)) := by
  by_cases h1 : kd = 1
  · subst h1; exact refFrame_1 ke ti va ma n ov w
  by_cases h2 : kd = 2
  · subst h2; exact refFrame_2 ke ti va ma n ov w
  by_cases h3 : kd = 3
  · subst h3; exact refFrame_3 ke ti va ma n ov w hn
  · exact refFrame_0 kd ke ti va ma n ov w h1 h2 h3

/-- Block k is a box of type t. -/
def BoxT (t : TypeId) (w : World) (k : Nat) (cs : Array Value) : Prop := w.heap[k]? = some (.cells cs t (0, 0))
theorem BoxT.cells4 {t : TypeId} {w : World} {k : Nat} {c0 c1 c2 c3 : Value} (h : BoxT t w k #[c0, c1, c2, c3]) :
    w.cell? ⟨k, 0, none⟩ = some c0 ∧ w.cell? ⟨k, 1, none⟩ = some c1 ∧ w.cell? ⟨k, 2, none⟩ = some c2 ∧ w.cell? ⟨k, 3, none⟩ = some c3 := by
  unfold BoxT at h
  simp [World.cell?, h]
theorem BoxT.new (t : TypeId) (w : World) (cs : Array Value) : BoxT t (w.alloc (.cells cs t)) w.heap.size cs := heap_alloc_new w _
theorem BoxT.new_at {t : TypeId} {w : World} {cs : Array Value} {k : Nat} (h : k = w.heap.size) : BoxT t (w.alloc (.cells cs t)) k cs := by subst h; exact BoxT.new t w cs
theorem BoxT.alloc {t : TypeId} {w : World} {k : Nat} {cs : Array Value} (h : BoxT t w k cs) (o : Obj) : BoxT t (w.alloc o) k cs := by
  unfold BoxT at *
  rw [Below.heap_alloc w o k (Array.getElem?_eq_some_iff.1 h).1]; exact h
theorem BoxT.kept {t : TypeId} {base : Nat} {w w' : World} {k : Nat} {cs : Array Value} (h : BoxT t w k cs) (hk : Kept base w w') (ht : t ≠ 5) : BoxT t w' k cs := Kept.box hk h ht
theorem BoxT.drew {t : TypeId} {w : World} {k : Nat} {cs : Array Value} (h : BoxT t w k cs) : BoxT t w.drew k cs := h
theorem BoxT.lt {t : TypeId} {w : World} {k : Nat} {cs : Array Value} (h : BoxT t w k cs) : k < w.heap.size := (Array.getElem?_eq_some_iff.1 h).1

def cfits (kd tk : Int) : Bool := decide (1 ≤ kd ∧ kd ≤ 6 ∧ 0 ≤ tk ∧ tk ≤ 65535)
def ctb (kd ep n tk : Int) : List Nat := kd.toNat :: (be 8 ep.toNat ++ (be 8 n.toNat ++ be 2 tk.toNat))

theorem short_any (n : Int) (w : World) : Calls Tryz.prog 96 #[.int .i64 n] w fun e w' => e = .returned (.bool (decide (0 ≤ n ∧ n ≤ 65535))) ∧ w' = w := by
  by_cases h1 : 0 ≤ n <;> by_cases h2 : n ≤ 65535
  all_goals
    go_enter Tryz.func96, Tryz.ntmps96
    go_wp2
    go_ret
    exact ⟨ret_bool (by simp [h1, h2]), rfl⟩

end Go.Proofs.YtbfhcbihgleddaaGreatDoor
