/-
  Texts in build order: ABase, APure, WPure.
-/
import Derived.Test.YtpcbhcdpegbfjaaGreatProg
import Derived.WalkKit
import Derived.Laws.StructEq
import Derived.Deep.RegionHeld
import Derived.Deep.RegionHeld3
import Derived.Deep.QuietTactic
import Derived.BigQuiet
import Derived.Laws.AppendOwnNone
import Derived.Laws.MakeOwn
import Derived.Lib.SliceRun
import Derived.Deep.RegionLaw
import Derived.Maps.AppendAt
import Derived.BigRegion
import Derived.Deep.LoopGhost
import Derived.Deep.CutBlock
import Derived.Deep.CutRange
/-
 Rows, boxes, what stays (turned from the walks over package job); append of a list; the aggregates as pure functions.
-/
namespace Go.Proofs.YtpcbhcdpegbfjaaGreat
open Go.RowKit
theorem hide {p : Prop} (h : p) : Hid p := h
def BoxT (t : TypeId) (w : World) (k : Nat) (cs : Array Value) : Prop := w.heap[k]? = some (.cells cs t (0, 0))
theorem BoxT.cells4 {t : TypeId} {w : World} {k : Nat} {c0 c1 c2 c3 : Value} (h : BoxT t w k #[c0, c1, c2, c3]) :
  w.cell? ⟨k, 0, none⟩ = some c0 ∧ w.cell? ⟨k, 1, none⟩ = some c1 ∧ w.cell? ⟨k, 2, none⟩ = some c2 ∧ w.cell? ⟨k, 3, none⟩ = some c3 := by
 unfold BoxT at h
 simp [World.cell?, h]
theorem BoxT.new (t : TypeId) (w : World) (cs : Array Value) : BoxT t (w.alloc (.cells cs t)) w.heap.size cs := heap_alloc_new w _
theorem BoxT.new_at {t : TypeId} {w : World} {cs : Array Value} {k : Nat} (h : k = w.heap.size) : BoxT t (w.alloc (.cells cs t)) k cs := by subst h; exact BoxT.new t w cs
theorem BoxT.alloc {t : TypeId} {w : World} {k : Nat} {cs : Array Value} (h : BoxT t w k cs) (o : Obj) : BoxT t (w.alloc o) k cs := by
 unfold BoxT at *
 rw [Below.heap_alloc w o k (Array.getElem?_eq_some_iff.1 h).1]; exact h
theorem BoxT.drew {t : TypeId} {w : World} {k : Nat} {cs : Array Value} (h : BoxT t w k cs) : BoxT t w.drew k cs := h
theorem BoxT.lt {t : TypeId} {w : World} {k : Nat} {cs : Array Value} (h : BoxT t w k cs) : k < w.heap.size := (Array.getElem?_eq_some_iff.1 h).1
theorem BoxT.cells2 {t : TypeId} {w : World} {k : Nat} {c0 c1 : Value} (h : BoxT t w k #[c0, c1]) : w.cell? ⟨k, 0, none⟩ = some c0 ∧ w.cell? ⟨k, 1, none⟩ = some c1 := by
 unfold BoxT at h
 simp [World.cell?, h]
theorem BoxT.free {t : TypeId} {w : World} {k : Nat} {cs : Array Value} (h : BoxT t w k cs) (j : Nat) : w.frozen? ⟨k, j, none⟩ = false := by
 unfold BoxT at h
 exact frozen_of_row w k j cs t h
theorem BoxT.set {t : TypeId} {w : World} {k : Nat} {cs : Array Value} (h : BoxT t w k cs) (j : Nat) (u : Value) : BoxT t (w.setCell ⟨k, j, none⟩ u) k (cs.setIfInBounds j u) :=
 heap_setCell_same w k j cs t u h
theorem grownBy_set (w : World) (R j : Nat) (u : Value) : w.grownBy (w.setCell ⟨R, j, none⟩ u) (some R) :=
 ⟨rfl, rfl, rfl, by simp, fun k _ hk => Below.heap_setCell w ⟨R, j, none⟩ u k (fun e => hk (by simp [e]))⟩
theorem grownBy_refl (w : World) (r : Option Nat) : w.grownBy w r := ⟨rfl, rfl, rfl, Nat.le_refl _, fun _ _ _ => rfl⟩
theorem grownBy_trans {a b c : World} {r : Option Nat} (h : a.grownBy b r) (k : b.grownBy c r) : a.grownBy c r :=
 ⟨k.os.trans h.os, k.tape.trans h.tape, k.output.trans h.output, Nat.le_trans h.size k.size, fun i hi hne => (k.block i (Nat.lt_of_lt_of_le hi h.size) hne).trans (h.block i hi hne)⟩
theorem grownBy_alloc' (w : World) (o : Obj) (r : Option Nat) : w.grownBy (w.alloc o) r := ⟨rfl, rfl, rfl, by simp, fun k hk _ => Below.heap_alloc w o k hk⟩
theorem BoxT.cellAt {t : TypeId} {w : World} {k : Nat} {cs : Array Value} (h : BoxT t w k cs) (j : Nat) : w.cell? ⟨k, j, none⟩ = cs[j]? := by
 unfold BoxT at h
 simp [World.cell?, h]
theorem BoxT.grown {t : TypeId} {w w' : World} {k R : Nat} {cs : Array Value} (h : BoxT t w k cs) (hg : w.grownBy w' (some R)) (hne : k ≠ R) : BoxT t w' k cs := by
 unfold BoxT at *
 rw [hg.block k (Array.getElem?_eq_some_iff.1 h).1 (by simpa using hne)]; exact h
theorem BoxT.other {t : TypeId} {w : World} {k k' : Nat} {cs : Array Value} (h : BoxT t w k cs) (j : Nat) (u : Value) (hk : k ≠ k') : BoxT t (w.setCell ⟨k', j, none⟩ u) k cs := by
 unfold BoxT at *
 rw [Below.heap_setCell w ⟨k', j, none⟩ u k hk]; exact h
structure Turned (k b : Nat) (w w' : World) : Prop where
 os : w'.os = w.os
 tape : w'.tape = w.tape
 output : w'.output = w.output
 size : w.heap.size ≤ w'.heap.size
 block : ∀ i, i < w.heap.size → i ≠ k → i ≠ b → w'.heap[i]? = w.heap[i]?
theorem Turned.refl (k b : Nat) (w : World) : Turned k b w w := ⟨rfl, rfl, rfl, Nat.le_refl _, fun _ _ _ _ => rfl⟩
theorem Turned.trans {k b : Nat} {u v w : World} (h : Turned k b u v) (h' : Turned k b v w) : Turned k b u w :=
 ⟨h'.os.trans h.os, h'.tape.trans h.tape, h'.output.trans h.output, Nat.le_trans h.size h'.size, fun i hi h1 h2 => (h'.block i (Nat.lt_of_lt_of_le hi h.size) h1 h2).trans (h.block i hi h1 h2)⟩
theorem Turned.below {k b : Nat} {w w' : World} (h : Below w.heap.size w w') : Turned k b w w' := ⟨h.os, h.tape, h.output, h.size, fun i hi _ _ => h.block i hi⟩
theorem Turned.set (k b : Nat) (w : World) (j : Nat) (u : Value) : Turned k b w (w.setCell ⟨k, j, none⟩ u) :=
 ⟨rfl, rfl, rfl, by simp, fun i _ h1 _ => Below.heap_setCell w ⟨k, j, none⟩ u i h1⟩
def setL (ca : Array Value) (j : Nat) : List Value → Array Value
 | [] => ca
 | v :: vs => setL (ca.setIfInBounds j v) (j + 1) vs
def OwnL {α : Type} (t sz : Nat) (cs : α → List Value) (base : Nat) (w : World) (v : Value) (xs : List α) : Prop := w.ownsRow base t sz v xs.length (xs.flatMap cs)
section
variable {α : Type} {t sz : Nat} {cs : α → List Value} {base : Nat} {w w' : World} {v : Value} {xs : List α}
theorem OwnL.nil (t sz : Nat) (cs : α → List Value) (base : Nat) (w : World) : OwnL t sz cs base w (.slice none 0 0) [] := World.ownsRow_nil _ _ _ _
theorem OwnL.alloc (h : OwnL t sz cs base w v xs) (o : Obj) : OwnL t sz cs base (w.alloc o) v xs := World.ownsRow.alloc h o
theorem OwnL.below (h : OwnL t sz cs base w v xs) (hb : Below w.heap.size w w') : OwnL t sz cs base w' v xs := by
 refine ⟨h.1, ?_⟩
 rcases h.2 with h | ⟨g, cap, cur, h1, h2, h3, h4⟩
 ·exact .inl h
 ·exact .inr ⟨g, cap, cur, h1, h2, by rw [hb.block g (Array.getElem?_eq_some_iff.1 h3).1]; exact h3, h4⟩
theorem OwnL.mono {base' : Nat} (h : OwnL t sz cs base w v xs) (hb : base' ≤ base) : OwnL t sz cs base' w v xs := by
 refine ⟨h.1, ?_⟩
 rcases h.2 with h | ⟨g, cap, cur, h1, h2, h3⟩
 ·exact .inl h
 ·exact .inr ⟨g, cap, cur, h1, by omega, h3⟩
theorem OwnL.shape (h : OwnL t sz cs base w v xs) : ∃ ao cap, v = .slice ao xs.length cap := by
 rcases h.2 with ⟨rfl, h0⟩ | ⟨g, cap, cur, rfl, _⟩
 ·exact ⟨none, 0, by rw [h0]⟩
 ·exact ⟨_, cap, rfl⟩
theorem OwnL.drew (h : OwnL t sz cs base w v xs) : OwnL t sz cs base w.drew v xs := h
theorem OwnL.back (h : OwnL t sz cs base w v xs) (hb : ∀ g, v.ownBlock = some g → w'.heap[g]? = w.heap[g]?) : OwnL t sz cs base w' v xs := by
 refine ⟨h.1, ?_⟩
 rcases h.2 with h | ⟨g, cap, cur, rfl, h2, h3, h4⟩
 ·exact .inl h
 ·exact .inr ⟨g, cap, cur, rfl, h2, by rw [hb g rfl]; exact h3, h4⟩
theorem OwnL.has (h : OwnL t sz cs base w v xs) (g : Nat) (hg : v.ownBlock = some g) : ∃ cur, w.heap[g]? = some (.cells cur t (0, 0)) := by
 rcases h.2 with ⟨rfl, _⟩ | ⟨g', cap, cur, rfl, h2, h3, _⟩
 ·cases hg
 ·obtain rfl : g' = g := Option.some.inj hg
  exact ⟨cur, h3⟩
theorem OwnL.at (h : OwnL t sz cs base w v xs) : ∀ g, v.ownBlock = some g → base ≤ g := fun g e => (World.ownsRow.lt h g e).1
theorem OwnL.lt (h : OwnL t sz cs base w v xs) (g : Nat) (hg : v.ownBlock = some g) : g < w.heap.size := by
 obtain ⟨cur, hc⟩ := h.has g hg
 exact (Array.getElem?_eq_some_iff.1 hc).1
end
def LSeg {α : Type} (sz : Nat) (cs : α → List Value) (B : Nat) (w : World) (v : Value) (xs : List α) : Prop :=
 ∃ ao cap, v = .slice ao xs.length cap ∧ xs.length ≤ 140737488355328 ∧ (xs = [] ∨ ∃ b off, ao = some ⟨b, off, none⟩ ∧ b < B ∧ ∀ (i : Nat) (x : α), xs[i]? = some x → ∀ (j : Nat) (u : Value), (cs x)[j]? = some u → w.cell? ⟨b, off + i * sz + j, none⟩ = some u)
section
variable {α : Type} {sz : Nat} {cs : α → List Value} {B : Nat} {w w' : World} {v : Value} {xs : List α}
theorem LSeg.mono {B' : Nat} (h : LSeg sz cs B w v xs) (hB : B ≤ B') : LSeg sz cs B' w v xs := by
 obtain ⟨ao, cap, h1, h2, h4⟩ := h
 refine ⟨ao, cap, h1, h2, ?_⟩
 rcases h4 with h4 | ⟨b, off, h5, h6, h7⟩
 ·exact .inl h4
 ·exact .inr ⟨b, off, h5, by omega, h7⟩
theorem LSeg.below (h : LSeg sz cs B w v xs) (hb : Below B w w') : LSeg sz cs B w' v xs := by
 obtain ⟨ao, cap, h1, h2, h4⟩ := h
 refine ⟨ao, cap, h1, h2, ?_⟩
 rcases h4 with h4 | ⟨b, off, h5, h6, h7⟩
 ·exact .inl h4
 ·exact .inr ⟨b, off, h5, h6, fun i x hi j u hu => (hb.cell (p := ⟨b, off + i * sz + j, none⟩) h6).trans (h7 i x hi j u hu)⟩
end
theorem flat_get {α : Type} {sz : Nat} {cs : α → List Value} (hcs : ∀ x, (cs x).length = sz) (xs : List α) : ∀ (i j : Nat) (x : α) (u : Value), xs[i]? = some x → (cs x)[j]? = some u → (xs.flatMap cs)[i * sz + j]? = some u := by
 induction xs with
 | nil => intro i j x u h; simp at h
 | cons y ys ih =>
  intro i j x u h hu
  have hj : j < sz := by rw [← hcs x]; exact (List.getElem?_eq_some_iff.1 hu).1
  rw [List.flatMap_cons]
  match i, h with
  | 0, h =>
   obtain rfl : y = x := by simpa using h
   rw [Nat.zero_mul, Nat.zero_add, List.getElem?_append_left (by rw [hcs]; exact hj)]; exact hu
  | i + 1, h =>
   rw [List.getElem?_append_right (by rw [hcs, Nat.succ_mul]; omega), hcs, show (i + 1) * sz + j - sz = i * sz + j by rw [Nat.succ_mul]; omega]
   exact ih i j x u (by simpa using h) hu
theorem flat_size {α : Type} {sz : Nat} {cs : α → List Value} (hcs : ∀ x, (cs x).length = sz) (xs : List α) : (xs.flatMap cs).length = xs.length * sz := by
 induction xs with
 | nil => simp
 | cons y ys ih => rw [List.flatMap_cons, List.length_append, hcs, ih, List.length_cons, Nat.succ_mul]; omega
theorem BoxT.setCells {t k : Nat} (vs : List Value) : ∀ {w : World} {ca : Array Value} {j : Nat}, BoxT t w k ca → BoxT t (w.setCells k j vs) k (setL ca j vs) := by
 induction vs with
 | nil => intro w ca j h; exact h
 | cons v vs ih => intro w ca j h; exact ih (h.set j v)
theorem setL_size (vs : List Value) : ∀ (ca : Array Value) (j : Nat), (setL ca j vs).size = ca.size := by
 induction vs with
 | nil => intro ca j; rfl
 | cons v vs ih => intro ca j; rw [setL, ih]; simp
theorem setL_out (vs : List Value) : ∀ (ca : Array Value) (j i : Nat), i < j ∨ j + vs.length ≤ i → (setL ca j vs)[i]? = ca[i]? := by
 induction vs with
 | nil => intro ca j i _; rfl
 | cons v vs ih =>
  intro ca j i h
  rw [setL, ih _ _ _ (by simp only [List.length_cons] at h; omega), Array.getElem?_setIfInBounds_ne (by simp only [List.length_cons] at h; omega)]
theorem setL_in (vs : List Value) : ∀ (ca : Array Value) (j i : Nat) (u : Value), j + vs.length ≤ ca.size → vs[i]? = some u → (setL ca j vs)[j + i]? = some u := by
 induction vs with
 | nil => intro ca j i u _ h; simp at h
 | cons v vs ih =>
  intro ca j i u hl h
  simp only [List.length_cons] at hl
  match i, h with
  | 0, h =>
   obtain rfl : v = u := by simpa using h
   rw [setL, setL_out _ _ _ _ (by omega)]
   simp [Array.getElem?_setIfInBounds]; omega
  | i + 1, h =>
   rw [setL, show j + (i + 1) = (j + 1) + i by omega]
   exact ih _ _ _ _ (by simp; omega) (by simpa using h)
theorem grown_setCells (g : Nat) (vs : List Value) : ∀ (w : World) (o : Nat), w.grownBy (w.setCells g o vs) (some g) := by
 induction vs with
 | nil => intro w o; exact grownBy_refl _ _
 | cons v vs ih => intro w o; exact grownBy_trans (grownBy_set w g o v) (ih _ _)
def Row {α : Type} (t sz : Nat) (cs : α → List Value) (base : Nat) (w : World) (v : Value) (xs : List α) : Prop :=
 (v = .slice none 0 0 ∧ xs = []) ∨ ∃ g off cap cur, v = .slice (some ⟨g, off, none⟩) xs.length cap ∧ base ≤ g ∧ BoxT t w g cur ∧ xs.length ≤ cap ∧ cap ≤ maxLen ∧ off + cap * sz ≤ cur.size ∧ ∀ j u, (xs.flatMap cs)[j]? = some u → cur[off + j]? = some u
section
variable {α : Type} {t sz : Nat} {cs : α → List Value} {base : Nat} {w w' : World} {v : Value} {xs : List α}
theorem Row.nil (t sz : Nat) (cs : α → List Value) (base : Nat) (w : World) : Row t sz cs base w (.slice none 0 0) [] := .inl ⟨rfl, rfl⟩
theorem Row.of_own (h : OwnL t sz cs base w v xs) : Row t sz cs base w v xs := by
 have hl := h.1
 rcases h.2 with ⟨h1, h0⟩ | ⟨g, cap, cur, h1, h2, h3, h4, h5, h6, h7⟩
 ·exact .inl ⟨h1, List.length_eq_zero_iff.1 h0⟩
 ·refine .inr ⟨g, 0, cap, cur, h1, h2, h3, h4, h5, by omega, fun j u hj => ?_⟩
  rw [← h7, List.getElem?_take] at hj
  split at hj
  ·rw [Nat.zero_add]; simpa using hj
  ·cases hj
theorem Row.back (h : Row t sz cs base w v xs) (hb : ∀ g, v.ownBlock = some g → w'.heap[g]? = w.heap[g]?) : Row t sz cs base w' v xs := by
 rcases h with h | ⟨g, off, cap, cur, rfl, h2, h3, h4⟩
 ·exact .inl h
 ·exact .inr ⟨g, off, cap, cur, rfl, h2, by unfold BoxT at *; rw [hb g rfl]; exact h3, h4⟩
theorem Row.below (h : Row t sz cs base w v xs) (hb : Below w.heap.size w w') : Row t sz cs base w' v xs := by
 rcases h with h | ⟨g, off, cap, cur, rfl, h2, h3, h4⟩
 ·exact .inl h
 ·exact .inr ⟨g, off, cap, cur, rfl, h2, by have := h3.lt; unfold BoxT at *; rw [hb.block g this]; exact h3, h4⟩
theorem Row.has (h : Row t sz cs base w v xs) (g : Nat) (hg : v.ownBlock = some g) : ∃ cur, BoxT t w g cur := by
 rcases h with ⟨rfl, _⟩ | ⟨g', off, cap, cur, rfl, h2, h3, _⟩
 ·cases hg
 ·obtain rfl : g' = g := Option.some.inj hg
  exact ⟨cur, h3⟩
theorem Row.at (h : Row t sz cs base w v xs) (g : Nat) (hg : v.ownBlock = some g) : base ≤ g := by
 rcases h with ⟨rfl, _⟩ | ⟨g', off, cap, cur, rfl, h2, h3, _⟩
 ·cases hg
 ·obtain rfl : g' = g := Option.some.inj hg
  exact h2
theorem Row.shape (h : Row t sz cs base w v xs) : ∃ a c, v = .slice a xs.length c := by
 rcases h with ⟨rfl, rfl⟩ | ⟨g, off, cap, cur, rfl, _⟩
 ·exact ⟨none, 0, rfl⟩
 ·exact ⟨_, cap, rfl⟩
theorem Row.read (h : Row t sz cs base w v xs) (hcs : ∀ x, (cs x).length = sz) {i : Nat} {x : α} (hx : xs[i]? = some x) : ∃ g off cap, v = .slice (some ⟨g, off, none⟩) xs.length cap ∧ ∀ j u, (cs x)[j]? = some u → w.cell? ⟨g, off + (i * sz + j), none⟩ = some u := by
 rcases h with ⟨_, rfl⟩ | ⟨g, off, cap, cur, rfl, h2, h3, h4, h5, h6, h7⟩
 ·simp at hx
 ·refine ⟨g, off, cap, rfl, fun j u hu => ?_⟩
  rw [h3.cellAt]
  exact h7 _ u (flat_get hcs xs i j x u hx hu)
end
theorem below_drewN {B : Nat} {a w : World} (h : Below B a w) (n : Nat) : Below B a (w.drewN n) := by
 induction n with
 | zero => exact h
 | succ n ih => exact ih.drew
theorem add_plain2 (b o i : Nat) : (⟨b, o, none⟩ : Addr).add i = ⟨b, o + i, none⟩ := by unfold Addr.add; split <;> simp_all
def i64cs (x : Int) : List Value := [.int .i64 x]
theorem Tryz.info2' : (Tryz.prog.info? 2).map (fun i => (i.zero, i.size, i.bytes)) = some (some (.int .i64 0), 1, 8) := by kernel_rfl
theorem run_load0 (a : Addr) (w : World) : (loadCells a 0).run Tryz.prog w = .ok #[] w := by
 simp [loadCells, loadCellsFrom]
end Go.Proofs.YtpcbhcdpegbfjaaGreat
/-
 The aggregates as pure functions, and their laws.
-/
namespace Go.Proofs.YtpcbhcdpegbfjaaGreat
open Go.RowKit
def In64 (x : Int) : Prop := -9223372036854775808 ≤ x ∧ x ≤ 9223372036854775807
theorem in64_of_wf {x : Int} (h : (Lit.int .i64 x).wf = true) : In64 x := by
 simp only [Lit.wf, IntKind.min, IntKind.max, IntKind.signed, IntKind.bits, Bool.and_eq_true, decide_eq_true_eq, if_true] at h
 unfold In64
 omega
def xr (x y : Int) : Int := bits .xor .i64 x y
theorem wrap_int (b : BitVec 64) : IntKind.i64.wrap (b.toNat : Int) = b.toInt := by
 simp only [IntKind.wrap, IntKind.bits, IntKind.signed]
 rw [BitVec.toInt_eq_toNat_cond]
 have := b.isLt
 generalize b.toNat = n at *
 simp
 split <;> split <;> omega
theorem xr_eq (x y : Int) : xr x y = (BitVec.ofInt 64 x ^^^ BitVec.ofInt 64 y).toInt := wrap_int (BitVec.ofInt 64 x ^^^ BitVec.ofInt 64 y)
theorem xr_comm (x y : Int) : xr x y = xr y x := by rw [xr_eq, xr_eq, BitVec.xor_comm]
theorem xr_assoc (x y z : Int) : xr (xr x y) z = xr x (xr y z) := by
 rw [xr_eq (xr x y), xr_eq x (xr y z), xr_eq x y, xr_eq y z, BitVec.ofInt_toInt, BitVec.ofInt_toInt, BitVec.xor_assoc]
theorem xr_zero {x : Int} (h : In64 x) : xr x 0 = x := by
 unfold In64 at h
 rw [xr_eq, show BitVec.ofInt 64 0 = 0#64 from rfl, BitVec.xor_zero, BitVec.toInt_ofInt]
 unfold Int.bmod
 simp
 split <;> omega
theorem xr_in (x y : Int) : In64 (xr x y) := by
 have := wrap_within .i64 ((BitVec.ofInt 64 x ^^^ BitVec.ofInt 64 y).toNat : Int)
 unfold In64
 have e : xr x y = IntKind.i64.wrap ((BitVec.ofInt 64 x ^^^ BitVec.ofInt 64 y).toNat : Int) := rfl
 rw [e]
 simp only [IntKind.min, IntKind.max, IntKind.signed, IntKind.bits, if_true] at this
 omega
def zr (a : Int) : Int := if a = 3 then 9223372036854775807 else if a = 4 then -9223372036854775808 else 0
def jn (a x y : Int) : Int :=
 if a = 1 then wrap64 (x + y) else if a = 2 then wrap64 (x + y) else if a = 3 then (if y < x then y else x) else if a = 4 then (if y > x then y else x) else if a = 5 then xr x y else 0
def ad (a x v : Int) : Int := jn a x (if a = 2 then 1 else v)
def al (a : Int) (l : List Int) : Int := l.foldl (ad a) (zr a)
theorem zr_in (a : Int) : In64 (zr a) := by unfold In64 zr; split <;> (try split) <;> omega
theorem jn_in {a x y : Int} (hx : In64 x) (hy : In64 y) : In64 (jn a x y) := by
 have h := xr_in x y
 unfold jn
 unfold In64 at *
 split
 ·unfold wrap64; omega
 split
 ·unfold wrap64; omega
 split
 ·split <;> omega
 split
 ·split <;> omega
 split
 ·exact h
 ·omega
theorem jn_comm (a x y : Int) : jn a x y = jn a y x := by
 unfold jn
 rw [Int.add_comm y x, xr_comm y x]
 split
 ·rfl
 split
 ·rfl
 split
 ·split <;> split <;> omega
 split
 ·split <;> split <;> omega
 rfl
theorem jn1 (x y : Int) : jn 1 x y = wrap64 (x + y) := rfl
theorem jn2 (x y : Int) : jn 2 x y = wrap64 (x + y) := rfl
theorem jn3 (x y : Int) : jn 3 x y = if y < x then y else x := rfl
theorem jn4 (x y : Int) : jn 4 x y = if y > x then y else x := rfl
theorem jn5 (x y : Int) : jn 5 x y = xr x y := rfl
theorem jn_none {a : Int} (h : ¬ (1 ≤ a ∧ a ≤ 5)) (x y : Int) : jn a x y = 0 := by
 unfold jn
 rw [if_neg (by omega), if_neg (by omega), if_neg (by omega), if_neg (by omega), if_neg (by omega)]
theorem five {a : Int} (h : 1 ≤ a ∧ a ≤ 5) : a = 1 ∨ a = 2 ∨ a = 3 ∨ a = 4 ∨ a = 5 := by omega
theorem jn_assoc (a x y z : Int) : jn a (jn a x y) z = jn a x (jn a y z) := by
 by_cases h : 1 ≤ a ∧ a ≤ 5
 ·rcases five h with rfl | rfl | rfl | rfl | rfl
  ·simp only [jn1, wrap64]; omega
  ·simp only [jn2, wrap64]; omega
  ·simp only [jn3]; split <;> split <;> (try split) <;> (try split) <;> omega
  ·simp only [jn4]; split <;> split <;> (try split) <;> (try split) <;> omega
  ·simp only [jn5]; exact xr_assoc x y z
 ·rw [jn_none h, jn_none h]
theorem jn_zero {a x : Int} (ha : 1 ≤ a ∧ a ≤ 5) (hx : In64 x) : jn a x (zr a) = x := by
 have hz := xr_zero hx
 unfold jn zr
 unfold In64 at hx
 have : a = 1 ∨ a = 2 ∨ a = 3 ∨ a = 4 ∨ a = 5 := by omega
 rcases this with rfl | rfl | rfl | rfl | rfl
 ·simp; unfold wrap64; omega
 ·simp; unfold wrap64; omega
 ·simp; omega
 ·simp; omega
 ·simpa using hz
theorem ad_in {a x v : Int} (hx : In64 x) (hv : In64 v) : In64 (ad a x v) := by
 unfold ad
 refine jn_in hx ?_
 split
 ·unfold In64; omega
 ·exact hv
end Go.Proofs.YtpcbhcdpegbfjaaGreat
/-
 Panes as pure things: which meet, how they come together, and that whatever is joined first the end is the same.
-/
namespace Go.Proofs.YtpcbhcdpegbfjaaGreat
structure Pn where
 k : Int
 f : Int
 t : Int
 a : Int
theorem Pn.same {x y : Pn} (h1 : x.k = y.k) (h2 : x.f = y.f) (h3 : x.t = y.t) (h4 : x.a = y.a) : x = y := by
 cases x; cases y; simp_all
def mt (s : Bool) (x y : Pn) : Prop := x.k = y.k ∧ ((s = true ∧ x.f < y.t ∧ x.f < x.t ∧ y.f < x.t ∧ y.f < y.t) ∨ (s = false ∧ x.f = y.f ∧ x.t = y.t))
def jp (J : Int → Int → Int) (x y : Pn) : Pn := ⟨x.k, min x.f y.f, max x.t y.t, J x.a y.a⟩
theorem mt_symm {s : Bool} {x y : Pn} (h : mt s x y) : mt s y x := by
 obtain ⟨h1, h | h⟩ := h
 ·exact ⟨h1.symm, .inl ⟨h.1, h.2.2.2.1, h.2.2.2.2, h.2.1, h.2.2.1⟩⟩
 ·exact ⟨h1.symm, .inr ⟨h.1, h.2.1.symm, h.2.2.symm⟩⟩
section
variable {s : Bool} {J : Int → Int → Int} (hc : ∀ x y, J x y = J y x) (ha : ∀ x y z, J (J x y) z = J x (J y z))
include hc in
theorem jp_comm {x y : Pn} (h : mt s x y) : jp J x y = jp J y x := by
 refine Pn.same h.1 ?_ ?_ (hc _ _) <;> simp only [jp] <;> omega
theorem mt_jp {x y z : Pn} (h1 : mt s x y) (h2 : mt s x z) : mt s (jp J x y) z := by
 obtain ⟨e1, h1⟩ := h1
 obtain ⟨e2, h2⟩ := h2
 refine ⟨e2, ?_⟩
 simp only [jp]
 rcases h2 with ⟨hs, h2⟩ | ⟨hs, h2⟩
 ·exact .inl ⟨hs, by omega, by omega, by omega, by omega⟩
 ·rcases h1 with ⟨hs', h1⟩ | ⟨_, h1⟩
  ·rw [hs] at hs'; cases hs'
  ·exact .inr ⟨hs, by omega, by omega⟩
include hc ha in
theorem jp_right {x y z : Pn} : jp J (jp J x y) z = jp J (jp J x z) y := by
 refine Pn.same rfl ?_ ?_ ?_
 ·simp only [jp]; omega
 ·simp only [jp]; omega
 ·simp only [jp]; rw [ha, hc y.a, ← ha]
def Red (s : Bool) (J : Int → Int → Int) (l m : List Pn) : Prop := ∃ x y r, mt s x y ∧ l.Perm (x :: y :: r) ∧ m.Perm (jp J x y :: r)
def RedN (s : Bool) (J : Int → Int → Int) : Nat → List Pn → List Pn → Prop
 | 0, l, m => l.Perm m
 | n + 1, l, m => ∃ l1, Red s J l l1 ∧ RedN s J n l1 m
def Reds (s : Bool) (J : Int → Int → Int) (l m : List Pn) : Prop := ∃ n, RedN s J n l m
def Apart (s : Bool) (l : List Pn) : Prop := l.Pairwise fun x y => ¬ mt s x y
theorem Apart.perm {l m : List Pn} (h : Apart s l) (hp : l.Perm m) : Apart s m := List.Pairwise.perm h hp fun h1 h2 => h1 (mt_symm h2)
theorem Red.perm {l m l' m' : List Pn} (h : Red s J l m) (h1 : l.Perm l') (h2 : m.Perm m') : Red s J l' m' := by
 obtain ⟨x, y, r, a, b, c⟩ := h
 exact ⟨x, y, r, a, h1.symm.trans b, h2.symm.trans c⟩
theorem RedN.perm {n : Nat} : ∀ {l m l' m' : List Pn}, RedN s J n l m → l.Perm l' → m.Perm m' → RedN s J n l' m' := by
 induction n with
 | zero => intro l m l' m' h h1 h2; exact h1.symm.trans (List.Perm.trans h h2)
 | succ n ih =>
  intro l m l' m' h h1 h2
  obtain ⟨l1, a, b⟩ := h
  exact ⟨l1, a.perm h1 (.refl _), ih b (.refl _) h2⟩
theorem Reds.perm {l m l' m' : List Pn} (h : Reds s J l m) (h1 : l.Perm l') (h2 : m.Perm m') : Reds s J l' m' := by
 obtain ⟨n, h⟩ := h
 exact ⟨n, h.perm h1 h2⟩
theorem Reds.refl (l : List Pn) : Reds s J l l := ⟨0, .refl _⟩
theorem Reds.of_perm {l m : List Pn} (h : l.Perm m) : Reds s J l m := ⟨0, h⟩
theorem RedN.trans {n k : Nat} : ∀ {l m r : List Pn}, RedN s J n l m → RedN s J k m r → RedN s J (n + k) l r := by
 induction n with
 | zero => intro l m r h h'; rw [Nat.zero_add]; exact h'.perm (List.Perm.symm h) (.refl _)
 | succ n ih =>
  intro l m r h h'
  obtain ⟨l1, a, b⟩ := h
  rw [Nat.succ_add]
  exact ⟨l1, a, ih b h'⟩
theorem Reds.trans {l m r : List Pn} (h : Reds s J l m) (h' : Reds s J m r) : Reds s J l r := by
 obtain ⟨n, h⟩ := h
 obtain ⟨k, h'⟩ := h'
 exact ⟨n + k, h.trans h'⟩
theorem Reds.one {l m : List Pn} (h : Red s J l m) : Reds s J l m := ⟨1, m, h, .refl _⟩
theorem Reds.pair {x y : Pn} (r : List Pn) (h : mt s x y) : Reds s J (x :: y :: r) (jp J x y :: r) := .one ⟨x, y, r, h, .refl _, .refl _⟩
theorem Red.beside {l m : List Pn} (h : Red s J l m) (q : List Pn) : Red s J (l ++ q) (m ++ q) := by
 obtain ⟨x, y, r, a, b, c⟩ := h
 exact ⟨x, y, r ++ q, a, b.append_right q, c.append_right q⟩
theorem RedN.beside {n : Nat} : ∀ {l m : List Pn}, RedN s J n l m → ∀ q, RedN s J n (l ++ q) (m ++ q) := by
 induction n with
 | zero => intro l m h q; exact List.Perm.append_right q h
 | succ n ih =>
  intro l m h q
  obtain ⟨l1, a, b⟩ := h
  exact ⟨l1 ++ q, a.beside q, ih b q⟩
theorem Reds.beside {l m : List Pn} (h : Reds s J l m) (q : List Pn) : Reds s J (l ++ q) (m ++ q) := by
 obtain ⟨n, h⟩ := h
 exact ⟨n, h.beside q⟩
theorem Reds.both {l m l' m' : List Pn} (h : Reds s J l m) (h' : Reds s J l' m') : Reds s J (l ++ l') (m ++ m') := by
 refine (h.beside l').trans ?_
 exact (h'.beside m).perm List.perm_append_comm List.perm_append_comm
theorem Reds.cons {l m : List Pn} (h : Reds s J l m) (x : Pn) : Reds s J (x :: l) (x :: m) := (Reds.refl [x]).both h
theorem Red.len {l m : List Pn} (h : Red s J l m) : l.length = m.length + 1 := by
 obtain ⟨x, y, r, _, b, c⟩ := h
 rw [b.length_eq, c.length_eq]; simp
theorem RedN.len {n : Nat} : ∀ {l m : List Pn}, RedN s J n l m → l.length = m.length + n := by
 induction n with
 | zero => intro l m h; exact List.Perm.length_eq h
 | succ n ih =>
  intro l m h
  obtain ⟨l1, a, b⟩ := h
  have := a.len; have := ih b; omega
theorem Reds.len {l m : List Pn} (h : Reds s J l m) : m.length ≤ l.length := by
 obtain ⟨n, h⟩ := h
 have := h.len; omega
theorem perm_part {x y : Pn} {r q : List Pn} (h : (x :: r).Perm (y :: q)) (hn : x ≠ y) : ∃ z, r.Perm (y :: z) ∧ q.Perm (x :: z) := by
 have h1 : y ∈ x :: r := h.symm.subset (List.mem_cons_self ..)
 have h2 : y ∈ r := by
  rcases List.mem_cons.1 h1 with h | h
  ·exact absurd h.symm hn
  ·exact h
 obtain ⟨u, v, rfl⟩ := List.append_of_mem h2
 refine ⟨u ++ v, List.perm_middle, ?_⟩
 have h3 : (x :: (u ++ y :: v)).Perm (y :: x :: (u ++ v)) := (List.Perm.cons x List.perm_middle).trans (List.Perm.swap ..)
 exact ((h3.symm.trans h).cons_inv).symm
include hc ha in
theorem diamond1 {x y z : Pn} {r q : List Pn} (h1 : mt s x y) (h2 : mt s x z) (hp : (y :: r).Perm (z :: q)) : (jp J x y :: r).Perm (jp J x z :: q) ∨ ∃ m, Red s J (jp J x y :: r) m ∧ Red s J (jp J x z :: q) m := by
 by_cases e : y = z
 ·subst e
  exact .inl (.cons _ hp.cons_inv)
 ·obtain ⟨u, hr, hq⟩ := perm_part hp e
  refine .inr ⟨jp J (jp J x y) z :: u, ⟨jp J x y, z, u, mt_jp h1 h2, .cons _ hr, .refl _⟩, ⟨jp J x z, y, u, mt_jp h2 h1, .cons _ hq, ?_⟩⟩
  rw [jp_right hc ha]
include hc ha in
theorem diamond {l a b : List Pn} (h1 : Red s J l a) (h2 : Red s J l b) : a.Perm b ∨ ∃ m, Red s J a m ∧ Red s J b m := by
 have fit : ∀ {a a' b b' : List Pn}, a.Perm a' → b.Perm b' → (a'.Perm b' ∨ ∃ m, Red s J a' m ∧ Red s J b' m) → (a.Perm b ∨ ∃ m, Red s J a m ∧ Red s J b m) := by
  rintro a a' b b' ha hb (h | ⟨m, h, h'⟩)
  ·exact .inl (ha.trans (h.trans hb.symm))
  ·exact .inr ⟨m, h.perm ha.symm (.refl _), h'.perm hb.symm (.refl _)⟩
 obtain ⟨x, y, r, m1, p1, e1⟩ := h1
 obtain ⟨z, u, q, m2, p2, e2⟩ := h2
 have hp := p1.symm.trans p2
 refine fit e1 e2 ?_
 by_cases c1 : x = z
 ·subst c1; exact diamond1 hc ha m1 m2 hp.cons_inv
 by_cases c2 : x = u
 ·subst c2
  rw [jp_comm hc m2]
  exact diamond1 hc ha m1 (mt_symm m2) (hp.trans (List.Perm.swap ..)).cons_inv
 by_cases c3 : y = z
 ·subst c3
  rw [jp_comm hc m1]
  exact diamond1 hc ha (mt_symm m1) m2 ((List.Perm.swap ..).trans hp).cons_inv
 by_cases c4 : y = u
 ·subst c4
  rw [jp_comm hc m1, jp_comm hc m2]
  exact diamond1 hc ha (mt_symm m1) (mt_symm m2) (((List.Perm.swap ..).trans hp).trans (List.Perm.swap ..)).cons_inv
 obtain ⟨v, k1, k2⟩ := perm_part hp c1
 obtain ⟨v2, k3, k4⟩ := perm_part k1 c3
 obtain ⟨v3, k5, k6⟩ := perm_part k2.symm (fun e => c2 e)
 obtain ⟨v4, k7, k8⟩ := perm_part (k4.symm.trans k5) c4
 refine .inr ⟨jp J x y :: jp J z u :: v4, ⟨z, u, jp J x y :: v4, m2, ?_, ?_⟩, ⟨x, y, jp J z u :: v4, m1, ?_, List.Perm.refl _⟩⟩
 ·refine (List.Perm.cons _ (k3.trans (.cons _ k7))).trans ?_
  exact (List.Perm.swap ..).trans (.cons _ (List.Perm.swap ..))
 ·exact List.Perm.swap ..
 ·refine (List.Perm.cons _ (k6.trans (.cons _ k8))).trans ?_
  exact (List.Perm.swap ..).trans (.cons _ (List.Perm.swap ..))
theorem not_apart {l : List Pn} (h : ¬ Apart s l) : ∃ x y r, mt s x y ∧ l.Perm (x :: y :: r) := by
 induction l with
 | nil => exact absurd List.Pairwise.nil h
 | cons x l ih =>
  by_cases h1 : Apart s l
  ·by_cases h2 : ∃ y ∈ l, mt s x y
   ·obtain ⟨y, hy, hm⟩ := h2
    obtain ⟨u, v, rfl⟩ := List.append_of_mem hy
    exact ⟨x, y, u ++ v, hm, .cons _ List.perm_middle⟩
   ·exact absurd (List.Pairwise.cons (fun y hy hm => h2 ⟨y, hy, hm⟩) h1) h
  ·obtain ⟨y, z, r, hm, hp⟩ := ih h1
   refine ⟨y, z, x :: r, hm, (List.Perm.cons _ hp).trans ?_⟩
   exact (List.Perm.swap ..).trans (.cons _ (List.Perm.swap ..))
theorem ends (n : Nat) : ∀ l : List Pn, l.length ≤ n → ∃ m, Reds s J l m ∧ Apart s m := by
 induction n with
 | zero =>
  intro l hl
  obtain rfl : l = [] := List.length_eq_zero_iff.1 (by omega)
  exact ⟨[], .refl _, .nil⟩
 | succ n ih =>
  intro l hl
  by_cases h : Apart s l
  ·exact ⟨l, .refl _, h⟩
  ·obtain ⟨x, y, r, hm, hp⟩ := not_apart h
   obtain ⟨m, h1, h2⟩ := ih (jp J x y :: r) (by have := hp.length_eq; simp at this ⊢; omega)
   exact ⟨m, (Reds.one ⟨x, y, r, hm, hp, .refl _⟩).trans h1, h2⟩
theorem Apart.stuck {l m : List Pn} (h : Apart s l) (hr : Red s J l m) : False := by
 obtain ⟨x, y, r, hm, hp, _⟩ := hr
 have h1 : Apart s (x :: y :: r) := h.perm hp
 exact (List.pairwise_cons.1 h1).1 y (List.mem_cons_self ..) hm
include hc ha in
theorem unique (n : Nat) : ∀ {l m m' : List Pn}, l.length ≤ n → Reds s J l m → Apart s m → Reds s J l m' → Apart s m' → m.Perm m' := by
 induction n with
 | zero =>
  intro l m m' hl h _ h' _
  have h1 := h.len; have h2 := h'.len
  obtain rfl : m = [] := List.length_eq_zero_iff.1 (by omega)
  obtain rfl : m' = [] := List.length_eq_zero_iff.1 (by omega)
  exact .refl _
 | succ n ih =>
  intro l m m' hl h hm h' hm'
  obtain ⟨i, h⟩ := h
  obtain ⟨j, h'⟩ := h'
  match i, j, h, h' with
  | 0, 0, h, h' => exact (List.Perm.symm h).trans h'
  | 0, j + 1, h, h' =>
   obtain ⟨l1, a, _⟩ := h'
   exact ((hm.perm (List.Perm.symm h)).stuck a).elim
  | i + 1, 0, h, h' =>
   obtain ⟨l1, a, _⟩ := h
   exact ((hm'.perm (List.Perm.symm h')).stuck a).elim
  | i + 1, j + 1, h, h' =>
   obtain ⟨l1, a, b⟩ := h
   obtain ⟨l2, a', b'⟩ := h'
   have e1 := a.len; have e2 := a'.len
   rcases diamond hc ha a a' with hp | ⟨l3, c, c'⟩
   ·exact ih (by omega) ⟨i, b⟩ hm ⟨j, b'.perm hp.symm (.refl _)⟩ hm'
   ·obtain ⟨m3, d, hm3⟩ := ends (s := s) (J := J) _ l3 (Nat.le_refl _)
    exact (ih (by omega) ⟨i, b⟩ hm ((Reds.one c).trans d) hm3).trans (ih (by omega) ((Reds.one c').trans d) hm3 ⟨j, b'⟩ hm')
def Comes (s : Bool) (J : Int → Int → Int) (l m : List Pn) : Prop := Reds s J l m ∧ Apart s m
include hc ha in
theorem Comes.unique {l m m' : List Pn} (h : Comes s J l m) (h' : Comes s J l m') : m.Perm m' := YtpcbhcdpegbfjaaGreat.unique hc ha _ (Nat.le_refl _) h.1 h.2 h'.1 h'.2
theorem Comes.perm {l m l' m' : List Pn} (h : Comes s J l m) (h1 : l.Perm l') (h2 : m.Perm m') : Comes s J l' m' := ⟨h.1.perm h1 h2, h.2.perm h2⟩
theorem Comes.step {l m q r : List Pn} (h : Comes s J l m) (h' : Comes s J (q ++ m) r) : Comes s J (q ++ l) r := by
 refine ⟨Reds.trans ?_ h'.1, h'.2⟩
 exact (Reds.refl q).both h.1
theorem Comes.refl {l : List Pn} (h : Apart s l) : Comes s J l l := ⟨.refl _, h⟩
theorem Reds.keeps {P : Pn → Prop} (hP : ∀ x y, mt s x y → P x → P y → P (jp J x y)) {l m : List Pn} (h : Reds s J l m) (hl : ∀ x ∈ l, P x) : ∀ x ∈ m, P x := by
 obtain ⟨n, h⟩ := h
 induction n generalizing l with
 | zero => intro x hx; exact hl x ((List.Perm.mem_iff h).2 hx)
 | succ n ih =>
  obtain ⟨l1, ⟨x, y, r, hm, hp, he⟩, b⟩ := h
  refine ih ?_ b
  intro z hz
  rcases List.mem_cons.1 ((List.Perm.mem_iff he).1 hz) with rfl | hz
  ·exact hP _ _ hm (hl _ ((List.Perm.mem_iff hp).2 (List.mem_cons_self ..))) (hl _ ((List.Perm.mem_iff hp).2 (List.mem_cons_of_mem _ (List.mem_cons_self ..))))
  ·exact hl _ ((List.Perm.mem_iff hp).2 (List.mem_cons_of_mem _ (List.mem_cons_of_mem _ hz)))
theorem Reds.map {J' : Int → Int → Int} {φ : Pn → Pn} (h1 : ∀ x y, mt s x y → mt s (φ x) (φ y)) (h2 : ∀ x y, mt s x y → φ (jp J x y) = jp J' (φ x) (φ y)) {l m : List Pn} (h : Reds s J l m) : Reds s J' (l.map φ) (m.map φ) := by
 obtain ⟨n, h⟩ := h
 refine ⟨n, ?_⟩
 induction n generalizing l with
 | zero => exact List.Perm.map _ h
 | succ n ih =>
  obtain ⟨l1, ⟨x, y, r, hm, hp, he⟩, b⟩ := h
  refine ⟨l1.map φ, ⟨φ x, φ y, r.map φ, h1 _ _ hm, by simpa using hp.map φ, ?_⟩, ih b⟩
  rw [← h2 _ _ hm]
  simpa using he.map φ
theorem Apart.map {φ : Pn → Pn} (h1 : ∀ x y, mt s (φ x) (φ y) → mt s x y) {l : List Pn} (h : Apart s l) : Apart s (l.map φ) := by
 unfold Apart at *
 rw [List.pairwise_map]
 exact h.imp fun h2 h3 => h2 (h1 _ _ h3)
theorem Comes.map {J' : Int → Int → Int} {φ : Pn → Pn} (h0 : ∀ x y, mt s (φ x) (φ y) ↔ mt s x y) (h2 : ∀ x y, mt s x y → φ (jp J x y) = jp J' (φ x) (φ y)) {l m : List Pn} (h : Comes s J l m) : Comes s J' (l.map φ) (m.map φ) :=
 ⟨h.1.map (fun x y => (h0 x y).2) h2, h.2.map (fun x y => (h0 x y).1)⟩
end
def plb (x y : Pn) : Bool := decide (x.k < y.k) || (decide (x.k = y.k) && (decide (x.f < y.f) || (decide (x.f = y.f) && (decide (x.t < y.t) || (decide (x.t = y.t) && decide (x.a ≤ y.a))))))
theorem plb_iff {x y : Pn} : plb x y = true ↔ x.k < y.k ∨ (x.k = y.k ∧ (x.f < y.f ∨ (x.f = y.f ∧ (x.t < y.t ∨ (x.t = y.t ∧ x.a ≤ y.a))))) := by simp [plb]
theorem plb_total {x y : Pn} (h : ¬ plb x y = true) : plb y x = true := by rw [plb_iff] at *; omega
theorem plb_trans {x y z : Pn} (h : plb x y = true) (h' : plb y z = true) : plb x z = true := by rw [plb_iff] at *; omega
theorem plb_anti {x y : Pn} (h : plb x y = true) (h' : plb y x = true) : x = y := by
 rw [plb_iff] at *
 exact Pn.same (by omega) (by omega) (by omega) (by omega)
def Rising (l : List Pn) : Prop := l.Pairwise fun x y => plb x y = true
def ins (x : Pn) : List Pn → List Pn
 | [] => [x]
 | y :: r => if plb x y = true then x :: y :: r else y :: ins x r
def srt (l : List Pn) : List Pn := l.foldr ins []
theorem ins_perm (x : Pn) (l : List Pn) : (ins x l).Perm (x :: l) := by
 induction l with
 | nil => exact .refl _
 | cons y r ih =>
  unfold ins
  split
  ·exact .refl _
  ·exact (List.Perm.cons _ ih).trans (List.Perm.swap ..)
theorem ins_rising (x : Pn) {l : List Pn} (h : Rising l) : Rising (ins x l) := by
 induction l with
 | nil => exact List.pairwise_singleton _ _
 | cons y r ih =>
  obtain ⟨h1, h2⟩ := List.pairwise_cons.1 h
  unfold ins
  split
  ·next hxy => exact List.pairwise_cons.2 ⟨fun z hz => by
    rcases List.mem_cons.1 hz with rfl | hz
    ·exact hxy
    ·exact plb_trans hxy (h1 z hz), h⟩
  ·next hxy =>
   refine List.pairwise_cons.2 ⟨fun z hz => ?_, ih h2⟩
   rcases List.mem_cons.1 ((List.Perm.mem_iff (ins_perm x r)).1 hz) with rfl | hz
   ·exact plb_total hxy
   ·exact h1 z hz
theorem srt_perm (l : List Pn) : (srt l).Perm l := by
 induction l with
 | nil => exact .refl _
 | cons x l ih => exact (ins_perm x (srt l)).trans (.cons _ ih)
theorem srt_rising (l : List Pn) : Rising (srt l) := by
 induction l with
 | nil => exact List.Pairwise.nil
 | cons x l ih => exact ins_rising x ih
theorem rising_eq {l m : List Pn} (h : Rising l) (h' : Rising m) (hp : l.Perm m) : l = m :=
 List.Perm.eq_of_pairwise (le := fun x y => plb x y = true) (fun _ _ _ _ => plb_anti) h h' hp
theorem srt_of {l m : List Pn} (hp : m.Perm l) (h : Rising m) : m = srt l := rising_eq h (srt_rising l) (hp.trans (srt_perm l).symm)
theorem srt_eq {l m : List Pn} (hp : m.Perm l) : srt m = srt l := srt_of ((srt_perm m).trans hp) (srt_rising m)
theorem srt_len (l : List Pn) : (srt l).length = l.length := (srt_perm l).length_eq
def ovb (x y : Pn) : Bool := decide (x.k = y.k) && decide (max x.f y.f < min x.t y.t)
theorem ovb_iff {x y : Pn} : ovb x y = true ↔ mt true x y := by
 simp only [ovb, mt, Bool.and_eq_true, decide_eq_true_eq]
 constructor
 ·rintro ⟨h1, h2⟩; exact ⟨h1, .inl ⟨trivial, by omega, by omega, by omega, by omega⟩⟩
 ·rintro ⟨h1, h2 | h2⟩
  ·exact ⟨h1, by omega⟩
  ·cases h2.1
def jrow (J : Int → Int → Int) : Pn → List Pn → List Pn → List Pn
 | wh, [], out => out ++ [wh]
 | wh, p :: r, out => if ovb wh p = true then jrow J (jp J wh p) r out else if p.f ≥ p.t then jrow J wh r (out ++ [p]) else jrow J p r (out ++ [wh])
def pJoin (J : Int → Int → Int) (l : List Pn) : List Pn :=
 match srt l with
 | [] => []
 | p :: r => srt (jrow J p r [])
def Full (x : Pn) : Prop := x.f < x.t
theorem jrow_reds (J : Int → Int → Int) (r : List Pn) : ∀ wh out, Reds true J (out ++ wh :: r) (jrow J wh r out) := by
 induction r with
 | nil => intro wh out; exact .refl _
 | cons p r ih =>
  intro wh out
  unfold jrow
  split
  ·next h =>
   refine Reds.trans ?_ (ih _ _)
   exact (Reds.refl out).both (Reds.pair r (ovb_iff.1 h))
  ·split
   ·refine Reds.trans (Reds.of_perm ?_) (ih _ _)
    rw [List.append_assoc]
    exact List.Perm.append_left out (List.Perm.swap ..)
   ·refine Reds.trans (Reds.of_perm ?_) (ih _ _)
    rw [List.append_assoc]; exact .refl _
theorem jrow_len (J : Int → Int → Int) (r : List Pn) (wh : Pn) (out : List Pn) : (jrow J wh r out).length ≤ out.length + 1 + r.length := by
 have := (jrow_reds J r wh out).len
 simp at this; omega
theorem pJoin_len (J : Int → Int → Int) (l : List Pn) : (pJoin J l).length ≤ l.length := by
 unfold pJoin
 have h := srt_len l
 split
 ·simp
 ·next p r e => rw [e] at h; simp at h; have := jrow_len J r p []; rw [srt_len]; simp at this; omega
theorem jp_full {J : Int → Int → Int} {s : Bool} {x y : Pn} (_ : mt s x y) (hx : Full x) (hy : Full y) : Full (jp J x y) := by
 unfold Full jp at *; simp only; omega
section
variable {J : Int → Int → Int} (hc : ∀ x y, J x y = J y x) (ha : ∀ x y z, J (J x y) z = J x (J y z))
def wholeOf (J : Int → Int → Int) (fr : Pn) (l : List Pn) : Pn := l.foldl (fun wh p => if ovb fr p = true then jp J wh p else wh) fr
def withA (x : Pn) (a : Int) : Pn := ⟨x.k, x.f, x.t, a⟩
def pSess (J : Int → Int → Int) (l : List Pn) (fr : Pn) (v : Int) : List Pn :=
 l.filter (fun p => !ovb (wholeOf J fr (pJoin J l)) p) ++ [withA (wholeOf J fr (pJoin J l)) (J (wholeOf J fr (pJoin J l)).a v)]
def Over (fr wh : Pn) : Prop := wh.k = fr.k ∧ wh.f ≤ fr.f ∧ fr.t ≤ wh.t
theorem Over.meets {fr wh x : Pn} (h : Over fr wh) (hm : mt true fr x) : mt true wh x := by
 obtain ⟨h1, h2, h3⟩ := h
 obtain ⟨k1, ⟨_, k2⟩ | ⟨k2, _⟩⟩ := hm
 ·exact ⟨by omega, .inl ⟨rfl, by omega, by omega, by omega, by omega⟩⟩
 ·cases k2
theorem Over.jp {fr wh : Pn} (h : Over fr wh) (x : Pn) : Over fr (jp J wh x) := by
 obtain ⟨h1, h2, h3⟩ := h
 exact ⟨h1, by simp only [YtpcbhcdpegbfjaaGreat.jp]; omega, by simp only [YtpcbhcdpegbfjaaGreat.jp]; omega⟩
theorem Over.fold {fr : Pn} (m : List Pn) : ∀ {wh : Pn}, Over fr wh → Over fr (m.foldl (YtpcbhcdpegbfjaaGreat.jp J) wh) := by
 induction m with
 | nil => intro wh h; exact h
 | cons x m ih => intro wh h; exact ih (h.jp x)
theorem Over.trans {a b c : Pn} (h : Over a b) (h' : Over b c) : Over a c := by
 obtain ⟨h1, h2, h3⟩ := h
 obtain ⟨k1, k2, k3⟩ := h'
 exact ⟨by omega, by omega, by omega⟩
theorem Over.refl (a : Pn) : Over a a := ⟨rfl, Int.le_refl _, Int.le_refl _⟩
theorem sess_away (fr x : Pn) (hx : Full x) (O : List Pn) : ∀ wh : Pn, Over fr wh → (∀ y ∈ O, mt true fr y) → (∀ y ∈ O, ¬ mt true x y) → ¬ mt true wh x → ¬ mt true (O.foldl (jp J) wh) x := by
 induction O with
 | nil => intro wh _ _ _ h; exact h
 | cons p O ih =>
  intro wh hw hO hn h
  refine ih _ (hw.jp p) (fun y hy => hO y (List.mem_cons_of_mem _ hy)) (fun y hy => hn y (List.mem_cons_of_mem _ hy)) fun hmx => ?_
  have e2 := hn p (List.mem_cons_self ..)
  obtain ⟨k1, ⟨_, k2⟩ | ⟨k2, _⟩⟩ := hw.meets (hO p (List.mem_cons_self ..))
  ·obtain ⟨k3, ⟨_, k4⟩ | ⟨k4, _⟩⟩ := hmx
   ·simp only [jp] at k3 k4
    have e1' : ¬ (wh.f < x.t ∧ wh.f < wh.t ∧ x.f < wh.t ∧ x.f < x.t) := fun e => h ⟨k3, .inl ⟨rfl, e⟩⟩
    have e2' : ¬ (x.f < p.t ∧ x.f < x.t ∧ p.f < x.t ∧ p.f < p.t) := fun e => e2 ⟨by omega, .inl ⟨rfl, e⟩⟩
    unfold Full at hx
    omega
   ·cases k4
  ·cases k2
def addSp (J : Int → Int → Int) (fr : Pn) (v : Int) : List Pn → List Pn
 | [] => [withA fr (J fr.a v)]
 | p :: r => if p.k = fr.k ∧ p.f = fr.f ∧ p.t = fr.t then withA p (J p.a v) :: r else p :: addSp J fr v r
include hc in
theorem span_comes {fr : Pn} {v : Int} (hz : J fr.a v = v) {l : List Pn} (h : Apart false l) : Comes false J (withA fr (J fr.a v) :: l) (addSp J fr v l) := by
 induction l with
 | nil => exact ⟨.refl _, List.pairwise_singleton _ _⟩
 | cons p r ih =>
  obtain ⟨h1, h2⟩ := List.pairwise_cons.1 h
  unfold addSp
  split
  ·next e =>
   obtain ⟨e1, e2, e3⟩ := e
   have hm : mt false (withA fr (J fr.a v)) p := ⟨e1.symm, .inr ⟨rfl, e2.symm, e3.symm⟩⟩
   have e4 : jp J (withA fr (J fr.a v)) p = withA p (J p.a v) := by
    refine Pn.same e1.symm ?_ ?_ ?_ <;> simp only [jp, withA]
    ·omega
    ·omega
    ·rw [hz, hc]
   have := Reds.pair (J := J) r hm
   rw [e4] at this
   exact ⟨this, List.pairwise_cons.2 ⟨h1, h2⟩⟩
  ·next e =>
   obtain ⟨i1, i2⟩ := ih h2
   refine ⟨(i1.cons p).perm (List.Perm.swap ..) (.refl _), List.pairwise_cons.2 ⟨?_, i2⟩⟩
   have hk : ∀ x ∈ addSp J fr v r, ¬ mt false p x := by
    refine i1.keeps (P := fun x => ¬ mt false p x) (fun x y hxy hx _ hm => hx ?_) fun x hx => ?_
    ·obtain ⟨k1, ⟨k2, _⟩ | ⟨_, k2, k3⟩⟩ := hxy
     ·cases k2
     ·obtain ⟨m1, ⟨m2, _⟩ | ⟨_, m2, m3⟩⟩ := hm
      ·cases m2
      ·simp only [jp] at m1 m2 m3
       exact ⟨m1, .inr ⟨rfl, by omega, by omega⟩⟩
    ·rcases List.mem_cons.1 hx with rfl | hx
     ·rintro ⟨m1, ⟨m2, _⟩ | ⟨_, m2, m3⟩⟩
      ·cases m2
      ·exact e ⟨m1, m2, m3⟩
     ·exact h1 x hx
   exact hk
theorem addSp_len (fr : Pn) (v : Int) (l : List Pn) : (addSp J fr v l).length ≤ l.length + 1 := by
 induction l with
 | nil => simp [addSp]
 | cons p r ih => unfold addSp; split <;> simp; omega
theorem pSess_len (fr : Pn) (v : Int) (l : List Pn) : (pSess J l fr v).length ≤ l.length + 1 := by
 unfold pSess
 have := List.length_filter_le (fun p => !ovb (wholeOf J fr (pJoin J l)) p) l
 simp; omega
end
end Go.Proofs.YtpcbhcdpegbfjaaGreat
