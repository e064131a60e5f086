/-
  Texts in build order: ABase, APure.
-/
import Derived.Test.YtpcbhcdpegbfjaaGreatProg
import Derived.WalkKit
import Derived.Laws.StructEq
import Derived.Deep.RegionHeld
import Derived.Deep.RegionHeld3
import Derived.Deep.QuietTactic
import Derived.BigQuiet
import Derived.Laws.AppendOwnNone
import Derived.Laws.MakeOwn
import Derived.Lib.SliceRun
import Derived.Deep.RegionLaw
import Derived.Maps.AppendAt
import Derived.BigRegion
import Derived.Deep.LoopGhost
import Derived.Deep.CutBlock
import Derived.Deep.CutRange
/-
  Rows, boxes, what stays (turned from the walks over package job); append of a list; the aggregates as pure functions.
-/
namespace Go.Proofs.YtpcbhcdpegbfjaaGreat
open Go.RowKit

theorem hide {p : Prop} (h : p) : Hid p := h

def BoxT (t : TypeId) (w : World) (k : Nat) (cs : Array Value) : Prop := w.heap[k]? = some (.cells cs t (0, 0))
theorem BoxT.cells4 {t : TypeId} {w : World} {k : Nat} {c0 c1 c2 c3 : Value} (h : BoxT t w k #[c0, c1, c2, c3]) :
    w.cell? ⟨k, 0, none⟩ = some c0 ∧ w.cell? ⟨k, 1, none⟩ = some c1 ∧ w.cell? ⟨k, 2, none⟩ = some c2 ∧ w.cell? ⟨k, 3, none⟩ = some c3 := by
  unfold BoxT at h
  simp [World.cell?, h]
theorem BoxT.new (t : TypeId) (w : World) (cs : Array Value) : BoxT t (w.alloc (.cells cs t)) w.heap.size cs := heap_alloc_new w _
theorem BoxT.new_at {t : TypeId} {w : World} {cs : Array Value} {k : Nat} (h : k = w.heap.size) : BoxT t (w.alloc (.cells cs t)) k cs := by subst h; exact BoxT.new t w cs
theorem BoxT.alloc {t : TypeId} {w : World} {k : Nat} {cs : Array Value} (h : BoxT t w k cs) (o : Obj) : BoxT t (w.alloc o) k cs := by
  unfold BoxT at *
  rw [Below.heap_alloc w o k (Array.getElem?_eq_some_iff.1 h).1]; exact h
theorem BoxT.drew {t : TypeId} {w : World} {k : Nat} {cs : Array Value} (h : BoxT t w k cs) : BoxT t w.drew k cs := h
theorem BoxT.lt {t : TypeId} {w : World} {k : Nat} {cs : Array Value} (h : BoxT t w k cs) : k < w.heap.size := (Array.getElem?_eq_some_iff.1 h).1
theorem BoxT.cells2 {t : TypeId} {w : World} {k : Nat} {c0 c1 : Value} (h : BoxT t w k #[c0, c1]) : w.cell? ⟨k, 0, none⟩ = some c0 ∧ w.cell? ⟨k, 1, none⟩ = some c1 := by
  unfold BoxT at h
  simp [World.cell?, h]
theorem BoxT.free {t : TypeId} {w : World} {k : Nat} {cs : Array Value} (h : BoxT t w k cs) (j : Nat) : w.frozen? ⟨k, j, none⟩ = false := by
  unfold BoxT at h
  exact frozen_of_row w k j cs t h
theorem BoxT.set {t : TypeId} {w : World} {k : Nat} {cs : Array Value} (h : BoxT t w k cs) (j : Nat) (u : Value) : BoxT t (w.setCell ⟨k, j, none⟩ u) k (cs.setIfInBounds j u) :=
  heap_setCell_same w k j cs t u h
theorem grownBy_set (w : World) (R j : Nat) (u : Value) : w.grownBy (w.setCell ⟨R, j, none⟩ u) (some R) :=
  ⟨rfl, rfl, rfl, by simp, fun k _ hk => Below.heap_setCell w ⟨R, j, none⟩ u k (fun e => hk (by simp [e]))⟩
theorem grownBy_refl (w : World) (r : Option Nat) : w.grownBy w r := ⟨rfl, rfl, rfl, Nat.le_refl _, fun _ _ _ => rfl⟩
theorem grownBy_trans {a b c : World} {r : Option Nat} (h : a.grownBy b r) (k : b.grownBy c r) : a.grownBy c r :=
  ⟨k.os.trans h.os, k.tape.trans h.tape, k.output.trans h.output, Nat.le_trans h.size k.size, fun i hi hne => (k.block i (Nat.lt_of_lt_of_le hi h.size) hne).trans (h.block i hi hne)⟩
theorem grownBy_alloc' (w : World) (o : Obj) (r : Option Nat) : w.grownBy (w.alloc o) r := ⟨rfl, rfl, rfl, by simp, fun k hk _ => Below.heap_alloc w o k hk⟩
theorem BoxT.cellAt {t : TypeId} {w : World} {k : Nat} {cs : Array Value} (h : BoxT t w k cs) (j : Nat) : w.cell? ⟨k, j, none⟩ = cs[j]? := by
  unfold BoxT at h
  simp [World.cell?, h]
theorem BoxT.grown {t : TypeId} {w w' : World} {k R : Nat} {cs : Array Value} (h : BoxT t w k cs) (hg : w.grownBy w' (some R)) (hne : k ≠ R) : BoxT t w' k cs := by
  unfold BoxT at *
  rw [hg.block k (Array.getElem?_eq_some_iff.1 h).1 (by simpa using hne)]; exact h
theorem BoxT.other {t : TypeId} {w : World} {k k' : Nat} {cs : Array Value} (h : BoxT t w k cs) (j : Nat) (u : Value) (hk : k ≠ k') : BoxT t (w.setCell ⟨k', j, none⟩ u) k cs := by
  unfold BoxT at *
  rw [Below.heap_setCell w ⟨k', j, none⟩ u k hk]; exact h
structure Turned (k b : Nat) (w w' : World) : Prop where
  os : w'.os = w.os
  tape : w'.tape = w.tape
  output : w'.output = w.output
  size : w.heap.size ≤ w'.heap.size
  block : ∀ i, i < w.heap.size → i ≠ k → i ≠ b → w'.heap[i]? = w.heap[i]?
theorem Turned.refl (k b : Nat) (w : World) : Turned k b w w := ⟨rfl, rfl, rfl, Nat.le_refl _, fun _ _ _ _ => rfl⟩
theorem Turned.trans {k b : Nat} {u v w : World} (h : Turned k b u v) (h' : Turned k b v w) : Turned k b u w :=
  ⟨h'.os.trans h.os, h'.tape.trans h.tape, h'.output.trans h.output, Nat.le_trans h.size h'.size, fun i hi h1 h2 => (h'.block i (Nat.lt_of_lt_of_le hi h.size) h1 h2).trans (h.block i hi h1 h2)⟩
theorem Turned.below {k b : Nat} {w w' : World} (h : Below w.heap.size w w') : Turned k b w w' := ⟨h.os, h.tape, h.output, h.size, fun i hi _ _ => h.block i hi⟩
theorem Turned.set (k b : Nat) (w : World) (j : Nat) (u : Value) : Turned k b w (w.setCell ⟨k, j, none⟩ u) :=
  ⟨rfl, rfl, rfl, by simp, fun i _ h1 _ => Below.heap_setCell w ⟨k, j, none⟩ u i h1⟩
def setL (ca : Array Value) (j : Nat) : List Value → Array Value
  | [] => ca
  | v :: vs => setL (ca.setIfInBounds j v) (j + 1) vs
def OwnL {α : Type} (t sz : Nat) (cs : α → List Value) (base : Nat) (w : World) (v : Value) (xs : List α) : Prop := w.ownsRow base t sz v xs.length (xs.flatMap cs)
section
variable {α : Type} {t sz : Nat} {cs : α → List Value} {base : Nat} {w w' : World} {v : Value} {xs : List α}
theorem OwnL.nil (t sz : Nat) (cs : α → List Value) (base : Nat) (w : World) : OwnL t sz cs base w (.slice none 0 0) [] := World.ownsRow_nil _ _ _ _
theorem OwnL.alloc (h : OwnL t sz cs base w v xs) (o : Obj) : OwnL t sz cs base (w.alloc o) v xs := World.ownsRow.alloc h o
theorem OwnL.below (h : OwnL t sz cs base w v xs) (hb : Below w.heap.size w w') : OwnL t sz cs base w' v xs := by
  refine ⟨h.1, ?_⟩
  rcases h.2 with h | ⟨g, cap, cur, h1, h2, h3, h4⟩
  · exact .inl h
  · exact .inr ⟨g, cap, cur, h1, h2, by rw [hb.block g (Array.getElem?_eq_some_iff.1 h3).1]; exact h3, h4⟩
theorem OwnL.mono {base' : Nat} (h : OwnL t sz cs base w v xs) (hb : base' ≤ base) : OwnL t sz cs base' w v xs := by
  refine ⟨h.1, ?_⟩
  rcases h.2 with h | ⟨g, cap, cur, h1, h2, h3⟩
  · exact .inl h
  · exact .inr ⟨g, cap, cur, h1, by omega, h3⟩
theorem OwnL.shape (h : OwnL t sz cs base w v xs) : ∃ ao cap, v = .slice ao xs.length cap := by
  rcases h.2 with ⟨rfl, h0⟩ | ⟨g, cap, cur, rfl, _⟩
  · exact ⟨none, 0, by rw [h0]⟩
  · exact ⟨_, cap, rfl⟩
theorem OwnL.drew (h : OwnL t sz cs base w v xs) : OwnL t sz cs base w.drew v xs := h
theorem OwnL.back (h : OwnL t sz cs base w v xs) (hb : ∀ g, v.ownBlock = some g → w'.heap[g]? = w.heap[g]?) : OwnL t sz cs base w' v xs := by
  refine ⟨h.1, ?_⟩
  rcases h.2 with h | ⟨g, cap, cur, rfl, h2, h3, h4⟩
  · exact .inl h
  · exact .inr ⟨g, cap, cur, rfl, h2, by rw [hb g rfl]; exact h3, h4⟩
theorem OwnL.has (h : OwnL t sz cs base w v xs) (g : Nat) (hg : v.ownBlock = some g) : ∃ cur, w.heap[g]? = some (.cells cur t (0, 0)) := by
  rcases h.2 with ⟨rfl, _⟩ | ⟨g', cap, cur, rfl, h2, h3, _⟩
  · cases hg
  · obtain rfl : g' = g := Option.some.inj hg
    exact ⟨cur, h3⟩
theorem OwnL.at (h : OwnL t sz cs base w v xs) : ∀ g, v.ownBlock = some g → base ≤ g := fun g e => (World.ownsRow.lt h g e).1
theorem OwnL.lt (h : OwnL t sz cs base w v xs) (g : Nat) (hg : v.ownBlock = some g) : g < w.heap.size := by
  obtain ⟨cur, hc⟩ := h.has g hg
  exact (Array.getElem?_eq_some_iff.1 hc).1
end
def LSeg {α : Type} (sz : Nat) (cs : α → List Value) (B : Nat) (w : World) (v : Value) (xs : List α) : Prop :=
  ∃ ao cap, v = .slice ao xs.length cap ∧ xs.length ≤ 140737488355328 ∧ (xs = [] ∨ ∃ b off, ao = some ⟨b, off, none⟩ ∧ b < B ∧ ∀ (i : Nat) (x : α), xs[i]? = some x → ∀ (j : Nat) (u : Value), (cs x)[j]? = some u → w.cell? ⟨b, off + i * sz + j, none⟩ = some u)
section
variable {α : Type} {sz : Nat} {cs : α → List Value} {B : Nat} {w w' : World} {v : Value} {xs : List α}
theorem LSeg.mono {B' : Nat} (h : LSeg sz cs B w v xs) (hB : B ≤ B') : LSeg sz cs B' w v xs := by
  obtain ⟨ao, cap, h1, h2, h4⟩ := h
  refine ⟨ao, cap, h1, h2, ?_⟩
  rcases h4 with h4 | ⟨b, off, h5, h6, h7⟩
  · exact .inl h4
  · exact .inr ⟨b, off, h5, by omega, h7⟩
theorem LSeg.below (h : LSeg sz cs B w v xs) (hb : Below B w w') : LSeg sz cs B w' v xs := by
  obtain ⟨ao, cap, h1, h2, h4⟩ := h
  refine ⟨ao, cap, h1, h2, ?_⟩
  rcases h4 with h4 | ⟨b, off, h5, h6, h7⟩
  · exact .inl h4
  · exact .inr ⟨b, off, h5, h6, fun i x hi j u hu => (hb.cell (p := ⟨b, off + i * sz + j, none⟩) h6).trans (h7 i x hi j u hu)⟩
end
theorem flat_get {α : Type} {sz : Nat} {cs : α → List Value} (hcs : ∀ x, (cs x).length = sz) (xs : List α) : ∀ (i j : Nat) (x : α) (u : Value), xs[i]? = some x → (cs x)[j]? = some u → (xs.flatMap cs)[i * sz + j]? = some u := by
  induction xs with
  | nil => intro i j x u h; simp at h
  | cons y ys ih =>
    intro i j x u h hu
    have hj : j < sz := by rw [← hcs x]; exact (List.getElem?_eq_some_iff.1 hu).1
    rw [List.flatMap_cons]
    match i, h with
    | 0, h =>
      obtain rfl : y = x := by simpa using h
      rw [Nat.zero_mul, Nat.zero_add, List.getElem?_append_left (by rw [hcs]; exact hj)]; exact hu
    | i + 1, h =>
      rw [List.getElem?_append_right (by rw [hcs, Nat.succ_mul]; omega), hcs, show (i + 1) * sz + j - sz = i * sz + j by rw [Nat.succ_mul]; omega]
      exact ih i j x u (by simpa using h) hu
theorem flat_size {α : Type} {sz : Nat} {cs : α → List Value} (hcs : ∀ x, (cs x).length = sz) (xs : List α) : (xs.flatMap cs).length = xs.length * sz := by
  induction xs with
  | nil => simp
  | cons y ys ih => rw [List.flatMap_cons, List.length_append, hcs, ih, List.length_cons, Nat.succ_mul]; omega
theorem BoxT.setCells {t k : Nat} (vs : List Value) : ∀ {w : World} {ca : Array Value} {j : Nat}, BoxT t w k ca → BoxT t (w.setCells k j vs) k (setL ca j vs) := by
  induction vs with
  | nil => intro w ca j h; exact h
  | cons v vs ih => intro w ca j h; exact ih (h.set j v)
theorem setL_size (vs : List Value) : ∀ (ca : Array Value) (j : Nat), (setL ca j vs).size = ca.size := by
  induction vs with
  | nil => intro ca j; rfl
  | cons v vs ih => intro ca j; rw [setL, ih]; simp
theorem setL_out (vs : List Value) : ∀ (ca : Array Value) (j i : Nat), i < j ∨ j + vs.length ≤ i → (setL ca j vs)[i]? = ca[i]? := by
  induction vs with
  | nil => intro ca j i _; rfl
  | cons v vs ih =>
    intro ca j i h
    rw [setL, ih _ _ _ (by simp only [List.length_cons] at h; omega), Array.getElem?_setIfInBounds_ne (by simp only [List.length_cons] at h; omega)]
theorem setL_in (vs : List Value) : ∀ (ca : Array Value) (j i : Nat) (u : Value), j + vs.length ≤ ca.size → vs[i]? = some u → (setL ca j vs)[j + i]? = some u := by
  induction vs with
  | nil => intro ca j i u _ h; simp at h
  | cons v vs ih =>
    intro ca j i u hl h
    simp only [List.length_cons] at hl
    match i, h with
    | 0, h =>
      obtain rfl : v = u := by simpa using h
      rw [setL, setL_out _ _ _ _ (by omega)]
      simp [Array.getElem?_setIfInBounds]; omega
    | i + 1, h =>
      rw [setL, show j + (i + 1) = (j + 1) + i by omega]
      exact ih _ _ _ _ (by simp; omega) (by simpa using h)
theorem grown_setCells (g : Nat) (vs : List Value) : ∀ (w : World) (o : Nat), w.grownBy (w.setCells g o vs) (some g) := by
  induction vs with
  | nil => intro w o; exact grownBy_refl _ _
  | cons v vs ih => intro w o; exact grownBy_trans (grownBy_set w g o v) (ih _ _)
def Row {α : Type} (t sz : Nat) (cs : α → List Value) (base : Nat) (w : World) (v : Value) (xs : List α) : Prop :=
  (v = .slice none 0 0 ∧ xs = []) ∨ ∃ g off cap cur, v = .slice (some ⟨g, off, none⟩) xs.length cap ∧ base ≤ g ∧ BoxT t w g cur ∧ xs.length ≤ cap ∧ cap ≤ maxLen ∧ off + cap * sz ≤ cur.size ∧ ∀ j u, (xs.flatMap cs)[j]? = some u → cur[off + j]? = some u
section
variable {α : Type} {t sz : Nat} {cs : α → List Value} {base : Nat} {w w' : World} {v : Value} {xs : List α}
theorem Row.nil (t sz : Nat) (cs : α → List Value) (base : Nat) (w : World) : Row t sz cs base w (.slice none 0 0) [] := .inl ⟨rfl, rfl⟩
theorem Row.of_own (h : OwnL t sz cs base w v xs) : Row t sz cs base w v xs := by
  have hl := h.1
  rcases h.2 with ⟨h1, h0⟩ | ⟨g, cap, cur, h1, h2, h3, h4, h5, h6, h7⟩
  · exact .inl ⟨h1, List.length_eq_zero_iff.1 h0⟩
  · refine .inr ⟨g, 0, cap, cur, h1, h2, h3, h4, h5, by omega, fun j u hj => ?_⟩
    rw [← h7, List.getElem?_take] at hj
    split at hj
    · rw [Nat.zero_add]; simpa using hj
    · cases hj
theorem Row.back (h : Row t sz cs base w v xs) (hb : ∀ g, v.ownBlock = some g → w'.heap[g]? = w.heap[g]?) : Row t sz cs base w' v xs := by
  rcases h with h | ⟨g, off, cap, cur, rfl, h2, h3, h4⟩
  · exact .inl h
  · exact .inr ⟨g, off, cap, cur, rfl, h2, by unfold BoxT at *; rw [hb g rfl]; exact h3, h4⟩
theorem Row.below (h : Row t sz cs base w v xs) (hb : Below w.heap.size w w') : Row t sz cs base w' v xs := by
  rcases h with h | ⟨g, off, cap, cur, rfl, h2, h3, h4⟩
  · exact .inl h
  · exact .inr ⟨g, off, cap, cur, rfl, h2, by have := h3.lt; unfold BoxT at *; rw [hb.block g this]; exact h3, h4⟩
theorem Row.has (h : Row t sz cs base w v xs) (g : Nat) (hg : v.ownBlock = some g) : ∃ cur, BoxT t w g cur := by
  rcases h with ⟨rfl, _⟩ | ⟨g', off, cap, cur, rfl, h2, h3, _⟩
  · cases hg
  · obtain rfl : g' = g := Option.some.inj hg
    exact ⟨cur, h3⟩
theorem Row.at (h : Row t sz cs base w v xs) (g : Nat) (hg : v.ownBlock = some g) : base ≤ g := by
  rcases h with ⟨rfl, _⟩ | ⟨g', off, cap, cur, rfl, h2, h3, _⟩
  · cases hg
  · obtain rfl : g' = g := Option.some.inj hg
    exact h2
theorem Row.shape (h : Row t sz cs base w v xs) : ∃ a c, v = .slice a xs.length c := by
  rcases h with ⟨rfl, rfl⟩ | ⟨g, off, cap, cur, rfl, _⟩
  · exact ⟨none, 0, rfl⟩
  · exact ⟨_, cap, rfl⟩
theorem Row.read (h : Row t sz cs base w v xs) (hcs : ∀ x, (cs x).length = sz) {i : Nat} {x : α} (hx : xs[i]? = some x) : ∃ g off cap, v = .slice (some ⟨g, off, none⟩) xs.length cap ∧ ∀ j u, (cs x)[j]? = some u → w.cell? ⟨g, off + (i * sz + j), none⟩ = some u := by
  rcases h with ⟨_, rfl⟩ | ⟨g, off, cap, cur, rfl, h2, h3, h4, h5, h6, h7⟩
  · simp at hx
  · refine ⟨g, off, cap, rfl, fun j u hu => ?_⟩
    rw [h3.cellAt]
    exact h7 _ u (flat_get hcs xs i j x u hx hu)
end
theorem below_drewN {B : Nat} {a w : World} (h : Below B a w) (n : Nat) : Below B a (w.drewN n) := by
  induction n with
  | zero => exact h
  | succ n ih => exact ih.drew
theorem add_plain2 (b o i : Nat) : (⟨b, o, none⟩ : Addr).add i = ⟨b, o + i, none⟩ := by unfold Addr.add; split <;> simp_all
def i64cs (x : Int) : List Value := [.int .i64 x]
theorem Tryz.info2' : (Tryz.prog.info? 2).map (fun i => (i.zero, i.size, i.bytes)) = some (some (.int .i64 0), 1, 8) := by kernel_rfl
theorem run_load0 (a : Addr) (w : World) : (loadCells a 0).run Tryz.prog w = .ok #[] w := by
  simp [loadCells, loadCellsFrom]
end Go.Proofs.YtpcbhcdpegbfjaaGreat
/-
  The aggregates as pure functions, and their laws.
-/
namespace Go.Proofs.YtpcbhcdpegbfjaaGreat
open Go.RowKit

def In64 (x : Int) : Prop := -9223372036854775808 ≤ x ∧ x ≤ 9223372036854775807
theorem in64_of_wf {x : Int} (h : (Lit.int .i64 x).wf = true) : In64 x := by
  simp only [Lit.wf, IntKind.min, IntKind.max, IntKind.signed, IntKind.bits, Bool.and_eq_true, decide_eq_true_eq, if_true] at h
  unfold In64
  omega
def xr (x y : Int) : Int := bits .xor .i64 x y
theorem wrap_int (b : BitVec 64) : IntKind.i64.wrap (b.toNat : Int) = b.toInt := by
  simp only [IntKind.wrap, IntKind.bits, IntKind.signed]
  rw [BitVec.toInt_eq_toNat_cond]
  have := b.isLt
  generalize b.toNat = n at *
  simp
  split <;> split <;> omega
theorem xr_eq (x y : Int) : xr x y = (BitVec.ofInt 64 x ^^^ BitVec.ofInt 64 y).toInt := wrap_int (BitVec.ofInt 64 x ^^^ BitVec.ofInt 64 y)
theorem xr_comm (x y : Int) : xr x y = xr y x := by rw [xr_eq, xr_eq, BitVec.xor_comm]
theorem xr_assoc (x y z : Int) : xr (xr x y) z = xr x (xr y z) := by
  rw [xr_eq (xr x y), xr_eq x (xr y z), xr_eq x y, xr_eq y z, BitVec.ofInt_toInt, BitVec.ofInt_toInt, BitVec.xor_assoc]
theorem xr_in (x y : Int) : In64 (xr x y) := by
  have := wrap_within .i64 ((BitVec.ofInt 64 x ^^^ BitVec.ofInt 64 y).toNat : Int)
  unfold In64
  have e : xr x y = IntKind.i64.wrap ((BitVec.ofInt 64 x ^^^ BitVec.ofInt 64 y).toNat : Int) := rfl
  rw [e]
  simp only [IntKind.min, IntKind.max, IntKind.signed, IntKind.bits, if_true] at this
  omega
def zr (a : Int) : Int := if a = 3 then 9223372036854775807 else if a = 4 then -9223372036854775808 else 0
def jn (a x y : Int) : Int :=
  if a = 1 then wrap64 (x + y) else if a = 2 then wrap64 (x + y) else if a = 3 then (if y < x then y else x) else if a = 4 then (if y > x then y else x) else if a = 5 then xr x y else 0
def ad (a x v : Int) : Int := jn a x (if a = 2 then 1 else v)
def al (a : Int) (l : List Int) : Int := l.foldl (ad a) (zr a)
theorem zr_in (a : Int) : In64 (zr a) := by unfold In64 zr; split <;> (try split) <;> omega
theorem jn_in {a x y : Int} (hx : In64 x) (hy : In64 y) : In64 (jn a x y) := by
  have h := xr_in x y
  unfold jn
  unfold In64 at *
  split
  · unfold wrap64; omega
  split
  · unfold wrap64; omega
  split
  · split <;> omega
  split
  · split <;> omega
  split
  · exact h
  · omega
theorem jn_comm (a x y : Int) : jn a x y = jn a y x := by
  unfold jn
  rw [Int.add_comm y x, xr_comm y x]
  split
  · rfl
  split
  · rfl
  split
  · split <;> split <;> omega
  split
  · split <;> split <;> omega
  rfl
theorem jn1 (x y : Int) : jn 1 x y = wrap64 (x + y) := rfl
theorem jn2 (x y : Int) : jn 2 x y = wrap64 (x + y) := rfl
theorem jn3 (x y : Int) : jn 3 x y = if y < x then y else x := rfl
theorem jn4 (x y : Int) : jn 4 x y = if y > x then y else x := rfl
theorem jn5 (x y : Int) : jn 5 x y = xr x y := rfl
theorem jn_none {a : Int} (h : ¬ (1 ≤ a ∧ a ≤ 5)) (x y : Int) : jn a x y = 0 := by
  unfold jn
  rw [if_neg (by omega), if_neg (by omega), if_neg (by omega), if_neg (by omega), if_neg (by omega)]
theorem five {a : Int} (h : 1 ≤ a ∧ a ≤ 5) : a = 1 ∨ a = 2 ∨ a = 3 ∨ a = 4 ∨ a = 5 := by omega
theorem jn_assoc (a x y z : Int) : jn a (jn a x y) z = jn a x (jn a y z) := by
  by_cases h : 1 ≤ a ∧ a ≤ 5
  · rcases five h with rfl | rfl | rfl | rfl | rfl
    · simp only [jn1, wrap64]; omega
    · simp only [jn2, wrap64]; omega
    · simp only [jn3]; split <;> split <;> (try split) <;> (try split) <;> omega
    · simp only [jn4]; split <;> split <;> (try split) <;> (try split) <;> omega
    · simp only [jn5]; exact xr_assoc x y z
  · rw [jn_none h, jn_none h]
theorem ad_in {a x v : Int} (hx : In64 x) (hv : In64 v) : In64 (ad a x v) := by
  unfold ad
  refine jn_in hx ?_
  split
  · unfold In64; omega
  · exact hv
end Go.Proofs.YtpcbhcdpegbfjaaGreat
