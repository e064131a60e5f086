/-
  Texts in build order: ZJBase, ZJHeap.
-/
import Derived.Test.YtpcbhcdpegbfjaaGreatProg
import Derived.WalkKit
import Derived.Laws.StructEq
import Derived.Deep.RegionHeld
import Derived.Deep.RegionHeld3
import Derived.Deep.QuietTactic
import Derived.BigQuiet
import Derived.Laws.AppendOwnNone
import Derived.Laws.MakeOwn
import Derived.Lib.SliceRun
import Derived.Deep.RegionLaw
import Derived.Maps.AppendAt
import Derived.BigRegion
import Derived.Deep.LoopGhost
import Derived.Deep.CutBlock
import Derived.Deep.CutRange
/-
 Rows, boxes, what stays: the laws of the walks over package job (turned from the walks over package ring).
-/
namespace Go.Proofs.YtpcbhcdpegbfjaaGreat.J
open Go.RowKit
theorem hide {p : Prop} (h : p) : Hid p := h
def BoxT (t : TypeId) (w : World) (k : Nat) (cs : Array Value) : Prop := w.heap[k]? = some (.cells cs t (0, 0))
theorem BoxT.cells4 {t : TypeId} {w : World} {k : Nat} {c0 c1 c2 c3 : Value} (h : BoxT t w k #[c0, c1, c2, c3]) :
  w.cell? ⟨k, 0, none⟩ = some c0 ∧ w.cell? ⟨k, 1, none⟩ = some c1 ∧ w.cell? ⟨k, 2, none⟩ = some c2 ∧ w.cell? ⟨k, 3, none⟩ = some c3 := by
 unfold BoxT at h
 simp [World.cell?, h]
theorem BoxT.new (t : TypeId) (w : World) (cs : Array Value) : BoxT t (w.alloc (.cells cs t)) w.heap.size cs := heap_alloc_new w _
theorem BoxT.new_at {t : TypeId} {w : World} {cs : Array Value} {k : Nat} (h : k = w.heap.size) : BoxT t (w.alloc (.cells cs t)) k cs := by subst h; exact BoxT.new t w cs
theorem BoxT.alloc {t : TypeId} {w : World} {k : Nat} {cs : Array Value} (h : BoxT t w k cs) (o : Obj) : BoxT t (w.alloc o) k cs := by
 unfold BoxT at *
 rw [Below.heap_alloc w o k (Array.getElem?_eq_some_iff.1 h).1]; exact h
theorem BoxT.drew {t : TypeId} {w : World} {k : Nat} {cs : Array Value} (h : BoxT t w k cs) : BoxT t w.drew k cs := h
theorem BoxT.lt {t : TypeId} {w : World} {k : Nat} {cs : Array Value} (h : BoxT t w k cs) : k < w.heap.size := (Array.getElem?_eq_some_iff.1 h).1
theorem BoxT.cells2 {t : TypeId} {w : World} {k : Nat} {c0 c1 : Value} (h : BoxT t w k #[c0, c1]) : w.cell? ⟨k, 0, none⟩ = some c0 ∧ w.cell? ⟨k, 1, none⟩ = some c1 := by
 unfold BoxT at h
 simp [World.cell?, h]
theorem BoxT.free {t : TypeId} {w : World} {k : Nat} {cs : Array Value} (h : BoxT t w k cs) (j : Nat) : w.frozen? ⟨k, j, none⟩ = false := by
 unfold BoxT at h
 exact frozen_of_row w k j cs t h
theorem BoxT.set {t : TypeId} {w : World} {k : Nat} {cs : Array Value} (h : BoxT t w k cs) (j : Nat) (u : Value) : BoxT t (w.setCell ⟨k, j, none⟩ u) k (cs.setIfInBounds j u) :=
 heap_setCell_same w k j cs t u h
theorem grownBy_set (w : World) (R j : Nat) (u : Value) : w.grownBy (w.setCell ⟨R, j, none⟩ u) (some R) :=
 ⟨rfl, rfl, rfl, by simp, fun k _ hk => Below.heap_setCell w ⟨R, j, none⟩ u k (fun e => hk (by simp [e]))⟩
theorem grownBy_refl (w : World) (r : Option Nat) : w.grownBy w r := ⟨rfl, rfl, rfl, Nat.le_refl _, fun _ _ _ => rfl⟩
theorem grownBy_trans {a b c : World} {r : Option Nat} (h : a.grownBy b r) (k : b.grownBy c r) : a.grownBy c r :=
 ⟨k.os.trans h.os, k.tape.trans h.tape, k.output.trans h.output, Nat.le_trans h.size k.size, fun i hi hne => (k.block i (Nat.lt_of_lt_of_le hi h.size) hne).trans (h.block i hi hne)⟩
theorem grownBy_alloc' (w : World) (o : Obj) (r : Option Nat) : w.grownBy (w.alloc o) r := ⟨rfl, rfl, rfl, by simp, fun k hk _ => Below.heap_alloc w o k hk⟩
theorem BoxT.cellAt {t : TypeId} {w : World} {k : Nat} {cs : Array Value} (h : BoxT t w k cs) (j : Nat) : w.cell? ⟨k, j, none⟩ = cs[j]? := by
 unfold BoxT at h
 simp [World.cell?, h]
theorem BoxT.grown {t : TypeId} {w w' : World} {k R : Nat} {cs : Array Value} (h : BoxT t w k cs) (hg : w.grownBy w' (some R)) (hne : k ≠ R) : BoxT t w' k cs := by
 unfold BoxT at *
 rw [hg.block k (Array.getElem?_eq_some_iff.1 h).1 (by simpa using hne)]; exact h
theorem BoxT.other {t : TypeId} {w : World} {k k' : Nat} {cs : Array Value} (h : BoxT t w k cs) (j : Nat) (u : Value) (hk : k ≠ k') : BoxT t (w.setCell ⟨k', j, none⟩ u) k cs := by
 unfold BoxT at *
 rw [Below.heap_setCell w ⟨k', j, none⟩ u k hk]; exact h
structure Turned (k b : Nat) (w w' : World) : Prop where
 os : w'.os = w.os
 tape : w'.tape = w.tape
 output : w'.output = w.output
 size : w.heap.size ≤ w'.heap.size
 block : ∀ i, i < w.heap.size → i ≠ k → i ≠ b → w'.heap[i]? = w.heap[i]?
theorem Turned.refl (k b : Nat) (w : World) : Turned k b w w := ⟨rfl, rfl, rfl, Nat.le_refl _, fun _ _ _ _ => rfl⟩
theorem Turned.trans {k b : Nat} {u v w : World} (h : Turned k b u v) (h' : Turned k b v w) : Turned k b u w :=
 ⟨h'.os.trans h.os, h'.tape.trans h.tape, h'.output.trans h.output, Nat.le_trans h.size h'.size, fun i hi h1 h2 => (h'.block i (Nat.lt_of_lt_of_le hi h.size) h1 h2).trans (h.block i hi h1 h2)⟩
theorem Turned.below {k b : Nat} {w w' : World} (h : Below w.heap.size w w') : Turned k b w w' := ⟨h.os, h.tape, h.output, h.size, fun i hi _ _ => h.block i hi⟩
theorem Turned.set (k b : Nat) (w : World) (j : Nat) (u : Value) : Turned k b w (w.setCell ⟨k, j, none⟩ u) :=
 ⟨rfl, rfl, rfl, by simp, fun i _ h1 _ => Below.heap_setCell w ⟨k, j, none⟩ u i h1⟩
def setL (ca : Array Value) (j : Nat) : List Value → Array Value
 | [] => ca
 | v :: vs => setL (ca.setIfInBounds j v) (j + 1) vs
def OwnL {α : Type} (t sz : Nat) (cs : α → List Value) (base : Nat) (w : World) (v : Value) (xs : List α) : Prop := w.ownsRow base t sz v xs.length (xs.flatMap cs)
section
variable {α : Type} {t sz : Nat} {cs : α → List Value} {base : Nat} {w w' : World} {v : Value} {xs : List α}
theorem OwnL.nil (t sz : Nat) (cs : α → List Value) (base : Nat) (w : World) : OwnL t sz cs base w (.slice none 0 0) [] := World.ownsRow_nil _ _ _ _
theorem OwnL.alloc (h : OwnL t sz cs base w v xs) (o : Obj) : OwnL t sz cs base (w.alloc o) v xs := World.ownsRow.alloc h o
theorem OwnL.below (h : OwnL t sz cs base w v xs) (hb : Below w.heap.size w w') : OwnL t sz cs base w' v xs := by
 refine ⟨h.1, ?_⟩
 rcases h.2 with h | ⟨g, cap, cur, h1, h2, h3, h4⟩
 ·exact .inl h
 ·exact .inr ⟨g, cap, cur, h1, h2, by rw [hb.block g (Array.getElem?_eq_some_iff.1 h3).1]; exact h3, h4⟩
theorem OwnL.mono {base' : Nat} (h : OwnL t sz cs base w v xs) (hb : base' ≤ base) : OwnL t sz cs base' w v xs := by
 refine ⟨h.1, ?_⟩
 rcases h.2 with h | ⟨g, cap, cur, h1, h2, h3⟩
 ·exact .inl h
 ·exact .inr ⟨g, cap, cur, h1, by omega, h3⟩
theorem OwnL.shape (h : OwnL t sz cs base w v xs) : ∃ ao cap, v = .slice ao xs.length cap := by
 rcases h.2 with ⟨rfl, h0⟩ | ⟨g, cap, cur, rfl, _⟩
 ·exact ⟨none, 0, by rw [h0]⟩
 ·exact ⟨_, cap, rfl⟩
theorem OwnL.drew (h : OwnL t sz cs base w v xs) : OwnL t sz cs base w.drew v xs := h
theorem OwnL.back (h : OwnL t sz cs base w v xs) (hb : ∀ g, v.ownBlock = some g → w'.heap[g]? = w.heap[g]?) : OwnL t sz cs base w' v xs := by
 refine ⟨h.1, ?_⟩
 rcases h.2 with h | ⟨g, cap, cur, rfl, h2, h3, h4⟩
 ·exact .inl h
 ·exact .inr ⟨g, cap, cur, rfl, h2, by rw [hb g rfl]; exact h3, h4⟩
theorem OwnL.has (h : OwnL t sz cs base w v xs) (g : Nat) (hg : v.ownBlock = some g) : ∃ cur, w.heap[g]? = some (.cells cur t (0, 0)) := by
 rcases h.2 with ⟨rfl, _⟩ | ⟨g', cap, cur, rfl, h2, h3, _⟩
 ·cases hg
 ·obtain rfl : g' = g := Option.some.inj hg
  exact ⟨cur, h3⟩
theorem OwnL.at (h : OwnL t sz cs base w v xs) : ∀ g, v.ownBlock = some g → base ≤ g := fun g e => (World.ownsRow.lt h g e).1
theorem OwnL.lt (h : OwnL t sz cs base w v xs) (g : Nat) (hg : v.ownBlock = some g) : g < w.heap.size := by
 obtain ⟨cur, hc⟩ := h.has g hg
 exact (Array.getElem?_eq_some_iff.1 hc).1
end
def LSeg {α : Type} (sz : Nat) (cs : α → List Value) (B : Nat) (w : World) (v : Value) (xs : List α) : Prop :=
 ∃ ao cap, v = .slice ao xs.length cap ∧ xs.length ≤ 140737488355328 ∧ (xs = [] ∨ ∃ b off, ao = some ⟨b, off, none⟩ ∧ b < B ∧ ∀ (i : Nat) (x : α), xs[i]? = some x → ∀ (j : Nat) (u : Value), (cs x)[j]? = some u → w.cell? ⟨b, off + i * sz + j, none⟩ = some u)
section
variable {α : Type} {sz : Nat} {cs : α → List Value} {B : Nat} {w w' : World} {v : Value} {xs : List α}
theorem LSeg.mono {B' : Nat} (h : LSeg sz cs B w v xs) (hB : B ≤ B') : LSeg sz cs B' w v xs := by
 obtain ⟨ao, cap, h1, h2, h4⟩ := h
 refine ⟨ao, cap, h1, h2, ?_⟩
 rcases h4 with h4 | ⟨b, off, h5, h6, h7⟩
 ·exact .inl h4
 ·exact .inr ⟨b, off, h5, by omega, h7⟩
theorem LSeg.below (h : LSeg sz cs B w v xs) (hb : Below B w w') : LSeg sz cs B w' v xs := by
 obtain ⟨ao, cap, h1, h2, h4⟩ := h
 refine ⟨ao, cap, h1, h2, ?_⟩
 rcases h4 with h4 | ⟨b, off, h5, h6, h7⟩
 ·exact .inl h4
 ·exact .inr ⟨b, off, h5, h6, fun i x hi j u hu => (hb.cell (p := ⟨b, off + i * sz + j, none⟩) h6).trans (h7 i x hi j u hu)⟩
end
theorem flat_get {α : Type} {sz : Nat} {cs : α → List Value} (hcs : ∀ x, (cs x).length = sz) (xs : List α) : ∀ (i j : Nat) (x : α) (u : Value), xs[i]? = some x → (cs x)[j]? = some u → (xs.flatMap cs)[i * sz + j]? = some u := by
 induction xs with
 | nil => intro i j x u h; simp at h
 | cons y ys ih =>
  intro i j x u h hu
  have hj : j < sz := by rw [← hcs x]; exact (List.getElem?_eq_some_iff.1 hu).1
  rw [List.flatMap_cons]
  match i, h with
  | 0, h =>
   obtain rfl : y = x := by simpa using h
   rw [Nat.zero_mul, Nat.zero_add, List.getElem?_append_left (by rw [hcs]; exact hj)]; exact hu
  | i + 1, h =>
   rw [List.getElem?_append_right (by rw [hcs, Nat.succ_mul]; omega), hcs, show (i + 1) * sz + j - sz = i * sz + j by rw [Nat.succ_mul]; omega]
   exact ih i j x u (by simpa using h) hu
theorem flat_size {α : Type} {sz : Nat} {cs : α → List Value} (hcs : ∀ x, (cs x).length = sz) (xs : List α) : (xs.flatMap cs).length = xs.length * sz := by
 induction xs with
 | nil => simp
 | cons y ys ih => rw [List.flatMap_cons, List.length_append, hcs, ih, List.length_cons, Nat.succ_mul]; omega
theorem BoxT.setCells {t k : Nat} (vs : List Value) : ∀ {w : World} {ca : Array Value} {j : Nat}, BoxT t w k ca → BoxT t (w.setCells k j vs) k (setL ca j vs) := by
 induction vs with
 | nil => intro w ca j h; exact h
 | cons v vs ih => intro w ca j h; exact ih (h.set j v)
theorem setL_size (vs : List Value) : ∀ (ca : Array Value) (j : Nat), (setL ca j vs).size = ca.size := by
 induction vs with
 | nil => intro ca j; rfl
 | cons v vs ih => intro ca j; rw [setL, ih]; simp
theorem setL_out (vs : List Value) : ∀ (ca : Array Value) (j i : Nat), i < j ∨ j + vs.length ≤ i → (setL ca j vs)[i]? = ca[i]? := by
 induction vs with
 | nil => intro ca j i _; rfl
 | cons v vs ih =>
  intro ca j i h
  rw [setL, ih _ _ _ (by simp only [List.length_cons] at h; omega), Array.getElem?_setIfInBounds_ne (by simp only [List.length_cons] at h; omega)]
theorem setL_in (vs : List Value) : ∀ (ca : Array Value) (j i : Nat) (u : Value), j + vs.length ≤ ca.size → vs[i]? = some u → (setL ca j vs)[j + i]? = some u := by
 induction vs with
 | nil => intro ca j i u _ h; simp at h
 | cons v vs ih =>
  intro ca j i u hl h
  simp only [List.length_cons] at hl
  match i, h with
  | 0, h =>
   obtain rfl : v = u := by simpa using h
   rw [setL, setL_out _ _ _ _ (by omega)]
   simp [Array.getElem?_setIfInBounds]; omega
  | i + 1, h =>
   rw [setL, show j + (i + 1) = (j + 1) + i by omega]
   exact ih _ _ _ _ (by simp; omega) (by simpa using h)
theorem grown_setCells (g : Nat) (vs : List Value) : ∀ (w : World) (o : Nat), w.grownBy (w.setCells g o vs) (some g) := by
 induction vs with
 | nil => intro w o; exact grownBy_refl _ _
 | cons v vs ih => intro w o; exact grownBy_trans (grownBy_set w g o v) (ih _ _)
def Row {α : Type} (t sz : Nat) (cs : α → List Value) (base : Nat) (w : World) (v : Value) (xs : List α) : Prop :=
 (v = .slice none 0 0 ∧ xs = []) ∨ ∃ g off cap cur, v = .slice (some ⟨g, off, none⟩) xs.length cap ∧ base ≤ g ∧ BoxT t w g cur ∧ xs.length ≤ cap ∧ cap ≤ maxLen ∧ off + cap * sz ≤ cur.size ∧ ∀ j u, (xs.flatMap cs)[j]? = some u → cur[off + j]? = some u
section
variable {α : Type} {t sz : Nat} {cs : α → List Value} {base : Nat} {w w' : World} {v : Value} {xs : List α}
theorem Row.nil (t sz : Nat) (cs : α → List Value) (base : Nat) (w : World) : Row t sz cs base w (.slice none 0 0) [] := .inl ⟨rfl, rfl⟩
theorem Row.of_own (h : OwnL t sz cs base w v xs) : Row t sz cs base w v xs := by
 have hl := h.1
 rcases h.2 with ⟨h1, h0⟩ | ⟨g, cap, cur, h1, h2, h3, h4, h5, h6, h7⟩
 ·exact .inl ⟨h1, List.length_eq_zero_iff.1 h0⟩
 ·refine .inr ⟨g, 0, cap, cur, h1, h2, h3, h4, h5, by omega, fun j u hj => ?_⟩
  rw [← h7, List.getElem?_take] at hj
  split at hj
  ·rw [Nat.zero_add]; simpa using hj
  ·cases hj
theorem Row.back (h : Row t sz cs base w v xs) (hb : ∀ g, v.ownBlock = some g → w'.heap[g]? = w.heap[g]?) : Row t sz cs base w' v xs := by
 rcases h with h | ⟨g, off, cap, cur, rfl, h2, h3, h4⟩
 ·exact .inl h
 ·exact .inr ⟨g, off, cap, cur, rfl, h2, by unfold BoxT at *; rw [hb g rfl]; exact h3, h4⟩
theorem Row.below (h : Row t sz cs base w v xs) (hb : Below w.heap.size w w') : Row t sz cs base w' v xs := by
 rcases h with h | ⟨g, off, cap, cur, rfl, h2, h3, h4⟩
 ·exact .inl h
 ·exact .inr ⟨g, off, cap, cur, rfl, h2, by have := h3.lt; unfold BoxT at *; rw [hb.block g this]; exact h3, h4⟩
theorem Row.has (h : Row t sz cs base w v xs) (g : Nat) (hg : v.ownBlock = some g) : ∃ cur, BoxT t w g cur := by
 rcases h with ⟨rfl, _⟩ | ⟨g', off, cap, cur, rfl, h2, h3, _⟩
 ·cases hg
 ·obtain rfl : g' = g := Option.some.inj hg
  exact ⟨cur, h3⟩
theorem Row.at (h : Row t sz cs base w v xs) (g : Nat) (hg : v.ownBlock = some g) : base ≤ g := by
 rcases h with ⟨rfl, _⟩ | ⟨g', off, cap, cur, rfl, h2, h3, _⟩
 ·cases hg
 ·obtain rfl : g' = g := Option.some.inj hg
  exact h2
theorem Row.shape (h : Row t sz cs base w v xs) : ∃ a c, v = .slice a xs.length c := by
 rcases h with ⟨rfl, rfl⟩ | ⟨g, off, cap, cur, rfl, _⟩
 ·exact ⟨none, 0, rfl⟩
 ·exact ⟨_, cap, rfl⟩
theorem Row.read (h : Row t sz cs base w v xs) (hcs : ∀ x, (cs x).length = sz) {i : Nat} {x : α} (hx : xs[i]? = some x) : ∃ g off cap, v = .slice (some ⟨g, off, none⟩) xs.length cap ∧ ∀ j u, (cs x)[j]? = some u → w.cell? ⟨g, off + (i * sz + j), none⟩ = some u := by
 rcases h with ⟨_, rfl⟩ | ⟨g, off, cap, cur, rfl, h2, h3, h4, h5, h6, h7⟩
 ·simp at hx
 ·refine ⟨g, off, cap, rfl, fun j u hu => ?_⟩
  rw [h3.cellAt]
  exact h7 _ u (flat_get hcs xs i j x u hx hu)
end
theorem below_drewN {B : Nat} {a w : World} (h : Below B a w) (n : Nat) : Below B a (w.drewN n) := by
 induction n with
 | zero => exact h
 | succ n ih => exact ih.drew
theorem add_plain2 (b o i : Nat) : (⟨b, o, none⟩ : Addr).add i = ⟨b, o + i, none⟩ := by unfold Addr.add; split <;> simp_all
end Go.Proofs.YtpcbhcdpegbfjaaGreat.J
/-
 The heap of numbers that wait: Less, Swap, Len, Push, Pop of package job's leastFirst.
-/
namespace Go.Proofs.YtpcbhcdpegbfjaaGreat.J
open Go.RowKit
def nc (x : Nat) : List Value := [.int .i64 (x : Int)]
theorem nc_one (x : Nat) : ∀ u ∈ nc x, u.oneCell' = true := fun u hu => by simp [nc] at hu; subst hu; rfl
abbrev OwnN (base : Nat) (w : World) (v : Value) (l : List Nat) : Prop := OwnL 3 1 nc base w v l
theorem nc_flat (l : List Nat) : l.flatMap nc = l.map fun x => .int .i64 (x : Int) := by
 induction l with
 | nil => rfl
 | cons x r ih => rw [List.flatMap_cons, ih]; rfl
theorem OwnN.row {base : Nat} {w : World} {v : Value} {l : List Nat} (h : OwnN base w v l) (hne : l ≠ []) : ∃ (g cap : Nat) (cur : Array Value), v = .slice (some ⟨g, 0, none⟩) l.length cap ∧ base ≤ g ∧ BoxT 3 w g cur ∧ l.length ≤ cap ∧ cap ≤ maxLen ∧ cur.size = cap ∧ ∀ (i x : Nat), l[i]? = some x → cur[i]? = some (.int .i64 (x : Int)) := by
 rcases h.2 with ⟨rfl, h0⟩ | ⟨g, cap, cur, h1, h2, h3, h4, h5, h6, h7⟩
 ·exact absurd (List.length_eq_zero_iff.1 h0) hne
 ·refine ⟨g, cap, cur, h1, h2, h3, h4, h5, by simpa using h6, fun i x hx => ?_⟩
  have hi := (List.getElem?_eq_some_iff.1 hx).1
  have h8 : (cur.toList.take (l.length * 1))[i]? = some (.int .i64 (x : Int)) := by
   rw [h7, nc_flat, List.getElem?_map, hx]; rfl
  rw [List.getElem?_take_of_lt (by omega)] at h8
  simpa using h8
theorem OwnN.mk {base : Nat} {w : World} {g cap : Nat} {cur : Array Value} {l : List Nat} (hg : base ≤ g) (hb : BoxT 3 w g cur) (hc : l.length ≤ cap) (hm : cap ≤ maxLen) (hs : cur.size = cap) (hat : ∀ (i x : Nat), l[i]? = some x → cur[i]? = some (.int .i64 (x : Int))) :
  OwnN base w (.slice (some ⟨g, 0, none⟩) l.length cap) l := by
 refine ⟨by simp [nc_flat], .inr ⟨g, cap, cur, rfl, hg, hb, hc, hm, by simpa using hs, ?_⟩⟩
 apply List.ext_getElem?
 intro i
 rw [nc_flat, List.getElem?_map]
 by_cases hi : i < l.length
 ·rw [List.getElem?_take_of_lt (by omega), List.getElem?_eq_getElem hi]
  have := hat i l[i] (List.getElem?_eq_getElem hi)
  simpa using this
 ·rw [List.getElem?_eq_none (by simp; omega), List.getElem?_eq_none (by omega)]; rfl
def swp (l : List Nat) (i j : Nat) : List Nat := (l.set i (l.getD j 0)).set j (l.getD i 0)
theorem swp_len (l : List Nat) (i j : Nat) : (swp l i j).length = l.length := by simp [swp]
theorem Tryz.info3' : (Tryz.prog.info? 3).map (fun i => (i.zero, i.size, i.bytes)) = some (some (.int .i64 0), 1, 8) := by kernel_rfl
theorem BoxT.ne {t t' : TypeId} {w : World} {k k' : Nat} {c c' : Array Value} (h : BoxT t w k c) (h' : BoxT t' w k' c') (ht : t ≠ t') : k ≠ k' := by
 intro e
 subst e
 unfold BoxT at h h'
 rw [h] at h'
 simp only [Option.some.injEq, Obj.cells.injEq] at h'
 exact ht h'.2.1
theorem BoxT.grownO {t : TypeId} {w w' : World} {k : Nat} {r : Option Nat} {cs : Array Value} (h : BoxT t w k cs) (hg : w.grownBy w' r) (hne : some k ≠ r) : BoxT t w' k cs := by
 unfold BoxT at *
 rw [hg.block k (Array.getElem?_eq_some_iff.1 h).1 hne]; exact h
structure HT (K : Nat) (rv rv' : Value) (w w' : World) : Prop where
 os : w'.os = w.os
 tape : w'.tape = w.tape
 output : w'.output = w.output
 size : w.heap.size ≤ w'.heap.size
 block : ∀ i, i < w.heap.size → i ≠ K → rv.ownBlock ≠ some i → w'.heap[i]? = w.heap[i]?
 own : ∀ g, rv'.ownBlock = some g → rv.ownBlock = some g ∨ w.heap.size ≤ g
theorem HT.refl (K : Nat) (rv : Value) (w : World) : HT K rv rv w w := ⟨rfl, rfl, rfl, Nat.le_refl _, fun _ _ _ _ => rfl, fun _ h => .inl h⟩
theorem HT.trans {K : Nat} {a b c : Value} {u v w : World} (h : HT K a b u v) (k : HT K b c v w) : HT K a c u w :=
 ⟨k.os.trans h.os, k.tape.trans h.tape, k.output.trans h.output, Nat.le_trans h.size k.size, fun i hi h1 h2 => by
  refine (k.block i (Nat.lt_of_lt_of_le hi h.size) h1 (fun e => ?_)).trans (h.block i hi h1 h2)
  rcases h.own i e with e' | e'
  ·exact h2 e'
  ·omega, fun g e => by
  rcases k.own g e with e' | e'
  ·exact h.own g e'
  ·exact .inr (Nat.le_trans h.size e')⟩
theorem HT.below {K : Nat} {rv : Value} {w w' : World} (h : Below w.heap.size w w') : HT K rv rv w w' := ⟨h.os, h.tape, h.output, h.size, fun i hi _ _ => h.block i hi, fun _ e => .inl e⟩
theorem HT.grown {K : Nat} {rv rv' : Value} {w w' : World} (h : w.grownBy w' rv.ownBlock) (ho : ∀ g, rv'.ownBlock = some g → rv.ownBlock = some g ∨ w.heap.size ≤ g) : HT K rv rv' w w' :=
 ⟨h.os, h.tape, h.output, h.size, fun i hi _ hn => h.block i hi (Ne.symm hn), ho⟩
theorem HT.set (K : Nat) (rv : Value) (w : World) (j : Nat) (u : Value) : HT K rv rv w (w.setCell ⟨K, j, none⟩ u) :=
 ⟨rfl, rfl, rfl, by simp, fun i _ h1 _ => Below.heap_setCell w ⟨K, j, none⟩ u i h1, fun _ e => .inl e⟩
theorem OwnN.setK {base : Nat} {w : World} {v : Value} {l : List Nat} (h : OwnN base w v l) {K j : Nat} {u : Value} (hk : ∀ g, v.ownBlock = some g → K ≠ g) : OwnN base (w.setCell ⟨K, j, none⟩ u) v l :=
 h.back (fun g hg => Below.heap_setCell w ⟨K, j, none⟩ u g (hk g hg).symm)
end Go.Proofs.YtpcbhcdpegbfjaaGreat.J
