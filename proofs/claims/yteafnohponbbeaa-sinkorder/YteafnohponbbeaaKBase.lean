/-
  Rows, boxes, what stays (turned from the walks over package job); append of a list; what follows is laid in GRow.
-/
import Derived.Test.YteafnohponbbeaaProg
import Derived.WalkKit
import Derived.Laws.StructEq
import Derived.Deep.RegionHeld
import Derived.Deep.RegionHeld3
import Derived.Deep.QuietTactic
import Derived.BigQuiet
import Derived.Laws.AppendOwnNone
import Derived.Laws.MakeOwn
import Derived.Lib.SliceRun
import Derived.Deep.RegionLaw
import Derived.Maps.AppendAt
import Derived.BigRegion
import Derived.Deep.LoopGhost
import Derived.Deep.CutBlock
import Derived.Deep.CutRange
namespace Go.Proofs.Yteafnohponbbeaa
open Go.RowKit

theorem hide {p : Prop} (h : p) : Hid p := h

/-- Block k is a box of type t. -/
def BoxT (t : TypeId) (w : World) (k : Nat) (cs : Array Value) : Prop := w.heap[k]? = some (.cells cs t (0, 0))
theorem BoxT.cells4 {t : TypeId} {w : World} {k : Nat} {c0 c1 c2 c3 : Value} (h : BoxT t w k #[c0, c1, c2, c3]) :
    w.cell? ⟨k, 0, none⟩ = some c0 ∧ w.cell? ⟨k, 1, none⟩ = some c1 ∧ w.cell? ⟨k, 2, none⟩ = some c2 ∧ w.cell? ⟨k, 3, none⟩ = some c3 := by
  unfold BoxT at h
  simp [World.cell?, h]
theorem BoxT.new (t : TypeId) (w : World) (cs : Array Value) : BoxT t (w.alloc (.cells cs t)) w.heap.size cs := heap_alloc_new w _
theorem BoxT.new_at {t : TypeId} {w : World} {cs : Array Value} {k : Nat} (h : k = w.heap.size) : BoxT t (w.alloc (.cells cs t)) k cs := by subst h; exact BoxT.new t w cs
theorem BoxT.alloc {t : TypeId} {w : World} {k : Nat} {cs : Array Value} (h : BoxT t w k cs) (o : Obj) : BoxT t (w.alloc o) k cs := by
  unfold BoxT at *
  rw [Below.heap_alloc w o k (Array.getElem?_eq_some_iff.1 h).1]; exact h
theorem BoxT.drew {t : TypeId} {w : World} {k : Nat} {cs : Array Value} (h : BoxT t w k cs) : BoxT t w.drew k cs := h
theorem BoxT.lt {t : TypeId} {w : World} {k : Nat} {cs : Array Value} (h : BoxT t w k cs) : k < w.heap.size := (Array.getElem?_eq_some_iff.1 h).1
theorem BoxT.cells2 {t : TypeId} {w : World} {k : Nat} {c0 c1 : Value} (h : BoxT t w k #[c0, c1]) : w.cell? ⟨k, 0, none⟩ = some c0 ∧ w.cell? ⟨k, 1, none⟩ = some c1 := by
  unfold BoxT at h
  simp [World.cell?, h]
theorem BoxT.free {t : TypeId} {w : World} {k : Nat} {cs : Array Value} (h : BoxT t w k cs) (j : Nat) : w.frozen? ⟨k, j, none⟩ = false := by
  unfold BoxT at h
  exact frozen_of_row w k j cs t h
theorem BoxT.set {t : TypeId} {w : World} {k : Nat} {cs : Array Value} (h : BoxT t w k cs) (j : Nat) (u : Value) : BoxT t (w.setCell ⟨k, j, none⟩ u) k (cs.setIfInBounds j u) :=
  heap_setCell_same w k j cs t u h
theorem grownBy_set (w : World) (R j : Nat) (u : Value) : w.grownBy (w.setCell ⟨R, j, none⟩ u) (some R) :=
  ⟨rfl, rfl, rfl, by simp, fun k _ hk => Below.heap_setCell w ⟨R, j, none⟩ u k (fun e => hk (by simp [e]))⟩
theorem grownBy_refl (w : World) (r : Option Nat) : w.grownBy w r := ⟨rfl, rfl, rfl, Nat.le_refl _, fun _ _ _ => rfl⟩
theorem grownBy_trans {a b c : World} {r : Option Nat} (h : a.grownBy b r) (k : b.grownBy c r) : a.grownBy c r :=
  ⟨k.os.trans h.os, k.tape.trans h.tape, k.output.trans h.output, Nat.le_trans h.size k.size, fun i hi hne => (k.block i (Nat.lt_of_lt_of_le hi h.size) hne).trans (h.block i hi hne)⟩
theorem grownBy_alloc' (w : World) (o : Obj) (r : Option Nat) : w.grownBy (w.alloc o) r := ⟨rfl, rfl, rfl, by simp, fun k hk _ => Below.heap_alloc w o k hk⟩
theorem grownBy_drew {a w : World} {r : Option Nat} (h : a.grownBy w r) : a.grownBy w.drew r := ⟨h.os, h.tape, h.output, h.size, h.block⟩
theorem BoxT.cellAt {t : TypeId} {w : World} {k : Nat} {cs : Array Value} (h : BoxT t w k cs) (j : Nat) : w.cell? ⟨k, j, none⟩ = cs[j]? := by
  unfold BoxT at h
  simp [World.cell?, h]
theorem BoxT.grown {t : TypeId} {w w' : World} {k R : Nat} {cs : Array Value} (h : BoxT t w k cs) (hg : w.grownBy w' (some R)) (hne : k ≠ R) : BoxT t w' k cs := by
  unfold BoxT at *
  rw [hg.block k (Array.getElem?_eq_some_iff.1 h).1 (by simpa using hne)]; exact h
theorem BoxT.other {t : TypeId} {w : World} {k k' : Nat} {cs : Array Value} (h : BoxT t w k cs) (j : Nat) (u : Value) (hk : k ≠ k') : BoxT t (w.setCell ⟨k', j, none⟩ u) k cs := by
  unfold BoxT at *
  rw [Below.heap_setCell w ⟨k', j, none⟩ u k hk]; exact h
/-- Nothing but box k and map b has turned; there may be more. -/
structure Turned (k b : Nat) (w w' : World) : Prop where
  os : w'.os = w.os
  tape : w'.tape = w.tape
  output : w'.output = w.output
  size : w.heap.size ≤ w'.heap.size
  block : ∀ i, i < w.heap.size → i ≠ k → i ≠ b → w'.heap[i]? = w.heap[i]?
theorem Turned.refl (k b : Nat) (w : World) : Turned k b w w := ⟨rfl, rfl, rfl, Nat.le_refl _, fun _ _ _ _ => rfl⟩
theorem Turned.trans {k b : Nat} {u v w : World} (h : Turned k b u v) (h' : Turned k b v w) : Turned k b u w :=
  ⟨h'.os.trans h.os, h'.tape.trans h.tape, h'.output.trans h.output, Nat.le_trans h.size h'.size, fun i hi h1 h2 => (h'.block i (Nat.lt_of_lt_of_le hi h.size) h1 h2).trans (h.block i hi h1 h2)⟩
theorem Turned.below {k b : Nat} {w w' : World} (h : Below w.heap.size w w') : Turned k b w w' := ⟨h.os, h.tape, h.output, h.size, fun i hi _ _ => h.block i hi⟩
theorem Turned.set (k b : Nat) (w : World) (j : Nat) (u : Value) : Turned k b w (w.setCell ⟨k, j, none⟩ u) :=
  ⟨rfl, rfl, rfl, by simp, fun i _ h1 _ => Below.heap_setCell w ⟨k, j, none⟩ u i h1⟩
def setL (ca : Array Value) (j : Nat) : List Value → Array Value
  | [] => ca
  | v :: vs => setL (ca.setIfInBounds j v) (j + 1) vs
/-- v is a slice of just the things xs, each of sz cells, at the head of a row of type t that lies from block base on. -/
def OwnL {α : Type} (t sz : Nat) (cs : α → List Value) (base : Nat) (w : World) (v : Value) (xs : List α) : Prop := w.ownsRow base t sz v xs.length (xs.flatMap cs)
section
variable {α : Type} {t sz : Nat} {cs : α → List Value} {base : Nat} {w w' : World} {v : Value} {xs : List α}
theorem OwnL.nil (t sz : Nat) (cs : α → List Value) (base : Nat) (w : World) : OwnL t sz cs base w (.slice none 0 0) [] := World.ownsRow_nil _ _ _ _
theorem OwnL.alloc (h : OwnL t sz cs base w v xs) (o : Obj) : OwnL t sz cs base (w.alloc o) v xs := World.ownsRow.alloc h o
theorem OwnL.below (h : OwnL t sz cs base w v xs) (hb : Below w.heap.size w w') : OwnL t sz cs base w' v xs := by
  refine ⟨h.1, ?_⟩
  rcases h.2 with h | ⟨g, cap, cur, h1, h2, h3, h4⟩
  · exact .inl h
  · exact .inr ⟨g, cap, cur, h1, h2, by rw [hb.block g (Array.getElem?_eq_some_iff.1 h3).1]; exact h3, h4⟩
theorem OwnL.mono {base' : Nat} (h : OwnL t sz cs base w v xs) (hb : base' ≤ base) : OwnL t sz cs base' w v xs := by
  refine ⟨h.1, ?_⟩
  rcases h.2 with h | ⟨g, cap, cur, h1, h2, h3⟩
  · exact .inl h
  · exact .inr ⟨g, cap, cur, h1, by omega, h3⟩
theorem OwnL.shape (h : OwnL t sz cs base w v xs) : ∃ ao cap, v = .slice ao xs.length cap := by
  rcases h.2 with ⟨rfl, h0⟩ | ⟨g, cap, cur, rfl, _⟩
  · exact ⟨none, 0, by rw [h0]⟩
  · exact ⟨_, cap, rfl⟩
theorem OwnL.drew (h : OwnL t sz cs base w v xs) : OwnL t sz cs base w.drew v xs := h
theorem OwnL.back (h : OwnL t sz cs base w v xs) (hb : ∀ g, v.ownBlock = some g → w'.heap[g]? = w.heap[g]?) : OwnL t sz cs base w' v xs := by
  refine ⟨h.1, ?_⟩
  rcases h.2 with h | ⟨g, cap, cur, rfl, h2, h3, h4⟩
  · exact .inl h
  · exact .inr ⟨g, cap, cur, rfl, h2, by rw [hb g rfl]; exact h3, h4⟩
theorem OwnL.has (h : OwnL t sz cs base w v xs) (g : Nat) (hg : v.ownBlock = some g) : ∃ cur, w.heap[g]? = some (.cells cur t (0, 0)) := by
  rcases h.2 with ⟨rfl, _⟩ | ⟨g', cap, cur, rfl, h2, h3, _⟩
  · cases hg
  · obtain rfl : g' = g := Option.some.inj hg
    exact ⟨cur, h3⟩
theorem OwnL.at (h : OwnL t sz cs base w v xs) : ∀ g, v.ownBlock = some g → base ≤ g := fun g e => (World.ownsRow.lt h g e).1
theorem OwnL.lt (h : OwnL t sz cs base w v xs) (g : Nat) (hg : v.ownBlock = some g) : g < w.heap.size := by
  obtain ⟨cur, hc⟩ := h.has g hg
  exact (Array.getElem?_eq_some_iff.1 hc).1
end
/-- v is a slice of just the things xs, each of sz cells, which lie below block B. -/
def LSeg {α : Type} (sz : Nat) (cs : α → List Value) (B : Nat) (w : World) (v : Value) (xs : List α) : Prop :=
  ∃ ao cap, v = .slice ao xs.length cap ∧ xs.length ≤ 140737488355328 ∧ (xs = [] ∨ ∃ b off, ao = some ⟨b, off, none⟩ ∧ b < B ∧ ∀ (i : Nat) (x : α), xs[i]? = some x → ∀ (j : Nat) (u : Value), (cs x)[j]? = some u → w.cell? ⟨b, off + i * sz + j, none⟩ = some u)
section
variable {α : Type} {sz : Nat} {cs : α → List Value} {B : Nat} {w w' : World} {v : Value} {xs : List α}
theorem LSeg.mono {B' : Nat} (h : LSeg sz cs B w v xs) (hB : B ≤ B') : LSeg sz cs B' w v xs := by
  obtain ⟨ao, cap, h1, h2, h4⟩ := h
  refine ⟨ao, cap, h1, h2, ?_⟩
  rcases h4 with h4 | ⟨b, off, h5, h6, h7⟩
  · exact .inl h4
  · exact .inr ⟨b, off, h5, by omega, h7⟩
theorem LSeg.below (h : LSeg sz cs B w v xs) (hb : Below B w w') : LSeg sz cs B w' v xs := by
  obtain ⟨ao, cap, h1, h2, h4⟩ := h
  refine ⟨ao, cap, h1, h2, ?_⟩
  rcases h4 with h4 | ⟨b, off, h5, h6, h7⟩
  · exact .inl h4
  · exact .inr ⟨b, off, h5, h6, fun i x hi j u hu => (hb.cell (p := ⟨b, off + i * sz + j, none⟩) h6).trans (h7 i x hi j u hu)⟩
end
theorem flat_get {α : Type} {sz : Nat} {cs : α → List Value} (hcs : ∀ x, (cs x).length = sz) (xs : List α) : ∀ (i j : Nat) (x : α) (u : Value), xs[i]? = some x → (cs x)[j]? = some u → (xs.flatMap cs)[i * sz + j]? = some u := by
  induction xs with
  | nil => intro i j x u h; simp at h
  | cons y ys ih =>
    intro i j x u h hu
    have hj : j < sz := by rw [← hcs x]; exact (List.getElem?_eq_some_iff.1 hu).1
    rw [List.flatMap_cons]
    match i, h with
    | 0, h =>
      obtain rfl : y = x := by simpa using h
      rw [Nat.zero_mul, Nat.zero_add, List.getElem?_append_left (by rw [hcs]; exact hj)]; exact hu
    | i + 1, h =>
      rw [List.getElem?_append_right (by rw [hcs, Nat.succ_mul]; omega), hcs, show (i + 1) * sz + j - sz = i * sz + j by rw [Nat.succ_mul]; omega]
      exact ih i j x u (by simpa using h) hu
theorem flat_size {α : Type} {sz : Nat} {cs : α → List Value} (hcs : ∀ x, (cs x).length = sz) (xs : List α) : (xs.flatMap cs).length = xs.length * sz := by
  induction xs with
  | nil => simp
  | cons y ys ih => rw [List.flatMap_cons, List.length_append, hcs, ih, List.length_cons, Nat.succ_mul]; omega
theorem BoxT.setCells {t k : Nat} (vs : List Value) : ∀ {w : World} {ca : Array Value} {j : Nat}, BoxT t w k ca → BoxT t (w.setCells k j vs) k (setL ca j vs) := by
  induction vs with
  | nil => intro w ca j h; exact h
  | cons v vs ih => intro w ca j h; exact ih (h.set j v)
theorem setL_size (vs : List Value) : ∀ (ca : Array Value) (j : Nat), (setL ca j vs).size = ca.size := by
  induction vs with
  | nil => intro ca j; rfl
  | cons v vs ih => intro ca j; rw [setL, ih]; simp
theorem setL_out (vs : List Value) : ∀ (ca : Array Value) (j i : Nat), i < j ∨ j + vs.length ≤ i → (setL ca j vs)[i]? = ca[i]? := by
  induction vs with
  | nil => intro ca j i _; rfl
  | cons v vs ih =>
    intro ca j i h
    rw [setL, ih _ _ _ (by simp only [List.length_cons] at h; omega), Array.getElem?_setIfInBounds_ne (by simp only [List.length_cons] at h; omega)]
theorem setL_in (vs : List Value) : ∀ (ca : Array Value) (j i : Nat) (u : Value), j + vs.length ≤ ca.size → vs[i]? = some u → (setL ca j vs)[j + i]? = some u := by
  induction vs with
  | nil => intro ca j i u _ h; simp at h
  | cons v vs ih =>
    intro ca j i u hl h
    simp only [List.length_cons] at hl
    match i, h with
    | 0, h =>
      obtain rfl : v = u := by simpa using h
      rw [setL, setL_out _ _ _ _ (by omega)]
      simp [Array.getElem?_setIfInBounds]; omega
    | i + 1, h =>
      rw [setL, show j + (i + 1) = (j + 1) + i by omega]
      exact ih _ _ _ _ (by simp; omega) (by simpa using h)
theorem grown_setCells (g : Nat) (vs : List Value) : ∀ (w : World) (o : Nat), w.grownBy (w.setCells g o vs) (some g) := by
  induction vs with
  | nil => intro w o; exact grownBy_refl _ _
  | cons v vs ih => intro w o; exact grownBy_trans (grownBy_set w g o v) (ih _ _)
/-- v is a slice of just the things xs, somewhere in a block of such that lies from base on. -/
def Row {α : Type} (t sz : Nat) (cs : α → List Value) (base : Nat) (w : World) (v : Value) (xs : List α) : Prop :=
  (v = .slice none 0 0 ∧ xs = []) ∨ ∃ g off cap cur, v = .slice (some ⟨g, off, none⟩) xs.length cap ∧ base ≤ g ∧ BoxT t w g cur ∧ xs.length ≤ cap ∧ cap ≤ maxLen ∧ off + cap * sz ≤ cur.size ∧ ∀ j u, (xs.flatMap cs)[j]? = some u → cur[off + j]? = some u
section
variable {α : Type} {t sz : Nat} {cs : α → List Value} {base : Nat} {w w' : World} {v : Value} {xs : List α}
theorem Row.nil (t sz : Nat) (cs : α → List Value) (base : Nat) (w : World) : Row t sz cs base w (.slice none 0 0) [] := .inl ⟨rfl, rfl⟩
theorem Row.of_own (h : OwnL t sz cs base w v xs) : Row t sz cs base w v xs := by
  have hl := h.1
  rcases h.2 with ⟨h1, h0⟩ | ⟨g, cap, cur, h1, h2, h3, h4, h5, h6, h7⟩
  · exact .inl ⟨h1, List.length_eq_zero_iff.1 h0⟩
  · refine .inr ⟨g, 0, cap, cur, h1, h2, h3, h4, h5, by omega, fun j u hj => ?_⟩
    rw [← h7, List.getElem?_take] at hj
    split at hj
    · rw [Nat.zero_add]; simpa using hj
    · cases hj
theorem Row.back (h : Row t sz cs base w v xs) (hb : ∀ g, v.ownBlock = some g → w'.heap[g]? = w.heap[g]?) : Row t sz cs base w' v xs := by
  rcases h with h | ⟨g, off, cap, cur, rfl, h2, h3, h4⟩
  · exact .inl h
  · exact .inr ⟨g, off, cap, cur, rfl, h2, by unfold BoxT at *; rw [hb g rfl]; exact h3, h4⟩
theorem Row.below (h : Row t sz cs base w v xs) (hb : Below w.heap.size w w') : Row t sz cs base w' v xs := by
  rcases h with h | ⟨g, off, cap, cur, rfl, h2, h3, h4⟩
  · exact .inl h
  · exact .inr ⟨g, off, cap, cur, rfl, h2, by have := h3.lt; unfold BoxT at *; rw [hb.block g this]; exact h3, h4⟩
theorem Row.has (h : Row t sz cs base w v xs) (g : Nat) (hg : v.ownBlock = some g) : ∃ cur, BoxT t w g cur := by
  rcases h with ⟨rfl, _⟩ | ⟨g', off, cap, cur, rfl, h2, h3, _⟩
  · cases hg
  · obtain rfl : g' = g := Option.some.inj hg
    exact ⟨cur, h3⟩
theorem Row.at (h : Row t sz cs base w v xs) (g : Nat) (hg : v.ownBlock = some g) : base ≤ g := by
  rcases h with ⟨rfl, _⟩ | ⟨g', off, cap, cur, rfl, h2, h3, _⟩
  · cases hg
  · obtain rfl : g' = g := Option.some.inj hg
    exact h2
theorem Row.shape (h : Row t sz cs base w v xs) : ∃ a c, v = .slice a xs.length c := by
  rcases h with ⟨rfl, rfl⟩ | ⟨g, off, cap, cur, rfl, _⟩
  · exact ⟨none, 0, rfl⟩
  · exact ⟨_, cap, rfl⟩
/-- The i-th thing's cells. -/
theorem Row.read (h : Row t sz cs base w v xs) (hcs : ∀ x, (cs x).length = sz) {i : Nat} {x : α} (hx : xs[i]? = some x) : ∃ g off cap, v = .slice (some ⟨g, off, none⟩) xs.length cap ∧ ∀ j u, (cs x)[j]? = some u → w.cell? ⟨g, off + (i * sz + j), none⟩ = some u := by
  rcases h with ⟨_, rfl⟩ | ⟨g, off, cap, cur, rfl, h2, h3, h4, h5, h6, h7⟩
  · simp at hx
  · refine ⟨g, off, cap, rfl, fun j u hu => ?_⟩
    rw [h3.cellAt]
    exact h7 _ u (flat_get hcs xs i j x u hx hu)
/-- Without its head. -/
theorem Row.tail {x : α} {ao : Option Addr} {n cap : Nat} (h : Row t sz cs base w (.slice ao n cap) (x :: xs)) (hcs : ∀ x, (cs x).length = sz) : ∃ g off, ao = some ⟨g, off, none⟩ ∧ n = xs.length + 1 ∧ 1 ≤ cap ∧ (cap ≠ 1 → Row t sz cs base w (.slice (some ⟨g, off + sz, none⟩) xs.length (cap - 1)) xs) ∧ (cap = 1 → Row t sz cs base w (.slice (some ⟨g, off, none⟩) xs.length 0) xs ∧ xs = []) := by
  rcases h with ⟨_, h⟩ | ⟨g, off, cap', cur, e, h2, h3, h4, h5, h6, h7⟩
  · cases h
  · cases e
    simp only [List.length_cons] at h4
    refine ⟨g, off, rfl, by simp, by omega, fun hc => .inr ⟨g, off + sz, cap - 1, cur, rfl, h2, h3, by omega, by omega, ?_, fun j u hu => ?_⟩, fun hc => ⟨.inr ⟨g, off, 0, cur, rfl, h2, h3, by omega, by omega, by omega, fun j u hu => ?_⟩, List.length_eq_zero_iff.1 (by omega)⟩⟩
    · have : cap * sz = (cap - 1) * sz + sz := by
        obtain ⟨c, rfl⟩ : ∃ c, cap = c + 1 := ⟨cap - 1, by omega⟩
        rw [Nat.succ_mul]; rfl
      omega
    · rw [Nat.add_assoc]
      refine h7 _ u ?_
      rw [List.flatMap_cons, List.getElem?_append_right (by rw [hcs]; omega), hcs, Nat.add_sub_cancel_left]; exact hu
    · have : xs = [] := List.length_eq_zero_iff.1 (by omega)
      subst this; simp at hu
end
/-- append's law at such rows. -/
theorem app_row {α : Type} {t sl sz by_ : Nat} {z : Value} {cs : α → List Value} (hinfo : (Try.prog.info? t).map (fun i => (i.zero, i.size, i.bytes)) = some (some z, sz, by_)) (hund : Try.prog.underlying sl = some (.slice t)) (hz : z.cells.size = sz) (hsz : 0 < sz) (hby : by_ ≤ 100)
    (hcs : ∀ x, (cs x).length = sz) (h1c : ∀ x, ∀ u ∈ cs x, u.oneCell' = true)
    {w : World} {ops : Array Oper} {rest : List Oper} {o : Oper} {a : Act} {Q : Exit → Act → World → Prop} (hgd : o.guard = none) (s x : Operand)
    (ho : o.op = .call { callee := .builtin .append, args := #[s, x], argTypes := #[sl, sl] }) (base : Nat) (v : Value) (xs : List α) (hs : a.eval s = v) (hown : Row t sz cs base w v xs)
    (ad : Addr) (c : Nat) (y : α) (hx : a.eval x = .slice (some ad) 1 c) (hnews : ∀ j u, (cs y)[j]? = some u → w.cell? (ad.add j) = some u) (hl : xs.length ≤ 1000000) (hbase : base ≤ w.heap.size)
    (h : ∀ v' w', Row t sz cs base w' v' (xs ++ [y]) → w.grownBy w' v.ownBlock → (∀ g, v'.ownBlock = some g → v.ownBlock = some g ∨ w.heap.size ≤ g) → wpList Try.prog ops Q rest (a.put o.dst v') w') : wpList Try.prog ops Q (o :: rest) a w := by
  obtain ⟨i0, hi, hz0, hz1, hz2⟩ := info_parts hinfo
  have hb2 : (xs.length + 1) * by_ ≤ 140737488355328 := by
    have : (xs.length + 1) * by_ ≤ 1000001 * 100 := Nat.mul_le_mul (by omega) hby
    omega
  have grown : ∀ v' w', w'.ownsRow w.heap.size t sz v' (xs.length + 1) (xs.flatMap cs ++ cs y) → Row t sz cs base w' v' (xs ++ [y]) ∧ ∀ g, v'.ownBlock = some g → v.ownBlock = some g ∨ w.heap.size ≤ g := by
    intro v' w' h1
    have h2 : OwnL t sz cs w.heap.size w' v' (xs ++ [y]) := by
      show w'.ownsRow _ t sz v' (xs ++ [y]).length ((xs ++ [y]).flatMap cs)
      rw [List.length_append, List.flatMap_append]; simpa using h1
    exact ⟨Row.of_own (h2.mono hbase), fun g e => .inr (h2.at g e)⟩
  rcases id hown with ⟨rfl, rfl⟩ | ⟨g, off, cap, cur, rfl, g2, g3, g4, g5, g6, g7⟩
  · refine wpList_append_grows w hgd s x sl ho t i0 z sz by_ hund hi hz0 hz1 hz2 hz hsz none 0 0 [] hs (fun _ => ⟨rfl, rfl⟩) (by simp) (fun b hb => by cases hb) ad 1 c (cs y) hx (by rw [hcs]; omega) hnews (h1c y) (by omega) (by unfold maxLen; omega) (by simpa using hb2) ?_
    intro v' w' h1 h2
    obtain ⟨k1, k2⟩ := grown v' w' (by simpa using h1)
    exact h v' w' k1 h2 k2
  · refine wpList_append_arg w hgd s x sl ho t i0 z sz by_ hund hi hz0 hz1 hz2 hz hsz g off xs.length cap (xs.flatMap cs) hs (flat_size hcs xs) (fun j u hj => by rw [g3.cellAt]; exact g7 j u hj) ad 1 c (cs y) hx (by rw [hcs]; omega) hnews (h1c y) ?_ (by unfold maxLen; omega) hb2 ?_ ?_
    · intro hr j hj
      rw [hcs] at hj
      have hfit : off + xs.length * sz + j < cur.size := by
        have : (xs.length + 1) * sz ≤ cap * sz := Nat.mul_le_mul_right _ hr
        rw [Nat.succ_mul] at this; omega
      refine ⟨?_, g3.free _⟩
      rw [g3.cellAt, Array.getElem?_eq_getElem hfit]; rfl
    · intro hr
      have hfit : off + xs.length * sz + (cs y).length ≤ cur.size := by
        have : (xs.length + 1) * sz ≤ cap * sz := Nat.mul_le_mul_right _ hr
        rw [Nat.succ_mul] at this; rw [hcs]; omega
      refine h _ _ ?_ ?_ (fun g' e => .inl e)
      · refine .inr ⟨g, off, cap, setL cur (off + xs.length * sz) (cs y), by simp, g2, g3.setCells (cs y), by simpa using hr, g5, by rw [setL_size]; exact g6, fun j u hu => ?_⟩
        rw [List.flatMap_append] at hu
        simp only [List.flatMap_cons, List.flatMap_nil, List.append_nil] at hu
        by_cases hj : j < xs.length * sz
        · rw [List.getElem?_append_left (by rw [flat_size hcs]; exact hj)] at hu
          rw [setL_out _ _ _ _ (.inl (by omega))]
          exact g7 j u hu
        · rw [List.getElem?_append_right (by rw [flat_size hcs]; omega), flat_size hcs] at hu
          rw [show off + j = off + xs.length * sz + (j - xs.length * sz) by omega]
          exact setL_in _ _ _ _ _ hfit hu
      · exact grown_setCells g (cs y) w _
    · intro hr v' w' h1 h2
      obtain ⟨k1, k2⟩ := grown v' w' h1
      exact h v' w' k1 ⟨h2.os, h2.tape, h2.output, h2.size, fun i hi _ => h2.block i hi (by simp)⟩ k2
theorem below_drewN {B : Nat} {a w : World} (h : Below B a w) (n : Nat) : Below B a (w.drewN n) := by
  induction n with
  | zero => exact h
  | succ n ih => exact ih.drew
theorem add_plain2 (b o i : Nat) : (⟨b, o, none⟩ : Addr).add i = ⟨b, o + i, none⟩ := by unfold Addr.add; split <;> simp_all
/-- append onto a row that begins anywhere. -/
theorem run_row {α : Type} {t sl sz by_ : Nat} {z : Value} {cs : α → List Value} (hinfo : (Try.prog.info? t).map (fun i => (i.zero, i.size, i.bytes)) = some (some z, sz, by_)) (hund : Try.prog.underlying sl = some (.slice t)) (hz : z.cells.size = sz) (hsz : 0 < sz) (hby : by_ ≤ 100)
    (hcs : ∀ x, (cs x).length = sz) (h1c : ∀ x, ∀ u ∈ cs x, u.oneCell' = true) {w : World} (ty base : Nat) {v : Value} {xs : List α} (hown : Row t sz cs base w v xs)
    (ad : Addr) (c : Nat) (y : α) (hnews : ∀ j u, (cs y)[j]? = some u → w.cell? (ad.add j) = some u) (hl : xs.length ≤ 1000000) (hbase : base ≤ w.heap.size) :
    ∃ v' w', (Builtin.append_ #[sl, sl] ty #[v, .slice (some ad) 1 c]).run Try.prog w = .ok v' w' ∧ Row t sz cs base w' v' (xs ++ [y]) ∧ w.grownBy w' v.ownBlock ∧ ∀ g, v'.ownBlock = some g → v.ownBlock = some g ∨ w.heap.size ≤ g := by
  obtain ⟨i0, hi, hz0, hz1, hz2⟩ := info_parts hinfo
  have hb2 : (xs.length + 1) * by_ ≤ 140737488355328 := by
    have : (xs.length + 1) * by_ ≤ 1000001 * 100 := Nat.mul_le_mul (by omega) hby
    omega
  have grown : ∀ v' w', w'.ownsRow w.heap.size t sz v' (xs.length + 1) (xs.flatMap cs ++ cs y) → Row t sz cs base w' v' (xs ++ [y]) ∧ ∀ g, v'.ownBlock = some g → v.ownBlock = some g ∨ w.heap.size ≤ g := by
    intro v' w' h1
    have h2 : OwnL t sz cs w.heap.size w' v' (xs ++ [y]) := by
      show w'.ownsRow _ t sz v' (xs ++ [y]).length ((xs ++ [y]).flatMap cs)
      rw [List.length_append, List.flatMap_append]; simpa using h1
    exact ⟨Row.of_own (h2.mono hbase), fun g e => .inr (h2.at g e)⟩
  rcases id hown with ⟨rfl, rfl⟩ | ⟨g, off, cap, cur, rfl, g2, g3, g4, g5, g6, g7⟩
  · obtain ⟨v', w', r1, r2, r3, _, _⟩ := run_append_own_at (P := Try.prog) w w.heap.size sl ty t i0 z sz by_ hund hi hz0 hz1 hz2 hz hsz (.slice none 0 0) 0 [] (World.ownsRow_nil _ _ _ _) ad 1 c (cs y) (by rw [hcs]; omega) hnews (h1c y) (by unfold maxLen; omega) (by simpa using hb2) (Nat.le_refl _)
    obtain ⟨k1, k2⟩ := grown v' w' (by simpa using r2)
    exact ⟨v', w', r1, k1, r3, k2⟩
  · by_cases hr : xs.length + 1 ≤ cap
    · have hfit : off + xs.length * sz + (cs y).length ≤ cur.size := by
        have : (xs.length + 1) * sz ≤ cap * sz := Nat.mul_le_mul_right _ hr
        rw [Nat.succ_mul] at this; rw [hcs]; omega
      have hrun := run_append_room_cells (P := Try.prog) w sl ty t i0 hund hi g off xs.length cap ad 1 c (cs y) (by rw [hcs, hz1]; omega) hnews (h1c y) hr
        (fun j hj => by rw [hz1, g3.cellAt, Array.getElem?_eq_getElem (show off + xs.length * sz + j < cur.size by omega)]; rfl) (fun j _ => g3.free _)
      rw [hz1] at hrun
      refine ⟨_, _, hrun, ?_, grown_setCells g (cs y) w _, fun g' e => .inl e⟩
      refine .inr ⟨g, off, cap, setL cur (off + xs.length * sz) (cs y), by simp, g2, g3.setCells (cs y), by simpa using hr, g5, by rw [setL_size]; exact g6, fun j u hu => ?_⟩
      rw [List.flatMap_append] at hu
      simp only [List.flatMap_cons, List.flatMap_nil, List.append_nil] at hu
      by_cases hj : j < xs.length * sz
      · rw [List.getElem?_append_left (by rw [flat_size hcs]; exact hj)] at hu
        rw [setL_out _ _ _ _ (.inl (by omega))]
        exact g7 j u hu
      · rw [List.getElem?_append_right (by rw [flat_size hcs]; omega), flat_size hcs] at hu
        rw [show off + j = off + xs.length * sz + (j - xs.length * sz) by omega]
        exact setL_in _ _ _ _ _ hfit hu
    · obtain ⟨v', w', r1, r2, r3⟩ := run_append_arg_grows (P := Try.prog) w sl ty t i0 z sz by_ hund hi hz0 hz1 hz2 hz hsz ⟨g, off, none⟩ xs.length cap (xs.flatMap cs) (flat_size hcs xs) (fun j u hj => by rw [add_plain2, g3.cellAt]; exact g7 j u hj) ad 1 c (cs y) (by rw [hcs]; omega) hnews (by omega) (by unfold maxLen; omega) hb2
      obtain ⟨k1, k2⟩ := grown v' w' r2
      exact ⟨v', w', r1, k1, ⟨r3.os, r3.tape, r3.output, r3.size, fun i hi _ => r3.block i hi (by simp)⟩, k2⟩
theorem step_row {α : Type} {t sl sz by_ : Nat} {z : Value} {cs : α → List Value} (hinfo : (Try.prog.info? t).map (fun i => (i.zero, i.size, i.bytes)) = some (some z, sz, by_)) (hund : Try.prog.underlying sl = some (.slice t)) (hz : z.cells.size = sz) (hsz : 0 < sz) (hby : by_ ≤ 100)
    (hcs : ∀ x, (cs x).length = sz) (h1c : ∀ x, ∀ u ∈ cs x, u.oneCell' = true) {w : World} {ops : Array Oper} {o : Oper} {a : Act} {K : Act → World → Prop} {Q : Exit → Act → World → Prop} {E : Prop} (hgd : o.guard = none) (s x : Operand)
    (ho : o.op = .call { callee := .builtin .append, args := #[s, x], argTypes := #[sl, sl] }) (base : Nat) (v : Value) (xs : List α) (hs : a.eval s = v) (hown : Row t sz cs base w v xs)
    (ad : Addr) (c : Nat) (y : α) (hx : a.eval x = .slice (some ad) 1 c) (hnews : ∀ j u, (cs y)[j]? = some u → w.cell? (ad.add j) = some u) (hl : xs.length ≤ 1000000) (hbase : base ≤ w.heap.size)
    (h : ∀ v' w', Row t sz cs base w' v' (xs ++ [y]) → w.grownBy w' v.ownBlock → (∀ g, v'.ownBlock = some g → v.ownBlock = some g ∨ w.heap.size ≤ g) → K (a.put o.dst v') w') :
    if Region.wanted o (yielded ops a.tmps) = true then Oper.wp Try.prog o a w K Q else E := by
  have hw : Region.wanted o (yielded ops a.tmps) = true := by simp [Region.wanted, hgd]
  rw [if_pos hw]
  obtain ⟨v', w', hr, h2, h3, h4⟩ := run_row hinfo hund hz hsz hby hcs h1c o.type base hown ad c y hnews hl hbase
  unfold Oper.wp execOp
  simp only [ho, resolve, invoke, builtin, Sem.run_bind, Sem.run_pure, Result.andThen_ok, List.map_toArray, List.map_cons, List.map_nil, hs, hx, hr]
  exact h v' w' h2 h3 h4
def i64cs (x : Int) : List Value := [.int .i64 x]
theorem i64cs_len (x : Int) : (i64cs x).length = 1 := rfl
theorem i64cs_one (x : Int) : ∀ u ∈ i64cs x, u.oneCell' = true := by intro u hu; simp [i64cs] at hu; subst hu; rfl
theorem Try.info2' : (Try.prog.info? 2).map (fun i => (i.zero, i.size, i.bytes)) = some (some (.int .i64 0), 1, 8) := by kernel_rfl
theorem flat_i64 (q : List Int) (j : Nat) (u : Value) (h : (q.flatMap i64cs)[j]? = some u) : ∃ x, q[j]? = some x ∧ u = .int .i64 x := by
  have e : q.flatMap i64cs = q.map (Value.int .i64) := by
    clear h
    induction q with
    | nil => rfl
    | cons x q ih => rw [List.flatMap_cons, ih]; rfl
  rw [e, List.getElem?_map] at h
  cases hq : q[j]? with
  | none => rw [hq] at h; cases h
  | some x => rw [hq] at h; exact ⟨x, rfl, (Option.some.inj h).symm⟩
theorem run_load0 (a : Addr) (w : World) : (loadCells a 0).run Try.prog w = .ok #[] w := by
  simp [loadCells, loadCellsFrom]
end Go.Proofs.Yteafnohponbbeaa
