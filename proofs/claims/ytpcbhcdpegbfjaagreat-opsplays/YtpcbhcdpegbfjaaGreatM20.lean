/-
  Texts in build order: ZEPure.
-/
import Derived.WalkKit
/-
 Expressions as plain trees (with the place where each list of operands lies), and what the functions of layer 7 work out of them. No program in it.
-/
namespace Go.Proofs.YtpcbhcdpegbfjaaGreat.J
open Go.RowKit
structure Ex where
 op : Int
 n : Int
 a : Option Addr
 c : Nat
 l : List Ex
theorem Ex.ind {P : Ex → Prop} (h : ∀ op n a c l, (∀ x ∈ l, P x) → P ⟨op, n, a, c, l⟩) (e : Ex) : P e :=
 Ex.rec (motive_1 := P) (motive_2 := fun l => ∀ x ∈ l, P x) h (fun _ hx => by cases hx)
  (fun x r h1 h2 y hy => by
   rcases List.mem_cons.1 hy with rfl | hy
   ·exact h1
   ·exact h2 y hy) e
theorem att_map {α β : Type} (l : List α) (g : α → β) : (l.attach.map fun x => match x with | ⟨x, _⟩ => g x) = l.map g := by
 have : (fun x : { x // x ∈ l } => match x with | ⟨x, _⟩ => g x) = fun x => g x.1 := by funext x; rfl
 rw [this, List.attach_map_val]
def Ex.fold {α : Type} (f : Int → Int → List α → α) : Ex → α
 | ⟨op, n, _, _, l⟩ => f op n (l.attach.map fun ⟨x, _⟩ => Ex.fold f x)
theorem Ex.fold_mk {α : Type} (f : Int → Int → List α → α) (op n : Int) (a : Option Addr) (c : Nat) (l : List Ex) : Ex.fold f ⟨op, n, a, c, l⟩ = f op n (l.map (Ex.fold f)) := by
 rw [Ex.fold]
 exact congrArg (f op n) (att_map l (Ex.fold f))
/-! ### Well-formed, size, depth -/
def ari (op : Int) : Int := if 1 ≤ op ∧ op ≤ 4 then 0 else if op = 14 then 3 else if 5 ≤ op ∧ op ≤ 13 then 2 else -1
def snd1 (op n : Int) (k : Nat) : Bool := decide (0 ≤ ari op) && decide ((k : Int) = ari op) && (decide (n = 0) || decide (op = 1))
def formed : Ex → Bool := Ex.fold fun op n l => snd1 op n l.length && l.all id
def size : Ex → Nat := Ex.fold fun _ _ l => 1 + l.sum
def dep : Ex → Nat := Ex.fold fun _ _ l => 1 + l.foldr max 0
theorem formed_mk (op n : Int) (a : Option Addr) (c : Nat) (l : List Ex) : formed ⟨op, n, a, c, l⟩ = (snd1 op n l.length && l.all formed) := by
 unfold formed; rw [Ex.fold_mk]; simp [List.all_map]
theorem size_mk (op n : Int) (a : Option Addr) (c : Nat) (l : List Ex) : size ⟨op, n, a, c, l⟩ = 1 + (l.map size).sum := by
 unfold size; rw [Ex.fold_mk]
theorem dep_mk (op n : Int) (a : Option Addr) (c : Nat) (l : List Ex) : dep ⟨op, n, a, c, l⟩ = 1 + (l.map dep).foldr max 0 := by
 unfold dep; rw [Ex.fold_mk]
/-! ### count -/
def cntL (fs : List (Int → Int → Int × Int)) (deep n : Int) : Int × Int := match fs with
 | [] => (n, 0)
 | f :: fs => if (f deep n).2 = 0 then cntL fs deep (f deep n).1 else (0, (f deep n).2)
def cnt1 (op m : Int) (fs : List (Int → Int → Int × Int)) (deep n : Int) : Int × Int :=
 if snd1 op m fs.length = false then (0, 70) else if 8 < deep ∨ 32 < n + 1 then (0, 71) else cntL fs (deep + 1) (n + 1)
def cnt : Ex → Int → Int → Int × Int := Ex.fold cnt1
theorem cnt_mk (op n : Int) (a : Option Addr) (c : Nat) (l : List Ex) : cnt ⟨op, n, a, c, l⟩ = cnt1 op n (l.map cnt) := by
 unfold cnt; rw [Ex.fold_mk]
theorem cnt_ok (e : Ex) : ∀ deep n : Int, 0 ≤ n →
  ((cnt e deep n).2 = 0 ∧ formed e = true ∧ (cnt e deep n).1 = n + size e ∧ n + size e ≤ 32 ∧ deep + dep e ≤ 9) ∨
  ((cnt e deep n).2 = 70 ∧ (cnt e deep n).1 = 0 ∧ formed e = false) ∨
  ((cnt e deep n).2 = 71 ∧ (cnt e deep n).1 = 0 ∧ (32 < n + size e ∨ 9 < deep + dep e)) := by
 refine Ex.ind (P := fun e => ∀ deep n : Int, 0 ≤ n →
  ((cnt e deep n).2 = 0 ∧ formed e = true ∧ (cnt e deep n).1 = n + size e ∧ n + size e ≤ 32 ∧ deep + dep e ≤ 9) ∨
  ((cnt e deep n).2 = 70 ∧ (cnt e deep n).1 = 0 ∧ formed e = false) ∨
  ((cnt e deep n).2 = 71 ∧ (cnt e deep n).1 = 0 ∧ (32 < n + size e ∨ 9 < deep + dep e))) ?_ e
 intro op m a c l ih deep n hn
 rw [cnt_mk, formed_mk, size_mk, dep_mk]
 unfold cnt1
 rw [List.length_map]
 cases hs : snd1 op m l.length
 ·rw [if_pos rfl]
  exact .inr (.inl ⟨rfl, rfl, rfl⟩)
 ·rw [if_neg (by simp)]
  by_cases hb : 8 < deep ∨ 32 < n + 1
  ·rw [if_pos hb]
   refine .inr (.inr ⟨rfl, rfl, ?_⟩)
   rcases hb with hb | hb
   ·right; omega
   ·left; omega
  ·rw [if_neg hb]
   simp only [Bool.true_and]
   have key : ∀ (l : List Ex) (k : Int), 0 ≤ k → k ≤ 32 → (∀ x ∈ l, ∀ deep n : Int, 0 ≤ n →
     ((cnt x deep n).2 = 0 ∧ formed x = true ∧ (cnt x deep n).1 = n + size x ∧ n + size x ≤ 32 ∧ deep + dep x ≤ 9) ∨
     ((cnt x deep n).2 = 70 ∧ (cnt x deep n).1 = 0 ∧ formed x = false) ∨
     ((cnt x deep n).2 = 71 ∧ (cnt x deep n).1 = 0 ∧ (32 < n + size x ∨ 9 < deep + dep x))) →
     ((cntL (l.map cnt) (deep + 1) k).2 = 0 ∧ l.all formed = true ∧ (cntL (l.map cnt) (deep + 1) k).1 = k + (l.map size).sum ∧ k + ((l.map size).sum : Nat) ≤ 32 ∧ deep + (((l.map dep).foldr max 0 : Nat) : Int) ≤ 8) ∨
     ((cntL (l.map cnt) (deep + 1) k).2 = 70 ∧ (cntL (l.map cnt) (deep + 1) k).1 = 0 ∧ l.all formed = false) ∨
     ((cntL (l.map cnt) (deep + 1) k).2 = 71 ∧ (cntL (l.map cnt) (deep + 1) k).1 = 0 ∧ (32 < k + ((l.map size).sum : Nat) ∨ 8 < deep + (((l.map dep).foldr max 0 : Nat) : Int))) := by
    intro l
    induction l with
    | nil =>
     intro k hk hk2 _
     left
     simp only [List.map_nil, cntL, List.sum_nil, List.foldr_nil, List.all_nil]
     refine ⟨trivial, trivial, by simp, by simp; omega, by simp; omega⟩
    | cons x r ihr =>
     intro k hk hk2 hx
     simp only [List.map_cons, cntL, List.sum_cons, List.foldr_cons, List.all_cons]
     rcases hx x (by simp) (deep + 1) k hk with ⟨h1, h2, h3, h4, h5⟩ | ⟨h1, h2, h3⟩ | ⟨h1, h2, h3⟩
     ·rw [if_pos h1, h3, h2]
      rcases ihr (k + size x) (by omega) h4 (fun y hy => hx y (by simp [hy])) with ⟨g1, g2, g3, g4, g5⟩ | ⟨g1, g2, g3⟩ | ⟨g1, g2, g3⟩
      ·left
       refine ⟨g1, by simp [g2], by rw [g3]; push_cast; omega, by push_cast; omega, by omega⟩
      ·exact .inr (.inl ⟨g1, g2, by simp [g3]⟩)
      ·refine .inr (.inr ⟨g1, g2, ?_⟩)
       rcases g3 with g3 | g3
       ·left; push_cast; omega
       ·right; omega
     ·rw [if_neg (by rw [h1]; decide)]
      exact .inr (.inl ⟨h1, rfl, by simp [h3]⟩)
     ·rw [if_neg (by rw [h1]; decide)]
      refine .inr (.inr ⟨h1, rfl, ?_⟩)
      rcases h3 with h3 | h3
      ·left; push_cast; omega
      ·right; omega
   rcases key l (n + 1) (by omega) (by omega) ih with ⟨g1, g2, g3, g4, g5⟩ | ⟨g1, g2, g3⟩ | ⟨g1, g2, g3⟩
   ·left
    exact ⟨g1, g2, by rw [g3]; push_cast; omega, by push_cast; omega, by push_cast; omega⟩
   ·exact .inr (.inl ⟨g1, g2, g3⟩)
   ·refine .inr (.inr ⟨g1, g2, ?_⟩)
    rcases g3 with g3 | g3
    ·left; push_cast; omega
    ·right; push_cast; omega
def chk (e : Ex) : Int := if formed e = false then 70 else if 32 < size e ∨ 8 < dep e then 71 else 0
theorem chk_of (e : Ex) : ((cnt e 1 0).2 = 0 ∧ chk e = 0) ∨ ((cnt e 1 0).2 = 70 ∧ chk e = 70) ∨ ((cnt e 1 0).2 = 71 ∧ chk e = if formed e then 71 else 70) := by
 rcases cnt_ok e 1 0 (by omega) with ⟨h1, h2, _, h4, h5⟩ | ⟨h1, _, h3⟩ | ⟨h1, _, h3⟩
 ·left
  refine ⟨h1, ?_⟩
  unfold chk
  rw [if_neg (by rw [h2]; decide), if_neg (by omega)]
 ·right; left
  exact ⟨h1, by unfold chk; rw [if_pos h3]⟩
 ·right; right
  refine ⟨h1, ?_⟩
  unfold chk
  cases formed e
  ·rw [if_pos rfl]; rfl
  ·rw [if_neg (by decide), if_pos (by omega), if_pos rfl]
/-! ### Eval -/
def both (op a b : Int) : Int :=
 if op = 5 then wrap64 (a + b) else if op = 6 then wrap64 (a - b) else if op = 7 then wrap64 (a * b) else if op = 8 then (if a ≤ b then a else b) else if op = 9 then (if a ≤ b then b else a)
 else if op = 12 then (if a < b then 1 else 0) else if op = 13 then (if a = b then 1 else 0) else 0
end Go.Proofs.YtpcbhcdpegbfjaaGreat.J
