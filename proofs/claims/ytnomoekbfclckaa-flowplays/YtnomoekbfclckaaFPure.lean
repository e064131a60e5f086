/-
  A channel's state, and what each call makes of it.
-/
import Derived.Test.YtnomoekbfclckaaNLine
namespace Go.Proofs.Ytnomoekbfclckaa

/-- What is offered, what moves with its number, what waits; the next numbers, the greatest number that waited, the epoch. -/
structure FS (α : Type) where
  back : List α
  mov : List (Int × α)
  wait : List α
  s : Int
  r : Int
  mo : Int
  e : Int
section
variable {α : Type}
def pNew (e : Int) : FS α := ⟨[], [], [], 1, 1, 0, e⟩
def pOffer (S : FS α) (x : α) : FS α := { S with back := S.back ++ [x] }
def pCr (cr : Nat) (S : FS α) : Int := (cr : Int) - S.wait.length - S.mov.length
def pSend (cr : Nat) (S : FS α) : FS α × Bool :=
  if pCr cr S ≤ 0 then (S, false) else
  match S.back with
  | [] => (S, false)
  | x :: B => ({ S with back := B, mov := S.mov ++ [(S.s, x)], s := S.s + 1 }, true)
def pArr (cr : Nat) (S : FS α) (e q : Int) (x : α) : FS α × Int :=
  if e ≠ S.e then (S, 62) else if q ≠ S.r ∨ cr ≤ S.wait.length then (S, 61) else
  ({ S with wait := S.wait ++ [x], r := S.r + 1, mo := max S.mo ((S.wait.length : Int) + 1) }, 0)
def pDel (cr : Nat) (S : FS α) : FS α × Int :=
  match S.mov with
  | [] => (S, 52)
  | p :: M => pArr cr { S with mov := M } S.e p.1 p.2
def pTake (S : FS α) : FS α := { S with wait := S.wait.tail }
def pKill (S : FS α) (e : Int) : FS α := ⟨[], [], [], 1, 1, S.mo, max S.e e⟩
def pDrain (S : FS α) : FS α := ⟨[], [], [], S.s, S.s, S.mo, S.e⟩
def pAll (S : FS α) : List α := S.wait ++ S.mov.map Prod.snd ++ S.back
/-- The numbers of what moves stand in order. -/
def Nums (r : Int) : List (Int × α) → Prop
  | [] => True
  | p :: M => p.1 = r ∧ Nums (r + 1) M
theorem Nums.app {r : Int} {M : List (Int × α)} (h : Nums r M) (x : α) : Nums r (M ++ [(r + M.length, x)]) := by
  induction M generalizing r with
  | nil => exact ⟨by simp, trivial⟩
  | cons p M ih =>
    refine ⟨h.1, ?_⟩
    have := ih h.2
    rw [show r + 1 + (M.length : Int) = r + ((p :: M).length : Int) by simp; omega] at this
    exact this
/-- In order: nothing was forged. -/
structure Ord (cr : Nat) (S : FS α) : Prop where
  nums : Nums S.r S.mov
  s : S.s = S.r + S.mov.length
  le : S.mov.length + S.wait.length ≤ cr
  mo : S.mo ≤ cr
theorem Ord.new (cr : Nat) (e : Int) : Ord cr (pNew e : FS α) := ⟨trivial, rfl, by simp [pNew], by simp [pNew]⟩
theorem Ord.offer {cr : Nat} {S : FS α} (h : Ord cr S) (x : α) : Ord cr (pOffer S x) := ⟨h.nums, h.s, h.le, h.mo⟩
theorem all_offer (S : FS α) (x : α) : pAll (pOffer S x) = pAll S ++ [x] := by simp [pAll, pOffer]
theorem send_cases (cr : Nat) (S : FS α) : (pSend cr S = (S, false) ∧ (pCr cr S ≤ 0 ∨ S.back = [])) ∨ ∃ x B, S.back = x :: B ∧ 0 < pCr cr S ∧ pSend cr S = ({ S with back := B, mov := S.mov ++ [(S.s, x)], s := S.s + 1 }, true) := by
  unfold pSend
  split
  · exact .inl ⟨rfl, .inl ‹_›⟩
  · split
    · exact .inl ⟨rfl, .inr ‹_›⟩
    · exact .inr ⟨_, _, ‹_›, by omega, rfl⟩
theorem Ord.send {cr : Nat} {S : FS α} (h : Ord cr S) : Ord cr (pSend cr S).1 ∧ pAll (pSend cr S).1 = pAll S := by
  rcases send_cases cr S with ⟨e, _⟩ | ⟨x, B, h1, h2, e⟩
  · rw [e]; exact ⟨h, rfl⟩
  · rw [e]
    unfold pCr at h2
    refine ⟨⟨?_, ?_, ?_, h.mo⟩, ?_⟩
    · have := h.nums.app x
      rw [← h.s] at this
      exact this
    · have := h.s; simp; omega
    · have := h.le; simp; omega
    · simp [pAll, h1]
theorem del_nil {cr : Nat} {S : FS α} (h : S.mov = []) : pDel cr S = (S, 52) := by simp [pDel, h]
theorem Ord.del {cr : Nat} {S : FS α} (h : Ord cr S) {p : Int × α} {M : List (Int × α)} (hm : S.mov = p :: M) :
    pDel cr S = ({ S with mov := M, wait := S.wait ++ [p.2], r := S.r + 1, mo := max S.mo ((S.wait.length : Int) + 1) }, 0) ∧ Ord cr (pDel cr S).1 ∧ pAll (pDel cr S).1 = pAll S := by
  have hn := h.nums
  have hle := h.le
  rw [hm] at hn hle
  simp only [List.length_cons] at hle
  have e : pDel cr S = ({ S with mov := M, wait := S.wait ++ [p.2], r := S.r + 1, mo := max S.mo ((S.wait.length : Int) + 1) }, 0) := by
    unfold pDel pArr
    rw [hm]
    have h2 : ¬ (p.1 ≠ S.r ∨ cr ≤ S.wait.length) := by rw [hn.1]; omega
    simp only [ne_eq, not_true, if_false]
    rw [if_neg h2]
  refine ⟨e, ?_⟩
  rw [e]
  refine ⟨⟨hn.2, ?_, ?_, ?_⟩, ?_⟩
  · have := h.s; rw [hm] at this; simp at this ⊢; omega
  · simp; omega
  · have := h.mo; simp only; omega
  · simp [pAll, hm]
theorem Ord.del_any {cr : Nat} {S : FS α} (h : Ord cr S) : Ord cr (pDel cr S).1 ∧ pAll (pDel cr S).1 = pAll S ∧ ((pDel cr S).2 = 0 ∨ (pDel cr S).2 = 52) := by
  cases hm : S.mov with
  | nil => rw [del_nil hm]; exact ⟨h, rfl, .inr rfl⟩
  | cons p M =>
    obtain ⟨e, h1, h2⟩ := h.del hm
    exact ⟨h1, h2, .inl (by rw [e])⟩
theorem Ord.take {cr : Nat} {S : FS α} (h : Ord cr S) : Ord cr (pTake S) := ⟨h.nums, h.s, by have := h.le; simp [pTake]; omega, h.mo⟩
theorem all_take {S : FS α} {x : α} {W : List α} (h : S.wait = x :: W) : pAll S = x :: pAll (pTake S) := by simp [pAll, pTake, h]
theorem Ord.drain {cr : Nat} {S : FS α} (h : Ord cr S) : Ord cr (pDrain S) := ⟨trivial, by simp [pDrain], by simp [pDrain], h.mo⟩
theorem Ord.kill {cr : Nat} {S : FS α} (h : Ord cr S) (e : Int) : Ord cr (pKill S e) := ⟨trivial, by simp [pKill], by simp [pKill], h.mo⟩
theorem all_len (S : FS α) : (pAll S).length = S.back.length + S.mov.length + S.wait.length := by simp [pAll]; omega
end
/-- The whole numbers from a on, n of them. -/
def upto (a : Int) : Nat → List Int
  | 0 => []
  | n + 1 => a :: upto (a + 1) n
theorem upto_len (a : Int) (n : Nat) : (upto a n).length = n := by
  induction n generalizing a with
  | zero => rfl
  | succ n ih => simp [upto, ih]
theorem upto_app (a : Int) (n : Nat) : upto a n ++ [a + n] = upto a (n + 1) := by
  induction n generalizing a with
  | zero => simp [upto]
  | succ n ih =>
    have h1 := ih (a + 1)
    rw [show a + 1 + (n : Int) = a + ((n + 1 : Nat) : Int) by omega] at h1
    rw [show upto a (n + 1) = a :: upto (a + 1) n from rfl, List.cons_append, h1]
    rfl
theorem upto_get (a : Int) (n k : Nat) (h : k < n) : (upto a n)[k]? = some (a + k) := by
  induction n generalizing a k with
  | zero => omega
  | succ n ih =>
    cases k with
    | zero => simp [upto]
    | succ k =>
      have := ih (a + 1) k (by omega)
      simp only [upto, List.getElem?_cons_succ, this]
      congr 1; omega
end Go.Proofs.Ytnomoekbfclckaa
