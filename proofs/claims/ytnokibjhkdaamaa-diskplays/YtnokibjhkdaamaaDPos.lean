/-
  Files in one list, by names: where a name stands: no walk.
-/
import Derived.Test.YtnokibjhkdaamaaDArgs
namespace Go.Proofs.Ytnokibjhkdaamaa
open Go.RowKit Go.Maps

/-- How many names stand ahead of s. -/
def pos (s : List UInt8) (l : List Fi) : Nat := (l.takeWhile fun f => bytesBefore f.n s).length
/-- Does s stand there? -/
def isAt (s : List UInt8) (l : List Fi) : Bool := match l[pos s l]? with | some f => f.n == s | none => false
theorem pos_nil (s : List UInt8) : pos s [] = 0 := rfl
theorem pos_cons (s : List UInt8) (a : Fi) (r : List Fi) : pos s (a :: r) = if bytesBefore a.n s then pos s r + 1 else 0 := by
  unfold pos
  rw [List.takeWhile_cons]
  split <;> rfl
theorem isAt_cons (s : List UInt8) (a : Fi) (r : List Fi) : isAt s (a :: r) = if bytesBefore a.n s then isAt s r else a.n == s := by
  unfold isAt
  rw [pos_cons]
  by_cases h : bytesBefore a.n s = true
  · simp only [if_pos h, List.getElem?_cons_succ]
  · simp only [if_neg h, List.getElem?_cons_zero]
theorem pos_le (s : List UInt8) (l : List Fi) : pos s l ≤ l.length := by
  induction l with
  | nil => simp [pos_nil]
  | cons a r ih => rw [pos_cons]; split <;> simp <;> omega
theorem pos_before {s : List UInt8} {l : List Fi} {j : Nat} {f : Fi} (h : j < pos s l) (hf : l[j]? = some f) : bytesBefore f.n s = true := by
  induction l generalizing j with
  | nil => simp at hf
  | cons a r ih =>
    rw [pos_cons] at h
    by_cases hb : bytesBefore a.n s = true
    · rw [if_pos hb] at h
      cases j with
      | zero => simp at hf; subst hf; exact hb
      | succ j => exact ih (j := j) (by omega) (by simpa using hf)
    · rw [if_neg hb] at h; omega
theorem pos_at {s : List UInt8} {l : List Fi} {f : Fi} (hf : l[pos s l]? = some f) : bytesBefore f.n s = false := by
  induction l with
  | nil => simp at hf
  | cons a r ih =>
    rw [pos_cons] at hf
    by_cases hb : bytesBefore a.n s = true
    · rw [if_pos hb] at hf; exact ih (by simpa using hf)
    · rw [if_neg hb] at hf; simp at hf; subst hf; simpa using hb
theorem pos_eq {s : List UInt8} {l : List Fi} {i : Nat} (hi : i ≤ l.length) (h1 : ∀ j f, j < i → l[j]? = some f → bytesBefore f.n s = true) (h2 : ∀ f, l[i]? = some f → bytesBefore f.n s = false) : pos s l = i := by
  rcases Nat.lt_trichotomy (pos s l) i with h | h | h
  · obtain ⟨f, hf⟩ : ∃ f, l[pos s l]? = some f := ⟨_, List.getElem?_eq_getElem (by omega)⟩
    have e1 := h1 _ f h hf
    have e2 := pos_at hf
    rw [e1] at e2; cases e2
  · exact h
  · obtain ⟨f, hf⟩ : ∃ f, l[i]? = some f := ⟨_, List.getElem?_eq_getElem (by have := pos_le s l; omega)⟩
    have e1 := pos_before h hf
    rw [h2 f hf] at e1; cases e1
theorem asym {a b : List UInt8} (h : bytesBefore a b = true) : bytesBefore b a = false := by
  cases e : bytesBefore b a with
  | false => rfl
  | true =>
    have := WideShapes.bytes_trans _ _ _ h e
    rw [WideAt.bytes_irrefl] at this
    cases this
theorem ne_before {a b : List UInt8} (h : bytesBefore a b = true) : a ≠ b := by
  rintro rfl
  rw [WideAt.bytes_irrefl] at h
  cases h
/-- A rising list whose first name is behind s has no s. -/
theorem none_of_after {s : List UInt8} {a : Fi} {r : List Fi} (h : Rise (a :: r)) (hs : bytesBefore s a.n = true) : ∀ f ∈ a :: r, f.n ≠ s := by
  intro f hf
  rcases List.mem_cons.1 hf with rfl | hf
  · exact (ne_before hs).symm
  · exact (ne_before (WideShapes.bytes_trans _ _ _ hs ((List.pairwise_cons.1 h).1 f hf))).symm
theorem fGet_notin {s : List UInt8} {l : List Fi} (h : ∀ f ∈ l, f.n ≠ s) : fGet s l = none := by
  unfold fGet
  rw [List.find?_eq_none]
  intro f hf
  simpa using h f hf
theorem fGet_pos {s : List UInt8} {l : List Fi} (h : Rise l) : fGet s l = if isAt s l then l[pos s l]? else none := by
  induction l with
  | nil => rfl
  | cons a r ih =>
    have h0 := List.pairwise_cons.1 h
    rw [isAt_cons, pos_cons]
    by_cases hb : bytesBefore a.n s = true
    · have hne : (a.n == s) = false := by simpa using ne_before hb
      simp only [if_pos hb]
      unfold fGet at *
      rw [List.find?_cons, hne, List.getElem?_cons_succ]
      exact ih h0.2
    · simp only [if_neg hb, List.getElem?_cons_zero]
      by_cases he : a.n = s
      · have : (a.n == s) = true := by simpa using he
        rw [if_pos this]
        unfold fGet
        rw [List.find?_cons, this]
      · have : (a.n == s) = false := by simpa using he
        rw [this]
        simp only [Bool.false_eq_true, if_false]
        have hs : bytesBefore s a.n = true := (WideAt.bytes_total a.n s he).resolve_left hb
        exact fGet_notin (none_of_after h hs)
theorem fDel_pos {s : List UInt8} {l : List Fi} (h : Rise l) : fDel s l = if isAt s l then l.take (pos s l) ++ l.drop (pos s l + 1) else l := by
  induction l with
  | nil => rfl
  | cons a r ih =>
    have h0 := List.pairwise_cons.1 h
    rw [isAt_cons, pos_cons]
    by_cases hb : bytesBefore a.n s = true
    · have hne : (a.n == s) = false := by simpa using ne_before hb
      simp only [if_pos hb]
      have e : fDel s (a :: r) = a :: fDel s r := by unfold fDel; rw [List.filter_cons]; simp [hne]
      rw [e, ih h0.2]
      split <;> simp
    · simp only [if_neg hb]
      by_cases he : a.n = s
      · have hq : (a.n == s) = true := by simpa using he
        rw [if_pos hq]
        have e : fDel s (a :: r) = fDel s r := by unfold fDel; rw [List.filter_cons]; simp [hq]
        rw [e, fDel_none fun f hf => by have := h0.1 f hf; rw [he] at this; exact (ne_before this).symm]
        simp
      · have : (a.n == s) = false := by simpa using he
        rw [this]
        simp only [Bool.false_eq_true, if_false]
        have hs : bytesBefore s a.n = true := (WideAt.bytes_total a.n s he).resolve_left hb
        exact fDel_none (none_of_after h hs)
theorem fPut_pos (f : Fi) {l : List Fi} (h : Rise l) : fPut f l = l.take (pos f.n l) ++ f :: l.drop (if isAt f.n l then pos f.n l + 1 else pos f.n l) := by
  induction l with
  | nil => rfl
  | cons a r ih =>
    have h0 := List.pairwise_cons.1 h
    rw [isAt_cons, pos_cons]
    by_cases hb : bytesBefore a.n f.n = true
    · have hne : (a.n == f.n) = false := by simpa using ne_before hb
      simp only [if_pos hb]
      have e : fPut f (a :: r) = a :: fPut f r := by
        unfold fPut fDel
        rw [List.filter_cons]
        simp only [hne, Bool.not_false, if_true]
        show (if bytesBefore f.n a.n then _ else _) = _
        rw [asym hb]
        rfl
      rw [e, ih h0.2]
      split <;> simp
    · simp only [if_neg hb]
      by_cases he : a.n = f.n
      · have hq : (a.n == f.n) = true := by simpa using he
        rw [if_pos hq]
        have e : fDel f.n (a :: r) = r := by
          have e2 : fDel f.n (a :: r) = fDel f.n r := by unfold fDel; rw [List.filter_cons]; simp [hq]
          rw [e2, fDel_none fun g hg => by have := h0.1 g hg; rw [he] at this; exact (ne_before this).symm]
        unfold fPut
        rw [e]
        cases r with
        | nil => rfl
        | cons b t =>
          have := h0.1 b List.mem_cons_self
          rw [he] at this
          show (if bytesBefore f.n b.n then _ else _) = _
          rw [if_pos this]
          rfl
      · have hq : (a.n == f.n) = false := by simpa using he
        rw [hq]
        have hs : bytesBefore f.n a.n = true := (WideAt.bytes_total a.n f.n he).resolve_left hb
        unfold fPut
        rw [fDel_none (none_of_after h hs)]
        show (if bytesBefore f.n a.n then _ else _) = _
        rw [if_pos hs]
        rfl
theorem isAt_get {s : List UInt8} {l : List Fi} (h : isAt s l = true) : ∃ f, l[pos s l]? = some f ∧ f.n = s := by
  unfold isAt at h
  split at h
  · rename_i f hf; exact ⟨f, hf, by simpa using h⟩
  · cases h
end Go.Proofs.Ytnokibjhkdaamaa
