/-
  Unlike expressions have unlike texts: the plain side.
-/
import Derived.Test.YtjdefmjcnpgjiaaDoorETree
namespace Go.Proofs.YtjdefmjcnpgjiaaDoor
open Go.RowKit

/-- The same expression, wherever it lies. -/
def alk1 (op n : Int) (fs : List (Ex → Bool)) (b : Ex) : Bool :=
  decide (op = b.op) && decide (n = b.n) && decide (fs.length = b.l.length) && (fs.zip b.l).all fun p => p.1 p.2
def alk : Ex → Ex → Bool := Ex.fold alk1
theorem alk_mk (op n : Int) (a : Option Addr) (c : Nat) (l : List Ex) (b : Ex) :
    alk ⟨op, n, a, c, l⟩ b = (decide (op = b.op) && decide (n = b.n) && decide (l.length = b.l.length) && ((l.map alk).zip b.l).all fun p => p.1 p.2) := by
  unfold alk; rw [Ex.fold_mk]; unfold alk1; simp

/-! ### Digits -/
def isDg (c : UInt8) : Bool := decide (c = 45) || (decide (48 ≤ c) && decide (c ≤ 57))
theorem dg_byte (k : Nat) (h : k < 10) : isDg (UInt8.ofNat (48 + k)) = true := by
  have : k = 0 ∨ k = 1 ∨ k = 2 ∨ k = 3 ∨ k = 4 ∨ k = 5 ∨ k = 6 ∨ k = 7 ∨ k = 8 ∨ k = 9 := by omega
  rcases this with rfl | rfl | rfl | rfl | rfl | rfl | rfl | rfl | rfl | rfl <;> decide
theorem dg_back (k : Nat) (h : k < 10) : (UInt8.ofNat (48 + k)).toNat - 48 = k := by
  simp; omega
theorem dg_no (k : Nat) (h : k < 10) : UInt8.ofNat (48 + k) ≠ 45 := by
  have : k = 0 ∨ k = 1 ∨ k = 2 ∨ k = 3 ∨ k = 4 ∨ k = 5 ∨ k = 6 ∨ k = 7 ∨ k = 8 ∨ k = 9 := by omega
  rcases this with rfl | rfl | rfl | rfl | rfl | rfl | rfl | rfl | rfl | rfl <;> decide
/-- What digits tell. -/
def num (l : List UInt8) : Nat := l.foldl (fun v c => v * 10 + (c.toNat - 48)) 0
theorem dec_all : ∀ (k u : Nat), u < k → (∀ c ∈ Lib.decDigits u, isDg c = true ∧ c ≠ 45) ∧ num (Lib.decDigits u) = u ∧ Lib.decDigits u ≠ [] := by
  intro k
  induction k with
  | zero => intro u h; omega
  | succ k ih =>
    intro u h
    by_cases hu : u < 10
    · rw [Lib.decDigits, dif_pos hu]
      refine ⟨fun c hc => ?_, ?_, by simp⟩
      · simp only [List.mem_singleton] at hc
        subst hc
        exact ⟨dg_byte u hu, dg_no u hu⟩
      · have := dg_back u hu
        simp only [num, List.foldl_cons, List.foldl_nil, Nat.zero_mul, Nat.zero_add]
        exact this
    · rw [Lib.decDigits, dif_neg hu]
      obtain ⟨h1, h2, h3⟩ := ih (u / 10) (by omega)
      refine ⟨fun c hc => ?_, ?_, by simp⟩
      · rcases List.mem_append.1 hc with hc | hc
        · exact h1 c hc
        · simp only [List.mem_singleton] at hc
          subst hc
          exact ⟨dg_byte _ (by omega), dg_no _ (by omega)⟩
      · unfold num at h2 ⊢
        rw [List.foldl_append, h2]
        have := dg_back (u % 10) (by omega)
        simp only [List.foldl_cons, List.foldl_nil]
        omega
theorem dec_dg (u : Nat) : ∀ c ∈ Lib.decDigits u, isDg c = true ∧ c ≠ 45 := (dec_all (u + 1) u (by omega)).1
theorem dec_inj {u v : Nat} (h : Lib.decDigits u = Lib.decDigits v) : u = v := by
  have h1 := (dec_all (u + 1) u (by omega)).2.1
  have h2 := (dec_all (v + 1) v (by omega)).2.1
  rw [h] at h1
  omega
theorem itoa_dg (n : Int) : ∀ c ∈ Lib.itoa n, isDg c = true := by
  intro c hc
  unfold Lib.itoa at hc
  split at hc
  · rcases List.mem_cons.1 hc with rfl | hc
    · decide
    · exact (dec_dg _ c hc).1
  · exact (dec_dg _ c hc).1
theorem itoa_inj {m n : Int} (h : Lib.itoa m = Lib.itoa n) : m = n := by
  unfold Lib.itoa at h
  have ne : ∀ (u : Nat) (r : List UInt8), Lib.decDigits u ≠ 45 :: r := by
    intro u r e
    exact (dec_dg u 45 (by rw [e]; simp)).2 rfl
  split at h <;> split at h
  · have := dec_inj (List.cons.inj h).2
    omega
  · exact absurd h.symm (ne _ _)
  · exact absurd h (ne _ _)
  · have := dec_inj h
    omega
/-- What may stand behind a text. -/
def Stop (s : List UInt8) : Prop := s = [] ∨ ∃ c r, s = c :: r ∧ (c = 44 ∨ c = 41)
theorem Stop.not_dg {s : List UInt8} (h : Stop s) : ∀ c r, s = c :: r → isDg c = false := by
  intro c r e
  rcases h with rfl | ⟨c', r', rfl, hc⟩
  · cases e
  · obtain ⟨rfl, rfl⟩ := List.cons.inj e
    rcases hc with rfl | rfl <;> decide
theorem dg_part : ∀ (x y s t : List UInt8), (∀ c ∈ x, isDg c = true) → (∀ c ∈ y, isDg c = true) → Stop s → Stop t → x ++ s = y ++ t → x = y ∧ s = t
  | [], [], s, t, _, _, _, _, h => ⟨rfl, h⟩
  | [], c :: y, s, t, _, hy, hs, _, h => by
    have := hs.not_dg c (y ++ t) h
    rw [hy c (by simp)] at this
    cases this
  | c :: x, [], s, t, hx, _, _, ht, h => by
    have := ht.not_dg c (x ++ s) h.symm
    rw [hx c (by simp)] at this
    cases this
  | c :: x, d :: y, s, t, hx, hy, hs, ht, h => by
    obtain ⟨h1, h2⟩ := List.cons.inj h
    obtain ⟨h3, h4⟩ := dg_part x y s t (fun c hc => hx c (by simp [hc])) (fun c hc => hy c (by simp [hc])) hs ht h2
    exact ⟨by rw [h1, h3], h4⟩

/-! ### Operators by the first letters -/
def rdop : List UInt8 → Int
  | 99 :: _ => 1
  | 107 :: _ => 2
  | 116 :: _ => 3
  | 118 :: _ => 4
  | 97 :: 100 :: _ => 5
  | 115 :: _ => 6
  | 109 :: 117 :: _ => 7
  | 109 :: 105 :: _ => 8
  | 109 :: 97 :: _ => 9
  | 120 :: _ => 10
  | 97 :: 110 :: _ => 11
  | 108 :: _ => 12
  | 101 :: _ => 13
  | 105 :: _ => 14
  | _ => 0
theorem ops_of {op n : Int} {k : Nat} (h : snd1 op n k = true) : op = 1 ∨ op = 2 ∨ op = 3 ∨ op = 4 ∨ op = 5 ∨ op = 6 ∨ op = 7 ∨ op = 8 ∨ op = 9 ∨ op = 10 ∨ op = 11 ∨ op = 12 ∨ op = 13 ∨ op = 14 := by
  unfold snd1 at h
  simp only [Bool.and_eq_true, decide_eq_true_eq] at h
  have := h.1.1
  unfold ari at this
  split at this
  · omega
  · split at this
    · omega
    · split at this
      · omega
      · omega
theorem rdop_txt {op n : Int} {k : Nat} (h : snd1 op n k = true) (l : List (List UInt8)) (s : List UInt8) : rdop (txt1 op n l ++ s) = op := by
  rcases ops_of h with rfl | rfl | rfl | rfl | rfl | rfl | rfl | rfl | rfl | rfl | rfl | rfl | rfl | rfl <;> rfl
/-- Of an operator with operands: it has some, and its number is 0. -/
theorem snd1_parts {op n : Int} {k : Nat} (h : snd1 op n k = true) : (op = 1 ∧ k = 0) ∨ ((op = 2 ∨ op = 3 ∨ op = 4) ∧ n = 0 ∧ k = 0) ∨ (¬ (op = 1) ∧ ¬ (op = 2 ∨ op = 3 ∨ op = 4) ∧ n = 0 ∧ (op = 14 ∧ k = 3 ∨ op ≠ 14 ∧ k = 2)) := by
  have ho := ops_of h
  unfold snd1 at h
  simp only [Bool.and_eq_true, Bool.or_eq_true, decide_eq_true_eq] at h
  obtain ⟨⟨h1, h2⟩, h3⟩ := h
  rcases ho with rfl | rfl | rfl | rfl | rfl | rfl | rfl | rfl | rfl | rfl | rfl | rfl | rfl | rfl <;> simp [ari] at * <;> omega

theorem parts_inj : ∀ (l m : List Ex), (∀ x ∈ l, ∀ (b : Ex) (s t : List UInt8), formed x = true → formed b = true → Stop s → Stop t → txt x ++ s = txt b ++ t → alk x b = true ∧ s = t) →
    (∀ x ∈ l, formed x = true) → (∀ x ∈ m, formed x = true) → l.length = m.length → l ≠ [] → ∀ s t : List UInt8, Lib.join (l.map txt) [44, 32] ++ (41 :: s) = Lib.join (m.map txt) [44, 32] ++ (41 :: t) →
    (((l.map alk).zip m).all fun p => p.1 p.2) = true ∧ s = t
  | [], _, _, _, _, _, hn, _, _, _ => absurd rfl hn
  | x :: r, [], _, _, _, hlen, _, _, _, _ => by simp at hlen
  | [x], [y], ih, hx, hy, _, _, s, t, h => by
    simp only [List.map_cons, List.map_nil, Lib.join_one] at h
    obtain ⟨h1, h2⟩ := ih x (by simp) y (41 :: s) (41 :: t) (hx x (by simp)) (hy y (by simp)) (.inr ⟨41, s, rfl, .inr rfl⟩) (.inr ⟨41, t, rfl, .inr rfl⟩) h
    exact ⟨by simp [h1], (List.cons.inj h2).2⟩
  | [x], y :: z :: r, _, _, _, hlen, _, _, _, _ => by simp at hlen
  | x :: z :: r, [y], _, _, _, hlen, _, _, _, _ => by simp at hlen
  | x :: x' :: r, y :: y' :: q, ih, hx, hy, hlen, _, s, t, h => by
    have jc : ∀ (a b : List UInt8) (r : List (List UInt8)), Lib.join (a :: b :: r) [44, 32] = a ++ (44 :: 32 :: Lib.join (b :: r) [44, 32]) := by
      intro a b r
      rw [Lib.join_cons, Lib.join_cons]
      simp [Lib.joinTail]
    simp only [List.map_cons, jc, List.append_assoc, List.cons_append] at h
    obtain ⟨h1, h2⟩ := ih x (by simp) y _ _ (hx x (by simp)) (hy y (by simp)) (.inr ⟨44, _, rfl, .inl rfl⟩) (.inr ⟨44, _, rfl, .inl rfl⟩) h
    have h3 := (List.cons.inj (List.cons.inj h2).2).2
    obtain ⟨h4, h5⟩ := parts_inj (x' :: r) (y' :: q) (fun z hz => ih z (List.mem_cons_of_mem _ hz)) (fun z hz => hx z (List.mem_cons_of_mem _ hz)) (fun z hz => hy z (List.mem_cons_of_mem _ hz)) (by simp at hlen ⊢; omega) (by simp) s t h3
    refine ⟨?_, h5⟩
    simp only [List.map_cons, List.zip_cons_cons, List.all_cons, Bool.and_eq_true] at h4 ⊢
    exact ⟨h1, h4⟩
theorem txt_inj (a : Ex) : ∀ (b : Ex) (s t : List UInt8), formed a = true → formed b = true → Stop s → Stop t → txt a ++ s = txt b ++ t → alk a b = true ∧ s = t := by
  refine Ex.ind (P := fun a => ∀ (b : Ex) (s t : List UInt8), formed a = true → formed b = true → Stop s → Stop t → txt a ++ s = txt b ++ t → alk a b = true ∧ s = t) ?_ a
  intro op n ad c l ih b s t ha hb hs ht h
  obtain ⟨op', n', ad', c', m⟩ := b
  rw [formed_mk, Bool.and_eq_true, List.all_eq_true] at ha hb
  rw [txt_mk, txt_mk] at h
  have ho := congrArg rdop h
  rw [rdop_txt ha.1, rdop_txt hb.1] at ho
  subst ho
  rw [alk_mk]
  rcases snd1_parts ha.1 with ⟨h1, h2⟩ | ⟨h1, h2, h3⟩ | ⟨h1, h2, h3, h4⟩
  · subst h1
    have hl : l = [] := List.length_eq_zero_iff.1 h2
    subst hl
    rcases snd1_parts hb.1 with ⟨_, g2⟩ | ⟨g1, _, _⟩ | ⟨g1, _⟩
    · have hm : m = [] := List.length_eq_zero_iff.1 g2
      subst hm
      simp only [txt1, if_pos] at h
      obtain ⟨e1, e2⟩ := dg_part _ _ s t (itoa_dg n) (itoa_dg n') hs ht (List.cons.inj h).2
      exact ⟨by simp [itoa_inj e1], e2⟩
    · omega
    · exact absurd rfl g1
  · have hl : l = [] := List.length_eq_zero_iff.1 h3
    subst hl
    rcases snd1_parts hb.1 with ⟨g1, _⟩ | ⟨_, g2, g3⟩ | ⟨_, g1, _⟩
    · omega
    · have hm : m = [] := List.length_eq_zero_iff.1 g3
      subst hm
      have n1 : ¬ op = 1 := by omega
      simp only [txt1, if_neg n1, if_pos h1] at h
      exact ⟨by simp [h2, g2], List.append_cancel_left h⟩
    · exact absurd h1 g1
  · rcases snd1_parts hb.1 with ⟨g1, _⟩ | ⟨g1, _⟩ | ⟨_, _, g3, g4⟩
    · exact absurd g1 h1
    · exact absurd g1 h2
    · simp only [txt1, if_neg h1, if_neg h2, List.append_assoc, List.cons_append] at h
      have h5 := (List.cons.inj (List.append_cancel_left h)).2
      simp only [List.nil_append] at h5
      obtain ⟨e1, e2⟩ := parts_inj l m (fun x hx b s t => ih x hx b s t) ha.2 hb.2 (by omega) (by intro e; subst e; simp at h4) s t h5
      exact ⟨by simp only [e1, h3, g3, Bool.and_true]; simp; omega, e2⟩
/-- Expressions that are the same have the same text. -/
theorem alk_txt (a : Ex) : ∀ b : Ex, alk a b = true → txt a = txt b := by
  refine Ex.ind (P := fun a => ∀ b : Ex, alk a b = true → txt a = txt b) ?_ a
  intro op n ad c l ih b h
  obtain ⟨op', n', ad', c', m⟩ := b
  rw [alk_mk] at h
  simp only [Bool.and_eq_true, decide_eq_true_eq] at h
  obtain ⟨⟨⟨h1, h2⟩, h3⟩, h4⟩ := h
  subst h1 h2
  have : l.map txt = m.map txt := by
    clear ad c ad' c'
    induction l generalizing m with
    | nil =>
      have : m = [] := List.length_eq_zero_iff.1 h3.symm
      rw [this]
    | cons x r ihr =>
      cases m with
      | nil => simp at h3
      | cons y q =>
        simp only [List.map_cons, List.zip_cons_cons, List.all_cons, Bool.and_eq_true] at h4
        simp only [List.map_cons, List.cons.injEq]
        exact ⟨ih x (by simp) y h4.1, ihr (fun z hz => ih z (List.mem_cons_of_mem _ hz)) q h4.2 (by simpa using h3)⟩
  rw [txt_mk, txt_mk, this]
/-- Unlike expressions have unlike texts. -/
theorem txt_iff {a b : Ex} (ha : formed a = true) (hb : formed b = true) : decide (txt a = txt b) = alk a b := by
  cases h : alk a b
  · simp only [decide_eq_false_iff_not]
    intro e
    have := txt_inj a b [] [] ha hb (.inl rfl) (.inl rfl) (by rw [e])
    rw [h] at this
    cases this.1
  · simp only [decide_eq_true_eq]
    exact alk_txt a b h
end Go.Proofs.YtjdefmjcnpgjiaaDoor
