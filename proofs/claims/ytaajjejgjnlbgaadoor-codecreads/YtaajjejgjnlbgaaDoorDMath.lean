/-
  What the document's readers read, and what the program's read, is the same, or both refuse.
-/
import Derived.Test.YtaajjejgjnlbgaaDoorDOpenM
import Derived.Test.YtaajjejgjnlbgaaDoorDOpenF
import Derived.Test.YtaajjejgjnlbgaaDoorMathCuts
namespace Go.Proofs.YtaajjejgjnlbgaaDoor
open Go.RowKit

/-- Where g ends well it began well, and f does the same. -/
def Sub {α : Type} (f g : (List Nat × Bool) → α × (List Nat × Bool)) : Prop := ∀ s, (g s).2.2 = false → s.2 = false ∧ f s = g s
theorem numD_eq {k : Nat} {l : List Nat} : numD k (l, false) = num k (l, false) := by
  unfold numD num
  by_cases h : k ≤ l.length
  · rw [if_pos ⟨rfl, h⟩, if_pos h]
  · rw [if_neg (fun x => h x.2), if_neg h]
theorem sub_num (k : Nat) : Sub (numD k) (num k) := by
  intro s h
  have g := (mono_num k s [] h).1
  obtain ⟨l, b⟩ := s
  dsimp only at g
  subst g
  exact ⟨rfl, numD_eq⟩
theorem sub_num' (k : Nat) : Sub (num k) (numD k) := by
  intro s h
  obtain ⟨l, b⟩ := s
  cases b
  · exact ⟨rfl, numD_eq.symm⟩
  · unfold numD at h
    rw [if_neg (fun x => by cases x.1)] at h
    cases h
theorem sub_flag : Sub rFlagD rFlag := by
  intro s h
  unfold rFlag at h ⊢
  unfold rFlagD
  by_cases h1 : 1 < (num 1 s).1
  · simp only [if_pos h1] at h; cases h
  · simp only [if_neg h1] at h ⊢
    obtain ⟨g, e⟩ := sub_num 1 s h
    refine ⟨g, ?_⟩
    rw [e, decide_eq_false h1, Bool.or_false]
theorem sub_flag' : Sub rFlag rFlagD := by
  intro s h
  unfold rFlagD at h ⊢
  unfold rFlag
  simp only [Bool.or_eq_false_iff, decide_eq_false_iff_not] at h
  obtain ⟨g, e⟩ := sub_num' 1 s h.1
  refine ⟨g, ?_⟩
  rw [e, if_neg h.2, decide_eq_false h.2, Bool.or_false]
theorem sub_frame : Sub rFrameD rFrame := by
  intro s h
  unfold rFrame at h ⊢
  unfold rFrameD
  by_cases h1 : (num 1 s).1 = 1
  · simp only [if_pos h1] at h ⊢
    obtain ⟨g3, e4⟩ := sub_num 8 _ h
    obtain ⟨g2, e3⟩ := sub_num 8 _ g3
    obtain ⟨g1, e2⟩ := sub_num 8 _ g2
    obtain ⟨g0, e1⟩ := sub_num 1 _ g1
    exact ⟨g0, by simp only [e1, e2, e3, e4, if_pos h1]⟩
  by_cases h2 : (num 1 s).1 = 2
  · simp only [if_neg h1, if_pos h2] at h ⊢
    obtain ⟨g1, e2⟩ := sub_num 8 _ h
    obtain ⟨g0, e1⟩ := sub_num 1 _ g1
    exact ⟨g0, by simp only [e1, e2, if_neg h1, if_pos h2]⟩
  by_cases h3 : (num 1 s).1 = 3
  · simp only [if_neg h1, if_neg h2, if_pos h3] at h ⊢
    obtain ⟨g2, e3⟩ := sub_flag _ h
    obtain ⟨g1, e2⟩ := sub_num 8 _ g2
    obtain ⟨g0, e1⟩ := sub_num 1 _ g1
    exact ⟨g0, by simp only [e1, e2, e3, if_neg h1, if_neg h2, if_pos h3]⟩
  · simp only [if_neg h1, if_neg h2, if_neg h3] at h
    cases h
theorem sub_frame' : Sub rFrame rFrameD := by
  intro s h
  unfold rFrameD at h ⊢
  unfold rFrame
  by_cases h1 : (numD 1 s).1 = 1
  · simp only [if_pos h1] at h ⊢
    obtain ⟨g3, e4⟩ := sub_num' 8 _ h
    obtain ⟨g2, e3⟩ := sub_num' 8 _ g3
    obtain ⟨g1, e2⟩ := sub_num' 8 _ g2
    obtain ⟨g0, e1⟩ := sub_num' 1 _ g1
    exact ⟨g0, by simp only [e1, e2, e3, e4, if_pos h1]⟩
  by_cases h2 : (numD 1 s).1 = 2
  · simp only [if_neg h1, if_pos h2] at h ⊢
    obtain ⟨g1, e2⟩ := sub_num' 8 _ h
    obtain ⟨g0, e1⟩ := sub_num' 1 _ g1
    exact ⟨g0, by simp only [e1, e2, if_neg h1, if_pos h2]⟩
  by_cases h3 : (numD 1 s).1 = 3
  · simp only [if_neg h1, if_neg h2, if_pos h3] at h ⊢
    obtain ⟨g2, e3⟩ := sub_flag' _ h
    obtain ⟨g1, e2⟩ := sub_num' 8 _ g2
    obtain ⟨g0, e1⟩ := sub_num' 1 _ g1
    exact ⟨g0, by simp only [e1, e2, e3, if_neg h1, if_neg h2, if_pos h3]⟩
  · simp only [if_neg h1, if_neg h2, if_neg h3] at h
    cases h
/-- Two readers that do the same where either ends well: the same is done, or neither. -/
theorem both {α : Type} {f g : (List Nat × Bool) → α × (List Nat × Bool)} (hs : Sub f g) (hs' : Sub g f) (s : List Nat × Bool) : f s = g s ∨ done (f s).2 = false ∧ done (g s).2 = false := by
  rcases Bool.eq_false_or_eq_true (g s).2.2 with h | h
  · rcases Bool.eq_false_or_eq_true (f s).2.2 with h' | h'
    · right
      unfold done
      rw [h, h']
      exact ⟨rfl, rfl⟩
    · exact .inl (hs' s h').2.symm
  · exact .inl (hs s h).2
theorem frame_same (l : List Nat) : (if done (rFrameD (l, false)).2 then #[(rFrameD (l, false)).1.val, Value.int .i64 0] else #[Frm.zero.val, Value.int .i64 10]) = (if done (rFrame (l, false)).2 then #[(rFrame (l, false)).1.val, Value.int .i64 0] else #[Frm.zero.val, Value.int .i64 10]) := by
  rcases both sub_frame sub_frame' (l, false) with h | ⟨h1, h2⟩
  · rw [h]
  · simp only [h1, h2, Bool.false_eq_true, if_false]
theorem control_same (l : List Nat) (hb : Byts l) : (if (done (rControlD (l, false)).2 && cfits (rControlD (l, false)).1.kd (rControlD (l, false)).1.tk) = true then #[(rControlD (l, false)).1.val, Value.int .i64 0] else #[Ctl.zero.val, Value.int .i64 10]) = (if done (rControl (l, false)).2 then #[(rControl (l, false)).1.val, Value.int .i64 0] else #[Ctl.zero.val, Value.int .i64 10]) := by
  -- the four numbers
  have key : (numD 2 (numD 8 (numD 8 (numD 1 (l, false)).2).2).2).2.2 = false ∨ (num 2 (num 8 (num 8 (num 1 (l, false)).2).2).2).2.2 = false → numD 1 (l, false) = num 1 (l, false) ∧ numD 8 (num 1 (l, false)).2 = num 8 (num 1 (l, false)).2 ∧ numD 8 (num 8 (num 1 (l, false)).2).2 = num 8 (num 8 (num 1 (l, false)).2).2 ∧ numD 2 (num 8 (num 8 (num 1 (l, false)).2).2).2 = num 2 (num 8 (num 8 (num 1 (l, false)).2).2).2 := by
    rintro (h | h)
    · obtain ⟨g3, e4⟩ := sub_num' 2 _ h
      obtain ⟨g2, e3⟩ := sub_num' 8 _ g3
      obtain ⟨g1, e2⟩ := sub_num' 8 _ g2
      obtain ⟨g0, e1⟩ := sub_num' 1 _ g1
      rw [← e1] at e2 e3 e4
      rw [← e2] at e3 e4
      rw [← e3] at e4
      exact ⟨e1.symm, e2.symm, e3.symm, e4.symm⟩
    · obtain ⟨g3, e4⟩ := sub_num 2 _ h
      obtain ⟨g2, e3⟩ := sub_num 8 _ g3
      obtain ⟨g1, e2⟩ := sub_num 8 _ g2
      obtain ⟨g0, e1⟩ := sub_num 1 _ g1
      exact ⟨e1, e2, e3, e4⟩
  have byts_num : ∀ k s, Byts s.1 → Byts (num k s).2.1 := by
    intro k s hs
    by_cases hk : k ≤ s.1.length
    · rw [num_yes hk]; exact hs.drop k
    · rw [num_no hk]; exact hs
  have htk : (num 2 (num 8 (num 8 (num 1 (l, false)).2).2).2).1 < 256 ^ 2 := num_lt (byts_num _ _ (byts_num _ _ (byts_num _ _ hb)))
  unfold rControlD rControl
  by_cases h : (numD 2 (numD 8 (numD 8 (numD 1 (l, false)).2).2).2).2.2 = false ∨ (num 2 (num 8 (num 8 (num 1 (l, false)).2).2).2).2.2 = false
  · obtain ⟨e1, e2, e3, e4⟩ := key h
    simp only [e1, e2, e3, e4]
    generalize (num 2 (num 8 (num 8 (num 1 (l, false)).2).2).2) = p4 at *
    by_cases hk : 1 ≤ (num 1 (l, false)).1 ∧ (num 1 (l, false)).1 ≤ 6
    · rw [if_pos hk]
      have : cfits ((num 1 (l, false)).1 : Int) (p4.1 : Int) = true := by unfold cfits; simp; omega
      rw [this, Bool.and_true]
    · rw [if_neg hk]
      have : cfits ((num 1 (l, false)).1 : Int) (p4.1 : Int) = false := by unfold cfits; simp; omega
      rw [this, Bool.and_false]
      simp [done]
  · have h1 : (numD 2 (numD 8 (numD 8 (numD 1 (l, false)).2).2).2).2.2 = true := by
      rcases Bool.eq_false_or_eq_true (numD 2 (numD 8 (numD 8 (numD 1 (l, false)).2).2).2).2.2 with x | x
      · exact x
      · exact absurd (.inl x) h
    have h2 : (num 2 (num 8 (num 8 (num 1 (l, false)).2).2).2).2.2 = true := by
      rcases Bool.eq_false_or_eq_true (num 2 (num 8 (num 8 (num 1 (l, false)).2).2).2).2.2 with x | x
      · exact x
      · exact absurd (.inr x) h
    have d1 : done (numD 2 (numD 8 (numD 8 (numD 1 (l, false)).2).2).2).2 = false := by unfold done; rw [h1]; rfl
    have d2 : done (if 1 ≤ (num 1 (l, false)).1 ∧ (num 1 (l, false)).1 ≤ 6 then (num 2 (num 8 (num 8 (num 1 (l, false)).2).2).2).2 else ((num 2 (num 8 (num 8 (num 1 (l, false)).2).2).2).2.1, true)) = false := by
      split
      · unfold done; rw [h2]; rfl
      · rfl
    rw [d1, d2, Bool.false_and]
    simp only [Bool.false_eq_true, if_false]
end Go.Proofs.YtaajjejgjnlbgaaDoor
