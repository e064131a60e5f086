/-
  Readers that end well do the same where more bytes stand behind: so what is cut off is refused.
-/
import Derived.Test.YtaajjejgjnlbgaaDoorMathSnap
import Derived.Test.YtaajjejgjnlbgaaDoorLawMan
namespace Go.Proofs.YtaajjejgjnlbgaaDoor
open Go.RowKit

def ext (m : List Nat) (s : List Nat × Bool) : List Nat × Bool := (s.1 ++ m, s.2)
/-- What ends well began well, and does the same where m stands behind. -/
def Mono {α : Type} (f : (List Nat × Bool) → α × (List Nat × Bool)) : Prop := ∀ s m, (f s).2.2 = false → s.2 = false ∧ f (ext m s) = ((f s).1, ext m (f s).2)
theorem mono_num (k : Nat) : Mono (num k) := by
  intro s m h
  by_cases hk : k ≤ s.1.length
  · rw [num_yes hk] at h ⊢
    refine ⟨h, ?_⟩
    have hk' : k ≤ (ext m s).1.length := by simp only [ext, List.length_append]; omega
    rw [num_yes hk']
    simp only [ext, List.take_append_of_le_length hk, List.drop_append_of_le_length hk]
  · rw [num_no hk] at h
    cases h
theorem mono_take (k : Nat) : Mono (takeS k) := by
  intro s m h
  unfold takeS at h ⊢
  by_cases hk : k ≤ s.1.length
  · have hk' : k ≤ (ext m s).1.length := by simp only [ext, List.length_append]; omega
    rw [if_pos hk] at h ⊢
    rw [if_pos hk']
    refine ⟨h, ?_⟩
    simp only [ext, List.take_append_of_le_length hk, List.drop_append_of_le_length hk]
  · rw [if_neg hk] at h
    cases h
theorem mono_int : Mono (fun s => (i64of (num 8 s).1, (num 8 s).2)) := by
  intro s m h
  obtain ⟨g, e⟩ := mono_num 8 s m h
  exact ⟨g, by simp only [e]⟩
theorem mono_flag : Mono rFlag := by
  intro s m h
  unfold rFlag at h ⊢
  by_cases h1 : 1 < (num 1 s).1
  · simp only [if_pos h1] at h; cases h
  · simp only [if_neg h1] at h ⊢
    obtain ⟨g, e⟩ := mono_num 1 s m h
    exact ⟨g, by simp only [e, if_neg h1]⟩
theorem mono_pane : Mono rPane := by
  intro s m h
  obtain ⟨g3, e4⟩ := mono_num 8 _ m (show (num 8 (num 8 (num 8 (num 8 s).2).2).2).2.2 = false from h)
  obtain ⟨g2, e3⟩ := mono_num 8 _ m g3
  obtain ⟨g1, e2⟩ := mono_num 8 _ m g2
  obtain ⟨g0, e1⟩ := mono_num 8 _ m g1
  exact ⟨g0, by unfold rPane; simp only [e1, e2, e3, e4]⟩
theorem mono_frame : Mono rFrame := by
  intro s m h
  unfold rFrame at h ⊢
  by_cases h1 : (num 1 s).1 = 1
  · simp only [if_pos h1] at h ⊢
    obtain ⟨g3, e4⟩ := mono_num 8 _ m h
    obtain ⟨g2, e3⟩ := mono_num 8 _ m g3
    obtain ⟨g1, e2⟩ := mono_num 8 _ m g2
    obtain ⟨g0, e1⟩ := mono_num 1 _ m g1
    exact ⟨g0, by simp only [e1, e2, e3, e4, if_pos h1]⟩
  by_cases h2 : (num 1 s).1 = 2
  · simp only [if_neg h1, if_pos h2] at h ⊢
    obtain ⟨g1, e2⟩ := mono_num 8 _ m h
    obtain ⟨g0, e1⟩ := mono_num 1 _ m g1
    exact ⟨g0, by simp only [e1, e2, if_neg h1, if_pos h2]⟩
  by_cases h3 : (num 1 s).1 = 3
  · simp only [if_neg h1, if_neg h2, if_pos h3] at h ⊢
    obtain ⟨g2, e3⟩ := mono_flag _ m h
    obtain ⟨g1, e2⟩ := mono_num 8 _ m g2
    obtain ⟨g0, e1⟩ := mono_num 1 _ m g1
    exact ⟨g0, by simp only [e1, e2, e3, if_neg h1, if_neg h2, if_pos h3]⟩
  · simp only [if_neg h1, if_neg h2, if_neg h3] at h
    cases h
theorem mono_out : Mono rOut := by
  intro s m h
  obtain ⟨g1, e2⟩ := mono_frame _ m (show (rFrame (num 2 s).2).2.2 = false from h)
  obtain ⟨g0, e1⟩ := mono_num 2 _ m g1
  exact ⟨g0, by unfold rOut; simp only [e1, e2]⟩
theorem mono_rL {α : Type} {rd : (List Nat × Bool) → α × (List Nat × Bool)} (hrd : Mono rd) (n : Nat) : Mono (rL rd n) := by
  induction n with
  | zero => intro s m h; exact ⟨h, rfl⟩
  | succ n ih =>
    intro s m h
    unfold rL at h
    by_cases hb : s.2 = true
    · simp only [if_pos hb] at h
      rw [hb] at h; cases h
    · simp only [if_neg hb] at h
      obtain ⟨g1, e2⟩ := ih _ m h
      obtain ⟨g0, e1⟩ := hrd _ m g1
      refine ⟨g0, ?_⟩
      have hb' : ¬ (ext m s).2 = true := hb
      conv => lhs; unfold rL
      conv => rhs; unfold rL
      simp only [if_neg hb, if_neg hb', e1, e2]
theorem mono_rList {α : Type} {rd : (List Nat × Bool) → α × (List Nat × Bool)} (hrd : Mono rd) (most : Nat) : Mono (rList rd most) := by
  intro s m h
  unfold rList at h ⊢
  by_cases hm : most < (num 2 s).1
  · simp only [if_pos hm] at h; cases h
  · simp only [if_neg hm] at h ⊢
    obtain ⟨g1, e2⟩ := mono_rL hrd _ _ m h
    obtain ⟨g0, e1⟩ := mono_num 2 _ m g1
    exact ⟨g0, by simp only [e1, e2, if_neg hm]⟩
theorem mono_snap : Mono rSnap := by
  intro s m h
  unfold rSnap at h ⊢
  simp only at h ⊢
  obtain ⟨g5, e6⟩ := mono_rList mono_out 4096 _ m h
  obtain ⟨g4, e5⟩ := mono_rList mono_pane 4096 _ m g5
  obtain ⟨g3, e4⟩ := mono_rList mono_int 65535 _ m g4
  obtain ⟨g2, e3⟩ := mono_num 8 _ m g3
  obtain ⟨g1, e2⟩ := mono_num 2 _ m g2
  obtain ⟨g0, e1⟩ := mono_num 2 _ m g1
  exact ⟨g0, by simp only [e1, e2, e3, e4, e5, e6]⟩
theorem mono_name : Mono rName := by
  intro s m h
  unfold rName at h ⊢
  by_cases hm : 32 < (num 1 s).1
  · simp only [if_pos hm] at h
    have := (mono_take _ _ [] h).1
    cases this
  · simp only [if_neg hm] at h ⊢
    obtain ⟨g1, e2⟩ := mono_take _ _ m h
    obtain ⟨g0, e1⟩ := mono_num 1 _ m g1
    exact ⟨g0, by simp only [e1, e2, if_neg hm]⟩
theorem mono_rListS (n : Nat) : Mono (rListS n) := by
  induction n with
  | zero => intro s m h; exact ⟨h, rfl⟩
  | succ n ih =>
    intro s m h
    unfold rListS at h
    by_cases hb : s.2 = true
    · simp only [if_pos hb] at h
      rw [hb] at h; cases h
    · simp only [if_neg hb] at h
      obtain ⟨g1, e2⟩ := ih _ m h
      obtain ⟨g0, e1⟩ := mono_name _ m g1
      refine ⟨g0, ?_⟩
      have hb' : ¬ (ext m s).2 = true := hb
      conv => lhs; unfold rListS
      conv => rhs; unfold rListS
      simp only [if_neg hb, if_neg hb', e1, e2]
theorem mono_man : Mono rMan := by
  intro s m h
  unfold rMan at h ⊢
  simp only at h ⊢
  obtain ⟨g3, e4⟩ := mono_rListS _ _ m h
  obtain ⟨g2, e3⟩ := mono_num 2 _ m g3
  obtain ⟨g1, e2⟩ := mono_num 8 _ m g2
  obtain ⟨g0, e1⟩ := mono_num 8 _ m g1
  exact ⟨g0, by simp only [e1, e2, e3, e4]⟩
theorem done_eq {s : List Nat × Bool} (h : done s = true) : s = ([], false) := by
  obtain ⟨l, b⟩ := s
  cases b <;> rcases l with _ | ⟨x, l⟩ <;> simp [done] at h ⊢
/-- What is read whole of a is not read of a beginning of a. -/
theorem cut_no {α : Type} {f : (List Nat × Bool) → α × (List Nat × Bool)} (hf : Mono f) {a : List Nat} {x : α} (ha : f (a, false) = (x, ([], false))) {k : Nat} (hk : k < a.length) : done (f (a.take k, false)).2 = false := by
  rcases Bool.eq_false_or_eq_true (done (f (a.take k, false)).2) with h | h
  · exfalso
    have e := done_eq h
    obtain ⟨_, e2⟩ := hf (a.take k, false) (a.drop k) (by rw [e])
    rw [show ext (a.drop k) (a.take k, false) = (a, false) by simp [ext], ha, e] at e2
    have e3 : [] = a.drop k := by
      have := congrArg (fun p => p.2.1) e2
      simpa [ext] using this
    have := congrArg List.length e3
    simp at this
    omega
  · exact h
theorem more_no {x : Nat} {l : List Nat} {b : Bool} : done (x :: l, b) = false := by cases b <;> rfl
end Go.Proofs.YtaajjejgjnlbgaaDoor
