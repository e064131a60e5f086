/-
  What the document's readers read of parts, manifests and seals, and what the program's read, is the same.
-/
import Derived.Test.YtaajjejgjnlbgaaDoorDMath
import Derived.Test.YtaajjejgjnlbgaaDoorDSnap
namespace Go.Proofs.YtaajjejgjnlbgaaDoor
open Go.RowKit

theorem byts_num (k : Nat) (s : List Nat × Bool) (hs : Byts s.1) : Byts (num k s).2.1 := by
  by_cases hk : k ≤ s.1.length
  · rw [num_yes hk]; exact hs.drop k
  · rw [num_no hk]; exact hs
theorem sub_int : Sub rIntD (fun s => (i64of (num 8 s).1, (num 8 s).2)) := by
  intro s h
  obtain ⟨g, e⟩ := sub_num 8 s h
  exact ⟨g, by unfold rIntD; simp only [e]⟩
theorem sub_int' : Sub (fun s => (i64of (num 8 s).1, (num 8 s).2)) rIntD := by
  intro s h
  obtain ⟨g, e⟩ := sub_num' 8 s (show (numD 8 s).2.2 = false from h)
  exact ⟨g, by unfold rIntD; simp only [e]⟩
theorem sub_pane : Sub rPaneD rPane := by
  intro s h
  obtain ⟨g3, e4⟩ := sub_num 8 _ (show (num 8 (num 8 (num 8 (num 8 s).2).2).2).2.2 = false from h)
  obtain ⟨g2, e3⟩ := sub_num 8 _ g3
  obtain ⟨g1, e2⟩ := sub_num 8 _ g2
  obtain ⟨g0, e1⟩ := sub_num 8 _ g1
  exact ⟨g0, by unfold rPaneD rPane; simp only [e1, e2, e3, e4]⟩
theorem sub_pane' : Sub rPane rPaneD := by
  intro s h
  obtain ⟨g3, e4⟩ := sub_num' 8 _ (show (numD 8 (numD 8 (numD 8 (numD 8 s).2).2).2).2.2 = false from h)
  obtain ⟨g2, e3⟩ := sub_num' 8 _ g3
  obtain ⟨g1, e2⟩ := sub_num' 8 _ g2
  obtain ⟨g0, e1⟩ := sub_num' 8 _ g1
  exact ⟨g0, by unfold rPaneD rPane; simp only [e1, e2, e3, e4]⟩
theorem sub_out : Sub rOutD rOut := by
  intro s h
  obtain ⟨g1, e2⟩ := sub_frame _ (show (rFrame (num 2 s).2).2.2 = false from h)
  obtain ⟨g0, e1⟩ := sub_num 2 _ g1
  exact ⟨g0, by unfold rOutD rOut; simp only [e1, e2]⟩
theorem sub_out' : Sub rOut rOutD := by
  intro s h
  obtain ⟨g1, e2⟩ := sub_frame' _ (show (rFrameD (numD 2 s).2).2.2 = false from h)
  obtain ⟨g0, e1⟩ := sub_num' 2 _ g1
  exact ⟨g0, by unfold rOutD rOut; simp only [e1, e2]⟩
theorem sub_rL {α : Type} {f g : (List Nat × Bool) → α × (List Nat × Bool)} (hs : Sub f g) (n : Nat) : Sub (rL f n) (rL g n) := by
  induction n with
  | zero => intro s h; exact ⟨h, rfl⟩
  | succ n ih =>
    intro s h
    unfold rL at h
    by_cases hb : s.2 = true
    · simp only [if_pos hb] at h
      rw [hb] at h; cases h
    · simp only [if_neg hb] at h
      obtain ⟨g1, e2⟩ := ih _ h
      obtain ⟨g0, e1⟩ := hs _ g1
      refine ⟨g0, ?_⟩
      unfold rL
      simp only [if_neg hb, e1, e2]
theorem rList_good {α : Type} {rd : (List Nat × Bool) → α × (List Nat × Bool)} {most : Nat} {s : List Nat × Bool} (h : (rList rd most s).2.2 = false) : (num 2 s).1 ≤ most ∧ rList rd most s = rL rd (num 2 s).1 (num 2 s).2 := by
  unfold rList at h ⊢
  by_cases hm : most < (num 2 s).1
  · simp only [if_pos hm] at h; cases h
  · rw [if_neg hm]; exact ⟨by omega, rfl⟩
/-- Where the program's reader ends well, the document's does the same. -/
theorem snap_a (l : List Nat) (h : (rSnap (l, false)).2.2 = false) : (rSnapD l).s = (rSnap (l, false)).1 ∧ (rSnapD l).st = (rSnap (l, false)).2 ∧ (rSnapD l).np ≤ 4096 ∧ (rSnapD l).nc ≤ 4096 := by
  unfold rSnap at h ⊢
  unfold rSnapD
  dsimp only at h ⊢
  obtain ⟨b5, r5⟩ := rList_good h
  rw [r5] at h ⊢
  obtain ⟨g5, e5⟩ := sub_rL sub_out _ _ h
  obtain ⟨g5', f5⟩ := sub_num 2 _ g5
  obtain ⟨b4, r4⟩ := rList_good g5'
  rw [r4] at g5' b5 e5 f5 ⊢
  obtain ⟨g4, e4⟩ := sub_rL sub_pane _ _ g5'
  obtain ⟨g4', f4⟩ := sub_num 2 _ g4
  obtain ⟨b3, r3⟩ := rList_good g4'
  rw [r3] at g4' b4 e4 f4 b5 e5 f5 ⊢
  obtain ⟨g3, e3⟩ := sub_rL sub_int _ _ g4'
  obtain ⟨g3', f3⟩ := sub_num 2 _ g3
  obtain ⟨g2, f2⟩ := sub_num 8 _ g3'
  obtain ⟨g1, f1⟩ := sub_num 2 _ g2
  obtain ⟨_, f0⟩ := sub_num 2 _ g1
  rw [f0, f1, f2, f3, e3, f4, e4, f5, e5]
  exact ⟨rfl, rfl, b4, b5⟩
theorem snap_b (l : List Nat) (hb : Byts l) (h : (rSnapD l).st.2 = false) (hp : (rSnapD l).np ≤ 4096) (hc : (rSnapD l).nc ≤ 4096) : rSnap (l, false) = ((rSnapD l).s, (rSnapD l).st) := by
  unfold rSnapD at h hp hc ⊢
  unfold rSnap
  dsimp only at h hp hc ⊢
  obtain ⟨g5, e5⟩ := sub_rL sub_out' _ _ h
  obtain ⟨g5', f5⟩ := sub_num' 2 _ g5
  obtain ⟨g4, e4⟩ := sub_rL sub_pane' _ _ g5'
  obtain ⟨g4', f4⟩ := sub_num' 2 _ g4
  obtain ⟨g3, e3⟩ := sub_rL sub_int' _ _ g4'
  obtain ⟨g3', f3⟩ := sub_num' 2 _ g3
  obtain ⟨g2, f2⟩ := sub_num' 8 _ g3'
  obtain ⟨g1, f1⟩ := sub_num' 2 _ g2
  obtain ⟨_, f0⟩ := sub_num' 2 _ g1
  rw [← f0] at f1 f2 f3 e3 f4 e4 f5 e5 hp hc ⊢
  rw [← f1] at f2 f3 e3 f4 e4 f5 e5 hp hc ⊢
  rw [← f2] at f3 e3 f4 e4 f5 e5 hp hc ⊢
  rw [← f3] at e3 f4 e4 f5 e5 hp hc ⊢
  have hn : (num 2 (num 8 (num 2 (num 2 (l, false)).2).2).2).1 < 256 ^ 2 := num_lt (byts_num _ _ (byts_num _ _ (byts_num _ _ hb)))
  have r3 : rList (fun s => (i64of (num 8 s).1, (num 8 s).2)) 65535 (num 8 (num 2 (num 2 (l, false)).2).2).2 = rL (fun s => (i64of (num 8 s).1, (num 8 s).2)) (num 2 (num 8 (num 2 (num 2 (l, false)).2).2).2).1 (num 2 (num 8 (num 2 (num 2 (l, false)).2).2).2).2 := by
    unfold rList; rw [if_neg (by omega)]
  rw [← e3] at f4 e4 f5 e5 hp hc ⊢
  rw [r3]
  rw [← f4] at e4 f5 e5 hp hc ⊢
  rw [← e4] at f5 e5 hc ⊢
  rw [← f5] at e5 hc ⊢
  rw [← e5]
  have r4 : ∀ s, (num 2 s).1 ≤ 4096 → rList rPane 4096 s = rL rPane (num 2 s).1 (num 2 s).2 := fun s hs => by unfold rList; rw [if_neg (by omega)]
  have r5 : ∀ s, (num 2 s).1 ≤ 4096 → rList rOut 4096 s = rL rOut (num 2 s).1 (num 2 s).2 := fun s hs => by unfold rList; rw [if_neg (by omega)]
  rw [r4 _ hp, r5 _ hc]
theorem snap_same (l : List Nat) (hb : Byts l) : dSn (rSnapD l) = oSn (rSnap (l, false)) ∧ dEr (rSnapD l) = oEr (rSnap (l, false)) := by
  by_cases h : (rSnap (l, false)).2.2 = false
  · obtain ⟨h1, h2, h3, h4⟩ := snap_a l h
    have : (rSnapD l).ok = done (rSnap (l, false)).2 := by unfold SnD.ok; rw [h2, decide_eq_true h3, decide_eq_true h4, Bool.and_true, Bool.and_true]
    unfold dSn dEr oSn oEr
    rw [this, h1]
    exact ⟨rfl, rfl⟩
  · have h1 : done (rSnap (l, false)).2 = false := by
      unfold done
      rw [show (rSnap (l, false)).2.2 = true by simpa using h]; rfl
    have h2 : (rSnapD l).ok = false := by
      rcases Bool.eq_false_or_eq_true (rSnapD l).ok with hk | hk
      · exfalso
        unfold SnD.ok at hk
        simp only [Bool.and_eq_true, decide_eq_true_eq] at hk
        have hd := done_eq hk.1
        have := snap_b l hb (by rw [hd]) hk.2.1 hk.2.2
        rw [this, hd] at h
        exact h rfl
      · exact hk
    unfold dSn dEr oSn oEr
    rw [h1, h2]
    exact ⟨rfl, rfl⟩
theorem open_same (l : List Nat) : rOpenD l = rOpen l := by
  unfold rOpenD rOpen
  by_cases h : (numD 4 (numD 4 (l, false)).2).2.2 = false ∨ (num 4 (num 4 (l, false)).2).2.2 = false
  · have key : numD 4 (l, false) = num 4 (l, false) ∧ numD 4 (num 4 (l, false)).2 = num 4 (num 4 (l, false)).2 := by
      rcases h with h | h
      · obtain ⟨g1, e2⟩ := sub_num' 4 _ h
        obtain ⟨_, e1⟩ := sub_num' 4 _ g1
        rw [← e1] at e2
        exact ⟨e1.symm, e2.symm⟩
      · obtain ⟨g1, e2⟩ := sub_num 4 _ h
        obtain ⟨_, e1⟩ := sub_num 4 _ g1
        exact ⟨e1, e2⟩
    rw [key.1, key.2]
  · rw [if_neg (fun x => h (.inl x.2.1)), if_neg (fun x => h (.inr x.2.1))]
theorem names_a (n : Nat) : ∀ s, (rListS n s).2.2 = false → s.2 = false ∧ rNamesD n s = some (rListS n s) := by
  induction n with
  | zero => intro s h; exact ⟨h, rfl⟩
  | succ n ih =>
    intro s h
    unfold rListS at h ⊢
    by_cases hb : s.2 = true
    · simp only [if_pos hb] at h
      rw [hb] at h; cases h
    · simp only [if_neg hb] at h ⊢
      obtain ⟨g1, e2⟩ := ih _ h
      unfold rName at g1 e2 ⊢
      dsimp only at g1 e2 ⊢
      by_cases hm : 32 < (num 1 s).1
      · simp only [if_pos hm] at g1
        have := (mono_take _ _ [] g1).1
        cases this
      · simp only [if_neg hm] at g1 e2 ⊢
        have gt := (mono_take _ _ [] g1).1
        obtain ⟨g0, e1⟩ := sub_num 1 _ gt
        refine ⟨g0, ?_⟩
        have hk : (num 1 s).1 ≤ (num 1 s).2.1.length := by
          by_cases hk : (num 1 s).1 ≤ (num 1 s).2.1.length
          · exact hk
          · unfold takeS at g1; rw [if_neg hk] at g1; cases g1
        have ht : takeS (num 1 s).1 (num 1 s).2 = ((num 1 s).2.1.take (num 1 s).1, ((num 1 s).2.1.drop (num 1 s).1, false)) := by
          unfold takeS; rw [if_pos hk, gt]
        rw [ht] at e2 ⊢
        unfold rNamesD
        rw [if_neg hb, e1, if_neg (by rw [gt]; simp; omega), e2]
        rfl
theorem names_b (n : Nat) : ∀ s q, rNamesD n s = some q → q.2.2 = false → s.2 = false ∧ rListS n s = q := by
  induction n with
  | zero =>
    intro s q h hq
    unfold rNamesD at h
    obtain rfl := Option.some.inj h
    exact ⟨hq, rfl⟩
  | succ n ih =>
    intro s q h hq
    unfold rNamesD at h
    by_cases hb : s.2 = true
    · rw [if_pos hb] at h
      obtain rfl := Option.some.inj h
      rw [hb] at hq; cases hq
    · rw [if_neg hb] at h
      split at h
      · cases h
      · rename_i hc
        obtain ⟨q', h', rfl⟩ := Option.map_eq_some_iff.1 h
        obtain ⟨_, e2⟩ := ih _ _ h' hq
        have gt : (numD 1 s).2.2 = false := by
          rcases Bool.eq_false_or_eq_true (numD 1 s).2.2 with x | x
          · exact absurd (.inl x) hc
          · exact x
        obtain ⟨g0, e1⟩ := sub_num' 1 _ gt
        refine ⟨g0, ?_⟩
        rw [← e1] at e2 gt hc ⊢
        have hk : (num 1 s).1 ≤ (num 1 s).2.1.length := by
          by_cases x : (num 1 s).2.1.length < (num 1 s).1
          · exact absurd (.inr (.inl x)) hc
          · omega
        have h32 : ¬ 32 < (num 1 s).1 := fun x => hc (.inr (.inr x))
        have ht : takeS (num 1 s).1 (num 1 s).2 = ((num 1 s).2.1.take (num 1 s).1, ((num 1 s).2.1.drop (num 1 s).1, false)) := by
          unfold takeS; rw [if_pos hk, gt]
        unfold rListS
        rw [if_neg hb]
        unfold rName
        simp only [if_neg h32, ht, e2]
theorem man_same (l : List Nat) : rManD l = if done (rMan (l, false)).2 then some (rMan (l, false)).1 else none := by
  by_cases h : (rMan (l, false)).2.2 = false
  · unfold rMan at h ⊢
    unfold rManD
    dsimp only at h ⊢
    obtain ⟨g3, e3⟩ := names_a _ _ h
    obtain ⟨g2, f2⟩ := sub_num 2 _ g3
    obtain ⟨g1, f1⟩ := sub_num 8 _ g2
    obtain ⟨_, f0⟩ := sub_num 8 _ g1
    rw [f0, f1, f2, e3]
  · have hd : done (rMan (l, false)).2 = false := by
      unfold done
      rw [show (rMan (l, false)).2.2 = true by simpa using h]; rfl
    rw [hd]
    simp only [Bool.false_eq_true, if_false]
    unfold rManD
    generalize hx : rNamesD (numD 2 (numD 8 (numD 8 (l, false)).2).2).1 (numD 2 (numD 8 (numD 8 (l, false)).2).2).2 = x
    rcases x with _ | q
    · rfl
    · dsimp only
      rcases Bool.eq_false_or_eq_true (done q.2) with hq | hq
      · exfalso
        have hq2 := done_eq hq
        obtain ⟨g3, e3⟩ := names_b _ _ _ hx (by rw [hq2])
        obtain ⟨g2, f2⟩ := sub_num' 2 _ g3
        obtain ⟨g1, f1⟩ := sub_num' 8 _ g2
        obtain ⟨_, f0⟩ := sub_num' 8 _ g1
        rw [← f0] at f1 f2 e3
        rw [← f1] at f2 e3
        rw [← f2] at e3
        apply h
        unfold rMan
        dsimp only
        rw [e3, hq2]
      · rw [hq]; rfl
end Go.Proofs.YtaajjejgjnlbgaaDoor
