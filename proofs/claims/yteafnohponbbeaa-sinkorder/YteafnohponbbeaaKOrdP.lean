/-
  SinkOrder, plainly: parts whose records are staged twice over.
-/
import Derived.Test.YteafnohponbbeaaKLaw
namespace Go.Proofs.Yteafnohponbbeaa
open Go.RowKit

/-- A part of SinkOrder: all its records L, each staged twice over under the next number; c of them are committed. -/
def prs : Nat → List Rc → List (Nat × List Rc)
  | _, [] => []
  | s, r :: L => (s + 1, [r, r]) :: prs (s + 1) L
def dbl (A : List Rc) : List Rc := A.flatMap fun r => [r, r]
def odS (L : List Rc) (c : Nat) : PS := ⟨prs 0 (L.take c), prs c (L.drop c), c⟩
theorem prs_len (s : Nat) (A : List Rc) : (prs s A).length = A.length := by
  induction A generalizing s with
  | nil => rfl
  | cons r A ih => show (prs (s + 1) A).length + 1 = _; rw [ih]; rfl
theorem prs_app (s : Nat) (A B : List Rc) : prs s (A ++ B) = prs s A ++ prs (s + A.length) B := by
  induction A generalizing s with
  | nil => rfl
  | cons r A ih =>
    show (s + 1, [r, r]) :: prs (s + 1) (A ++ B) = (s + 1, [r, r]) :: (prs (s + 1) A ++ _)
    rw [ih, List.length_cons, show s + 1 + A.length = s + (A.length + 1) from by omega]
theorem prs_ge (s : Nat) (A : List Rc) : ∀ x ∈ prs s A, s < x.1 ∧ x.1 ≤ s + A.length ∧ x.2.isEmpty = false := by
  induction A generalizing s with
  | nil => intro x hx; exact (List.not_mem_nil hx).elim
  | cons r A ih =>
    intro x hx
    rcases List.mem_cons.1 hx with rfl | hx
    · exact ⟨Nat.lt_succ_self _, by rw [List.length_cons]; show s + 1 ≤ _; omega, rfl⟩
    · obtain ⟨h1, h2, h3⟩ := ih (s + 1) x hx
      rw [List.length_cons]
      exact ⟨by omega, by omega, h3⟩
theorem prs_kept (s : Nat) (A : List Rc) : keptP (prs s A) = prs s A := by
  unfold keptP
  exact List.filter_eq_self.2 (fun x hx => by rw [(prs_ge s A x hx).2.2]; rfl)
theorem prs_flat (s : Nat) (A : List Rc) : ((prs s A).map Prod.snd).flatten = dbl A := by
  induction A generalizing s with
  | nil => rfl
  | cons r A ih =>
    show ([r, r] :: (prs (s + 1) A).map Prod.snd).flatten = _
    rw [List.flatten_cons, ih]; rfl
theorem dbl_len (A : List Rc) : (dbl A).length = 2 * A.length := by
  induction A with
  | nil => rfl
  | cons r A ih =>
    show ([r, r] ++ dbl A).length = _
    rw [List.length_append, ih]
    show 2 + 2 * A.length = 2 * (A.length + 1)
    omega
theorem dbl_app (A B : List Rc) : dbl (A ++ B) = dbl A ++ dbl B := by unfold dbl; rw [List.flatMap_append]
theorem prs_le {s : Nat} {A : List Rc} {n : Nat} (h : s + A.length ≤ n) : (prs s A).filter (fun x => decide (x.1 ≤ n)) = prs s A :=
  List.filter_eq_self.2 (fun x hx => by have := (prs_ge s A x hx).2.1; simp; omega)
theorem prs_gt {s : Nat} {A : List Rc} {n : Nat} (h : n ≤ s) : (prs s A).filter (fun x => decide (n < x.1)) = prs s A :=
  List.filter_eq_self.2 (fun x hx => by have := (prs_ge s A x hx).1; simp; omega)
theorem prs_le0 {s : Nat} {A : List Rc} {n : Nat} (h : n ≤ s) : (prs s A).filter (fun x => decide (x.1 ≤ n)) = [] :=
  List.filter_eq_nil_iff.2 (fun x hx => by have := (prs_ge s A x hx).1; simp; omega)
theorem prs_gt0 {s : Nat} {A : List Rc} {n : Nat} (h : s + A.length ≤ n) : (prs s A).filter (fun x => decide (n < x.1)) = [] :=
  List.filter_eq_nil_iff.2 (fun x hx => by have := (prs_ge s A x hx).2.1; simp; omega)
theorem prs_last (s : Nat) (A : List Rc) (r : Rc) : (prs s (A ++ [r])).getLast? = some (s + A.length + 1, [r, r]) := by
  rw [prs_app]
  show (prs s A ++ [(s + A.length + 1, [r, r])]).getLast? = _
  rw [List.getLast?_concat]
theorem snoc_of {A : List Rc} (h : A ≠ []) : ∃ B r, A = B ++ [r] := by
  rcases List.eq_nil_or_concat A with e | ⟨B, r, e⟩
  · exact absurd e h
  · exact ⟨B, r, by rw [e, List.concat_eq_append]⟩
theorem od_gr {L : List Rc} {c : Nat} (h : c ≤ L.length) : grS (odS L c) = L.length := by
  unfold grS odS
  show (match (prs c (L.drop c)).getLast? with | none => c | some x => x.1) = L.length
  by_cases he : L.drop c = []
  · rw [he]
    have := List.length_drop (i := c) (l := L)
    rw [he] at this
    show c = L.length
    have h2 : ([] : List Rc).length = 0 := rfl
    omega
  · obtain ⟨B, r, e⟩ := snoc_of he
    have h1 := congrArg List.length e
    rw [List.length_drop, List.length_append] at h1
    rw [e, prs_last]
    show c + B.length + 1 = L.length
    have h2 : [r].length = 1 := rfl
    omega
theorem od_stage {L : List Rc} {c : Nat} (h : c ≤ L.length) (r : Rc) : stageS (odS L c) (L.length + 1) [r, r] = odS (L ++ [r]) c := by
  unfold stageS odS
  rw [List.take_append_of_le_length h, List.drop_append_of_le_length h, prs_app, List.length_drop, show c + (L.length - c) = L.length from by omega]
  rfl
theorem od_split {L : List Rc} {c n : Nat} (h1 : c ≤ n) (h2 : n ≤ L.length) : L.drop c = (L.drop c).take (n - c) ++ L.drop n ∧ ((L.drop c).take (n - c)).length = n - c ∧ L.take n = L.take c ++ (L.drop c).take (n - c) := by
  refine ⟨?_, by rw [List.length_take, List.length_drop]; omega, ?_⟩
  · have := (List.take_append_drop (n - c) (L.drop c)).symm
    rw [List.drop_drop, show c + (n - c) = n from by omega] at this
    exact this
  · rw [show n = c + (n - c) from by omega, List.take_add, show c + (n - c) - c = n - c from by omega]
theorem od_due {L : List Rc} {c n : Nat} (h1 : c ≤ n) (h2 : n ≤ L.length) : dueS (odS L c) n = prs c ((L.drop c).take (n - c)) ∧ (odS L c).stg.filter (fun x => decide (n < x.1)) = prs n (L.drop n) := by
  obtain ⟨e1, e2, _⟩ := od_split h1 h2
  have e3 : prs c (L.drop c) = prs c ((L.drop c).take (n - c)) ++ prs n (L.drop n) := by
    have := prs_app c ((L.drop c).take (n - c)) (L.drop n)
    rw [← e1, e2, show c + (n - c) = n from by omega] at this
    exact this
  unfold dueS odS
  show (prs c (L.drop c)).filter _ = _ ∧ (prs c (L.drop c)).filter _ = _
  rw [e3, List.filter_append, List.filter_append, prs_le (by rw [e2]; omega), prs_le0 (Nat.le_refl _), prs_gt0 (by rw [e2]; omega), prs_gt (Nat.le_refl _), List.append_nil, List.nil_append]
  exact ⟨rfl, rfl⟩
theorem od_has {L : List Rc} {c n : Nat} (h1 : c < n) (h2 : n ≤ L.length) : hasN (odS L c) n = true := by
  obtain ⟨e1, e2, _⟩ := od_split (Nat.le_of_lt h1) h2
  have h3 := (od_due (Nat.le_of_lt h1) h2).1
  unfold dueS at h3
  unfold hasN
  rw [h3]
  obtain ⟨B, r, e⟩ := snoc_of (A := (L.drop c).take (n - c)) (fun e => by rw [e] at e2; have : ([] : List Rc).length = 0 := rfl; omega)
  have h4 := congrArg List.length e
  rw [e2, List.length_append] at h4
  rw [e, prs_last]
  show (c + B.length + 1 == n) = true
  have h5 : [r].length = 1 := rfl
  have : c + B.length + 1 = n := by omega
  simp [this]
theorem od_commit {L : List Rc} {c n : Nat} (h1 : c ≤ n) (h2 : n ≤ L.length) : commitS (odS L c) n = odS L n ∧ (outS (odS L c) n).flatten = dbl ((L.drop c).take (n - c)) := by
  obtain ⟨e1, e2, e3⟩ := od_split h1 h2
  obtain ⟨d1, d2⟩ := od_due h1 h2
  unfold commitS outS
  rw [d1, d2, prs_kept, prs_flat]
  refine ⟨?_, rfl⟩
  show PS.mk (prs 0 (L.take c) ++ prs c ((L.drop c).take (n - c))) _ _ = _
  unfold odS
  rw [e3, prs_app, List.length_take, Nat.zero_add, Nat.min_eq_left (by omega)]
theorem od_upto {L : List Rc} {c : Nat} (h : c ≤ L.length) : (uptoS (odS L c) L.length).length = 2 * L.length ∧ (uptoS (odS L c) c).length = 2 * c ∧ (odS L c).stg.length = L.length - c := by
  have hd : (L.drop c).length = L.length - c := List.length_drop
  have ht : (L.take c).length = c := by rw [List.length_take]; omega
  refine ⟨?_, ?_, by show (prs c (L.drop c)).length = _; rw [prs_len, hd]⟩
  · unfold uptoS odS
    show (((prs 0 (L.take c)).filter _ ++ (prs c (L.drop c)).filter _).map Prod.snd).flatten.length = _
    rw [prs_le (by rw [ht]; omega), prs_le (by rw [hd]; omega), List.map_append, List.flatten_append, prs_flat, prs_flat, List.length_append, dbl_len, dbl_len, ht, hd]
    omega
  · unfold uptoS odS
    show (((prs 0 (L.take c)).filter _ ++ (prs c (L.drop c)).filter _).map Prod.snd).flatten.length = _
    rw [prs_le (by rw [ht]; omega), prs_le0 (Nat.le_refl _), List.append_nil, prs_flat, dbl_len, ht]
/-- The log of SinkOrder by its parts: of part p the records S p, of which C p are committed. -/
def odF (S : Int → List Rc) (C : Int → Nat) : Int → PS := fun p => odS (S p) (C p)
def updR (S : Int → List Rc) (p : Int) (l : List Rc) : Int → List Rc := fun i => if i = p then l else S i
def updN (C : Int → Nat) (p : Int) (n : Nat) : Int → Nat := fun i => if i = p then n else C i
theorem odF_start : odF (fun _ => []) (fun _ => 0) = F0 := rfl
theorem odF_stage {S : Int → List Rc} {C : Int → Nat} {p : Int} (h : C p ≤ (S p).length) (r : Rc) : stE (odF S C) p ((S p).length + 1) = 0 ∧ stF (odF S C) p ((S p).length + 1) [r, r] = odF (updR S p (S p ++ [r])) C := by
  have hg : ¬ (S p).length + 1 ≤ grS (odF S C p) := by
    show ¬ _ ≤ grS (odS (S p) (C p))
    rw [od_gr h]; omega
  refine ⟨by unfold stE; rw [if_neg hg], ?_⟩
  unfold stF
  rw [if_neg hg]
  funext i
  unfold upd odF updR
  by_cases hi : i = p
  · subst hi
    rw [if_pos rfl, if_pos rfl]
    exact od_stage h r
  · rw [if_neg hi, if_neg hi]
theorem odF_commit {S : Int → List Rc} {C : Int → Nat} {p : Int} {n : Nat} (h : C p ≤ n) (h2 : n ≤ (S p).length) : cmE (odF S C) p n = 0 ∧ cmF (odF S C) p n = odF S (updN C p n) ∧ (cmO (odF S C) p n).flatten = dbl (((S p).drop (C p)).take (n - C p)) := by
  by_cases hc : n ≤ C p
  · have e : n = C p := by omega
    have hl : n ≤ (odF S C p).last := hc
    refine ⟨by unfold cmE; rw [if_pos hl], ?_, by unfold cmO; rw [if_pos hl, e, Nat.sub_self, List.take_zero]; rfl⟩
    unfold cmF
    rw [if_pos hl]
    funext i
    unfold odF updN
    by_cases hi : i = p
    · subst hi; rw [if_pos rfl, e]
    · rw [if_neg hi]
  · have hl : ¬ n ≤ (odF S C p).last := hc
    have hh : hasN (odF S C p) n = true := od_has (Nat.lt_of_not_le hc) h2
    refine ⟨by unfold cmE; rw [if_neg hl, if_pos hh], ?_, by unfold cmO; rw [if_neg hl, if_pos hh]; exact (od_commit h h2).2⟩
    unfold cmF
    rw [if_neg hl, if_pos hh]
    funext i
    unfold upd odF updN
    by_cases hi : i = p
    · subst hi
      rw [if_pos rfl, if_pos rfl]
      exact (od_commit h h2).1
    · rw [if_neg hi, if_neg hi]

end Go.Proofs.Yteafnohponbbeaa
