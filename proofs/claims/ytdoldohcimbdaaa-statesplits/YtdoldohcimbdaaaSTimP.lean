/-
  Firing timer by timer (pure).
-/
import Derived.Test.YtdoldohcimbdaaaSLawP
namespace Go.Proofs.Ytdoldohcimbdaaa
open Go.RowKit

theorem next_le' : ∀ (M : List Pn) (u : Int), M.foldl (fun a x => min a (lastP x)) u ≤ u ∧ ∀ x ∈ M, M.foldl (fun a x => min a (lastP x)) u ≤ lastP x
  | [], u => ⟨Int.le_refl _, fun x hx => by cases hx⟩
  | y :: M, u => by
    have h := next_le' M (min u (lastP y))
    rw [List.foldl_cons]
    refine ⟨by have := h.1; omega, fun x hx => ?_⟩
    rcases List.mem_cons.1 hx with rfl | hx
    · have := h.1; omega
    · exact h.2 x hx
theorem next_le {M : List Pn} {x : Pn} (h : x ∈ M) : nextP M ≤ lastP x := (next_le' M _).2 x h
theorem next_at : ∀ (M : List Pn) (u : Int), M.foldl (fun a x => min a (lastP x)) u = u ∨ ∃ x ∈ M, lastP x = M.foldl (fun a x => min a (lastP x)) u
  | [], u => .inl rfl
  | y :: M, u => by
    rw [List.foldl_cons]
    rcases next_at M (min u (lastP y)) with h | ⟨x, hx, h⟩
    · rw [h]
      by_cases hc : u ≤ lastP y
      · exact .inl (by omega)
      · exact .inr ⟨y, List.mem_cons_self .., by omega⟩
    · exact .inr ⟨x, List.mem_cons_of_mem _ hx, h⟩
theorem last_max (x : Pn) : lastP x ≤ 9223372036854775807 := by unfold lastP wrap64; omega
theorem next_mem {M : List Pn} (h : M ≠ []) : ∃ x ∈ M, lastP x = nextP M := by
  rcases next_at M 9223372036854775807 with h1 | h1
  · obtain ⟨x, hx⟩ := List.exists_mem_of_ne_nil M h
    refine ⟨x, hx, ?_⟩
    have h2 := next_le hx
    have h3 := last_max x
    unfold nextP at *
    omega
  · exact h1
theorem ovr_last (mk : Int) (x : Pn) : ovr mk x = decide (lastP x ≤ mk) := rfl
/-- What is known behind so many timers: D was fired, Q is left. -/
structure TmI (k : Int) (M D Q : List Pn) (last : Int) (i : Nat) : Prop where
  perm : M.Perm (D ++ Q)
  due : ∀ x ∈ D, lastP x ≤ last
  later : ∀ x ∈ Q, last < lastP x
  cnt : i ≤ D.length
theorem tm_start {k : Int} {M : List Pn} (h : ∀ x ∈ M, Fn k x) : TmI k M [] M (-9223372036854775808) 0 :=
  ⟨.refl _, fun x hx => (by cases hx), fun x hx => by
    have := (h x hx).1
    unfold Bd at this
    unfold lastP wrap64
    omega, Nat.le_refl _⟩
theorem TmI.step {k : Int} {M D Q : List Pn} {last : Int} {i : Nat} (h : TmI k M D Q last i) (hne : Q ≠ []) : last < nextP Q ∧ TmI k M (D ++ Q.filter (ovr (nextP Q))) (leftF (nextP Q) Q) (nextP Q) (i + 1) ∧ 0 < (Q.filter (ovr (nextP Q))).length := by
  obtain ⟨x, hx, e⟩ := next_mem hne
  have hlt : last < nextP Q := by have := h.later x hx; omega
  have hpos : 0 < (Q.filter (ovr (nextP Q))).length := by
    refine List.length_pos_of_mem (a := x) (List.mem_filter.2 ⟨hx, ?_⟩)
    rw [ovr_last, decide_eq_true_eq]; omega
  refine ⟨hlt, ⟨?_, fun y hy => ?_, fun y hy => ?_, by rw [List.length_append]; have := h.cnt; omega⟩, hpos⟩
  · rw [List.append_assoc]
    exact h.perm.trans (List.Perm.append_left D (due_left _ _))
  · rcases List.mem_append.1 hy with hy | hy
    · have := h.due y hy; omega
    · have := (List.mem_filter.1 hy).2
      rw [ovr_last, decide_eq_true_eq] at this
      exact this
  · unfold leftF at hy
    have := (List.mem_filter.1 hy).2
    rw [ovr_last] at this
    simpa using this
def outT (Q : List Pn) : List Rc := outF (nextP Q) (srt (Q.filter (ovr (nextP Q))))
theorem outT_eq (Q : List Pn) : outT Q = (srt (Q.filter (ovr (nextP Q)))).map rcOf := by
  unfold outT outF
  rw [out_due (M := Q) (.refl _)]
theorem outT_len (Q : List Pn) : (outT Q).length = (Q.filter (ovr (nextP Q))).length := by rw [outT_eq, List.length_map, srt_len]
theorem outT_time {Q : List Pn} : ∀ r ∈ outT Q, r.t = nextP Q := by
  intro r hr
  rw [outT_eq] at hr
  obtain ⟨x, hx, rfl⟩ := List.mem_map.1 hr
  have h1 := List.mem_filter.1 ((srt_perm _).mem_iff.1 hx)
  have h2 := next_le h1.1
  have h3 := h1.2
  rw [ovr_last, decide_eq_true_eq] at h3
  show lastP x = nextP Q
  omega
/-- All at once. -/
theorem once_len {k : Int} {M N D : List Pn} {last : Int} {i : Nat} (h : TmI k M D [] last i) (hp : M.Perm N) : (outF last (srt (N.filter (ovr last)))).length = D.length ∧ leftF last N = [] := by
  have hD : M.Perm D := by simpa using h.perm
  have hall : ∀ x ∈ N, ovr last x = true := fun x hx => by
    rw [ovr_last, decide_eq_true_eq]
    exact h.due x (hD.mem_iff.1 (hp.mem_iff.2 hx))
  refine ⟨?_, ?_⟩
  · unfold outF
    rw [out_due (M := N) (.refl _), List.length_map, srt_len, List.filter_eq_self.2 hall]
    exact (hp.symm.trans hD).length_eq
  · unfold leftF
    rw [List.filter_eq_nil_iff]
    intro x hx
    rw [hall x hx]
    decide
end Go.Proofs.Ytdoldohcimbdaaa
