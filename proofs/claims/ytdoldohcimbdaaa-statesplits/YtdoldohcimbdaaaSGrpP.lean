/-
  A state beside the window's box; all groups' panes together (pure).
-/
import Derived.Test.YtdoldohcimbdaaaSLaw
import Derived.Test.YtdoldohcimbdaaaSRSort
namespace Go.Proofs.Ytdoldohcimbdaaa
open Go.RowKit

structure K1 (w W : World) (s : Nat) (k size slide a : Int) (fp : Nat → Prop) (M : List Pn) : Prop where
  sa : SA W s k size slide a fp M
  nw : ∀ i, fp i → w.heap.size + 1 ≤ i
  bl : Below w.heap.size w W
  bx : BoxT 23 W w.heap.size #[.int .i64 k, .int .i64 size, .int .i64 slide]
section
variable {w W W' : World} {s : Nat} {k size slide a : Int} {fp fp' : Nat → Prop} {M M' : List Pn}
theorem K1.turn (h : K1 w W s k size slide a fp M) (hs : SA W' s k size slide a fp' M') (hf : FT fp fp' W W') : K1 w W' s k size slide a fp' M' := by
  have h1 := h.bl.size
  have hlt := h.bx.lt
  refine ⟨hs, fun i hi => ?_, h.bl.trans (hf.below h1 (fun i hi => by have := h.nw i hi; omega)), ?_⟩
  · rcases hf.sub i hi with e | e
    · exact h.nw i e
    · omega
  · have := h.bx
    unfold BoxT at *
    rw [hf.block _ hlt (fun e => by have := h.nw _ e; omega)]
    exact this
theorem K1.grow (h : K1 w W s k size slide a fp M) (hb : Below W.heap.size W W') : K1 w W' s k size slide a fp M :=
  ⟨h.sa.below hb, h.nw, h.bl.trans (hb.mono h.bl.size), BoxT.below (t := 23) h.bx hb⟩
theorem K1.grown {r : Option Nat} (h : K1 w W s k size slide a fp M) (hg : W.grownBy W' r) (hn : ∀ g, r = some g → ¬ fp g) (hb : ∀ g, r = some g → w.heap.size + 1 ≤ g) : K1 w W' s k size slide a fp M :=
  ⟨h.sa.grown hg hn, h.nw, h.bl.grown hg h.bl.size (fun g e => by have := hb g e; omega), by
    have h1 := h.bx
    have hlt := h.bx.lt
    unfold BoxT at *
    rw [hg.block _ hlt (fun e => by have := hb _ e.symm; omega)]
    exact h1⟩
end
/-- The panes of a group. -/
def gl (M : List Pn) (g : Int) : List Pn := srt (M.filter fun x => decide ((grp x.k : Int) = g))
def allG (M : List Pn) : Nat → List Pn
  | 0 => []
  | j + 1 => allG M j ++ gl M (15 - (j : Int))
theorem allG_perm (M : List Pn) : ∀ j, j ≤ 16 → (allG M j).Perm (M.filter fun x => decide (16 - j ≤ grp x.k))
  | 0, _ => by
    rw [List.filter_eq_nil_iff.2 (fun x _ => by have := grp_lt x.k; simp; omega)]
    exact .refl _
  | j + 1, h => by
    have h1 := allG_perm M j (by omega)
    have h2 : (gl M (15 - (j : Int))).Perm (M.filter fun x => decide ((grp x.k : Int) = 15 - (j : Int))) := srt_perm _
    refine (h1.append h2).trans ?_
    have h3 := List.filter_append_perm (fun x : Pn => decide (16 - j ≤ grp x.k)) (M.filter fun x => decide (16 - (j + 1) ≤ grp x.k))
    rw [List.filter_filter, List.filter_filter] at h3
    have e1 : (M.filter fun x => decide (16 - j ≤ grp x.k) && decide (16 - (j + 1) ≤ grp x.k)) = M.filter fun x => decide (16 - j ≤ grp x.k) := by
      apply List.filter_congr
      intro x _
      by_cases hx : 16 - j ≤ grp x.k
      · simp [hx]; omega
      · simp [hx]
    have e2 : (M.filter fun x => (!decide (16 - j ≤ grp x.k)) && decide (16 - (j + 1) ≤ grp x.k)) = M.filter fun x => decide ((grp x.k : Int) = 15 - (j : Int)) := by
      apply List.filter_congr
      intro x _
      by_cases hx : (grp x.k : Int) = 15 - (j : Int)
      · rw [decide_eq_true hx, decide_eq_false (by omega), decide_eq_true (by omega)]; rfl
      · rw [decide_eq_false hx]
        by_cases hy : 16 - j ≤ grp x.k
        · rw [decide_eq_true hy]; rfl
        · rw [decide_eq_false (show ¬ 16 - (j + 1) ≤ grp x.k by omega)]; simp
    rw [e1, e2] at h3
    exact h3
theorem allG_all (M : List Pn) : (allG M 16).Perm M := by
  have h := allG_perm M 16 (Nat.le_refl _)
  rwa [List.filter_eq_self.2 (fun x _ => by simp)] at h
theorem allG_len (M : List Pn) {j : Nat} (h : j ≤ 16) : (allG M j).length ≤ M.length := by
  rw [(allG_perm M j h).length_eq]; exact List.length_filter_le ..
theorem gl_len (M : List Pn) (g : Int) : (gl M g).length ≤ M.length := by unfold gl; rw [srt_len]; exact List.length_filter_le ..
theorem gl_grp {M : List Pn} {g : Int} : ∀ x ∈ gl M g, (grp x.k : Int) = g := by
  intro x hx
  have h := (List.mem_filter.1 ((srt_perm _).mem_iff.1 hx)).2
  simpa using h
theorem gl_no (M : List Pn) {g : Int} (h : g < 0 ∨ 16 ≤ g) : gl M g = [] := by
  unfold gl
  rw [List.filter_eq_nil_iff.2 (fun x _ => by have := grp_lt x.k; simp; omega)]
  rfl
theorem gl_srt (M : List Pn) (g : Int) : srt (gl M g) = gl M g := srt_eq (srt_perm _)
theorem group_ok {W : World} {s : Nat} {k size slide a : Int} {fp : Nat → Prop} {M : List Pn} (h : SA W s k size slide a fp M) (g : Int) (hn : M.length ≤ 1000000) :
    Calls Try.prog 18 #[.pointer (some ⟨s, 0, none⟩), .int .i64 g] W fun e w' => ∃ u, e = .returned u ∧ Row 43 4 Pn.cs W.heap.size w' u (gl M g) ∧ Below W.heap.size W w' := SGroup_any h g hn
theorem group_no {W : World} {s : Nat} {k size slide a : Int} {fp : Nat → Prop} {M : List Pn} (h : SA W s k size slide a fp M) (g : Int) (hg : g < 0 ∨ 16 ≤ g) (hn : M.length ≤ 1000000) :
    Calls Try.prog 18 #[.pointer (some ⟨s, 0, none⟩), .int .i64 g] W fun e w' => ∃ ua uc, e = .returned (.slice ua 0 uc) ∧ Below W.heap.size W w' := by
  refine (group_ok h g hn).mono ?_
  rintro e w' ⟨u, rfl, h1, h2⟩
  rw [gl_no M hg] at h1
  obtain ⟨ua, uc, rfl⟩ := h1.shape
  exact ⟨ua, uc, rfl, h2⟩
theorem sess_lt {k size slide a : Int} (hw : FitS k size slide a) {rs : List Rc} (ht : ∀ r ∈ rs, TimeOk r.t) {M : List Pn} (h : Comes (sess k) (jn a) (allS k size slide a rs) M) : k = 3 → ∀ x ∈ M, x.f < x.t := by
  intro e x hx
  obtain ⟨_, _, ⟨h0, _⟩ | hw⟩ := hw
  · omega
  · exact (Reds.fn h.1 (all_fn hw ht) x hx).2 e
end Go.Proofs.Ytdoldohcimbdaaa
