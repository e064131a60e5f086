/-
  weigh.
-/
import Derived.Test.YtfiafbfbiidnlaaJWgt
import Derived.Test.YtfiafbfbiidnlaaJOrder
namespace Go.Proofs.Ytfiafbfbiidnlaa
open Go.RowKit

def ckE (ns : List Nd) (n : Nd) : Int := ckN (ns.map Nd.kind) n (chk n.e)
/-- The first fault of a node. -/
def fault (ns : List Nd) : List Nd → Int
  | [] => 0
  | n :: r => if ckE ns n = 0 then fault ns r else ckE ns n
/-- What there is ahead of any weight. -/
def errW (ns : List Nd) : Int :=
  if ns.length < 1 ∨ 12 < ns.length then 80 else if fault ns ns ≠ 0 then fault ns ns else if (ordC (ns.map Nd.ins)).length < ns.length then 83 else 0
def nd0 : Nd := ⟨0, none, 0, [], 0, ⟨0, 0, none, 0, []⟩, 0, 0, 0, 0⟩
def wtsL (ns : List Nd) (l : List Nat) (ws : List Nat) : List Nat := l.foldl (fun ws i => ws.set i (wt1 (ns.getD i nd0) ws)) ws
def wts (ns : List Nd) : List Nat := wtsL ns (ordC (ns.map Nd.ins)) (List.replicate ns.length 0)
theorem fault_at {ns l : List Nd} {t : Nat} {n : Nd} (h : l[t]? = some n) : fault ns (l.drop t) = if ckE ns n = 0 then fault ns (l.drop (t + 1)) else ckE ns n := by
  have hl := lt_of_get h
  rw [List.drop_eq_getElem_cons hl]
  rw [List.getElem?_eq_getElem hl] at h
  cases h
  rfl
theorem fault_zero {ns : List Nd} : ∀ {l : List Nd}, fault ns l = 0 → ∀ n ∈ l, ckE ns n = 0
  | [], _, n, hn => by cases hn
  | m :: r, h, n, hn => by
    rw [fault] at h
    by_cases hm : ckE ns m = 0
    · rw [if_pos hm] at h
      rcases List.mem_cons.1 hn with rfl | hn
      · exact hm
      · exact fault_zero h n hn
    · rw [if_neg hm] at h
      exact absurd h hm
structure Fine (ns : List Nd) (n : Nd) : Prop where
  len : n.ins.length ≤ 4
  ins : ∀ x ∈ n.ins, 0 ≤ x ∧ x < (ns.length : Int)
  win : n.kind = 7 → n.wk = 2 → 1 ≤ n.ws ∧ n.ws ≤ 68719476736 ∧ 1 ≤ n.wl ∧ n.wl ≤ 68719476736
theorem ck_fine {ns : List Nd} {n : Nd} (h : ckE ns n = 0) : Fine ns n := by
  unfold ckE ckN at h
  by_cases h1 : n.kind < 1 ∨ 8 < n.kind
  · rw [if_pos h1] at h; cases h
  rw [if_neg h1] at h
  by_cases h2 : inB (ns.map Nd.kind) n.kind n.ins = false
  · rw [if_pos h2] at h; cases h
  rw [if_neg h2] at h
  by_cases h3 : n.par < 1 ∨ 4 < n.par
  · rw [if_pos h3] at h; cases h
  rw [if_neg h3] at h
  by_cases h4 : exB n.kind n.e.op n.e.n n.e.l.length (chk n.e) = false
  · rw [if_pos h4] at h; cases h
  rw [if_neg h4] at h
  by_cases h5 : aggB n.kind n.agg = false
  · rw [if_pos h5] at h; cases h
  rw [if_neg h5] at h
  by_cases h6 : winB n.kind n.wk n.ws n.wl = false
  · rw [if_pos h6] at h; cases h
  have i2 : inB (ns.map Nd.kind) n.kind n.ins = true := by simpa using h2
  unfold inB at i2
  rw [Bool.and_eq_true, List.all_eq_true] at i2
  refine ⟨?_, fun x hx => ?_, fun k7 k2 => ?_⟩
  · have := i2.1
    unfold cntOk at this
    by_cases a1 : n.kind = 1
    · rw [if_pos a1] at this; have := of_decide_eq_true this; omega
    · rw [if_neg a1] at this
      by_cases a5 : n.kind = 5
      · rw [if_pos a5] at this; have := of_decide_eq_true this; omega
      · rw [if_neg a5] at this; have := of_decide_eq_true this; omega
  · have := i2.2 x hx
    unfold okIn at this
    rw [Bool.and_eq_true, List.length_map] at this
    exact of_decide_eq_true this.1
  · have i6 : winB n.kind n.wk n.ws n.wl = true := by simpa using h6
    unfold winB at i6
    rw [if_pos k7, if_pos k2, Bool.and_eq_true] at i6
    unfold spanB at i6
    have a := of_decide_eq_true i6.1
    have b := of_decide_eq_true i6.2
    exact ⟨a.1, a.2, b.1, b.2⟩
theorem wt1_le (n : Nd) (ws : List Nat) : wt1 n ws ≤ 65 := by
  unfold wt1
  split <;> omega
theorem set_le {ws : List Nat} {i y : Nat} (h : ∀ x ∈ ws, x ≤ 65) (hy : y ≤ 65) : ∀ x ∈ ws.set i y, x ≤ 65 := by
  intro x hx
  rcases List.mem_or_eq_of_mem_set hx with hx | rfl
  · exact h x hx
  · exact hy
theorem ordP_lt {inss : List (List Int)} (f : Nat) : ∀ {pl : List Bool} {s : LS}, Inv inss pl s.1 s.2.1 s.2.2 [] → ∀ x ∈ ordP inss f pl s, x < inss.length := by
  induction f with
  | zero => intro pl s _ x hx; cases hx
  | succ f ih =>
    intro pl s h x hx
    by_cases hr : s.2.2 = []
    · rw [ordP_nil hr] at hx; cases hx
    · have hp : popL s.2.2 ≠ [] := by
        intro e
        have := popL_len s.2.2
        rw [e] at this
        exact hr (List.length_eq_zero_iff.1 this.symm)
      have hpl : popL s.2.2 = (popL s.2.2).dropLast ++ [(popL s.2.2).getLast hp] := (List.dropLast_concat_getLast hp).symm
      obtain ⟨r, i, hri⟩ : ∃ r i, popL s.2.2 = r ++ [i] := ⟨_, _, hpl⟩
      rw [ordP_cons hr hri] at hx
      have hperm : s.2.2.Perm (r ++ [i]) := by rw [← hri]; exact (popL_perm hr).symm
      have hpi := (h.rr i (hperm.mem_iff.2 (by simp))).1
      have hil : i < inss.length := by rw [← h.l1]; exact lt_of_get hpi
      obtain ⟨b, hb⟩ := get_of_lt (l := s.2.1) (i := i) (by rw [h.l3]; exact hil)
      rcases List.mem_cons.1 hx with rfl | hx
      · exact hil
      · have h2 := Inv.looks (s := (s.1, s.2.1, r)) (rest := []) b (by rw [List.append_nil]; exact h.take hperm hb)
        rw [getD_of hb] at hx
        exact ih h2 x hx
theorem Inv.begun (inss : List (List Int)) : Inv inss (List.replicate inss.length false) (start inss).1 (start inss).2.1 (start inss).2.2 [] := by
  have := Inv.looks (inss := inss) (pl := List.replicate inss.length false) (rest := []) (List.range inss.length) (s := (List.replicate inss.length 0, List.replicate inss.length [], [])) (by rw [List.append_nil]; exact Inv.init _)
  exact this
theorem ordC_lt (inss : List (List Int)) : ∀ x ∈ ordC inss, x < inss.length := ordP_lt _ (Inv.begun inss)
end Go.Proofs.Ytfiafbfbiidnlaa
