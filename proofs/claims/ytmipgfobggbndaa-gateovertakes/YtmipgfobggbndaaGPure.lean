/-
  What Take does to the marks, plainly.
-/
import Derived.Test.YtmipgfobggbndaaGTake
namespace Go.Proofs.Ytmipgfobggbndaa
open Go.RowKit

theorem foldl_min_le (l : List Int) : ∀ (a : Int), l.foldl min a ≤ a ∧ ∀ x ∈ l, l.foldl min a ≤ x := by
  induction l with
  | nil => intro a; simp
  | cons y l ih =>
    intro a
    obtain ⟨h1, h2⟩ := ih (min a y)
    refine ⟨by rw [List.foldl_cons]; omega, fun x hx => ?_⟩
    rw [List.foldl_cons]
    rcases List.mem_cons.1 hx with rfl | hx
    · omega
    · exact h2 x hx
theorem foldl_min_mem (l : List Int) : ∀ (a : Int), l.foldl min a = a ∨ l.foldl min a ∈ l := by
  induction l with
  | nil => intro a; simp
  | cons y l ih =>
    intro a
    rw [List.foldl_cons]
    rcases ih (min a y) with h | h
    · rw [h]
      by_cases hy : a ≤ y
      · left; omega
      · right; rw [show min a y = y by omega]; simp
    · right; exact List.mem_cons_of_mem _ h
theorem least_le {l : List Int} {x : Int} (h : x ∈ l) : least l ≤ x := by
  cases l with
  | nil => cases h
  | cons y l =>
    obtain ⟨h1, h2⟩ := foldl_min_le l y
    rcases List.mem_cons.1 h with rfl | h
    · exact h1
    · exact h2 x h
theorem least_mem {l : List Int} (h : l ≠ []) : least l ∈ l := by
  cases l with
  | nil => exact absurd rfl h
  | cons y l =>
    rcases foldl_min_mem l y with h | h
    · rw [show least (y :: l) = y from h]; simp
    · exact List.mem_cons_of_mem _ h
theorem least_set {l : List Int} {c : Nat} {v y : Int} (hc : l[c]? = some y) (hv : y ≤ v) : least l ≤ least (l.set c v) := by
  have hne : l.set c v ≠ [] := by
    intro e
    have := congrArg List.length e
    simp at this
    subst this
    simp at hc
  have hm := least_mem hne
  rcases List.mem_or_eq_of_mem_set hm with h | h
  · exact least_le h
  · rw [h]
    have : y ∈ l := List.mem_of_getElem? hc
    have := least_le this
    omega
theorem Gs.bg_M (s : Gs) (n : Int) (o : Bool) : (s.bg n o).M = s.M := by unfold Gs.bg; split <;> rfl
theorem Gs.arr_M (s : Gs) : s.arr.M = s.M := by unfold Gs.arr; split <;> rfl
theorem Gs.bar_M (s : Gs) (c : Nat) (n : Int) (o : Bool) : (s.bar c n o).M = s.M := by
  unfold Gs.bar
  split
  · exact Gs.bg_M _ _ _
  · rw [Gs.arr_M]; exact Gs.bg_M _ _ _
theorem Gs.bg_cp (s : Gs) (n : Int) (o : Bool) : (s.bg n o).cp.length ≤ s.cp.length := by
  unfold Gs.bg; split
  · simp [Gs.beg]
  · exact Nat.le_refl _
theorem Gs.arr_cp (s : Gs) : s.arr.cp = s.cp := by unfold Gs.arr; split <;> rfl
theorem Gs.bar_cp (s : Gs) (c : Nat) (n : Int) (o : Bool) : (s.bar c n o).cp.length ≤ s.cp.length := by
  unfold Gs.bar
  split
  · exact Gs.bg_cp _ _ _
  · rw [Gs.arr_cp]; exact Gs.bg_cp _ _ _
theorem Gs.capt_cp (s : Gs) (c : Nat) (f : Fr) : (s.capt c f).cp.length ≤ s.cp.length + 1 := by
  unfold Gs.capt; split
  · simp
  · omega
theorem Gs.rise_cp (s : Gs) (c : Nat) (m : Int) : (s.rise c m).cp = s.cp := by unfold Gs.rise; split <;> rfl
theorem Gs.rise_len (s : Gs) (c : Nat) (m : Int) : (s.rise c m).M.length = s.M.length := by unfold Gs.rise; split <;> simp
theorem Gs.tk_cp (s : Gs) (ch : Int) (f : Fr) : (s.tk ch f).cp.length ≤ s.cp.length + 1 := by
  unfold Gs.tk
  split
  · split
    · exact Gs.capt_cp _ _ _
    · split
      · rw [Gs.rise_cp]; exact Gs.capt_cp _ _ _
      · split
        · have := Gs.bar_cp s ch.toNat f.n f.ov; omega
        · omega
  · omega
theorem Gs.tk_len (s : Gs) (ch : Int) (f : Fr) : (s.tk ch f).M.length = s.M.length := by
  unfold Gs.tk
  split
  · split
    · rw [Gs.capt_M]
    · split
      · rw [Gs.rise_len, Gs.capt_M]
      · split
        · rw [Gs.bar_M]
        · rfl
  · rfl
/-- The marks behind a frame that is taken. -/
def mkM (M : List Int) (c : Nat) (f : Fr) : List Int := if f.kd = 2 then M.set c (max (M.getD c 0) f.ma) else M
theorem Gs.rise_M (s : Gs) (c : Nat) (hc : c < s.M.length) (m : Int) : (s.rise c m).M = s.M.set c (max (s.M.getD c 0) m) := by
  unfold Gs.rise
  split
  · rename_i h
    rw [show max (s.M.getD c 0) m = s.M.getD c 0 by omega, List.getD_eq_getElem?_getD, List.getElem?_eq_getElem hc, Option.getD_some, List.set_getElem_self]
  · rename_i h
    rw [show max (s.M.getD c 0) m = m by omega]
theorem Gs.tk_M {s : Gs} {c : Nat} (hok : s.ok (c : Int) = true) (hc : c < s.M.length) (f : Fr) : (s.tk (c : Int) f).M = mkM s.M c f := by
  unfold Gs.tk mkM
  rw [if_pos hok, Int.toNat_natCast]
  by_cases h1 : f.kd = 1
  · rw [if_pos h1, if_neg (by omega), Gs.capt_M]
  · rw [if_neg h1]
    by_cases h2 : f.kd = 2
    · rw [if_pos h2, if_pos h2, Gs.rise_M _ _ (by rw [Gs.capt_M]; exact hc), Gs.capt_M]
    · rw [if_neg h2, if_neg h2]
      split
      · exact Gs.bar_M _ _ _ _
      · rfl
theorem least_mkM {M : List Int} {c : Nat} (hc : c < M.length) (f : Fr) : least M ≤ least (mkM M c f) := by
  unfold mkM
  split
  · obtain ⟨y, hy⟩ := get_of_lt hc
    refine least_set hy ?_
    rw [List.getD_eq_getElem?_getD, hy, Option.getD_some]
    omega
  · exact Int.le_refl _
theorem Gs.arrS_kd (s : Gs) : s.arrS.kd = 0 ∨ s.arrS.kd = 3 := by
  unfold Gs.arrS
  cases s.keeps
  · left; rfl
  · right; rfl
theorem Gs.barS_kd (s : Gs) (c : Nat) (n : Int) (o : Bool) : (s.barS c n o).kd = 0 ∨ (s.barS c n o).kd = 3 := by
  unfold Gs.barS
  split
  · left; rfl
  · exact Gs.arrS_kd _
/-- A step tells a mark just where the least one rises. -/
theorem Gs.tkS_mark {s : Gs} {c : Nat} (hok : s.ok (c : Int) = true) (hc : c < s.M.length) (f : Fr) : ((s.tkS (c : Int) f).kd = 2 ∧ (s.tkS (c : Int) f).ma = least (mkM s.M c f) ∧ least s.M < least (mkM s.M c f)) ∨ ((s.tkS (c : Int) f).kd ≠ 2 ∧ least (mkM s.M c f) = least s.M) := by
  have hr := Gs.tk_M hok hc f
  unfold Gs.tkS
  rw [if_pos hok, Int.toNat_natCast]
  by_cases h1 : f.kd = 1
  · right
    rw [if_pos h1]
    exact ⟨by simp, by unfold mkM; rw [if_neg (by omega)]⟩
  · rw [if_neg h1]
    by_cases h2 : f.kd = 2
    · rw [if_pos h2]
      unfold Gs.tk at hr
      rw [if_pos hok, Int.toNat_natCast, if_neg h1, if_pos h2] at hr
      unfold Gs.riseS
      rw [hr, Gs.capt_M]
      by_cases h3 : least s.M < least (mkM s.M c f)
      · rw [if_pos h3]
        exact .inl ⟨rfl, rfl, h3⟩
      · rw [if_neg h3]
        have := least_mkM hc f
        exact .inr ⟨by simp [Sn.none], by omega⟩
    · rw [if_neg h2]
      right
      refine ⟨?_, by unfold mkM; rw [if_neg h2]⟩
      split
      · rcases Gs.barS_kd s c f.n f.ov with h | h <;> rw [h] <;> decide
      · simp [Sn.none]
theorem Gs.ok_of {s : Gs} {c : Nat} (hc : c < s.M.length) (hb : s.bl (c : Int) = false) : s.ok (c : Int) = true := by
  unfold Gs.ok
  rw [Gs.has_of hc, hb]; rfl
theorem Gs.tkE_ok {s : Gs} {c : Nat} (hok : s.ok (c : Int) = true) : s.tkE (c : Int) = 0 := by unfold Gs.tkE; rw [if_pos hok]
end Go.Proofs.Ytmipgfobggbndaa
