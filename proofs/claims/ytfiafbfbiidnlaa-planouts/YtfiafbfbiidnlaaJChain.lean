/-
  Jobs in a row: their order. No program in it.
-/
import Derived.Test.YtfiafbfbiidnlaaJWeighW
namespace Go.Proofs.Ytfiafbfbiidnlaa
open Go.RowKit

/-- Each node's inputs are the one ahead of it, once or more. -/
def Chain (inss : List (List Int)) : Prop := ∀ (i : Nat) (is : List Int), inss[i]? = some is → (i = 0 → is = []) ∧ (0 < i → is ≠ [] ∧ ∀ x ∈ is, x = (i : Int) - 1)
def upTo (k n : Nat) : List Bool := (List.range n).map fun i => decide (i < k)
theorem upTo_get {k n i : Nat} (h : i < n) : (upTo k n)[i]? = some (decide (i < k)) := by
  unfold upTo
  rw [List.getElem?_map, List.getElem?_range h]; rfl
theorem upTo_len (k n : Nat) : (upTo k n).length = n := by simp [upTo]
theorem upTo_set {k n : Nat} (h : k < n) : (upTo k n).set k true = upTo (k + 1) n := by
  apply List.ext_getElem?
  intro i
  rw [get_set (by rw [upTo_len]; exact h)]
  by_cases hi : i < n
  · rw [upTo_get hi, upTo_get hi]
    by_cases e : i = k
    · subst e; simp
    · rw [if_neg e]
      congr 1
      simp only [decide_eq_decide]
      omega
  · have e : i ≠ k := by omega
    rw [if_neg e, List.getElem?_eq_none (by rw [upTo_len]; omega), List.getElem?_eq_none (by rw [upTo_len]; omega)]
theorem upTo_zero (n : Nat) : upTo 0 n = List.replicate n false := by
  apply List.ext_getElem?
  intro i
  by_cases hi : i < n
  · rw [upTo_get hi, List.getElem?_replicate, if_pos hi]; simp
  · rw [List.getElem?_eq_none (by rw [upTo_len]; omega), List.getElem?_eq_none (by simp; omega)]
theorem only_one {l : List Nat} {k : Nat} (hn : l.Nodup) (hm : k ∈ l) (ha : ∀ x ∈ l, x = k) : l = [k] := by
  match l, hn, hm, ha with
  | [x], _, _, ha => rw [ha x (by simp)]
  | x :: y :: r, hn, _, ha =>
    have h1 := ha x (by simp)
    have h2 := ha y (by simp)
    subst h1
    subst h2
    simp at hn
theorem chain_ready {inss : List (List Int)} (hc : Chain inss) {k : Nat} (hk : k < inss.length) {s : LS} (h : Inv inss (upTo k inss.length) s.1 s.2.1 s.2.2 []) : s.2.2 = [k] := by
  refine only_one h.rn ?_ (fun x hx => ?_)
  · obtain ⟨is, his⟩ := get_of_lt hk
    obtain ⟨c0, c1⟩ := hc k is his
    rcases h.al k (by rw [upTo_get hk]; simp) with a | a | ⟨j, b, a1, a2, a3⟩ | ⟨is', p, y, a1, a2, a3, a4⟩
    · exact a
    · cases a
    · exfalso
      obtain ⟨_, is', p, b2, _, b4⟩ := h.br j b a1 a2 k a3
      rw [his] at b2
      cases b2
      have hjl : j < inss.length := by have := lt_of_get a1; rwa [upTo_len] at this
      rw [upTo_get hjl] at a1
      by_cases k0 : k = 0
      · rw [c0 k0] at b4; simp at b4
      · have := (c1 (by omega)).2 _ (List.mem_of_getElem? b4)
        simp at a1
        omega
    · exfalso
      rw [his] at a1
      cases a1
      by_cases k0 : k = 0
      · rw [c0 k0] at a3; simp at a3
      · have := (c1 (by omega)).2 _ (List.mem_of_getElem? a3)
        omega
  · obtain ⟨a1, is, a2, a3⟩ := h.rr x hx
    have hxl : x < inss.length := lt_of_get a2
    rw [upTo_get hxl] at a1
    have hge : k ≤ x := by simp at a1; omega
    obtain ⟨c0, c1⟩ := hc x is a2
    by_cases x0 : x = 0
    · omega
    · obtain ⟨d1, d2⟩ := c1 (by omega)
      match is, d1, d2, a2, a3 with
      | y :: r, _, d2, a2, a3 =>
        have hy := d2 y (by simp)
        have := (h.pf x (y :: r) _ a2 a3).2 0 y (by simp) rfl
        have hyt : y.toNat = x - 1 := by omega
        rw [hyt, upTo_get (by omega)] at this
        have := this.2
        simp at this
        omega
theorem chain_ord {inss : List (List Int)} (hc : Chain inss) (d : Nat) : ∀ (k f : Nat) (s : LS), k + d = inss.length → d < f → Inv inss (upTo k inss.length) s.1 s.2.1 s.2.2 [] → ordP inss f (upTo k inss.length) s = List.range' k d := by
  induction d with
  | zero =>
    intro k f s hk hf h
    obtain ⟨f, rfl⟩ : ∃ g, f = g + 1 := ⟨f - 1, by omega⟩
    have hrs : s.2.2 = [] := by
      cases hr : s.2.2 with
      | nil => rfl
      | cons x r =>
        exfalso
        have hx : x ∈ s.2.2 := by rw [hr]; simp
        have h1 := (h.rr x hx).1
        have hxl := lt_of_get h1
        rw [upTo_len] at hxl
        rw [upTo_get hxl] at h1
        simp at h1
        omega
    rw [ordP_nil hrs]
    rfl
  | succ d ih =>
    intro k f s hk hf h
    obtain ⟨f, rfl⟩ : ∃ g, f = g + 1 := ⟨f - 1, by omega⟩
    have hkl : k < inss.length := by omega
    have hrs := chain_ready hc hkl h
    have hpop : popL s.2.2 = [] ++ [k] := by rw [hrs]; rfl
    rw [ordP_cons (by rw [hrs]; simp) hpop, upTo_set hkl]
    obtain ⟨b, hb⟩ := get_of_lt (l := s.2.1) (i := k) (by rw [h.l3]; exact hkl)
    have h2 := Inv.looks (s := (s.1, s.2.1, [])) (rest := []) b (by
      rw [List.append_nil]
      have := h.take (r := []) (i := k) (b := b) (by rw [hrs]; exact List.Perm.refl _) hb
      rw [upTo_set hkl] at this
      exact this)
    rw [getD_of hb, ih (k + 1) f _ (by omega) (by omega) h2]
    rfl
theorem ordC_chain {inss : List (List Int)} (hc : Chain inss) : ordC inss = List.range inss.length := by
  unfold ordC
  have := chain_ord hc inss.length 0 (inss.length + 1) (start inss) (by omega) (by omega) (by rw [upTo_zero]; exact Inv.begun inss)
  rw [upTo_zero] at this
  rw [this, List.range_eq_range']
/-! ### The document's order -/
def candI (n : Nat) (pl : List Bool) (x : Int) : Bool := decide (0 ≤ x) && (decide (x < (n : Int)) && pl.getD x.toNat false)
def cand (inss : List (List Int)) (pl : List Bool) (i : Nat) : Bool := !pl.getD i true && (inss.getD i []).all (candI inss.length pl)
def nextR (inss : List (List Int)) (pl : List Bool) : Option Nat := (List.range inss.length).find? (cand inss pl)
def ordR (inss : List (List Int)) : Nat → List Bool → List Nat
  | 0, _ => []
  | f + 1, pl => match nextR inss pl with
    | none => []
    | some i => i :: ordR inss f (pl.set i true)
theorem nextR_chain {inss : List (List Int)} (hc : Chain inss) {k : Nat} (hk : k < inss.length) : nextR inss (upTo k inss.length) = some k := by
  unfold nextR
  rw [List.find?_eq_some_iff_getElem]
  refine ⟨?_, k, by simpa using hk, by simp, fun j hj => ?_⟩
  · obtain ⟨is, his⟩ := get_of_lt hk
    obtain ⟨c0, c1⟩ := hc k is his
    unfold cand
    rw [getD_of (upTo_get hk), getD_of his]
    simp only [Nat.lt_irrefl, decide_false, Bool.not_false, Bool.true_and]
    rw [List.all_eq_true]
    intro x hx
    by_cases k0 : k = 0
    · rw [c0 k0] at hx; cases hx
    · have := (c1 (by omega)).2 x hx
      unfold candI
      have h1 : x.toNat = k - 1 := by omega
      rw [h1, getD_of (upTo_get (show k - 1 < inss.length by omega))]
      simp
      omega
  · rw [List.getElem_range]
    unfold cand
    rw [getD_of (upTo_get (show j < inss.length by omega))]
    simp [hj]
theorem nextR_done (inss : List (List Int)) : nextR inss (upTo inss.length inss.length) = none := by
  unfold nextR
  rw [List.find?_eq_none]
  intro j hj
  have hjl : j < inss.length := by simpa using hj
  unfold cand
  rw [getD_of (upTo_get hjl)]
  simp [hjl]
theorem ordR_chain {inss : List (List Int)} (hc : Chain inss) (d : Nat) : ∀ (k f : Nat), k + d = inss.length → d < f → ordR inss f (upTo k inss.length) = List.range' k d := by
  induction d with
  | zero =>
    intro k f hk hf
    obtain ⟨f, rfl⟩ : ∃ g, f = g + 1 := ⟨f - 1, by omega⟩
    obtain rfl : k = inss.length := by omega
    rw [ordR, nextR_done]
    rfl
  | succ d ih =>
    intro k f hk hf
    obtain ⟨f, rfl⟩ : ∃ g, f = g + 1 := ⟨f - 1, by omega⟩
    rw [ordR, nextR_chain hc (by omega)]
    simp only
    rw [upTo_set (by omega), ih (k + 1) f (by omega) (by omega)]
    rfl
end Go.Proofs.Ytfiafbfbiidnlaa
