/-
  For GateOvertakes, plainly: the gate by the barriers that have come; the queues; what was captured.
-/
import Derived.Test.YtmipgfobggbndaaGAlR
namespace Go.Proofs.Ytmipgfobggbndaa
open Go.RowKit

/-- The gate of an unaligned checkpoint 9. -/
def ovS (n : Nat) (M : List Int) (C : List Bool) (cp : List Ou) : Gs :=
  if C.any id then { M := M, la := 9, un := if C.all id then 0 else 9, ov := true, co := C, cp := cp } else { Gs.new n with M := M }
theorem ovS_M (n : Nat) (M : List Int) (C : List Bool) (cp : List Ou) : (ovS n M C cp).M = M := by unfold ovS; split <;> rfl
theorem ovS_bl (n : Nat) (M : List Int) (C : List Bool) (cp : List Ou) (c : Int) : (ovS n M C cp).bl c = false := by
  unfold ovS
  split
  · simp [Gs.bl]
  · simp [Gs.bl, Gs.new]
theorem ovS_ok {n : Nat} {M : List Int} (hM : M.length = n) {c : Nat} (hc : c < n) (C : List Bool) (cp : List Ou) : (ovS n M C cp).ok (c : Int) = true :=
  Gs.ok_of (by rw [ovS_M, hM]; exact hc) (ovS_bl n M C cp c)
theorem getD_some {α : Type} {l : List α} {c : Nat} {x d : α} (h : l[c]? = some x) : l.getD c d = x := by rw [List.getD_eq_getElem?_getD, h]; rfl
theorem not_all {C : List Bool} {c : Nat} (h : C[c]? = some false) : C.all id = false := by
  rw [all_count]
  have := count_come h
  exact decide_eq_false (by omega)
theorem any_count (C : List Bool) : C.any id = decide (C.count false < C.length) := by
  induction C with
  | nil => rfl
  | cons b C ih =>
    have hle : C.count false ≤ C.length := List.count_le_length
    cases b
    · simp only [List.any_cons, id, Bool.false_or, ih, List.count_cons_self, List.length_cons]
      congr 1
      apply propext
      omega
    · simp only [List.any_cons, id, Bool.true_or, List.length_cons]
      rw [List.count_cons_of_ne (by decide)]
      symm
      exact decide_eq_true (by omega)
theorem any_not {C : List Bool} (h : C.any id = false) : C = List.replicate C.length false := by
  induction C with
  | nil => rfl
  | cons b C ih =>
    simp only [List.any_cons, id, Bool.or_eq_false_iff] at h
    obtain ⟨rfl, h⟩ := h
    rw [List.length_cons, List.replicate_succ, ← ih h]
/-- What is captured. -/
def cpO (C : List Bool) (cp : List Ou) (c : Nat) (f : Fr) : List Ou := if (C.any id && !C.getD c false) = true then cp ++ [⟨(c : Int), f⟩] else cp
theorem ovS_capt {n : Nat} {M : List Int} {C : List Bool} (hC : C.length = n) {c : Nat} (hc : c < n) (cp : List Ou) (f : Fr) : (ovS n M C cp).capt c f = ovS n M C (cpO C cp c f) := by
  unfold Gs.capt cpO
  obtain ⟨b, hb⟩ := get_of_lt (show c < C.length by rw [hC]; exact hc)
  rw [getD_some hb]
  cases ha : C.any id with
  | false =>
    have : ∀ cp', ovS n M C cp' = { Gs.new n with M := M } := fun cp' => by unfold ovS; rw [if_neg (by rw [ha]; decide)]
    rw [this, this]
    rw [if_neg (by simp [Gs.new])]
  | true =>
    have : ∀ cp', ovS n M C cp' = { M := M, la := 9, un := if C.all id then 0 else 9, ov := true, co := C, cp := cp' } := fun cp' => by unfold ovS; rw [if_pos ha]
    rw [this, this]
    cases b with
    | true =>
      rw [if_neg (by simp [hb])]
      simp
    | false =>
      rw [if_pos (by simp [hb, not_all hb])]
      simp
theorem ovS_rise {n : Nat} {M : List Int} (hM : M.length = n) {c : Nat} (hc : c < n) (C : List Bool) (cp : List Ou) (m : Int) : (ovS n M C cp).rise c m = ovS n (M.set c (max (M.getD c 0) m)) C cp := by
  have h := Gs.rise_M (ovS n M C cp) c (by rw [ovS_M, hM]; exact hc) m
  rw [ovS_M] at h
  have h2 : (ovS n M C cp).rise c m = { (ovS n M C cp) with M := ((ovS n M C cp).rise c m).M } := by
    unfold Gs.rise; split <;> rfl
  rw [h2, h]
  unfold ovS
  split <;> rfl
theorem ovS_other {n : Nat} {M : List Int} (hM : M.length = n) {C : List Bool} (hC : C.length = n) {c : Nat} (hc : c < n) (cp : List Ou) {f : Fr} (hf : f.kd = 1 ∨ f.kd = 2) :
    (ovS n M C cp).tk (c : Int) f = ovS n (mkM M c f) C (cpO C cp c f) ∧ ((ovS n M C cp).tkS (c : Int) f).kd ≠ 3 ∧ ((ovS n M C cp).tkS (c : Int) f).fu = 0 := by
  have hok := ovS_ok hM hc C cp
  unfold Gs.tk Gs.tkS
  rw [if_pos hok, if_pos hok, Int.toNat_natCast, ovS_capt hC hc]
  rcases hf with hf | hf
  · rw [if_pos hf, if_pos hf]
    refine ⟨?_, by simp, rfl⟩
    unfold mkM
    rw [if_neg (by omega)]
  · have h1 : ¬ f.kd = 1 := by omega
    rw [if_neg h1, if_pos hf, if_neg h1, if_pos hf, ovS_rise hM hc]
    refine ⟨?_, ?_, ?_⟩
    · unfold mkM
      rw [if_pos hf]
    · unfold Gs.riseS; split
      · simp
      · simp [Sn.none]
    · unfold Gs.riseS; split <;> rfl
theorem ovS_bar {n : Nat} {M : List Int} (hM : M.length = n) {C : List Bool} (hC : C.length = n) {c : Nat} (hc : C[c]? = some false) {cp : List Ou} (hcp : C.any id = false → cp = []) :
    (ovS n M C cp).tk (c : Int) (br true) = ovS n M (C.set c true) cp ∧ ((ovS n M C cp).tkS (c : Int) (br true)).kd = (if C.any id then 0 else 3) ∧ ((ovS n M C cp).tkS (c : Int) (br true)).fu = (if (C.set c true).all id then 9 else 0) := by
  have hcn : c < n := by rw [← hC]; exact lt_of_get hc
  have hok := ovS_ok hM hcn C cp
  have hct := count_come hc
  have hall := all_count (C.set c true)
  have hany : (C.set c true).any id = true := List.any_eq_true.2 ⟨true, List.mem_of_getElem? (List.getElem?_set_self (lt_of_get hc)), rfl⟩
  have hac := any_count C
  have hcl : C.count false ≤ C.length := List.count_le_length
  -- the gate once checkpoint 9 is under way
  have key : ∀ s : Gs, s = { M := M, la := 9, un := 9, ov := true, co := C, cp := cp } → (s.come c).arr = ovS n M (C.set c true) cp ∧ (s.come c).arrS.kd = (if C.any id then 0 else 3) ∧ (s.come c).arrS.fu = (if (C.set c true).all id then 9 else 0) := by
    rintro s rfl
    unfold Gs.come Gs.arr Gs.arrS Gs.keeps Gs.ms ovS
    simp only [hany, if_true]
    rw [hall]
    by_cases h0 : (C.set c true).count false = 0
    · simp only [h0, if_true, decide_true]
      refine ⟨trivial, ?_, trivial⟩
      rw [hac]
      have : C.count false = 1 := by omega
      rw [this, hM]
      by_cases h1 : n = 1
      · simp [h1, hC]
      · simp [Ne.symm h1]; rw [hC]; omega
    · simp only [h0, if_false, decide_false, Bool.false_eq_true]
      refine ⟨trivial, ?_, trivial⟩
      rw [hac, hct, hM, hC]
      by_cases h1 : C.count false = n
      · simp [h1]
      · have h2 : C.count false < n := by omega
        simp [h1, h2]
  have step : (ovS n M C cp).bg 9 true = { M := M, la := 9, un := 9, ov := true, co := C, cp := cp } := by
    unfold ovS Gs.bg
    cases ha : C.any id with
    | false =>
      have h1 := any_not ha
      rw [hC] at h1
      simp only [Bool.false_eq_true, if_false, Gs.new, Gs.beg]
      rw [if_pos (by decide), hcp ha, hM, ← h1]
    | true =>
      simp only [if_true, not_all hc]
      rw [if_neg (by decide)]; rfl
  have hidle : ((ovS n M C cp).bg 9 true).idle c 9 = false := by
    rw [step]
    unfold Gs.idle
    simp only
    rw [getD_some hc]; rfl
  unfold Gs.tk Gs.tkS
  rw [if_pos hok, if_pos hok, Int.toNat_natCast]
  have k1 : ¬ (br true).kd = 1 := by decide
  have k2 : ¬ (br true).kd = 2 := by decide
  have k3 : (br true).kd = 3 := rfl
  rw [if_neg k1, if_neg k2, if_pos k3, if_neg k1, if_neg k2, if_pos k3]
  unfold Gs.bar Gs.barS
  rw [show (br true).n = 9 from rfl, show (br true).ov = true from rfl, hidle]
  simp only [Bool.false_eq_true, if_false]
  exact key _ step
theorem cpO_len (C : List Bool) (cp : List Ou) (c : Nat) (f : Fr) : (cpO C cp c f).length ≤ cp.length + 1 := by unfold cpO; split <;> simp
/-- A frame that is no barrier. -/
def Fr.nb (f : Fr) : Prop := f.kd = 1 ∨ f.kd = 2
/-- The queues while they are laid: j barriers stand, there are tot frames. -/
structure Lay (n : Nat) (Q : List (List Fr)) (j tot : Nat) : Prop where
  lq : Q.length = n
  no : ∀ (c : Nat) (q : List Fr), Q[c]? = some q → j ≤ c → ∀ f ∈ q, f.nb
  yes : ∀ (c : Nat) (q : List Fr), Q[c]? = some q → c < j → ∃ A B, q = A ++ br true :: B ∧ ∀ f ∈ A ++ B, f.nb
  sum : (Q.map List.length).sum = tot
theorem Lay.nil (n : Nat) : Lay n (List.replicate n []) 0 0 := by
  refine ⟨by simp, fun c q h _ f hf => ?_, fun c q _ h => by omega, sum_zero (fun c x hx => ?_)⟩
  · rw [List.getElem?_replicate] at h
    split at h
    · cases h; cases hf
    · cases h
  · rw [List.getElem?_map, List.getElem?_replicate] at hx
    split at hx
    · exact (Option.some.inj hx).symm
    · cases hx
theorem sum_grow {Q : List (List Fr)} {c : Nat} {q : List Fr} (h : Q[c]? = some q) (f : Fr) : ((Q.set c (q ++ [f])).map List.length).sum = (Q.map List.length).sum + 1 := by
  have h1 : ((Q.set c (q ++ [f])).map List.length)[c]? = some (q.length + 1) := by
    rw [List.getElem?_map, List.getElem?_set_self (lt_of_get h)]; simp
  have := sum_set h1
  rw [← this]
  congr 2
  rw [← List.map_set]
  congr 1
  rw [List.set_set]
  have e : Q = Q.set c q := by
    apply List.ext_getElem?
    intro i
    by_cases hi : c = i
    · subst hi; rw [h, List.getElem?_set_self (lt_of_get h)]
    · rw [List.getElem?_set_ne hi]
  rw [← e]
theorem sum_drop {Q : List (List Fr)} {c : Nat} {f : Fr} {q : List Fr} (h : Q[c]? = some (f :: q)) : ((Q.set c q).map List.length).sum + 1 = (Q.map List.length).sum := by
  have h1 : (Q.map List.length)[c]? = some (q.length + 1) := by rw [List.getElem?_map, h]; rfl
  have := sum_set h1
  rw [← this, List.map_set]
theorem len_le {Q : List (List Fr)} {c : Nat} {q : List Fr} (h : Q[c]? = some q) : q.length ≤ (Q.map List.length).sum := by
  induction Q generalizing c with
  | nil => simp at h
  | cons a Q ih =>
    simp only [List.map_cons, List.sum_cons]
    match c, h with
    | 0, h =>
      obtain rfl : a = q := by simpa using h
      omega
    | c + 1, h =>
      have := ih (c := c) (by simpa using h)
      omega
theorem Lay.app {n : Nat} {Q : List (List Fr)} {j tot : Nat} (h : Lay n Q j tot) {c : Nat} {q : List Fr} (hq : Q[c]? = some q) {f : Fr} (hf : f.nb) : Lay n (Q.set c (q ++ [f])) j (tot + 1) := by
  refine ⟨by simpa using h.lq, fun c2 q2 h2 hj g hg => ?_, fun c2 q2 h2 hj => ?_, by rw [sum_grow hq, h.sum]⟩
  · by_cases e : c = c2
    · subst e
      rw [List.getElem?_set_self (lt_of_get hq)] at h2
      cases h2
      rcases List.mem_append.1 hg with hg | hg
      · exact h.no c q hq hj g hg
      · obtain rfl : g = f := by simpa using hg
        exact hf
    · rw [List.getElem?_set_ne e] at h2
      exact h.no c2 q2 h2 hj g hg
  · by_cases e : c = c2
    · subst e
      rw [List.getElem?_set_self (lt_of_get hq)] at h2
      cases h2
      obtain ⟨A, B, rfl, hab⟩ := h.yes c q hq hj
      refine ⟨A, B ++ [f], by simp, fun g hg => ?_⟩
      rw [← List.append_assoc] at hg
      rcases List.mem_append.1 hg with hg | hg
      · exact hab g hg
      · obtain rfl : g = f := by simpa using hg
        exact hf
    · rw [List.getElem?_set_ne e] at h2
      exact h.yes c2 q2 h2 hj
theorem Lay.bar {n : Nat} {Q : List (List Fr)} {j tot : Nat} (h : Lay n Q j tot) {q : List Fr} (hq : Q[j]? = some q) : Lay n (Q.set j (q ++ [br true])) (j + 1) (tot + 1) := by
  refine ⟨by simpa using h.lq, fun c2 q2 h2 hj g hg => ?_, fun c2 q2 h2 hj => ?_, by rw [sum_grow hq, h.sum]⟩
  · rw [List.getElem?_set_ne (by omega)] at h2
    exact h.no c2 q2 h2 (by omega) g hg
  · by_cases e : j = c2
    · subst e
      rw [List.getElem?_set_self (lt_of_get hq)] at h2
      cases h2
      exact ⟨q, [], rfl, fun g hg => by rw [List.append_nil] at hg; exact h.no j q hq (Nat.le_refl _) g hg⟩
    · rw [List.getElem?_set_ne e] at h2
      exact h.yes c2 q2 h2 (by omega)
/-- The queues while they are played: which barriers have come; so many frames are left. -/
structure Pv (n : Nat) (C : List Bool) (Q : List (List Fr)) (left : Nat) : Prop where
  lc : C.length = n
  lq : Q.length = n
  yes : ∀ (c : Nat) (q : List Fr), Q[c]? = some q → C[c]? = some true → ∀ f ∈ q, f.nb
  no : ∀ (c : Nat) (q : List Fr), Q[c]? = some q → C[c]? = some false → ∃ A B, q = A ++ br true :: B ∧ ∀ f ∈ A ++ B, f.nb
  sum : (Q.map List.length).sum = left
theorem Lay.pv {n : Nat} {Q : List (List Fr)} {tot : Nat} (h : Lay n Q n tot) : Pv n (List.replicate n false) Q tot := by
  refine ⟨by simp, h.lq, fun c q hq hc => ?_, fun c q hq _ => h.yes c q hq (by rw [← h.lq]; exact lt_of_get hq), h.sum⟩
  rw [List.getElem?_replicate] at hc
  split at hc <;> cases hc
theorem Pv.pop {n : Nat} {C : List Bool} {Q : List (List Fr)} {left : Nat} (h : Pv n C Q left) {c : Nat} {f : Fr} {q : List Fr} (hq : Q[c]? = some (f :: q)) :
    1 ≤ left ∧ ((f.nb ∧ Pv n C (Q.set c q) (left - 1)) ∨ (f = br true ∧ C[c]? = some false ∧ Pv n (C.set c true) (Q.set c q) (left - 1))) := by
  have hs := sum_drop hq
  rw [h.sum] at hs
  refine ⟨by omega, ?_⟩
  obtain ⟨b, hb⟩ := get_of_lt (show c < C.length by rw [h.lc, ← h.lq]; exact lt_of_get hq)
  have same : ∀ b', C[c]? = some b' → (b' = true → ∀ g ∈ q, g.nb) → (b' = false → ∃ A B, q = A ++ br true :: B ∧ ∀ f ∈ A ++ B, f.nb) → Pv n C (Q.set c q) (left - 1) := fun b' hb' h1 h2 => by
    refine ⟨h.lc, by simpa using h.lq, fun c2 q2 hq2 hc2 => ?_, fun c2 q2 hq2 hc2 => ?_, by omega⟩
    · by_cases e : c = c2
      · subst e
        rw [List.getElem?_set_self (lt_of_get hq)] at hq2
        cases hq2
        rw [hb'] at hc2
        exact h1 (Option.some.inj hc2)
      · rw [List.getElem?_set_ne e] at hq2
        exact h.yes c2 q2 hq2 hc2
    · by_cases e : c = c2
      · subst e
        rw [List.getElem?_set_self (lt_of_get hq)] at hq2
        cases hq2
        rw [hb'] at hc2
        exact h2 (Option.some.inj hc2)
      · rw [List.getElem?_set_ne e] at hq2
        exact h.no c2 q2 hq2 hc2
  cases b with
  | true =>
    have hy := h.yes c _ hq hb
    exact .inl ⟨hy f (by simp), same true hb (fun _ g hg => hy g (List.mem_cons_of_mem _ hg)) (fun e => by cases e)⟩
  | false =>
    obtain ⟨A, B, hAB, hab⟩ := h.no c _ hq hb
    cases A with
    | nil =>
      simp only [List.nil_append, List.cons.injEq] at hAB
      obtain ⟨rfl, rfl⟩ := hAB
      refine .inr ⟨rfl, hb, by simpa using h.lc, by simpa using h.lq, fun c2 q2 hq2 hc2 => ?_, fun c2 q2 hq2 hc2 => ?_, by omega⟩
      · by_cases e : c = c2
        · subst e
          rw [List.getElem?_set_self (lt_of_get hq)] at hq2
          cases hq2
          exact fun g hg => hab g hg
        · rw [List.getElem?_set_ne e] at hq2 hc2
          exact h.yes c2 q2 hq2 hc2
      · by_cases e : c = c2
        · subst e
          rw [List.getElem?_set_self (lt_of_get hb)] at hc2
          cases hc2
        · rw [List.getElem?_set_ne e] at hq2 hc2
          exact h.no c2 q2 hq2 hc2
    | cons a A =>
      simp only [List.cons_append, List.cons.injEq] at hAB
      obtain ⟨rfl, rfl⟩ := hAB
      exact .inl ⟨hab f (by simp), same false hb (fun e => by cases e) (fun _ => ⟨A, B, rfl, fun g hg => hab g (List.mem_cons_of_mem _ hg)⟩)⟩
/-- As long as frames are left a queue has one. -/
theorem Pv.ready {n : Nat} {C : List Bool} {Q : List (List Fr)} {left : Nat} (h : Pv n C Q left) (hl : 0 < left) : ∃ c, c < n ∧ ¬ Q.getD c [] = [] := by
  obtain ⟨c, x, hx⟩ := sum_pos (X := Q.map List.length) (by rw [h.sum]; exact hl)
  rw [List.getElem?_map] at hx
  cases hq : Q[c]? with
  | none => rw [hq] at hx; cases hx
  | some q =>
    rw [hq] at hx
    refine ⟨c, by rw [← h.lq]; exact lt_of_get hq, fun e => ?_⟩
    rw [getD_some hq] at e
    subst e
    cases hx
/-- Once none is left all barriers have come. -/
theorem Pv.all {n : Nat} {C : List Bool} {Q : List (List Fr)} (h : Pv n C Q 0) : C.all id = true := by
  rw [List.all_eq_true]
  intro b hb
  obtain ⟨c, hc, e⟩ := List.getElem_of_mem hb
  have hcb : C[c]? = some b := by rw [List.getElem?_eq_getElem hc, e]
  cases b with
  | true => rfl
  | false =>
    obtain ⟨q, hq⟩ := get_of_lt (show c < Q.length by rw [h.lq, ← h.lc]; exact hc)
    obtain ⟨A, B, hAB, _⟩ := h.no c q hq hcb
    have := len_le hq
    rw [h.sum, hAB] at this
    simp at this
theorem any_of_all {C : List Bool} (h : C.all id = true) (hn : 1 ≤ C.length) : C.any id = true := by
  cases C with
  | nil => simp at hn
  | cons b C =>
    have := List.all_eq_true.1 h b (by simp)
    rw [List.any_cons, this]; rfl
theorem any_set {C : List Bool} {c : Nat} (hc : c < C.length) : (C.set c true).any id = true := List.any_eq_true.2 ⟨true, List.mem_of_getElem? (List.getElem?_set_self hc), rfl⟩
end Go.Proofs.Ytmipgfobggbndaa
