/-
  For GateAligns, plainly: what is left, what was told, and that it comes to its end.
-/
import Derived.Test.YtmipgfobggbndaaGQue
import Derived.Test.YtmipgfobggbndaaRBar
namespace Go.Proofs.Ytmipgfobggbndaa
open Go.RowKit

theorem sum_set {X : List Nat} : ∀ {c x : Nat}, X[c]? = some (x + 1) → (X.set c x).sum + 1 = X.sum := by
  induction X with
  | nil => intro c x h; simp at h
  | cons a X ih =>
    intro c x h
    match c, h with
    | 0, h =>
      obtain rfl : a = x + 1 := by simpa using h
      simp; omega
    | c + 1, h =>
      have := ih (c := c) (x := x) (by simpa using h)
      simp only [List.set_cons_succ, List.sum_cons]
      omega
theorem sum_zero {X : List Nat} (h : ∀ (c x : Nat), X[c]? = some x → x = 0) : X.sum = 0 := by
  induction X with
  | nil => rfl
  | cons a X ih =>
    have h0 := h 0 a rfl
    have h1 := ih (fun c x hx => h (c + 1) x (by simpa using hx))
    simp [h0, h1]
theorem sum_pos {X : List Nat} (h : 0 < X.sum) : ∃ (c x : Nat), X[c]? = some (x + 1) := by
  induction X with
  | nil => simp at h
  | cons a X ih =>
    cases a with
    | zero =>
      obtain ⟨c, x, hx⟩ := ih (by simpa using h)
      exact ⟨c + 1, x, by simpa using hx⟩
    | succ a => exact ⟨0, a, rfl⟩
theorem getD_lt {α : Type} {l : List α} {c : Nat} {d : α} (h : c < l.length) : l[c]? = some (l.getD c d) := by
  rw [List.getD_eq_getElem?_getD, List.getElem?_eq_getElem h]; rfl
/-- All of a list's things are counted, place by place. -/
theorem sum_counts {n : Nat} (hn : 1 ≤ n) (l : List Nat) : ((List.range n).map fun c => l.countP fun x => x % n == c).sum = l.length := by
  induction l with
  | nil =>
    refine sum_zero (fun c x hx => ?_)
    rw [List.getElem?_map] at hx
    cases h : (List.range n)[c]? with
    | none => rw [h] at hx; cases hx
    | some y => rw [h] at hx; exact (Option.some.inj hx).symm
  | cons x l ih =>
    have hxn : x % n < n := Nat.mod_lt _ hn
    have hg : ((List.range n).map fun c => (x :: l).countP fun x => x % n == c)[x % n]? = some ((l.countP fun y => y % n == x % n) + 1) := by
      rw [List.getElem?_map, List.getElem?_range hxn]
      simp
    have he : (((List.range n).map fun c => (x :: l).countP fun x => x % n == c).set (x % n) (l.countP fun y => y % n == x % n)) = (List.range n).map fun c => l.countP fun x => x % n == c := by
      apply List.ext_getElem?
      intro c
      by_cases hc : x % n = c
      · subst hc
        rw [List.getElem?_set_self (by simpa using hxn), List.getElem?_map, List.getElem?_range hxn]
        rfl
      · rw [List.getElem?_set_ne hc, List.getElem?_map, List.getElem?_map]
        cases h : (List.range n)[c]? with
        | none => rfl
        | some y =>
          have hy : y = c := by
            have hlt := lt_of_get h
            rw [List.getElem?_range (by simpa using hlt)] at h
            exact (Option.some.inj h).symm
          subst hy
          rw [Option.map_some, Option.map_some, List.countP_cons_of_neg (by simpa using hc)]
    have := sum_set hg
    rw [he, ih] at this
    rw [← this]; rfl
/-- The frames of the channels. -/
def qs (C : List Bool) (X Y : List Nat) (c : Nat) : List Fr := lf (C.getD c false) (X.getD c 0) (Y.getD c 0)
/-- The play: which barriers have come, what is left of each channel ahead and behind, how many records were told; A ahead and B behind in all. -/
structure Pl (n A B : Nat) (C : List Bool) (X Y : List Nat) (told left : Nat) : Prop where
  lc : C.length = n
  lx : X.length = n
  ly : Y.length = n
  cx : ∀ c, C.getD c false = true → X.getD c 0 = 0
  yb : C.all id = false → Y.sum = B
  tt : told + X.sum + Y.sum = A + B
  lt : left = X.sum + Y.sum + C.count false
theorem Pl.all_X {n A B : Nat} {C : List Bool} {X Y : List Nat} {told left : Nat} (h : Pl n A B C X Y told left) (ha : C.all id = true) : X.sum = 0 := by
  refine sum_zero (fun c x hx => ?_)
  have hc : c < C.length := by rw [h.lc, ← h.lx]; exact lt_of_get hx
  have hb : C.getD c false = true := by
    obtain ⟨b, hb⟩ := get_of_lt hc
    have := List.all_eq_true.1 ha b (List.mem_of_getElem? hb)
    rw [List.getD_eq_getElem?_getD, hb]
    simpa using this
  have := h.cx c hb
  rw [List.getD_eq_getElem?_getD, hx] at this
  exact this
/-- As long as frames are left a channel is ready. -/
theorem Pl.ready {n A B : Nat} {C : List Bool} {X Y : List Nat} {told left : Nat} (h : Pl n A B C X Y told left) (hl : 0 < left) : ∃ c, c < n ∧ qs C X Y c ≠ [] ∧ (C.getD c false && !C.all id) = false := by
  cases ha : C.all id with
  | false =>
    obtain ⟨c, hc⟩ : ∃ c, C[c]? = some false := by
      obtain ⟨b, hb, hf⟩ := List.all_eq_false.1 ha
      cases b with
      | true => simp at hf
      | false =>
        obtain ⟨c, hc, e⟩ := List.getElem_of_mem hb
        exact ⟨c, by rw [List.getElem?_eq_getElem hc, e]⟩
    have hd : C.getD c false = false := by rw [List.getD_eq_getElem?_getD, hc]; rfl
    refine ⟨c, by rw [← h.lc]; exact lt_of_get hc, ?_, by rw [hd]; rfl⟩
    unfold qs lf
    rw [hd]
    simp
  | true =>
    have hX := h.all_X ha
    have hc0 : C.count false = 0 := by
      have := all_count C
      rw [ha] at this
      exact of_decide_eq_true this.symm
    have hY : 0 < Y.sum := by have := h.lt; omega
    obtain ⟨c, y, hy⟩ := sum_pos hY
    have hcn : c < n := by rw [← h.ly]; exact lt_of_get hy
    have hd : C.getD c false = true := by
      obtain ⟨b, hb⟩ := get_of_lt (show c < C.length by rw [h.lc]; exact hcn)
      have := List.all_eq_true.1 ha b (List.mem_of_getElem? hb)
      rw [List.getD_eq_getElem?_getD, hb]
      simpa using this
    refine ⟨c, hcn, ?_, by rw [hd]; rfl⟩
    unfold qs lf
    rw [hd, List.getD_eq_getElem?_getD (l := Y), hy]
    simp [List.replicate_succ]
/-- Of n places in a row each is one. -/
theorem residue {n i c : Nat} (hn : 1 ≤ n) (hi : n ≤ i) (hc : c < n) : ∃ j, 1 ≤ j ∧ j ≤ n ∧ (i - j) % n = c := by
  have hr := Nat.mod_lt i hn
  have he := Nat.div_add_mod i n
  by_cases h : c < i % n
  · refine ⟨i % n - c, by omega, by omega, ?_⟩
    rw [show i - (i % n - c) = c + n * (i / n) by omega, Nat.add_mul_mod_self_left, Nat.mod_eq_of_lt hc]
  · refine ⟨i % n + n - c, by omega, by omega, ?_⟩
    have hq : 1 ≤ i / n := (Nat.le_div_iff_mul_le hn).2 (by omega)
    obtain ⟨q, hq2⟩ : ∃ q, i / n = q + 1 := ⟨i / n - 1, by omega⟩
    rw [hq2, Nat.mul_add, Nat.mul_one] at he
    rw [show i - (i % n + n - c) = c + n * q by omega, Nat.add_mul_mod_self_left, Nat.mod_eq_of_lt hc]
end Go.Proofs.Ytmipgfobggbndaa
