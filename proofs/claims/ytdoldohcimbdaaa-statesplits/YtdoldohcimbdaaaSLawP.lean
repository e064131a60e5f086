/-
  The spans of a time, plainly (pure).
-/
import Derived.Test.YtdoldohcimbdaaaSKnown2
namespace Go.Proofs.Ytdoldohcimbdaaa
open Go.RowKit

theorem LSeg.on {α : Type} {sz : Nat} {cs : α → List Value} {w w' : World} {v : Value} {xs : List α} (h : LSeg sz cs w.heap.size w v xs) (hb : Below w.heap.size w w') : LSeg sz cs w'.heap.size w' v xs := (h.below hb).mono hb.size
theorem take_snoc {α : Type} {l : List α} {i : Nat} {r : α} (h : l[i]? = some r) : l.take (i + 1) = l.take i ++ [r] := by
  have hlt := lt_of_get h
  rw [List.getElem?_eq_getElem hlt] at h
  cases h
  exact List.take_succ_eq_append_getElem hlt
theorem fit_size {k size slide : Int} (h : FitW k size slide) : 1 ≤ size ∧ size ≤ 68719476736 := ⟨h.2.2.1, h.2.2.2.1⟩
/-- How many spans have a time. -/
def cntOf (size slide since : Int) : Nat := if size ≤ since then 0 else ((size - 1 - since) / slide + 1).toNat
theorem cnt_le {size slide t : Int} (hw : FitW 2 size slide) : cntOf size slide (sinceOf slide t) ≤ 64 := by
  obtain ⟨_, _, h1, _, ⟨_, h2, _, h3⟩ | ⟨h2, _⟩⟩ := hw
  · obtain ⟨k1, _⟩ := since_in (t := t) h2
    unfold cntOf
    split
    · omega
    · have : (size - 1 - sinceOf slide t) / slide ≤ (size - 1) / slide := Int.ediv_le_ediv (by omega) (by omega)
      omega
  · exact absurd rfl h2
theorem cnt_iff {size slide since : Int} (h2 : 1 ≤ slide) (j : Nat) : j < cntOf size slide since ↔ (j : Int) * slide < size - since := by
  unfold cntOf
  split
  · rename_i h
    have : 0 ≤ (j : Int) * slide := Int.mul_nonneg (by omega) (by omega)
    omega
  · rename_i h
    have h4 : (j : Int) ≤ (size - 1 - since) / slide ↔ (j : Int) * slide ≤ size - 1 - since := Int.le_ediv_iff_mul_le (by omega)
    have h5 : 0 ≤ (size - 1 - since) / slide := Int.ediv_nonneg (by omega) (by omega)
    omega
/-- The spans, the last one first. -/
def bkS (size slide s0 : Int) (c : Nat) : List Sp := (List.range c).map fun i : Nat => ⟨s0 - (i : Int) * slide, s0 - (i : Int) * slide + size⟩
theorem bkS_len (size slide s0 : Int) (c : Nat) : (bkS size slide s0 c).length = c := by simp [bkS]
theorem bkS_snoc (size slide s0 : Int) (c : Nat) : bkS size slide s0 (c + 1) = bkS size slide s0 c ++ [⟨s0 - (c : Int) * slide, s0 - (c : Int) * slide + size⟩] := by
  unfold bkS; rw [List.range_succ, List.map_append]; rfl
theorem span_no_wrap {size slide t since : Int} {c i : Nat} (ht : TimeOk t) (hs : 1 ≤ size ∧ size ≤ 68719476736) (h2 : 1 ≤ slide) (h0 : 0 ≤ since) (h1 : since < 68719476736) (hc : ((c : Int) - 1) * slide ≤ size - 1 - since) (hi : i < c) : spanAt size slide t since c i = ⟨t - since - ((c : Int) - 1 - (i : Int)) * slide, t - since - ((c : Int) - 1 - (i : Int)) * slide + size⟩ := by
  have hp : 0 ≤ ((c : Int) - 1 - (i : Int)) * slide ∧ ((c : Int) - 1 - (i : Int)) * slide ≤ ((c : Int) - 1) * slide := ⟨Int.mul_nonneg (by omega) (by omega), Int.mul_le_mul_of_nonneg_right (by omega) (by omega)⟩
  unfold spanAt
  unfold TimeOk at ht
  generalize ((c : Int) - 1 - (i : Int)) * slide = z at *
  generalize ((c : Int) - 1) * slide = y at *
  have e1 : wrap64 (t - since) = t - since := by unfold wrap64; omega
  have e2 : wrap64 (t - since - z) = t - since - z := by unfold wrap64; omega
  have e3 : wrap64 (t - since - z + size) = t - since - z + size := by unfold wrap64; omega
  rw [e1, e2, e3]
theorem spans_two {size slide t : Int} (hw : FitW 2 size slide) (ht : TimeOk t) : pSpans 2 size slide t = (bkS size slide (t - sinceOf slide t) (cntOf size slide (sinceOf slide t))).reverse := by
  have hs := fit_size hw
  have hcl := cnt_le (t := t) hw
  obtain ⟨_, _, _, _, ⟨_, h2, h3, _⟩ | ⟨h2, _⟩⟩ := hw
  · obtain ⟨k1, k2⟩ := since_in (t := t) h2
    unfold pSpans
    rw [if_neg (by omega), if_neg (by omega), if_pos rfl]
    unfold rgl
    rw [if_neg (by omega)]
    generalize sinceOf slide t = since at *
    by_cases h4 : size ≤ since
    · rw [if_pos h4]
      have : cntOf size slide since = 0 := by unfold cntOf; rw [if_pos h4]
      rw [this]; rfl
    · rw [if_neg h4]
      have ec : countOf size slide since = cntOf size slide since := by
        unfold countOf cntOf at *
        rw [if_neg h4] at *
        rw [Int.tdiv_eq_ediv_of_nonneg (by omega)]
        omega
      have hc := (count_in (slide := slide) h2 (show since < size by omega)).2.2
      rw [ec] at hc ⊢
      generalize cntOf size slide since = c at *
      apply List.ext_getElem
      · simp [bkS]
      · intro i h5 h6
        simp only [List.length_map, List.length_range] at h5
        rw [List.getElem_reverse]
        simp only [bkS, List.getElem_map, List.getElem_range, List.length_map, List.length_range]
        rw [span_no_wrap ht hs h2 k1 (by omega) hc h5]
        have e : (((c - 1 - i : Nat)) : Int) = (c : Int) - 1 - (i : Int) := by omega
        rw [e]
  · exact absurd rfl h2
theorem spans_one {size slide t : Int} (hw : FitW 1 size slide) (ht : TimeOk t) : pSpans 1 size slide t = [⟨t - sinceOf size t, t - sinceOf size t + size⟩] := by
  have hs := fit_size hw
  obtain ⟨k1, k2⟩ := since_in (t := t) hs.1
  unfold pSpans
  rw [if_neg (by omega), if_pos rfl]
  unfold rgl
  rw [if_neg (by omega), if_neg (by omega)]
  generalize sinceOf size t = since at *
  have e : countOf size size since = 1 := by
    unfold countOf
    rw [Int.tdiv_eq_ediv_of_nonneg (by omega), Int.ediv_eq_zero_of_lt (by omega) (by omega)]
    rfl
  rw [e]
  show [spanAt size size t since 1 0] = _
  rw [span_no_wrap ht hs hs.1 k1 (by omega) (by omega) (by omega)]
  have e2 : (((1 : Nat) : Int) - 1 - ((0 : Nat) : Int)) * size = 0 := by omega
  rw [e2, Int.sub_zero]
theorem spans_three {size slide t : Int} (hw : FitW 3 size slide) (ht : TimeOk t) : pSpans 3 size slide t = [⟨t, t + size⟩] := by
  have hs := fit_size hw
  unfold pSpans TimeOk at *
  rw [if_neg (by omega), if_neg (by omega), if_neg (by omega), if_pos rfl]
  have e : wrap64 (t + size) = t + size := by unfold wrap64; omega
  rw [e]
/-- Bounds of what is put. -/
def Bd (p : Pn) : Prop := -1152921504606846976 ≤ p.f ∧ p.f ≤ 1152921504606846976 ∧ -1152921504606846976 ≤ p.t ∧ p.t ≤ 1152921504606846976
theorem spans_bd {k size slide t : Int} (hw : FitW k size slide) (ht : TimeOk t) : ∀ s ∈ pSpans k size slide t, -1152921504606846976 ≤ s.f ∧ s.f ≤ 1152921504606846976 ∧ -1152921504606846976 ≤ s.t ∧ s.t ≤ 1152921504606846976 := by
  have hs := fit_size hw
  have hk : k = 1 ∨ k = 2 ∨ k = 3 := by obtain ⟨h1, h2, _⟩ := hw; omega
  have ht2 := ht
  unfold TimeOk at ht2
  rcases hk with rfl | rfl | rfl
  · rw [spans_one hw ht]
    obtain ⟨h1, h2⟩ := since_in (t := t) hs.1
    intro s h
    obtain rfl := List.mem_singleton.1 h
    dsimp only
    omega
  · rw [spans_two hw ht]
    have h2 : 1 ≤ slide ∧ slide ≤ 68719476736 := by obtain ⟨_, _, _, _, ⟨_, h2, h3, _⟩ | ⟨h2, _⟩⟩ := hw; exact ⟨h2, h3⟩; exact absurd rfl h2
    obtain ⟨h3, h4⟩ := since_in (t := t) h2.1
    intro s h
    rw [List.mem_reverse] at h
    unfold bkS at h
    obtain ⟨i, hi, rfl⟩ := List.mem_map.1 h
    have h5 := (cnt_iff (size := size) (since := sinceOf slide t) h2.1 i).1 (List.mem_range.1 hi)
    have h6 : 0 ≤ (i : Int) * slide := Int.mul_nonneg (by omega) (by omega)
    dsimp only
    generalize (i : Int) * slide = z at *
    omega
  · rw [spans_three hw ht]
    intro s h
    obtain rfl := List.mem_singleton.1 h
    dsimp only
    omega
theorem spans_full {k size slide : Int} {t : Int} (hw : FitW k size slide) (ht : TimeOk t) (hs : sess k = true) : ∀ s ∈ pSpans k size slide t, s.f < s.t := by
  have h3 : k = 3 := of_decide_eq_true hs
  obtain ⟨_, _, h1, h2, _⟩ := hw
  subst h3
  unfold pSpans TimeOk at *
  rw [if_neg (by omega), if_neg (by omega), if_neg (by omega), if_pos rfl]
  intro s h
  obtain rfl := List.mem_singleton.1 h
  show t < wrap64 (t + size)
  unfold wrap64; omega
/-- What a put record makes is fit for a state. -/
theorem sps_fit {k size slide a t : Int} (hw : FitS k size slide a) (ht : TimeOk t) : ∀ sp ∈ sps k size slide t, In64 sp.f ∧ In64 sp.t ∧ (k = 3 → sp.f < sp.t) := by
  intro sp hsp
  obtain ⟨_, _, ⟨rfl, rfl, rfl⟩ | hw⟩ := hw
  · unfold sps at hsp
    rw [if_pos rfl, List.mem_singleton] at hsp
    subst hsp
    unfold In64
    exact ⟨by dsimp only; omega, by dsimp only; omega, fun e => by cases e⟩
  · have hk0 : k ≠ 0 := by obtain ⟨h1, _⟩ := hw; omega
    unfold sps at hsp
    rw [if_neg hk0] at hsp
    have h1 := spans_bd hw ht sp hsp
    unfold In64
    exact ⟨by omega, by omega, fun e => spans_full hw ht (by subst e; rfl) sp hsp⟩
def allS (k size slide a : Int) (rs : List Rc) : List Pn := rs.flatMap (frS k size slide a)
theorem allS_snoc (k size slide a : Int) {rs : List Rc} {i : Nat} {r : Rc} (h : rs[i]? = some r) : allS k size slide a (rs.take (i + 1)) = allS k size slide a (rs.take i) ++ frS k size slide a r := by
  have hl := lt_of_get h
  have e : rs[i] = r := by rw [List.getElem?_eq_getElem hl] at h; exact Option.some.inj h
  unfold allS
  rw [List.take_succ_eq_append_getElem hl, e, List.flatMap_append]
  simp
theorem frS_len (k size slide a : Int) (r : Rc) : (frS k size slide a r).length ≤ 64 := by unfold frS; rw [List.length_map]; exact sps_len ..
theorem allS_len (k size slide a : Int) (rs : List Rc) : (allS k size slide a rs).length ≤ 64 * rs.length := by
  unfold allS
  induction rs with
  | nil => simp
  | cons r rs ih => have := frS_len k size slide a r; rw [List.flatMap_cons, List.length_append, List.length_cons]; omega
/-- A window's panes have bounded spans, a session's have a time. -/
def Fn (k : Int) (p : Pn) : Prop := Bd p ∧ (k = 3 → p.f < p.t)
theorem frS_fn {k size slide a : Int} (hw : FitW k size slide) {r : Rc} (ht : TimeOk r.t) : ∀ p ∈ frS k size slide a r, Fn k p := by
  intro p hp
  unfold frS at hp
  obtain ⟨sp, hsp, rfl⟩ := List.mem_map.1 hp
  have hk0 : k ≠ 0 := by obtain ⟨h1, _⟩ := hw; omega
  unfold sps at hsp
  rw [if_neg hk0] at hsp
  exact ⟨spans_bd hw ht sp hsp, fun e => spans_full hw ht (by subst e; rfl) sp hsp⟩
theorem Reds.fn {k : Int} {J : Int → Int → Int} {l m : List Pn} (h : Reds (sess k) J l m) (hl : ∀ p ∈ l, Fn k p) : ∀ p ∈ m, Fn k p :=
  Reds.keeps (P := Fn k) (fun x y _ hx hy => by
    unfold Fn Bd jp at *
    dsimp only at *
    refine ⟨by omega, fun e => ?_⟩
    have h1 := hx.2 e
    omega) h hl
theorem all_fn {k size slide a : Int} (hw : FitW k size slide) {rs : List Rc} (ht : ∀ r ∈ rs, TimeOk r.t) : ∀ p ∈ allS k size slide a rs, Fn k p := by
  intro p hp
  unfold allS at hp
  obtain ⟨r, hr, hp⟩ := List.mem_flatMap.1 hp
  exact frS_fn hw (ht r hr) p hp
end Go.Proofs.Ytdoldohcimbdaaa
