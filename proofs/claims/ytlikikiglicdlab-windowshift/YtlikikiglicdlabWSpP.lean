/-
  The spans of a time, plainly (pure).
-/
import Derived.Test.YtlikikiglicdlabWSwap
namespace Go.Proofs.Ytlikikiglicdlab
open Go.RowKit

theorem fit_size {k size slide : Int} (h : FitW k size slide) : 1 ≤ size ∧ size ≤ 68719476736 := ⟨h.2.2.1, h.2.2.2.1⟩
/-- How many spans have a time. -/
def cntOf (size slide since : Int) : Nat := if size ≤ since then 0 else ((size - 1 - since) / slide + 1).toNat
theorem cnt_le {size slide t : Int} (hw : FitW 2 size slide) : cntOf size slide (sinceOf slide t) ≤ 64 := by
  obtain ⟨_, _, h1, _, ⟨_, h2, _, h3⟩ | ⟨h2, _⟩⟩ := hw
  · obtain ⟨k1, _⟩ := since_in (t := t) h2
    unfold cntOf
    split
    · omega
    · have : (size - 1 - sinceOf slide t) / slide ≤ (size - 1) / slide := Int.ediv_le_ediv (by omega) (by omega)
      omega
  · exact absurd rfl h2
theorem cnt_iff {size slide since : Int} (h2 : 1 ≤ slide) (j : Nat) : j < cntOf size slide since ↔ (j : Int) * slide < size - since := by
  unfold cntOf
  split
  · rename_i h
    have : 0 ≤ (j : Int) * slide := Int.mul_nonneg (by omega) (by omega)
    omega
  · rename_i h
    have h4 : (j : Int) ≤ (size - 1 - since) / slide ↔ (j : Int) * slide ≤ size - 1 - since := Int.le_ediv_iff_mul_le (by omega)
    have h5 : 0 ≤ (size - 1 - since) / slide := Int.ediv_nonneg (by omega) (by omega)
    omega
/-- The spans, the last one first. -/
def bkS (size slide s0 : Int) (c : Nat) : List Sp := (List.range c).map fun i : Nat => ⟨s0 - (i : Int) * slide, s0 - (i : Int) * slide + size⟩
theorem bkS_len (size slide s0 : Int) (c : Nat) : (bkS size slide s0 c).length = c := by simp [bkS]
theorem bkS_snoc (size slide s0 : Int) (c : Nat) : bkS size slide s0 (c + 1) = bkS size slide s0 c ++ [⟨s0 - (c : Int) * slide, s0 - (c : Int) * slide + size⟩] := by
  unfold bkS; rw [List.range_succ, List.map_append]; rfl
theorem span_no_wrap {size slide t since : Int} {c i : Nat} (ht : TimeOk t) (hs : 1 ≤ size ∧ size ≤ 68719476736) (h2 : 1 ≤ slide) (h0 : 0 ≤ since) (h1 : since < 68719476736) (hc : ((c : Int) - 1) * slide ≤ size - 1 - since) (hi : i < c) : spanAt size slide t since c i = ⟨t - since - ((c : Int) - 1 - (i : Int)) * slide, t - since - ((c : Int) - 1 - (i : Int)) * slide + size⟩ := by
  have hp : 0 ≤ ((c : Int) - 1 - (i : Int)) * slide ∧ ((c : Int) - 1 - (i : Int)) * slide ≤ ((c : Int) - 1) * slide := ⟨Int.mul_nonneg (by omega) (by omega), Int.mul_le_mul_of_nonneg_right (by omega) (by omega)⟩
  unfold spanAt
  unfold TimeOk at ht
  generalize ((c : Int) - 1 - (i : Int)) * slide = z at *
  generalize ((c : Int) - 1) * slide = y at *
  have e1 : wrap64 (t - since) = t - since := by unfold wrap64; omega
  have e2 : wrap64 (t - since - z) = t - since - z := by unfold wrap64; omega
  have e3 : wrap64 (t - since - z + size) = t - since - z + size := by unfold wrap64; omega
  rw [e1, e2, e3]
theorem spans_two {size slide t : Int} (hw : FitW 2 size slide) (ht : TimeOk t) : pSpans 2 size slide t = (bkS size slide (t - sinceOf slide t) (cntOf size slide (sinceOf slide t))).reverse := by
  have hs := fit_size hw
  have hcl := cnt_le (t := t) hw
  obtain ⟨_, _, _, _, ⟨_, h2, h3, _⟩ | ⟨h2, _⟩⟩ := hw
  · obtain ⟨k1, k2⟩ := since_in (t := t) h2
    unfold pSpans
    rw [if_neg (by omega), if_neg (by omega), if_pos rfl]
    unfold rgl
    rw [if_neg (by omega)]
    generalize sinceOf slide t = since at *
    by_cases h4 : size ≤ since
    · rw [if_pos h4]
      have : cntOf size slide since = 0 := by unfold cntOf; rw [if_pos h4]
      rw [this]; rfl
    · rw [if_neg h4]
      have ec : countOf size slide since = cntOf size slide since := by
        unfold countOf cntOf at *
        rw [if_neg h4] at *
        rw [Int.tdiv_eq_ediv_of_nonneg (by omega)]
        omega
      have hc := (count_in (slide := slide) h2 (show since < size by omega)).2.2
      rw [ec] at hc ⊢
      generalize cntOf size slide since = c at *
      apply List.ext_getElem
      · simp [bkS]
      · intro i h5 h6
        simp only [List.length_map, List.length_range] at h5
        rw [List.getElem_reverse]
        simp only [bkS, List.getElem_map, List.getElem_range, List.length_map, List.length_range]
        rw [span_no_wrap ht hs h2 k1 (by omega) hc h5]
        have e : (((c - 1 - i : Nat)) : Int) = (c : Int) - 1 - (i : Int) := by omega
        rw [e]
  · exact absurd rfl h2
theorem spans_one {size slide t : Int} (hw : FitW 1 size slide) (ht : TimeOk t) : pSpans 1 size slide t = [⟨t - sinceOf size t, t - sinceOf size t + size⟩] := by
  have hs := fit_size hw
  obtain ⟨k1, k2⟩ := since_in (t := t) hs.1
  unfold pSpans
  rw [if_neg (by omega), if_pos rfl]
  unfold rgl
  rw [if_neg (by omega), if_neg (by omega)]
  generalize sinceOf size t = since at *
  have e : countOf size size since = 1 := by
    unfold countOf
    rw [Int.tdiv_eq_ediv_of_nonneg (by omega), Int.ediv_eq_zero_of_lt (by omega) (by omega)]
    rfl
  rw [e]
  show [spanAt size size t since 1 0] = _
  rw [span_no_wrap ht hs hs.1 k1 (by omega) (by omega) (by omega)]
  have e2 : (((1 : Nat) : Int) - 1 - ((0 : Nat) : Int)) * size = 0 := by omega
  rw [e2, Int.sub_zero]
theorem spans_three {size slide t : Int} (hw : FitW 3 size slide) (ht : TimeOk t) : pSpans 3 size slide t = [⟨t, t + size⟩] := by
  have hs := fit_size hw
  unfold pSpans TimeOk at *
  rw [if_neg (by omega), if_neg (by omega), if_neg (by omega), if_pos rfl]
  have e : wrap64 (t + size) = t + size := by unfold wrap64; omega
  rw [e]
end Go.Proofs.Ytlikikiglicdlab
