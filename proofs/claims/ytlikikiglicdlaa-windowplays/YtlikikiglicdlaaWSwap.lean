/-
  The law WindowOrder, walked.
-/
import Derived.Test.YtlikikiglicdlaaWLaw2
namespace Go.Proofs.Ytlikikiglicdlaa
open Go.RowKit

/-- Another thing at one place of a row of one's own. -/
theorem OwnL.setAt {α : Type} {t sz : Nat} {cs : α → List Value} (hcs : ∀ x, (cs x).length = sz) (hs : 0 < sz) {base : Nat} {w : World} {g n cap : Nat} {l : List α} (h : OwnL t sz cs base w (.slice (some ⟨g, 0, none⟩) n cap) l) {i : Nat} (hi : i < l.length) (x : α) : OwnL t sz cs base (w.setCells g (i * sz) (cs x)) (.slice (some ⟨g, 0, none⟩) n cap) (l.set i x) := by
  rcases h.2 with ⟨e, _⟩ | ⟨g', cap', cur, e, h2, h3, h4, h5, h6, h7⟩
  · cases e
  · cases e
    have hb : BoxT t w g cur := h3
    have hfit : i * sz + sz ≤ cur.size := by
      have h8 : (i + 1) * sz ≤ cap * sz := Nat.mul_le_mul_right _ (by omega)
      rw [Nat.succ_mul] at h8
      omega
    refine ⟨flat_size hcs _, .inr ⟨g, cap, setL cur (i * sz) (cs x), by simp, h2, hb.setCells (cs x), by simpa using h4, h5, by rw [setL_size]; exact h6, ?_⟩⟩
    apply List.ext_getElem?
    intro q
    rw [List.getElem?_take, List.length_set]
    by_cases hq : q < l.length * sz
    · rw [if_pos hq, Array.getElem?_toList]
      have hq4 : q / sz < l.length := (Nat.div_lt_iff_lt_mul hs).2 hq
      have hm : q % sz < sz := Nat.mod_lt _ hs
      have hdm : q / sz * sz + q % sz = q := by rw [Nat.mul_comm]; exact Nat.div_add_mod q sz
      by_cases hqi : q / sz = i
      · have hx : (l.set i x)[q / sz]? = some x := by rw [hqi, List.getElem?_set_self hi]
        obtain ⟨u, hu⟩ := get_of_lt (show q % sz < (cs x).length by rw [hcs]; exact hm)
        have h9 := flat_get hcs _ (q / sz) (q % sz) _ u hx hu
        rw [hdm] at h9
        rw [h9]
        have h10 := setL_in (cs x) cur (i * sz) (q % sz) u (by rw [hcs]; exact hfit) hu
        rw [← hqi, hdm, hqi] at h10
        exact h10
      · obtain ⟨y, hy⟩ := get_of_lt hq4
        have hx : (l.set i x)[q / sz]? = some y := by rw [List.getElem?_set_ne (fun e => hqi e.symm)]; exact hy
        obtain ⟨u, hu⟩ := get_of_lt (show q % sz < (cs y).length by rw [hcs]; exact hm)
        have h9 := flat_get hcs _ (q / sz) (q % sz) _ u hx hu
        rw [hdm] at h9
        have hout : q < i * sz ∨ i * sz + (cs x).length ≤ q := by
          rw [hcs]
          rcases Nat.lt_or_gt_of_ne hqi with hlt | hgt
          · have : (q / sz + 1) * sz ≤ i * sz := Nat.mul_le_mul_right _ hlt
            rw [Nat.succ_mul] at this; omega
          · have : (i + 1) * sz ≤ q / sz * sz := Nat.mul_le_mul_right _ hgt
            rw [Nat.succ_mul] at this; omega
        rw [h9, setL_out _ _ _ _ hout]
        have h8 := flat_get hcs l (q / sz) (q % sz) y u hy hu
        rw [← h7, List.getElem?_take] at h8
        split at h8
        · rw [hdm] at h8; simpa using h8
        · cases h8
    · rw [if_neg hq, List.getElem?_eq_none (by rw [flat_size hcs, List.length_set]; omega)]
theorem swap_perm {α : Type} {l : List α} {i j : Nat} {x y : α} (hi : l[i]? = some x) (hj : l[j]? = some y) : ((l.set i y).set j x).Perm l := by
  obtain ⟨hil, hi⟩ := List.getElem?_eq_some_iff.1 hi
  obtain ⟨hjl, hj⟩ := List.getElem?_eq_some_iff.1 hj
  have h := Array.swap_perm (xs := l.toArray) (i := i) (j := j) (by simpa using hil) (by simpa using hjl)
  have e : (l.toArray.swap i j (by simpa using hil) (by simpa using hjl)).toList = (l.set i y).set j x := by
    subst hi hj
    simp [Array.swap_def]
  have h2 := h.toList
  rw [e] at h2
  exact h2
/-- Where a turn of i goes. -/
def spot (turn : Int) (i n : Nat) : Nat := ((plc turn 1000 + 7 * (i : Int)) % (n : Int)).toNat
theorem spot_lt (turn : Int) (i : Nat) {n : Nat} (h : 0 < n) : spot turn i n < n := by
  unfold spot
  have h1 := Int.emod_nonneg (plc turn 1000 + 7 * (i : Int)) (show (n : Int) ≠ 0 by omega)
  have h2 := Int.emod_lt_of_pos (plc turn 1000 + 7 * (i : Int)) (show (0 : Int) < n by omega)
  omega
theorem spot_eq (turn : Int) (i : Nat) {n : Nat} (h : 0 < n) : (plc turn 1000 + 7 * (i : Int)).tmod (n : Int) = (spot turn i n : Int) := by
  have h0 := (plc_in (i := turn) (n := 1000) (by omega)).1
  unfold spot
  rw [Int.tmod_eq_emod_of_nonneg (by omega)]
  have h1 := Int.emod_nonneg (plc turn 1000 + 7 * (i : Int)) (show (n : Int) ≠ 0 by omega)
  omega
end Go.Proofs.Ytlikikiglicdlaa
