/-
  Turning a list; spans of any time (pure).
-/
import Derived.Test.YtdoldohcimbdaaaSWeak
namespace Go.Proofs.Ytdoldohcimbdaaa
open Go.RowKit

theorem swap_perm {α : Type} {l : List α} {i j : Nat} {x y : α} (hi : l[i]? = some x) (hj : l[j]? = some y) : ((l.set i y).set j x).Perm l := by
  obtain ⟨hil, hi⟩ := List.getElem?_eq_some_iff.1 hi
  obtain ⟨hjl, hj⟩ := List.getElem?_eq_some_iff.1 hj
  have h := Array.swap_perm (xs := l.toArray) (i := i) (j := j) (by simpa using hil) (by simpa using hjl)
  have e : (l.toArray.swap i j (by simpa using hil) (by simpa using hjl)).toList = (l.set i y).set j x := by
    subst hi hj
    simp [Array.swap_def]
  have h2 := h.toList
  rw [e] at h2
  exact h2
/-- Where a turn of i goes. -/
def spot (turn : Int) (i n : Nat) : Nat := ((plc turn 1000 + 7 * (i : Int)) % (n : Int)).toNat
theorem spot_lt (turn : Int) (i : Nat) {n : Nat} (h : 0 < n) : spot turn i n < n := by
  unfold spot
  have h1 := Int.emod_nonneg (plc turn 1000 + 7 * (i : Int)) (show (n : Int) ≠ 0 by omega)
  have h2 := Int.emod_lt_of_pos (plc turn 1000 + 7 * (i : Int)) (show (0 : Int) < n by omega)
  omega
theorem spot_eq (turn : Int) (i : Nat) {n : Nat} (h : 0 < n) : (plc turn 1000 + 7 * (i : Int)).tmod (n : Int) = (spot turn i n : Int) := by
  have h0 := (plc_in (i := turn) (n := 1000) (by omega)).1
  unfold spot
  rw [Int.tmod_eq_emod_of_nonneg (by omega)]
  have h1 := Int.emod_nonneg (plc turn 1000 + 7 * (i : Int)) (show (n : Int) ≠ 0 by omega)
  omega
theorem sps_in {k size slide t : Int} (ht : In64 t) : ∀ sp ∈ sps k size slide t, In64 sp.f ∧ In64 sp.t := by
  intro sp hsp
  unfold sps at hsp
  split at hsp
  · rw [List.mem_singleton] at hsp
    subst hsp
    unfold In64
    exact ⟨by dsimp only; omega, by dsimp only; omega⟩
  · have hr : ∀ {s l : Int}, ∀ sp ∈ rgl s l t, In64 sp.f ∧ In64 sp.t := by
      intro s l sp hsp
      unfold rgl at hsp
      split at hsp
      · cases hsp
      split at hsp
      · cases hsp
      · obtain ⟨i, _, rfl⟩ := List.mem_map.1 hsp
        exact ⟨wrap64_in _, wrap64_in _⟩
    unfold pSpans at hsp
    split at hsp
    · cases hsp
    split at hsp
    · exact hr sp hsp
    split at hsp
    · exact hr sp hsp
    split at hsp
    · rw [List.mem_singleton] at hsp
      subst hsp
      exact ⟨ht, wrap64_in _⟩
    · cases hsp
theorem put_weak {W : World} {s : Nat} {k size slide a : Int} {fp : Nat → Prop} {M : List Pn} (h : SA W s k size slide a fp M) (hs : In64 size) (hsl : In64 slide) (rk rt rv : Int) (hrk : In64 rk) (hrt : In64 rt) (hrv : In64 rv) (hM : M.length ≤ 90000) :
    Calls Try.prog 13 #[.pointer (some ⟨s, 0, none⟩), .agg #[.int .i64 rk, .int .i64 rt, .int .i64 rv]] W fun e w' => e = .returned (.tuple #[]) ∧ ∃ fp' M', SA w' s k size slide a fp' M' ∧ FT fp fp' W w' ∧ M'.length ≤ M.length + 64 :=
  (PutW_any h hs hsl ⟨rk, rt, rv⟩ hrk hrv (sps_in hrt) hM).mono fun _ _ h => h
end Go.Proofs.Ytdoldohcimbdaaa
