/-
  Helps of the laws: steps of scripts, Place, Ints.
-/
import Derived.Test.YtcjjhgfjfeecmaaNLine
namespace Go.Proofs.Ytcjjhgfjfeecmaa
open Go.RowKit

theorem tmod_emod {k n : Int} (hn : 0 < n) : (if k.tmod n < 0 then k.tmod n + n else k.tmod n) = k % n := by
  have h1 : 0 ≤ k % n := Int.emod_nonneg _ (by omega)
  have h2 : k % n < n := Int.emod_lt_of_pos _ hn
  have h3 := Int.emod_add_mul_ediv k n
  have h4 := Int.tmod_add_mul_tdiv k n
  rw [Int.tmod_eq_emod]
  have hn' : (n.natAbs : Int) = n := by omega
  split <;> split <;> omega
set_option maxHeartbeats 1000000 in
set_option maxRecDepth 100000 in
theorem Place_any (w : World) (k n : Int) (hn : 0 < n) (hn2 : n ≤ 1000000) : Calls Try.prog 18 #[.int .i64 k, .int .i64 n] w fun e w' => e = .returned (.int .i64 (k % n)) ∧ w' = w := by
  have hz : (n == 0) = false := by simp; omega
  have hz' : n ≠ 0 := by omega
  have hm1 : -n < k.tmod n := by
    have h5 := Int.lt_tmod_of_pos k hn
    omega
  have hm2 : k.tmod n < n := Int.tmod_lt_of_pos k hn
  have hw0 : IntKind.i64.wrap (k.tmod n) = k.tmod n := by rw [IntKind.wrap_i64]; omega
  have hw1 : wrap64 (k.tmod n) = k.tmod n := by unfold wrap64; omega
  have hw2 : wrap64 (k.tmod n + n) = k.tmod n + n := by unfold wrap64; omega
  have he := tmod_emod (k := k) hn
  by_cases h0 : k.tmod n < 0
  · rw [if_pos h0] at he
    go_enter Try.func18, Try.ntmps18
    go_wp2
    all_goals go_ret
    all_goals exact ⟨rfl, rfl⟩
  · rw [if_neg h0] at he
    go_enter Try.func18, Try.ntmps18
    go_wp2
    all_goals go_ret
    all_goals exact ⟨rfl, rfl⟩
set_option maxHeartbeats 1000000 in
set_option maxRecDepth 100000 in
theorem wrapped_any (w : World) (k n : Int) (hn : 0 < n) (hn2 : n ≤ 1000000) : Calls Try.prog 33 #[.int .i64 k, .int .i64 n] w fun e w' => e = .returned (.int .i64 (k % n)) ∧ w' = w := by
  have hz : (n == 0) = false := by simp; omega
  have hz' : n ≠ 0 := by omega
  have hm1 : -n < k.tmod n := by
    have h5 := Int.lt_tmod_of_pos k hn
    omega
  have hm2 : k.tmod n < n := Int.tmod_lt_of_pos k hn
  have hw0 : IntKind.i64.wrap (k.tmod n) = k.tmod n := by rw [IntKind.wrap_i64]; omega
  have hw1 : wrap64 (k.tmod n) = k.tmod n := by unfold wrap64; omega
  have hw2 : wrap64 (k.tmod n + n) = k.tmod n + n := by unfold wrap64; omega
  have he := tmod_emod (k := k) hn
  by_cases h0 : k.tmod n < 0
  · rw [if_pos h0] at he
    go_enter Try.func33, Try.ntmps33
    go_wp2
    all_goals go_ret
    all_goals exact ⟨rfl, rfl⟩
  · rw [if_neg h0] at he
    go_enter Try.func33, Try.ntmps33
    go_wp2
    all_goals go_ret
    all_goals exact ⟨rfl, rfl⟩
def i64cs (x : Int) : List Value := [Value.int .i64 x]
theorem i64cs_len (x : Int) : (i64cs x).length = 1 := rfl
theorem i64cs_one (x : Int) : ∀ u ∈ i64cs x, u.oneCell' = true := fun u hu => by simp [i64cs] at hu; subst hu; rfl
/-- A step of a script. -/
structure Stp where
  wh : Int
  x : Int
  n : Int
def Stp.cs (p : Stp) : List Value := [.int .i64 p.wh, .int .i64 p.x, .int .i64 p.n]
theorem LSeg.stp {B : Nat} {w : World} {xs : List Stp} {ao : Option Addr} {cap : Nat} (h : LSeg 3 Stp.cs B w (.slice ao xs.length cap) xs) {i : Nat} {p : Stp} (hp : xs[i]? = some p) :
    ∃ b off, ao = some ⟨b, off, none⟩ ∧ b < B ∧ w.cell? ⟨b, off + i * 3, none⟩ = some (.int .i64 p.wh) ∧ w.cell? ⟨b, off + i * 3 + 1, none⟩ = some (.int .i64 p.x) ∧ w.cell? ⟨b, off + i * 3 + 2, none⟩ = some (.int .i64 p.n) := by
  obtain ⟨ao', cap', e, h2, h4⟩ := h
  cases e
  rcases h4 with h4 | ⟨b, off, h5, h6, h7⟩
  · subst h4; simp at hp
  · exact ⟨b, off, h5, h6, h7 i p hp 0 _ rfl, h7 i p hp 1 _ rfl, h7 i p hp 2 _ rfl⟩
theorem Row.lseg {base : Nat} {w : World} {v : Value} {xs : List Int} (h : Row 3 1 i64cs base w v xs) (hx : xs.length ≤ 1000000) : LSeg 1 i64cs w.heap.size w v xs := by
  rcases h with ⟨rfl, rfl⟩ | ⟨g, off, cap, cur, rfl, h2, h3, h4, h5, h6, h7⟩
  · exact ⟨none, 0, rfl, by simp, .inl rfl⟩
  · refine ⟨_, cap, rfl, by omega, .inr ⟨g, off, rfl, h3.lt, fun i x hx j u hu => ?_⟩⟩
    rw [h3.cellAt, Nat.add_assoc]
    exact h7 _ u (flat_get i64cs_len xs i j x u hx hu)
set_option maxHeartbeats 1000000 in
set_option maxRecDepth 100000 in
/-- Ints of equal lists. -/
theorem Ints_any {w : World} {va vb : Value} {xs : List Int} (ha : LSeg 1 i64cs w.heap.size w va xs) (hb : LSeg 1 i64cs w.heap.size w vb xs) :
    Calls Try.prog 13 #[va, vb] w fun e w' => e = .returned (.bool true) ∧ Below w.heap.size w w' := by
  obtain ⟨aa, ca, rfl, la, ha⟩ := ha
  obtain ⟨ab, cb, rfl, lb, hb⟩ := hb
  have HA := hide ha
  have HB := hide hb
  clear ha hb
  generalize hlx : xs.length = n at *
  have HX := hide hlx
  clear hlx
  go_enter Try.func13, Try.ntmps13
  go_wp2_with fail
  go_loopw [5] (fun iv wr => ∃ i : Nat, i ≤ n ∧ iv = .int .i64 i ∧ Hid (Below w.heap.size w wr)) (fun iv _ => n - (intOf iv).toNat)
  case atStart => exact ⟨0, Nat.zero_le _, rfl, Below.refl _ _⟩
  case round =>
    obtain ⟨i, hi, rfl, HI⟩ := hrel
    by_cases hlt : i < n
    · obtain ⟨x, hx⟩ : ∃ x, xs[i]? = some x := ⟨_, List.getElem?_eq_getElem (by rw [HX.out]; exact hlt)⟩
      rcases HA.out with h | ⟨b1, o1, rfl, l1, h1⟩
      · rw [h] at hx; cases hx
      rcases HB.out with h | ⟨b2, o2, rfl, l2, h2⟩
      · rw [h] at hx; cases hx
      have c1 := (HI.out.cell (p := ⟨b1, o1 + i, none⟩) l1).trans (by simpa using h1 i x hx 0 _ rfl)
      have c2 := (HI.out.cell (p := ⟨b2, o2 + i, none⟩) l2).trans (by simpa using h2 i x hx 0 _ rfl)
      clear h1 h2 HA HB
      go_wp2
      go_region
      all_goals
        go_wp2
        go_roundw
        case rel => exact ⟨i + 1, by omega, by go_num, HI.out.drew⟩
        case measure => simp [intOf]; omega
    · obtain rfl : i = n := by omega
      go_wp2
      go_ret
      exact ⟨rfl, HI.out⟩
end Go.Proofs.Ytcjjhgfjfeecmaa
