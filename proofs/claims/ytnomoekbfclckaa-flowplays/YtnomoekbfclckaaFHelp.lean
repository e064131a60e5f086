/-
  Helps of the laws: Place, whole numbers as cells.
-/
import Derived.Test.YtnomoekbfclckaaNLine
namespace Go.Proofs.Ytnomoekbfclckaa
open Go.RowKit

theorem tmod_emod {k n : Int} (hn : 0 < n) : (if k.tmod n < 0 then k.tmod n + n else k.tmod n) = k % n := by
  have h1 : 0 ≤ k % n := Int.emod_nonneg _ (by omega)
  have h2 : k % n < n := Int.emod_lt_of_pos _ hn
  have h3 := Int.emod_add_mul_ediv k n
  have h4 := Int.tmod_add_mul_tdiv k n
  rw [Int.tmod_eq_emod]
  have hn' : (n.natAbs : Int) = n := by omega
  split <;> split <;> omega
set_option maxHeartbeats 1000000 in
set_option maxRecDepth 100000 in
theorem Place_any (w : World) (k n : Int) (hn : 0 < n) (hn2 : n ≤ 1000000) : Calls Try.prog 8 #[.int .i64 k, .int .i64 n] w fun e w' => e = .returned (.int .i64 (k % n)) ∧ w' = w := by
  have hz : (n == 0) = false := by simp; omega
  have hz' : n ≠ 0 := by omega
  have hm1 : -n < k.tmod n := by
    have h5 := Int.lt_tmod_of_pos k hn
    omega
  have hm2 : k.tmod n < n := Int.tmod_lt_of_pos k hn
  have hw0 : IntKind.i64.wrap (k.tmod n) = k.tmod n := by rw [IntKind.wrap_i64]; omega
  have hw1 : wrap64 (k.tmod n) = k.tmod n := by unfold wrap64; omega
  have hw2 : wrap64 (k.tmod n + n) = k.tmod n + n := by unfold wrap64; omega
  have he := tmod_emod (k := k) hn
  by_cases h0 : k.tmod n < 0
  · rw [if_pos h0] at he
    go_enter Try.func8, Try.ntmps8
    go_wp2
    all_goals go_ret
    all_goals exact ⟨rfl, rfl⟩
  · rw [if_neg h0] at he
    go_enter Try.func8, Try.ntmps8
    go_wp2
    all_goals go_ret
    all_goals exact ⟨rfl, rfl⟩
def i64cs (x : Int) : List Value := [Value.int .i64 x]
theorem i64cs_len (x : Int) : (i64cs x).length = 1 := rfl
theorem i64cs_one (x : Int) : ∀ u ∈ i64cs x, u.oneCell' = true := fun u hu => by simp [i64cs] at hu; subst hu; rfl
theorem Row.lseg {base : Nat} {w : World} {v : Value} {xs : List Int} (h : Row 3 1 i64cs base w v xs) (hx : xs.length ≤ 1000000) : LSeg 1 i64cs w.heap.size w v xs := by
  rcases h with ⟨rfl, rfl⟩ | ⟨g, off, cap, cur, rfl, h2, h3, h4, h5, h6, h7⟩
  · exact ⟨none, 0, rfl, by simp, .inl rfl⟩
  · refine ⟨_, cap, rfl, by omega, .inr ⟨g, off, rfl, h3.lt, fun i x hx j u hu => ?_⟩⟩
    rw [h3.cellAt, Nat.add_assoc]
    exact h7 _ u (flat_get i64cs_len xs i j x u hx hu)
end Go.Proofs.Ytnomoekbfclckaa
