/-
  What ExprLaws leans on: plain arithmetic modulo 2^64, and how trees of the law's own are worth and weigh.
-/
import Derived.Test.YtjdefmjcnpgjiaaDoorEFace
namespace Go.Proofs.YtjdefmjcnpgjiaaDoor
open Go.RowKit

theorem size_mk2 (op : Int) (g : Nat) (a b : Ex) : size (mk2 op g a b) = 1 + (size a + size b) := by
  unfold mk2; rw [size_mk]; simp
theorem dep_mk2 (op : Int) (g : Nat) (a b : Ex) : dep (mk2 op g a b) = 1 + max (dep a) (dep b) := by
  unfold mk2; rw [dep_mk]; simp
theorem size_mk3 (op : Int) (g : Nat) (a b c : Ex) : size (mk3 op g a b c) = 1 + (size a + (size b + size c)) := by
  unfold mk3; rw [size_mk]; simp
theorem dep_mk3 (op : Int) (g : Nat) (a b c : Ex) : dep (mk3 op g a b c) = 1 + max (dep a) (max (dep b) (dep c)) := by
  unfold mk3; rw [dep_mk]; simp
theorem size_leaf (op n : Int) : size (leaf op n) = 1 := by unfold leaf; rw [size_mk]; simp
theorem dep_leaf (op n : Int) : dep (leaf op n) = 1 := by unfold leaf; rw [dep_mk]; simp
theorem evl_mk2 (r : Rc) (op : Int) (h : 5 ≤ op ∧ op ≤ 13) (g : Nat) (a b : Ex) : evl r (mk2 op g a b) = bth op (evl r a) (evl r b) := by
  have h1 : ¬ op = 1 := by omega
  have h2 : ¬ op = 2 := by omega
  have h3 : ¬ op = 3 := by omega
  have h4 : ¬ op = 4 := by omega
  have h5 : ¬ op = 14 := by omega
  unfold mk2
  rw [evl_mk]
  simp [evl1, h1, h2, h3, h4, h5]
theorem evl_mk3 (r : Rc) (g : Nat) (c a b : Ex) : evl r (mk3 14 g c a b) = if evl r c = 0 then evl r b else evl r a := by
  unfold mk3
  rw [evl_mk]
  simp [evl1]
theorem evl_c (r : Rc) (n : Int) : evl r (leaf 1 n) = n := by unfold leaf; rw [evl_mk]; simp [evl1]
theorem b5 (x y : Int) : bth 5 x y = wrap64 (x + y) := rfl
theorem b6 (x y : Int) : bth 6 x y = wrap64 (x - y) := rfl
theorem b7 (x y : Int) : bth 7 x y = wrap64 (x * y) := rfl
theorem b8 (x y : Int) : bth 8 x y = if x ≤ y then x else y := rfl
theorem b9 (x y : Int) : bth 9 x y = if x ≤ y then y else x := rfl
theorem b10 (x y : Int) : bth 10 x y = bits .xor .i64 x y := rfl
theorem b12 (x y : Int) : bth 12 x y = if x < y then 1 else 0 := rfl
theorem b13 (x y : Int) : bth 13 x y = if x = y then 1 else 0 := rfl
theorem wrap_add (z m : Int) : wrap64 (z + 18446744073709551616 * m) = wrap64 z := by unfold wrap64; omega
theorem wrap_ex (y : Int) : ∃ k, wrap64 y = y + 18446744073709551616 * k := ⟨(wrap64 y - y) / 18446744073709551616, by unfold wrap64; omega⟩
theorem wrap_mul (x y : Int) : wrap64 (x * wrap64 y) = wrap64 (x * y) := by
  obtain ⟨k, hk⟩ := wrap_ex y
  rw [hk, Int.mul_add, show x * (18446744073709551616 * k) = 18446744073709551616 * (x * k) by rw [← Int.mul_assoc, Int.mul_comm x, Int.mul_assoc], wrap_add]
theorem law3 (x y z : Int) : wrap64 (x + wrap64 (y + z)) = wrap64 (wrap64 (x + y) + z) := by unfold wrap64; omega
theorem law4 (x y z : Int) : wrap64 (x * wrap64 (y + z)) = wrap64 (wrap64 (x * y) + wrap64 (x * z)) := by
  rw [wrap_mul, Int.mul_add]
  generalize x * y = p
  generalize x * z = q
  unfold wrap64; omega
theorem law5 (x y : Int) : wrap64 (x - y) = wrap64 (x + wrap64 (y * -1)) := by unfold wrap64; omega
theorem law7 (x : Int) : bits .xor .i64 x x = 0 := by
  show IntKind.i64.wrap (((BitVec.ofInt 64 x) ^^^ (BitVec.ofInt 64 x)).toNat : Int) = 0
  rw [BitVec.xor_self]
  rfl
theorem law9 (x y : Int) : wrap64 ((if x ≤ y then x else y) + (if x ≤ y then y else x)) = wrap64 (x + y) := by
  by_cases h : x ≤ y
  · rw [if_pos h, if_pos h]
  · rw [if_neg h, if_neg h, Int.add_comm]
theorem law10 (x y : Int) : wrap64 ((if x < y then 1 else 0) + wrap64 ((if y < x then 1 else 0) + (if x = y then 1 else 0))) = 1 := by
  rcases Int.lt_trichotomy x y with h | h | h
  · rw [if_pos h, if_neg (by omega), if_neg (by omega)]; unfold wrap64; omega
  · rw [if_neg (by omega), if_neg (by omega), if_pos h]; unfold wrap64; omega
  · rw [if_neg (by omega), if_pos h, if_neg (by omega)]; unfold wrap64; omega
end Go.Proofs.YtjdefmjcnpgjiaaDoor
