import Derived.Test.YtaajjejgjnlbgabDoorCrc
namespace Go.Proofs.YtaajjejgjnlbgabDoor
open Go.RowKit

def bstepN : Nat → Nat → Nat
  | 0, c => c
  | k + 1, c => bstep (bstepN k c)
theorem bstepN8 (c : Nat) : bstepN 8 c = nstep (nstep c) := by
  rw [← bstep4, ← bstep4]; rfl
theorem bstep_lt {c : Nat} (hc : c < 4294967296) : bstep c < 4294967296 := by
  unfold bstep
  split
  · exact xor_lt32 (by omega) (by omega)
  · omega
theorem bstepN_lt {c : Nat} (hc : c < 4294967296) (k : Nat) : bstepN k c < 4294967296 := by
  induction k with
  | zero => exact hc
  | succ k ih => exact bstep_lt ih
theorem and1 (z : Nat) (hz : z < 4294967296) : bits .and .u32 (z : Int) 1 = ((z % 2 : Nat) : Int) := by
  have h := u32_and_nat z 1 hz (by omega)
  have e : z &&& 1 = z % 2 := Nat.and_two_pow_sub_one_eq_mod z 1
  rw [e] at h
  exact h

/-- Place: a number from 0 to n - 1. -/
theorem Place_any (k n : Int) (w : World) (hk : I64 k) (h0 : 0 < n) (h1 : n ≤ 1000000000) :
    Calls Tryd.prog 8 #[.int .i64 k, .int .i64 n] w fun e w' => ∃ p : Nat, e = .returned (.int .i64 p) ∧ (p : Int) < n ∧ w' = w := by
  obtain ⟨k1, k2⟩ := hk
  have hb1 := Int.tmod_lt_of_pos k h0
  have hb2 := Int.lt_tmod_of_pos k h0
  have hne : (n == 0) = false := beq_eq_false_iff_ne.2 (by omega)
  have hne' : ¬ n = 0 := by omega
  by_cases hneg : k.tmod n < 0
  · go_enter Tryd.func8, Tryd.ntmps8
    go_wp2
    go_ret
    refine ⟨(k.tmod n + n).toNat, ?_, ?_, rfl⟩
    · exact congrArg (fun q => Ending.returned (Value.int .i64 q)) (by omega)
    · omega
  · go_enter Tryd.func8, Tryd.ntmps8
    go_wp2
    go_ret
    refine ⟨(k.tmod n).toNat, ?_, ?_, rfl⟩
    · exact congrArg (fun q => Ending.returned (Value.int .i64 q)) (by omega)
    · omega
end Go.Proofs.YtaajjejgjnlbgabDoor
