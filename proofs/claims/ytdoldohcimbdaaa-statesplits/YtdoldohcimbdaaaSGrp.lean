/-
  Groups of keys, parts of groups.
-/
import Derived.Test.YtdoldohcimbdaaaWBase
namespace Go.Proofs.Ytdoldohcimbdaaa
open Go.RowKit

/-- The group of a key. -/
def grp (key : Int) : Nat := ((key % 18446744073709551616).toNat * 11400714819323198485 % 18446744073709551616) / 1152921504606846976
theorem grp_lt (key : Int) : grp key < 16 := by unfold grp; omega
/-- The part of a group. -/
def prt (g par : Int) : Int := if g < 0 ∨ 16 ≤ g ∨ par < 1 ∨ 4 < par then 0 else g * par / 16

theorem tdiv_small {m : Int} (h0 : 0 ≤ m) (h1 : m ≤ 15 * 4) : wrap64 ((wrap64 m).tdiv 16) = m / 16 := by
  have : wrap64 m = m := by unfold wrap64; omega
  rw [this, Int.tdiv_eq_ediv_of_nonneg h0]
  unfold wrap64
  omega
theorem grp_eq (key : Int) : wrap64 (IntKind.u64.wrap (IntKind.u64.wrap key * 11400714819323198485) / 1152921504606846976) = (grp key : Int) := by
  have h1 : IntKind.u64.wrap key = ((key % 18446744073709551616).toNat : Int) := by
    have hb : IntKind.u64.bits = 64 := rfl
    have hs : IntKind.u64.signed = false := rfl
    simp only [IntKind.wrap, hb, hs, Bool.false_and, Bool.false_eq_true, if_false]
    omega
  have h2 : ∀ n : Nat, IntKind.u64.wrap ((n : Int) * 11400714819323198485) = ((n * 11400714819323198485 % 18446744073709551616 : Nat) : Int) := by
    intro n
    have hb : IntKind.u64.bits = 64 := rfl
    have hs : IntKind.u64.signed = false := rfl
    simp only [IntKind.wrap, hb, hs, Bool.false_and, Bool.false_eq_true, if_false]
    omega
  rw [h1, h2]
  have h3 := grp_lt key
  unfold grp at h3 ⊢
  generalize (key % 18446744073709551616).toNat * 11400714819323198485 % 18446744073709551616 = q at *
  have h4 : ((q : Int) / 1152921504606846976) = ((q / 1152921504606846976 : Nat) : Int) := by omega
  rw [h4]
  generalize q / 1152921504606846976 = r at *
  unfold wrap64
  omega
set_option maxHeartbeats 1000000 in
set_option maxRecDepth 100000 in
theorem Group_any (w : World) (key : Int) :
    Calls Try.prog 36 #[.int .i64 key] w fun e w' => e = .returned (.int .i64 (grp key)) ∧ w = w' := by
  have HG := hide (grp_eq key)
  go_enter Try.func36, Try.ntmps36
  go_wp2_with fail
  go_ret
  exact ⟨ret_int HG.out, rfl⟩
set_option maxHeartbeats 1000000 in
set_option maxRecDepth 100000 in
theorem RGroup_any (w : World) (key : Int) :
    Calls Try.prog 20 #[.int .i64 key] w fun e w' => e = .returned (.int .i64 (grp key)) ∧ w = w' := by
  have HG := hide (grp_eq key)
  go_enter Try.func20, Try.ntmps20
  go_wp2_with fail
  go_ret
  exact ⟨ret_int HG.out, rfl⟩
set_option maxHeartbeats 1000000 in
set_option maxRecDepth 100000 in
theorem Part_any (w : World) (g par : Int) :
    Calls Try.prog 35 #[.int .i64 g, .int .i64 par] w fun e w' => e = .returned (.int .i64 (prt g par)) ∧ w = w' := by
  obtain ⟨R, hR⟩ : ∃ R, prt g par = R := ⟨_, rfl⟩
  rw [hR]
  unfold prt at hR
  by_cases h1 : g < 0
  · rw [if_pos (by omega)] at hR
    subst hR
    go_enter Try.func35, Try.ntmps35
    go_wp2_with fail
    go_ret
    exact ⟨rfl, rfl⟩
  by_cases h2 : (16 : Int) ≤ g
  · rw [if_pos (by omega)] at hR
    subst hR
    go_enter Try.func35, Try.ntmps35
    go_wp2_with fail
    go_ret
    exact ⟨rfl, rfl⟩
  by_cases h3 : par < 1
  · rw [if_pos (by omega)] at hR
    subst hR
    go_enter Try.func35, Try.ntmps35
    go_wp2_with fail
    go_ret
    exact ⟨rfl, rfl⟩
  by_cases h4 : (4 : Int) < par
  · rw [if_pos (by omega)] at hR
    subst hR
    go_enter Try.func35, Try.ntmps35
    go_wp2_with fail
    go_ret
    exact ⟨rfl, rfl⟩
  rw [if_neg (by omega)] at hR
  have hm : 0 ≤ g * par ∧ g * par ≤ 15 * 4 := ⟨Int.mul_nonneg (by omega) (by omega), Int.mul_le_mul (by omega) (by omega) (by omega) (by omega)⟩
  have HR := hide hR
  have HM := hide hm
  clear hR hm
  go_enter Try.func35, Try.ntmps35
  go_wp2_with fail
  go_ret
  exact ⟨ret_int (by rw [← HR.out]; exact tdiv_small HM.out.1 HM.out.2), rfl⟩
set_option maxHeartbeats 1000000 in
set_option maxRecDepth 100000 in
theorem RPart_any (w : World) (g par : Int) :
    Calls Try.prog 19 #[.int .i64 g, .int .i64 par] w fun e w' => e = .returned (.int .i64 (prt g par)) ∧ w = w' := by
  obtain ⟨R, hR⟩ : ∃ R, prt g par = R := ⟨_, rfl⟩
  rw [hR]
  unfold prt at hR
  by_cases h1 : g < 0
  · rw [if_pos (by omega)] at hR
    subst hR
    go_enter Try.func19, Try.ntmps19
    go_wp2_with fail
    go_ret
    exact ⟨rfl, rfl⟩
  by_cases h2 : (16 : Int) ≤ g
  · rw [if_pos (by omega)] at hR
    subst hR
    go_enter Try.func19, Try.ntmps19
    go_wp2_with fail
    go_ret
    exact ⟨rfl, rfl⟩
  by_cases h3 : par < 1
  · rw [if_pos (by omega)] at hR
    subst hR
    go_enter Try.func19, Try.ntmps19
    go_wp2_with fail
    go_ret
    exact ⟨rfl, rfl⟩
  by_cases h4 : (4 : Int) < par
  · rw [if_pos (by omega)] at hR
    subst hR
    go_enter Try.func19, Try.ntmps19
    go_wp2_with fail
    go_ret
    exact ⟨rfl, rfl⟩
  rw [if_neg (by omega)] at hR
  have hm : 0 ≤ g * par ∧ g * par ≤ 15 * 4 := ⟨Int.mul_nonneg (by omega) (by omega), Int.mul_le_mul (by omega) (by omega) (by omega) (by omega)⟩
  have HR := hide hR
  have HM := hide hm
  clear hR hm
  go_enter Try.func19, Try.ntmps19
  go_wp2_with fail
  go_ret
  exact ⟨ret_int (by rw [← HR.out]; exact tdiv_small HM.out.1 HM.out.2), rfl⟩
end Go.Proofs.Ytdoldohcimbdaaa
