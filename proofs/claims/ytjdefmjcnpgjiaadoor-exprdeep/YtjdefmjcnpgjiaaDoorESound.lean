/-
  sound, ofBoth, konst, two.
-/
import Derived.Test.YtjdefmjcnpgjiaaDoorProg
import Derived.WalkKit
import Derived.Laws.StructEq
import Derived.Deep.RegionHeld
import Derived.Deep.RegionHeld3
import Derived.Deep.QuietTactic
import Derived.BigQuiet
import Derived.Test.YtjdefmjcnpgjiaaDoorEText
namespace Go.Proofs.YtjdefmjcnpgjiaaDoor
open Go.RowKit

theorem ret_bool {a b : Bool} (h : a = b) : Ending.returned (.bool a) = .returned (.bool b) := by rw [h]
theorem ret_int {k : IntKind} {a b : Int} (h : a = b) : Ending.returned (.int k a) = .returned (.int k b) := by rw [h]
theorem beq0 (k : Nat) : ((k : Int) == 0) = decide (k = 0) := by rw [Bool.eq_iff_iff]; simp
theorem below1 (w : World) (o : Obj) : Below w.heap.size w (w.alloc o) := (Below.refl _ _).alloc (Nat.le_refl _) o

set_option maxHeartbeats 4000000 in
set_option maxRecDepth 100000 in
theorem sound_any (op n : Int) (a : Option Addr) (k c : Nat) (w : World) :
    Calls Tryd.prog 30 #[.agg #[.int .i64 op, .int .i64 n, .slice a k c]] w fun r w' => r = .returned (.bool (snd1 op n k)) ∧ Below w.heap.size w w' := by
  have hb := hide (below1 w (.cells #[.int .i64 op, .int .i64 n, .slice a k c] 24))
  by_cases hall : op = 1 ∨ op = 2 ∨ op = 3 ∨ op = 4 ∨ op = 5 ∨ op = 6 ∨ op = 7 ∨ op = 8 ∨ op = 9 ∨ op = 10 ∨ op = 11 ∨ op = 12 ∨ op = 13 ∨ op = 14
  · by_cases hn : n = 0
    · subst hn
      rcases hall with rfl | rfl | rfl | rfl | rfl | rfl | rfl | rfl | rfl | rfl | rfl | rfl | rfl | rfl
      all_goals
        go_enter Tryd.func30, Tryd.ntmps30
        go_wp2
        go_ret
        exact ⟨ret_bool (by simp [snd1, ari]; try first | rfl | exact beq0 k), hb.out⟩
    · rcases hall with rfl | rfl | rfl | rfl | rfl | rfl | rfl | rfl | rfl | rfl | rfl | rfl | rfl | rfl
      all_goals
        go_enter Tryd.func30, Tryd.ntmps30
        go_wp2
        go_ret
        exact ⟨ret_bool (by simp [snd1, ari, hn]; try first | rfl | exact beq0 k), hb.out⟩
  · have h1 : ¬ op = 1 := by omega
    have h2 : ¬ op = 2 := by omega
    have h3 : ¬ op = 3 := by omega
    have h4 : ¬ op = 4 := by omega
    have h5 : ¬ op = 5 := by omega
    have h6 : ¬ op = 6 := by omega
    have h7 : ¬ op = 7 := by omega
    have h8 : ¬ op = 8 := by omega
    have h9 : ¬ op = 9 := by omega
    have h10 : ¬ op = 10 := by omega
    have h11 : ¬ op = 11 := by omega
    have h12 : ¬ op = 12 := by omega
    have h13 : ¬ op = 13 := by omega
    have h14 : ¬ op = 14 := by omega
    have hs : snd1 op n k = false := by
      cases e : snd1 op n k
      · rfl
      · exfalso
        unfold snd1 ari at e
        simp only [Bool.and_eq_true, decide_eq_true_eq] at e
        have e1 := e.1.1
        rw [if_neg (by omega), if_neg h14, if_neg (by omega)] at e1
        omega
    rw [hs]
    clear hall hs
    go_enter Tryd.func30, Tryd.ntmps30
    go_wp2
    go_ret
    exact ⟨rfl, hb.out⟩

set_option maxHeartbeats 4000000 in
set_option maxRecDepth 100000 in
theorem ofBoth_any (op a b : Int) (hop : 5 ≤ op ∧ op ≤ 13) (w : World) :
    Calls Tryd.prog 31 #[.int .i64 op, .int .i64 a, .int .i64 b] w fun r w' => r = .returned (.int .i64 (bth op a b)) ∧ w' = w := by
  have hall : op = 5 ∨ op = 6 ∨ op = 7 ∨ op = 8 ∨ op = 9 ∨ op = 10 ∨ op = 11 ∨ op = 12 ∨ op = 13 := by omega
  rcases hall with rfl | rfl | rfl | rfl | rfl | rfl | rfl | rfl | rfl
  · go_enter Tryd.func31, Tryd.ntmps31
    go_wp2
    go_ret
    exact ⟨ret_int (by simp [bth]), rfl⟩
  · go_enter Tryd.func31, Tryd.ntmps31
    go_wp2
    go_ret
    exact ⟨ret_int (by simp only [bth]; simp; simp only [wrap64]; omega), rfl⟩
  · go_enter Tryd.func31, Tryd.ntmps31
    go_wp2
    go_ret
    exact ⟨ret_int (by simp [bth]), rfl⟩
  · go_enter Tryd.func31, Tryd.ntmps31
    go_wp2
    all_goals
      go_ret
      exact ⟨ret_int (by simp [bth]; try omega), rfl⟩
  · go_enter Tryd.func31, Tryd.ntmps31
    go_wp2
    all_goals
      go_ret
      exact ⟨ret_int (by simp [bth]; try omega), rfl⟩
  · go_enter Tryd.func31, Tryd.ntmps31
    go_wp2
    go_ret
    exact ⟨ret_int (by simp [bth]), rfl⟩
  · go_enter Tryd.func31, Tryd.ntmps31
    go_wp2
    go_ret
    exact ⟨ret_int (by simp [bth]), rfl⟩
  · go_enter Tryd.func31, Tryd.ntmps31
    go_wp2
    all_goals
      go_ret
      exact ⟨ret_int (by simp [bth]; try omega), rfl⟩
  · go_enter Tryd.func31, Tryd.ntmps31
    go_wp2
    all_goals
      go_ret
      exact ⟨ret_int (by simp_all [bth]), rfl⟩
end Go.Proofs.YtjdefmjcnpgjiaaDoor
