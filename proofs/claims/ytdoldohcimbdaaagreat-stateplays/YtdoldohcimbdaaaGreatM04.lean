/-
  Texts in build order: ARef.
-/
import Derived.Test.YtdoldohcimbdaaaGreatM03
/-
  All; the document's Zero, Add, Merge, All; the examples.
-/
namespace Go.Proofs.YtdoldohcimbdaaaGreat
open Go.RowKit

theorem RZero_any (w : World) (a : Int) : Calls Tryz.prog 54 #[.int .i64 a] w fun e w' => e = .returned (.int .i64 (zr a)) ∧ w' = w := by
  by_cases h3 : a = 3
  · subst h3
    go_enter Tryz.func54, Tryz.ntmps54
    go_wp2_with fail
    go_ret
    exact ⟨rfl, rfl⟩
  by_cases h4 : a = 4
  · subst h4
    go_enter Tryz.func54, Tryz.ntmps54
    go_wp2_with fail
    go_ret
    exact ⟨rfl, rfl⟩
  have HE : Hid (zr a = 0) := (show _ = _ by unfold zr; rw [if_neg h3, if_neg h4])
  generalize zr a = z at *
  go_enter Tryz.func54, Tryz.ntmps54
  go_wp2_with fail
  go_ret
  exact ⟨by rw [HE.out]; rfl, rfl⟩
theorem RMerge_any (w : World) (a x y : Int) : Calls Tryz.prog 56 #[.int .i64 a, .int .i64 x, .int .i64 y] w fun e w' => e = .returned (.int .i64 (jn a x y)) ∧ w' = w := by
  by_cases h1 : a = 1
  · subst h1
    rw [jn1]
    go_enter Tryz.func56, Tryz.ntmps56
    go_wp2_with fail
    go_ret
    exact ⟨rfl, rfl⟩
  by_cases h2 : a = 2
  · subst h2
    rw [jn2]
    go_enter Tryz.func56, Tryz.ntmps56
    go_wp2_with fail
    go_ret
    exact ⟨rfl, rfl⟩
  by_cases h3 : a = 3
  · subst h3
    rw [jn3]
    go_enter Tryz.func56, Tryz.ntmps56
    go_wp2_with fail
    all_goals (go_ret; exact ⟨rfl, rfl⟩)
  by_cases h4 : a = 4
  · subst h4
    rw [jn4]
    go_enter Tryz.func56, Tryz.ntmps56
    go_wp2_with fail
    all_goals (go_ret; exact ⟨rfl, rfl⟩)
  by_cases h5 : a = 5
  · subst h5
    rw [jn5]
    go_enter Tryz.func56, Tryz.ntmps56
    go_wp2_with fail
    go_ret
    exact ⟨rfl, rfl⟩
  rw [jn_none (by omega)]
  go_enter Tryz.func56, Tryz.ntmps56
  go_wp2_with fail
  go_ret
  exact ⟨rfl, rfl⟩
theorem RAdd_any (w : World) (a x v : Int) : Calls Tryz.prog 53 #[.int .i64 a, .int .i64 x, .int .i64 v] w fun e w' => e = .returned (.int .i64 (ad a x v)) ∧ w' = w := by
  by_cases h2 : a = 2
  · subst h2
    have HE : Hid (ad 2 x v = wrap64 (x + 1)) := (show _ = _ from rfl)
    generalize ad 2 x v = r at *
    go_enter Tryz.func53, Tryz.ntmps53
    go_wp2_with fail
    go_ret
    exact ⟨by rw [HE.out]; rfl, rfl⟩
  have HE : Hid (ad a x v = jn a x v) := (show _ = _ by unfold ad; rw [if_neg h2])
  have HM := hide (RMerge_any w a x v)
  generalize ad a x v = r at *
  generalize jn a x v = s at *
  go_enter Tryz.func53, Tryz.ntmps53
  go_wp2_with (refine HM.out.mono ?_; rintro e w1 ⟨rfl, rfl⟩)
  go_ret
  exact ⟨by rw [HE.out]; rfl, rfl⟩
end Go.Proofs.YtdoldohcimbdaaaGreat
