/-
  Texts in build order: ACalls.
-/
import Derived.Test.YtdoldohcimbdaaaGreatM01
import Derived.Laws.EntriesVeiled
/-
  The calls of package agg, and the document's.
-/
namespace Go.Proofs.YtdoldohcimbdaaaGreat
open Go.RowKit

theorem below_box (w : World) (o : Obj) : Below w.heap.size w (w.alloc o) := (Below.refl _ _).alloc (Nat.le_refl _) _
theorem runF19 (args : Array Value) (W : World) : (callFunc 65 args).run Tryz.prog W = .ok (.enter 65 args) W := by kernel_rfl
theorem runF20 (args : Array Value) (W : World) : (callFunc 66 args).run Tryz.prog W = .ok (.enter 66 args) W := by kernel_rfl
theorem runF21 (args : Array Value) (W : World) : (callFunc 67 args).run Tryz.prog W = .ok (.enter 67 args) W := by kernel_rfl
theorem runF22 (args : Array Value) (W : World) : (callFunc 68 args).run Tryz.prog W = .ok (.enter 68 args) W := by kernel_rfl
theorem runF23 (args : Array Value) (W : World) : (callFunc 69 args).run Tryz.prog W = .ok (.enter 69 args) W := by kernel_rfl
theorem runF24 (args : Array Value) (W : World) : (callFunc 70 args).run Tryz.prog W = .ok (.enter 70 args) W := by kernel_rfl
theorem runF25 (args : Array Value) (W : World) : (callFunc 71 args).run Tryz.prog W = .ok (.enter 71 args) W := by kernel_rfl
theorem itself_any (w : World) (x : Int) : Calls Tryz.prog 65 #[.int .i64 x] w fun e w' => e = .returned (.int .i64 x) ∧ w' = w := by
  go_enter Tryz.func65, Tryz.ntmps65
  go_wp2_with fail
  go_ret
  exact ⟨rfl, rfl⟩
theorem once_any (w : World) (x : Int) : Calls Tryz.prog 67 #[.int .i64 x] w fun e w' => e = .returned (.int .i64 1) ∧ w' = w := by
  go_enter Tryz.func67, Tryz.ntmps67
  go_wp2_with fail
  go_ret
  exact ⟨rfl, rfl⟩
theorem sum_any (w : World) (x y : Int) : Calls Tryz.prog 66 #[.int .i64 x, .int .i64 y] w fun e w' => e = .returned (.int .i64 (wrap64 (x + y))) ∧ w' = w := by
  go_enter Tryz.func66, Tryz.ntmps66
  go_wp2_with fail
  go_ret
  exact ⟨rfl, rfl⟩
theorem lesser_any (w : World) (x y : Int) : Calls Tryz.prog 68 #[.int .i64 x, .int .i64 y] w fun e w' => e = .returned (.int .i64 (if y < x then y else x)) ∧ w' = w := by
  go_enter Tryz.func68, Tryz.ntmps68
  go_wp2_with fail
  all_goals (go_ret; exact ⟨rfl, rfl⟩)
theorem greater_any (w : World) (x y : Int) : Calls Tryz.prog 69 #[.int .i64 x, .int .i64 y] w fun e w' => e = .returned (.int .i64 (if y > x then y else x)) ∧ w' = w := by
  go_enter Tryz.func69, Tryz.ntmps69
  go_wp2_with fail
  all_goals (go_ret; exact ⟨rfl, rfl⟩)
theorem unlike_any (w : World) (x y : Int) : Calls Tryz.prog 70 #[.int .i64 x, .int .i64 y] w fun e w' => e = .returned (.int .i64 (xr x y)) ∧ w' = w := by
  go_enter Tryz.func70, Tryz.ntmps70
  go_wp2_with fail
  go_ret
  exact ⟨rfl, rfl⟩
theorem nothing_any (w : World) (x y : Int) : Calls Tryz.prog 71 #[.int .i64 x, .int .i64 y] w fun e w' => e = .returned (.int .i64 0) ∧ w' = w := by
  go_enter Tryz.func71, Tryz.ntmps71
  go_wp2_with fail
  go_ret
  exact ⟨rfl, rfl⟩
/-- An aggregate's functions. -/
def oneF (a : Int) : Nat := if a = 2 then 67 else 65
def joinF (a : Int) : Nat := if a = 1 then 66 else if a = 2 then 66 else if a = 3 then 68 else if a = 4 then 69 else if a = 5 then 70 else 71
def mon (a : Int) : Value := .agg #[.int .i64 (zr a), .func (.func (oneF a)) #[] #[], .func (.func (joinF a)) #[] #[]]
theorem oneF_run (a : Int) (args : Array Value) (W : World) : (callFunc (oneF a) args).run Tryz.prog W = .ok (.enter (oneF a) args) W := by
  unfold oneF; split
  · exact runF21 _ _
  · exact runF19 _ _
theorem joinF_run (a : Int) (args : Array Value) (W : World) : (callFunc (joinF a) args).run Tryz.prog W = .ok (.enter (joinF a) args) W := by
  unfold joinF
  split
  · exact runF20 _ _
  split
  · exact runF20 _ _
  split
  · exact runF22 _ _
  split
  · exact runF23 _ _
  split
  · exact runF24 _ _
  · exact runF25 _ _
theorem one_any (w : World) (a v : Int) : Calls Tryz.prog (oneF a) #[.int .i64 v] w fun e w' => e = .returned (.int .i64 (if a = 2 then 1 else v)) ∧ w' = w := by
  unfold oneF; split
  · exact once_any w v
  · exact itself_any w v
theorem join_any (w : World) (a x y : Int) : Calls Tryz.prog (joinF a) #[.int .i64 x, .int .i64 y] w fun e w' => e = .returned (.int .i64 (jn a x y)) ∧ w' = w := by
  unfold joinF jn
  split
  · exact sum_any w x y
  split
  · exact sum_any w x y
  split
  · exact lesser_any w x y
  split
  · exact greater_any w x y
  split
  · exact unlike_any w x y
  · exact nothing_any w x y
set_option maxHeartbeats 1000000 in
theorem find_any (w : World) (a : Int) : Calls Tryz.prog 48 #[.int .i64 a] w fun e w' => e = .returned (.tuple #[mon a, .bool (decide (1 ≤ a ∧ a ≤ 5))]) ∧ Below w.heap.size w w' := by
  by_cases h1 : a = 1
  · subst h1
    have HE : Hid (Ending.returned (.tuple #[.agg #[.int .i64 (0), .func (.func 65) #[] #[], .func (.func 66) #[] #[]], .bool true]) = Ending.returned (.tuple #[mon 1, .bool (decide ((1 : Int) ≤ 1 ∧ (1 : Int) ≤ 5))])) := (show _ = _ by rfl)
    generalize mon 1 = M at *
    generalize decide ((1 : Int) ≤ 1 ∧ (1 : Int) ≤ 5) = d at *
    go_enter Tryz.func48, Tryz.ntmps48
    go_wp2_with fail
    exact bodyPost_ret (v := .tuple #[.agg #[.int .i64 (0), .func (.func 65) #[] #[], .func (.func 66) #[] #[]], .bool true]) (by simp [results, Tryz.results48, go_sem]; try rfl) rfl ⟨HE.out, below_box w _⟩
  by_cases h2 : a = 2
  · subst h2
    have HE : Hid (Ending.returned (.tuple #[.agg #[.int .i64 (0), .func (.func 67) #[] #[], .func (.func 66) #[] #[]], .bool true]) = Ending.returned (.tuple #[mon 2, .bool (decide ((1 : Int) ≤ 2 ∧ (2 : Int) ≤ 5))])) := (show _ = _ by rfl)
    generalize mon 2 = M at *
    generalize decide ((1 : Int) ≤ 2 ∧ (2 : Int) ≤ 5) = d at *
    go_enter Tryz.func48, Tryz.ntmps48
    go_wp2_with fail
    exact bodyPost_ret (v := .tuple #[.agg #[.int .i64 (0), .func (.func 67) #[] #[], .func (.func 66) #[] #[]], .bool true]) (by simp [results, Tryz.results48, go_sem]; try rfl) rfl ⟨HE.out, below_box w _⟩
  by_cases h3 : a = 3
  · subst h3
    have HE : Hid (Ending.returned (.tuple #[.agg #[.int .i64 (9223372036854775807), .func (.func 65) #[] #[], .func (.func 68) #[] #[]], .bool true]) = Ending.returned (.tuple #[mon 3, .bool (decide ((1 : Int) ≤ 3 ∧ (3 : Int) ≤ 5))])) := (show _ = _ by rfl)
    generalize mon 3 = M at *
    generalize decide ((1 : Int) ≤ 3 ∧ (3 : Int) ≤ 5) = d at *
    go_enter Tryz.func48, Tryz.ntmps48
    go_wp2_with fail
    exact bodyPost_ret (v := .tuple #[.agg #[.int .i64 (9223372036854775807), .func (.func 65) #[] #[], .func (.func 68) #[] #[]], .bool true]) (by simp [results, Tryz.results48, go_sem]; try rfl) rfl ⟨HE.out, below_box w _⟩
  by_cases h4 : a = 4
  · subst h4
    have HE : Hid (Ending.returned (.tuple #[.agg #[.int .i64 (-9223372036854775808), .func (.func 65) #[] #[], .func (.func 69) #[] #[]], .bool true]) = Ending.returned (.tuple #[mon 4, .bool (decide ((1 : Int) ≤ 4 ∧ (4 : Int) ≤ 5))])) := (show _ = _ by rfl)
    generalize mon 4 = M at *
    generalize decide ((1 : Int) ≤ 4 ∧ (4 : Int) ≤ 5) = d at *
    go_enter Tryz.func48, Tryz.ntmps48
    go_wp2_with fail
    exact bodyPost_ret (v := .tuple #[.agg #[.int .i64 (-9223372036854775808), .func (.func 65) #[] #[], .func (.func 69) #[] #[]], .bool true]) (by simp [results, Tryz.results48, go_sem]; try rfl) rfl ⟨HE.out, below_box w _⟩
  by_cases h5 : a = 5
  · subst h5
    have HE : Hid (Ending.returned (.tuple #[.agg #[.int .i64 (0), .func (.func 65) #[] #[], .func (.func 70) #[] #[]], .bool true]) = Ending.returned (.tuple #[mon 5, .bool (decide ((1 : Int) ≤ 5 ∧ (5 : Int) ≤ 5))])) := (show _ = _ by rfl)
    generalize mon 5 = M at *
    generalize decide ((1 : Int) ≤ 5 ∧ (5 : Int) ≤ 5) = d at *
    go_enter Tryz.func48, Tryz.ntmps48
    go_wp2_with fail
    exact bodyPost_ret (v := .tuple #[.agg #[.int .i64 (0), .func (.func 65) #[] #[], .func (.func 70) #[] #[]], .bool true]) (by simp [results, Tryz.results48, go_sem]; try rfl) rfl ⟨HE.out, below_box w _⟩
  · have HE : Hid (Ending.returned (.tuple #[.agg #[.int .i64 0, .func (.func 65) #[] #[], .func (.func 71) #[] #[]], .bool false]) = Ending.returned (.tuple #[mon a, .bool (decide (1 ≤ a ∧ a ≤ 5))])) := (show _ = _ by
      rw [show decide (1 ≤ a ∧ a ≤ 5) = false from decide_eq_false (by omega)]
      simp [mon, zr, oneF, joinF, h1, h2, h3, h4, h5])
    generalize mon a = M at *
    generalize decide (1 ≤ a ∧ a ≤ 5) = d at *
    go_enter Tryz.func48, Tryz.ntmps48
    go_wp2_with fail
    exact bodyPost_ret (v := .tuple #[.agg #[.int .i64 (0), .func (.func 65) #[] #[], .func (.func 71) #[] #[]], .bool false]) (by simp [results, Tryz.results48, go_sem]; try rfl) rfl ⟨HE.out, below_box w _⟩
end Go.Proofs.YtdoldohcimbdaaaGreat
