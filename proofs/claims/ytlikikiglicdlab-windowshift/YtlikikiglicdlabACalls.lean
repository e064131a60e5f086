/-
  The calls of package agg, and the document's.
-/
import Derived.Test.YtlikikiglicdlabAPure
import Derived.Laws.EntriesVeiled
namespace Go.Proofs.Ytlikikiglicdlab
open Go.RowKit

theorem below_box (w : World) (o : Obj) : Below w.heap.size w (w.alloc o) := (Below.refl _ _).alloc (Nat.le_refl _) _
theorem runF19 (args : Array Value) (W : World) : (callFunc 31 args).run Try.prog W = .ok (.enter 31 args) W := by kernel_rfl
theorem runF20 (args : Array Value) (W : World) : (callFunc 32 args).run Try.prog W = .ok (.enter 32 args) W := by kernel_rfl
theorem runF21 (args : Array Value) (W : World) : (callFunc 33 args).run Try.prog W = .ok (.enter 33 args) W := by kernel_rfl
theorem runF22 (args : Array Value) (W : World) : (callFunc 34 args).run Try.prog W = .ok (.enter 34 args) W := by kernel_rfl
theorem runF23 (args : Array Value) (W : World) : (callFunc 35 args).run Try.prog W = .ok (.enter 35 args) W := by kernel_rfl
theorem runF24 (args : Array Value) (W : World) : (callFunc 36 args).run Try.prog W = .ok (.enter 36 args) W := by kernel_rfl
theorem runF25 (args : Array Value) (W : World) : (callFunc 37 args).run Try.prog W = .ok (.enter 37 args) W := by kernel_rfl
theorem itself_any (w : World) (x : Int) : Calls Try.prog 31 #[.int .i64 x] w fun e w' => e = .returned (.int .i64 x) ∧ w' = w := by
  go_enter Try.func31, Try.ntmps31
  go_wp2_with fail
  go_ret
  exact ⟨rfl, rfl⟩
theorem once_any (w : World) (x : Int) : Calls Try.prog 33 #[.int .i64 x] w fun e w' => e = .returned (.int .i64 1) ∧ w' = w := by
  go_enter Try.func33, Try.ntmps33
  go_wp2_with fail
  go_ret
  exact ⟨rfl, rfl⟩
theorem sum_any (w : World) (x y : Int) : Calls Try.prog 32 #[.int .i64 x, .int .i64 y] w fun e w' => e = .returned (.int .i64 (wrap64 (x + y))) ∧ w' = w := by
  go_enter Try.func32, Try.ntmps32
  go_wp2_with fail
  go_ret
  exact ⟨rfl, rfl⟩
theorem lesser_any (w : World) (x y : Int) : Calls Try.prog 34 #[.int .i64 x, .int .i64 y] w fun e w' => e = .returned (.int .i64 (if y < x then y else x)) ∧ w' = w := by
  go_enter Try.func34, Try.ntmps34
  go_wp2_with fail
  all_goals (go_ret; exact ⟨rfl, rfl⟩)
theorem greater_any (w : World) (x y : Int) : Calls Try.prog 35 #[.int .i64 x, .int .i64 y] w fun e w' => e = .returned (.int .i64 (if y > x then y else x)) ∧ w' = w := by
  go_enter Try.func35, Try.ntmps35
  go_wp2_with fail
  all_goals (go_ret; exact ⟨rfl, rfl⟩)
theorem unlike_any (w : World) (x y : Int) : Calls Try.prog 36 #[.int .i64 x, .int .i64 y] w fun e w' => e = .returned (.int .i64 (xr x y)) ∧ w' = w := by
  go_enter Try.func36, Try.ntmps36
  go_wp2_with fail
  go_ret
  exact ⟨rfl, rfl⟩
theorem nothing_any (w : World) (x y : Int) : Calls Try.prog 37 #[.int .i64 x, .int .i64 y] w fun e w' => e = .returned (.int .i64 0) ∧ w' = w := by
  go_enter Try.func37, Try.ntmps37
  go_wp2_with fail
  go_ret
  exact ⟨rfl, rfl⟩
/-- An aggregate's functions. -/
def oneF (a : Int) : Nat := if a = 2 then 33 else 31
def joinF (a : Int) : Nat := if a = 1 then 32 else if a = 2 then 32 else if a = 3 then 34 else if a = 4 then 35 else if a = 5 then 36 else 37
def mon (a : Int) : Value := .agg #[.int .i64 (zr a), .func (.func (oneF a)) #[] #[], .func (.func (joinF a)) #[] #[]]
theorem oneF_run (a : Int) (args : Array Value) (W : World) : (callFunc (oneF a) args).run Try.prog W = .ok (.enter (oneF a) args) W := by
  unfold oneF; split
  · exact runF21 _ _
  · exact runF19 _ _
theorem joinF_run (a : Int) (args : Array Value) (W : World) : (callFunc (joinF a) args).run Try.prog W = .ok (.enter (joinF a) args) W := by
  unfold joinF
  split
  · exact runF20 _ _
  split
  · exact runF20 _ _
  split
  · exact runF22 _ _
  split
  · exact runF23 _ _
  split
  · exact runF24 _ _
  · exact runF25 _ _
theorem one_any (w : World) (a v : Int) : Calls Try.prog (oneF a) #[.int .i64 v] w fun e w' => e = .returned (.int .i64 (if a = 2 then 1 else v)) ∧ w' = w := by
  unfold oneF; split
  · exact once_any w v
  · exact itself_any w v
theorem join_any (w : World) (a x y : Int) : Calls Try.prog (joinF a) #[.int .i64 x, .int .i64 y] w fun e w' => e = .returned (.int .i64 (jn a x y)) ∧ w' = w := by
  unfold joinF jn
  split
  · exact sum_any w x y
  split
  · exact sum_any w x y
  split
  · exact lesser_any w x y
  split
  · exact greater_any w x y
  split
  · exact unlike_any w x y
  · exact nothing_any w x y
set_option maxHeartbeats 1000000 in
theorem find_any (w : World) (a : Int) : Calls Try.prog 19 #[.int .i64 a] w fun e w' => e = .returned (.tuple #[mon a, .bool (decide (1 ≤ a ∧ a ≤ 5))]) ∧ Below w.heap.size w w' := by
  by_cases h1 : a = 1
  · subst h1
    have HE : Hid (Ending.returned (.tuple #[.agg #[.int .i64 (0), .func (.func 31) #[] #[], .func (.func 32) #[] #[]], .bool true]) = Ending.returned (.tuple #[mon 1, .bool (decide ((1 : Int) ≤ 1 ∧ (1 : Int) ≤ 5))])) := (show _ = _ by rfl)
    generalize mon 1 = M at *
    generalize decide ((1 : Int) ≤ 1 ∧ (1 : Int) ≤ 5) = d at *
    go_enter Try.func19, Try.ntmps19
    go_wp2_with fail
    exact bodyPost_ret (v := .tuple #[.agg #[.int .i64 (0), .func (.func 31) #[] #[], .func (.func 32) #[] #[]], .bool true]) (by simp [results, Try.results19, go_sem]; try rfl) rfl ⟨HE.out, below_box w _⟩
  by_cases h2 : a = 2
  · subst h2
    have HE : Hid (Ending.returned (.tuple #[.agg #[.int .i64 (0), .func (.func 33) #[] #[], .func (.func 32) #[] #[]], .bool true]) = Ending.returned (.tuple #[mon 2, .bool (decide ((1 : Int) ≤ 2 ∧ (2 : Int) ≤ 5))])) := (show _ = _ by rfl)
    generalize mon 2 = M at *
    generalize decide ((1 : Int) ≤ 2 ∧ (2 : Int) ≤ 5) = d at *
    go_enter Try.func19, Try.ntmps19
    go_wp2_with fail
    exact bodyPost_ret (v := .tuple #[.agg #[.int .i64 (0), .func (.func 33) #[] #[], .func (.func 32) #[] #[]], .bool true]) (by simp [results, Try.results19, go_sem]; try rfl) rfl ⟨HE.out, below_box w _⟩
  by_cases h3 : a = 3
  · subst h3
    have HE : Hid (Ending.returned (.tuple #[.agg #[.int .i64 (9223372036854775807), .func (.func 31) #[] #[], .func (.func 34) #[] #[]], .bool true]) = Ending.returned (.tuple #[mon 3, .bool (decide ((1 : Int) ≤ 3 ∧ (3 : Int) ≤ 5))])) := (show _ = _ by rfl)
    generalize mon 3 = M at *
    generalize decide ((1 : Int) ≤ 3 ∧ (3 : Int) ≤ 5) = d at *
    go_enter Try.func19, Try.ntmps19
    go_wp2_with fail
    exact bodyPost_ret (v := .tuple #[.agg #[.int .i64 (9223372036854775807), .func (.func 31) #[] #[], .func (.func 34) #[] #[]], .bool true]) (by simp [results, Try.results19, go_sem]; try rfl) rfl ⟨HE.out, below_box w _⟩
  by_cases h4 : a = 4
  · subst h4
    have HE : Hid (Ending.returned (.tuple #[.agg #[.int .i64 (-9223372036854775808), .func (.func 31) #[] #[], .func (.func 35) #[] #[]], .bool true]) = Ending.returned (.tuple #[mon 4, .bool (decide ((1 : Int) ≤ 4 ∧ (4 : Int) ≤ 5))])) := (show _ = _ by rfl)
    generalize mon 4 = M at *
    generalize decide ((1 : Int) ≤ 4 ∧ (4 : Int) ≤ 5) = d at *
    go_enter Try.func19, Try.ntmps19
    go_wp2_with fail
    exact bodyPost_ret (v := .tuple #[.agg #[.int .i64 (-9223372036854775808), .func (.func 31) #[] #[], .func (.func 35) #[] #[]], .bool true]) (by simp [results, Try.results19, go_sem]; try rfl) rfl ⟨HE.out, below_box w _⟩
  by_cases h5 : a = 5
  · subst h5
    have HE : Hid (Ending.returned (.tuple #[.agg #[.int .i64 (0), .func (.func 31) #[] #[], .func (.func 36) #[] #[]], .bool true]) = Ending.returned (.tuple #[mon 5, .bool (decide ((1 : Int) ≤ 5 ∧ (5 : Int) ≤ 5))])) := (show _ = _ by rfl)
    generalize mon 5 = M at *
    generalize decide ((1 : Int) ≤ 5 ∧ (5 : Int) ≤ 5) = d at *
    go_enter Try.func19, Try.ntmps19
    go_wp2_with fail
    exact bodyPost_ret (v := .tuple #[.agg #[.int .i64 (0), .func (.func 31) #[] #[], .func (.func 36) #[] #[]], .bool true]) (by simp [results, Try.results19, go_sem]; try rfl) rfl ⟨HE.out, below_box w _⟩
  · have HE : Hid (Ending.returned (.tuple #[.agg #[.int .i64 0, .func (.func 31) #[] #[], .func (.func 37) #[] #[]], .bool false]) = Ending.returned (.tuple #[mon a, .bool (decide (1 ≤ a ∧ a ≤ 5))])) := (show _ = _ by
      rw [show decide (1 ≤ a ∧ a ≤ 5) = false from decide_eq_false (by omega)]
      simp [mon, zr, oneF, joinF, h1, h2, h3, h4, h5])
    generalize mon a = M at *
    generalize decide (1 ≤ a ∧ a ≤ 5) = d at *
    go_enter Try.func19, Try.ntmps19
    go_wp2_with fail
    exact bodyPost_ret (v := .tuple #[.agg #[.int .i64 (0), .func (.func 31) #[] #[], .func (.func 37) #[] #[]], .bool false]) (by simp [results, Try.results19, go_sem]; try rfl) rfl ⟨HE.out, below_box w _⟩
end Go.Proofs.Ytlikikiglicdlab
