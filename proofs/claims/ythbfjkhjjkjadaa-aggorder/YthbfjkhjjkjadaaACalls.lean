/-
  The calls of package agg, and the document's.
-/
import Derived.Test.YthbfjkhjjkjadaaAPure
import Derived.Laws.EntriesVeiled
namespace Go.Proofs.Ythbfjkhjjkjadaa
open Go.RowKit

theorem below_box (w : World) (o : Obj) : Below w.heap.size w (w.alloc o) := (Below.refl _ _).alloc (Nat.le_refl _) _
theorem runF19 (args : Array Value) (W : World) : (callFunc 19 args).run Try.prog W = .ok (.enter 19 args) W := by kernel_rfl
theorem runF20 (args : Array Value) (W : World) : (callFunc 20 args).run Try.prog W = .ok (.enter 20 args) W := by kernel_rfl
theorem runF21 (args : Array Value) (W : World) : (callFunc 21 args).run Try.prog W = .ok (.enter 21 args) W := by kernel_rfl
theorem runF22 (args : Array Value) (W : World) : (callFunc 22 args).run Try.prog W = .ok (.enter 22 args) W := by kernel_rfl
theorem runF23 (args : Array Value) (W : World) : (callFunc 23 args).run Try.prog W = .ok (.enter 23 args) W := by kernel_rfl
theorem runF24 (args : Array Value) (W : World) : (callFunc 24 args).run Try.prog W = .ok (.enter 24 args) W := by kernel_rfl
theorem runF25 (args : Array Value) (W : World) : (callFunc 25 args).run Try.prog W = .ok (.enter 25 args) W := by kernel_rfl
theorem itself_any (w : World) (x : Int) : Calls Try.prog 19 #[.int .i64 x] w fun e w' => e = .returned (.int .i64 x) ∧ w' = w := by
  go_enter Try.func19, Try.ntmps19
  go_wp2_with fail
  go_ret
  exact ⟨rfl, rfl⟩
theorem once_any (w : World) (x : Int) : Calls Try.prog 21 #[.int .i64 x] w fun e w' => e = .returned (.int .i64 1) ∧ w' = w := by
  go_enter Try.func21, Try.ntmps21
  go_wp2_with fail
  go_ret
  exact ⟨rfl, rfl⟩
theorem sum_any (w : World) (x y : Int) : Calls Try.prog 20 #[.int .i64 x, .int .i64 y] w fun e w' => e = .returned (.int .i64 (wrap64 (x + y))) ∧ w' = w := by
  go_enter Try.func20, Try.ntmps20
  go_wp2_with fail
  go_ret
  exact ⟨rfl, rfl⟩
theorem lesser_any (w : World) (x y : Int) : Calls Try.prog 22 #[.int .i64 x, .int .i64 y] w fun e w' => e = .returned (.int .i64 (if y < x then y else x)) ∧ w' = w := by
  go_enter Try.func22, Try.ntmps22
  go_wp2_with fail
  all_goals (go_ret; exact ⟨rfl, rfl⟩)
theorem greater_any (w : World) (x y : Int) : Calls Try.prog 23 #[.int .i64 x, .int .i64 y] w fun e w' => e = .returned (.int .i64 (if y > x then y else x)) ∧ w' = w := by
  go_enter Try.func23, Try.ntmps23
  go_wp2_with fail
  all_goals (go_ret; exact ⟨rfl, rfl⟩)
theorem unlike_any (w : World) (x y : Int) : Calls Try.prog 24 #[.int .i64 x, .int .i64 y] w fun e w' => e = .returned (.int .i64 (xr x y)) ∧ w' = w := by
  go_enter Try.func24, Try.ntmps24
  go_wp2_with fail
  go_ret
  exact ⟨rfl, rfl⟩
theorem nothing_any (w : World) (x y : Int) : Calls Try.prog 25 #[.int .i64 x, .int .i64 y] w fun e w' => e = .returned (.int .i64 0) ∧ w' = w := by
  go_enter Try.func25, Try.ntmps25
  go_wp2_with fail
  go_ret
  exact ⟨rfl, rfl⟩
/-- An aggregate's functions. -/
def oneF (a : Int) : Nat := if a = 2 then 21 else 19
def joinF (a : Int) : Nat := if a = 1 then 20 else if a = 2 then 20 else if a = 3 then 22 else if a = 4 then 23 else if a = 5 then 24 else 25
def mon (a : Int) : Value := .agg #[.int .i64 (zr a), .func (.func (oneF a)) #[] #[], .func (.func (joinF a)) #[] #[]]
theorem oneF_run (a : Int) (args : Array Value) (W : World) : (callFunc (oneF a) args).run Try.prog W = .ok (.enter (oneF a) args) W := by
  unfold oneF; split
  · exact runF21 _ _
  · exact runF19 _ _
theorem joinF_run (a : Int) (args : Array Value) (W : World) : (callFunc (joinF a) args).run Try.prog W = .ok (.enter (joinF a) args) W := by
  unfold joinF
  split
  · exact runF20 _ _
  split
  · exact runF20 _ _
  split
  · exact runF22 _ _
  split
  · exact runF23 _ _
  split
  · exact runF24 _ _
  · exact runF25 _ _
theorem one_any (w : World) (a v : Int) : Calls Try.prog (oneF a) #[.int .i64 v] w fun e w' => e = .returned (.int .i64 (if a = 2 then 1 else v)) ∧ w' = w := by
  unfold oneF; split
  · exact once_any w v
  · exact itself_any w v
theorem join_any (w : World) (a x y : Int) : Calls Try.prog (joinF a) #[.int .i64 x, .int .i64 y] w fun e w' => e = .returned (.int .i64 (jn a x y)) ∧ w' = w := by
  unfold joinF jn
  split
  · exact sum_any w x y
  split
  · exact sum_any w x y
  split
  · exact lesser_any w x y
  split
  · exact greater_any w x y
  split
  · exact unlike_any w x y
  · exact nothing_any w x y
set_option maxHeartbeats 1000000 in
theorem find_any (w : World) (a : Int) : Calls Try.prog 16 #[.int .i64 a] w fun e w' => e = .returned (.tuple #[mon a, .bool (decide (1 ≤ a ∧ a ≤ 5))]) ∧ Below w.heap.size w w' := by
  by_cases h1 : a = 1
  · subst h1
    have HE : Hid (Ending.returned (.tuple #[.agg #[.int .i64 (0), .func (.func 19) #[] #[], .func (.func 20) #[] #[]], .bool true]) = Ending.returned (.tuple #[mon 1, .bool (decide ((1 : Int) ≤ 1 ∧ (1 : Int) ≤ 5))])) := (show _ = _ by rfl)
    generalize mon 1 = M at *
    generalize decide ((1 : Int) ≤ 1 ∧ (1 : Int) ≤ 5) = d at *
    go_enter Try.func16, Try.ntmps16
    go_wp2_with fail
    exact bodyPost_ret (v := .tuple #[.agg #[.int .i64 (0), .func (.func 19) #[] #[], .func (.func 20) #[] #[]], .bool true]) (by simp [results, Try.results16, go_sem]; try rfl) rfl ⟨HE.out, below_box w _⟩
  by_cases h2 : a = 2
  · subst h2
    have HE : Hid (Ending.returned (.tuple #[.agg #[.int .i64 (0), .func (.func 21) #[] #[], .func (.func 20) #[] #[]], .bool true]) = Ending.returned (.tuple #[mon 2, .bool (decide ((1 : Int) ≤ 2 ∧ (2 : Int) ≤ 5))])) := (show _ = _ by rfl)
    generalize mon 2 = M at *
    generalize decide ((1 : Int) ≤ 2 ∧ (2 : Int) ≤ 5) = d at *
    go_enter Try.func16, Try.ntmps16
    go_wp2_with fail
    exact bodyPost_ret (v := .tuple #[.agg #[.int .i64 (0), .func (.func 21) #[] #[], .func (.func 20) #[] #[]], .bool true]) (by simp [results, Try.results16, go_sem]; try rfl) rfl ⟨HE.out, below_box w _⟩
  by_cases h3 : a = 3
  · subst h3
    have HE : Hid (Ending.returned (.tuple #[.agg #[.int .i64 (9223372036854775807), .func (.func 19) #[] #[], .func (.func 22) #[] #[]], .bool true]) = Ending.returned (.tuple #[mon 3, .bool (decide ((1 : Int) ≤ 3 ∧ (3 : Int) ≤ 5))])) := (show _ = _ by rfl)
    generalize mon 3 = M at *
    generalize decide ((1 : Int) ≤ 3 ∧ (3 : Int) ≤ 5) = d at *
    go_enter Try.func16, Try.ntmps16
    go_wp2_with fail
    exact bodyPost_ret (v := .tuple #[.agg #[.int .i64 (9223372036854775807), .func (.func 19) #[] #[], .func (.func 22) #[] #[]], .bool true]) (by simp [results, Try.results16, go_sem]; try rfl) rfl ⟨HE.out, below_box w _⟩
  by_cases h4 : a = 4
  · subst h4
    have HE : Hid (Ending.returned (.tuple #[.agg #[.int .i64 (-9223372036854775808), .func (.func 19) #[] #[], .func (.func 23) #[] #[]], .bool true]) = Ending.returned (.tuple #[mon 4, .bool (decide ((1 : Int) ≤ 4 ∧ (4 : Int) ≤ 5))])) := (show _ = _ by rfl)
    generalize mon 4 = M at *
    generalize decide ((1 : Int) ≤ 4 ∧ (4 : Int) ≤ 5) = d at *
    go_enter Try.func16, Try.ntmps16
    go_wp2_with fail
    exact bodyPost_ret (v := .tuple #[.agg #[.int .i64 (-9223372036854775808), .func (.func 19) #[] #[], .func (.func 23) #[] #[]], .bool true]) (by simp [results, Try.results16, go_sem]; try rfl) rfl ⟨HE.out, below_box w _⟩
  by_cases h5 : a = 5
  · subst h5
    have HE : Hid (Ending.returned (.tuple #[.agg #[.int .i64 (0), .func (.func 19) #[] #[], .func (.func 24) #[] #[]], .bool true]) = Ending.returned (.tuple #[mon 5, .bool (decide ((1 : Int) ≤ 5 ∧ (5 : Int) ≤ 5))])) := (show _ = _ by rfl)
    generalize mon 5 = M at *
    generalize decide ((1 : Int) ≤ 5 ∧ (5 : Int) ≤ 5) = d at *
    go_enter Try.func16, Try.ntmps16
    go_wp2_with fail
    exact bodyPost_ret (v := .tuple #[.agg #[.int .i64 (0), .func (.func 19) #[] #[], .func (.func 24) #[] #[]], .bool true]) (by simp [results, Try.results16, go_sem]; try rfl) rfl ⟨HE.out, below_box w _⟩
  · have HE : Hid (Ending.returned (.tuple #[.agg #[.int .i64 0, .func (.func 19) #[] #[], .func (.func 25) #[] #[]], .bool false]) = Ending.returned (.tuple #[mon a, .bool (decide (1 ≤ a ∧ a ≤ 5))])) := (show _ = _ by
      rw [show decide (1 ≤ a ∧ a ≤ 5) = false from decide_eq_false (by omega)]
      simp [mon, zr, oneF, joinF, h1, h2, h3, h4, h5])
    generalize mon a = M at *
    generalize decide (1 ≤ a ∧ a ≤ 5) = d at *
    go_enter Try.func16, Try.ntmps16
    go_wp2_with fail
    exact bodyPost_ret (v := .tuple #[.agg #[.int .i64 (0), .func (.func 19) #[] #[], .func (.func 25) #[] #[]], .bool false]) (by simp [results, Try.results16, go_sem]; try rfl) rfl ⟨HE.out, below_box w _⟩
end Go.Proofs.Ythbfjkhjjkjadaa
