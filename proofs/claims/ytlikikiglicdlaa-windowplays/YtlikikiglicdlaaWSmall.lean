/-
  overlap, isEmpty, joined, the closure of withSession.
-/
import Derived.Test.YtlikikiglicdlaaWKey
namespace Go.Proofs.Ytlikikiglicdlaa
open Go.RowKit

theorem below_box2 (w : World) (o p : Obj) : Below w.heap.size w ((w.alloc o).alloc p) := ((Below.refl _ _).alloc (Nat.le_refl _) _).alloc (by simp) _
set_option maxHeartbeats 1000000 in
set_option maxRecDepth 100000 in
theorem overlap_any (w : World) (x y : Pn) : Calls Try.prog 35 #[x.val, y.val] w fun e w' => e = .returned (.bool (ovb x y)) ∧ Below w.heap.size w w' := by
  obtain ⟨xk, xf, xt, xa⟩ := x
  obtain ⟨yk, yf, yt, ya⟩ := y
  have HB := hide (below_box2 w (.cells #[.int .i64 xk, .int .i64 xf, .int .i64 xt, .int .i64 xa] 46) (.cells #[.int .i64 yk, .int .i64 yf, .int .i64 yt, .int .i64 ya] 46))
  by_cases hk : xk = yk
  · subst hk
    have HR : Hid (∀ c : Bool, (c = true ↔ max xf yf < min xt yt) → c = ovb ⟨xk, xf, xt, xa⟩ ⟨xk, yf, yt, ya⟩) := (show ∀ c : Bool, _ by
      intro c hc
      unfold ovb
      rw [decide_eq_true (rfl : xk = xk), Bool.true_and]
      simp only
      by_cases h : max xf yf < min xt yt
      · rw [decide_eq_true h]; exact hc.2 h
      · rw [decide_eq_false h]; cases c with
        | false => rfl
        | true => exact absurd (hc.1 rfl) h)
    generalize ovb ⟨xk, xf, xt, xa⟩ ⟨xk, yf, yt, ya⟩ = R at *
    unfold Pn.val
    by_cases h1 : yf > xf <;> by_cases h2 : yt < xt
    all_goals
      go_enter Try.func35, Try.ntmps35
      go_wp2_with fail
      go_ret
      exact ⟨ret_bool (HR.out _ (by simp only [decide_eq_true_eq]; omega)), HB.out⟩
  · have HR : Hid (ovb ⟨xk, xf, xt, xa⟩ ⟨yk, yf, yt, ya⟩ = false) := (show _ = _ by simp [ovb, hk])
    generalize ovb ⟨xk, xf, xt, xa⟩ ⟨yk, yf, yt, ya⟩ = R at *
    unfold Pn.val
    go_enter Try.func35, Try.ntmps35
    go_wp2_with fail
    go_ret
    exact ⟨by rw [HR.out]; simp, HB.out⟩
set_option maxRecDepth 100000 in
theorem isEmpty_any (w : World) (f t : Int) : Calls Try.prog 37 #[.agg #[.int .i64 f, .int .i64 t]] w fun e w' => e = .returned (.bool (decide (f ≥ t))) ∧ Below w.heap.size w w' := by
  have HB := hide (below_box w (.cells #[.int .i64 f, .int .i64 t] 31))
  go_enter Try.func37, Try.ntmps37
  go_wp2_with fail
  go_ret
  exact ⟨rfl, HB.out⟩
end Go.Proofs.Ytlikikiglicdlaa
