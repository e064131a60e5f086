/-
  The small calls of a state: last, placeOf, isReduce, the closures, Len, pick, Panes.
-/
import Derived.Test.YtdoldohcimbdaaaSBase
import Derived.Test.YtdoldohcimbdaaaSMapW
namespace Go.Proofs.Ytdoldohcimbdaaa
open Go.RowKit

set_option maxRecDepth 100000 in
theorem last_any (w : World) (f t : Int) : Calls Try.prog 43 #[.agg #[.int .i64 f, .int .i64 t]] w fun e w' => e = .returned (.int .i64 (wrap64 (t - 1))) ∧ Below w.heap.size w w' := by
  have HB := hide (below_box w (.cells #[.int .i64 f, .int .i64 t] 41))
  go_enter Try.func43, Try.ntmps43
  go_wp2_with fail
  go_ret
  exact ⟨rfl, HB.out⟩
set_option maxRecDepth 100000 in
theorem placeOf_any (w : World) (x : Pn) : Calls Try.prog 44 #[x.val] w fun e w' => e = .returned (plV x) ∧ Below w.heap.size w w' := by
  obtain ⟨xk, xf, xt, xa⟩ := x
  unfold Pn.val plV
  simp only
  have HB := hide (below_box2 w (.cells #[.int .i64 xk, .int .i64 xf, .int .i64 xt, .int .i64 xa] 43) (.cells #[.int .i64 xk, .int .i64 xf, .int .i64 xt] 76))
  go_enter Try.func44, Try.ntmps44
  go_wp2_with fail
  exact bodyPost_ret (v := .agg #[.int .i64 xk, .int .i64 xf, .int .i64 xt]) (by simp [results, Try.results44, go_sem]) rfl ⟨rfl, HB.out⟩
set_option maxRecDepth 100000 in
theorem isReduce_any {w : World} {s : Nat} {kd : Int} (h : w.cell? ⟨s, 0, none⟩ = some (.int .i64 kd)) : Calls Try.prog 41 #[.pointer (some ⟨s, 0, none⟩)] w fun e w' => e = .returned (.bool (kd == 0)) ∧ w' = w := by
  go_enter Try.func41, Try.ntmps41
  go_wp2_with fail
  go_ret
  exact ⟨rfl, rfl⟩
set_option maxRecDepth 100000 in
theorem panesC_any (w : World) (x : Pn) : Calls Try.prog 38 #[plV x] w fun e w' => e = .returned (.bool true) ∧ Below w.heap.size w w' := by
  have HB := hide (below_box w (.cells #[.int .i64 x.k, .int .i64 x.f, .int .i64 x.t] 76))
  unfold plV
  go_enter Try.func38, Try.ntmps38
  go_wp2_with fail
  go_ret
  exact ⟨rfl, HB.out⟩
set_option maxRecDepth 100000 in
theorem Len_any {w : World} {s : Nat} {kd size slide ag : Int} {fp : Nat → Prop} {M : List Pn} (h : SA w s kd size slide ag fp M) : Calls Try.prog 27 #[.pointer (some ⟨s, 0, none⟩)] w fun e w' => e = .returned (.int .i64 M.length) ∧ w' = w := by
  obtain ⟨m, o, fq, R, h, _⟩ := h
  obtain ⟨_, _, _, _, c4, _⟩ := h.cells
  have hm := h.mp
  go_enter Try.func27, Try.ntmps27
  go_wp2_with (first | (at_len; refine wp_lenM _ rfl _ 63 rfl 2 Try.underlying63 rfl hm ?_) | fail)
  go_ret
  exact ⟨by simp, rfl⟩
theorem runF (F : Nat) (h : ∀ (args : Array Value) (W : World), (callFunc F args).run Try.prog W = .ok (.enter F args) W) (args : Array Value) (W : World) : (callFunc F args).run Try.prog W = .ok (.enter F args) W := h args W
end Go.Proofs.Ytdoldohcimbdaaa
