/-
  Texts in build order: SSmall.
-/
import Derived.Test.YtdoldohcimbdaaaGreatM12
import Derived.Test.YtdoldohcimbdaaaGreatM13
/-
  The small calls of a state: last, placeOf, isReduce, the closures, Len, pick, Panes.
-/
namespace Go.Proofs.YtdoldohcimbdaaaGreat
open Go.RowKit

set_option maxRecDepth 100000 in
theorem last_any (w : World) (f t : Int) : Calls Tryz.prog 37 #[.agg #[.int .i64 f, .int .i64 t]] w fun e w' => e = .returned (.int .i64 (wrap64 (t - 1))) ∧ Below w.heap.size w w' := by
  have HB := hide (below_box w (.cells #[.int .i64 f, .int .i64 t] 68))
  go_enter Tryz.func37, Tryz.ntmps37
  go_wp2_with fail
  go_ret
  exact ⟨rfl, HB.out⟩
set_option maxRecDepth 100000 in
theorem placeOf_any (w : World) (x : Pn) : Calls Tryz.prog 38 #[x.val] w fun e w' => e = .returned (plV x) ∧ Below w.heap.size w w' := by
  obtain ⟨xk, xf, xt, xa⟩ := x
  unfold Pn.val plV
  simp only
  have HB := hide (below_box2 w (.cells #[.int .i64 xk, .int .i64 xf, .int .i64 xt, .int .i64 xa] 70) (.cells #[.int .i64 xk, .int .i64 xf, .int .i64 xt] 89))
  go_enter Tryz.func38, Tryz.ntmps38
  go_wp2_with fail
  exact bodyPost_ret (v := .agg #[.int .i64 xk, .int .i64 xf, .int .i64 xt]) (by simp [results, Tryz.results38, go_sem]) rfl ⟨rfl, HB.out⟩
set_option maxRecDepth 100000 in
theorem isReduce_any {w : World} {s : Nat} {kd : Int} (h : w.cell? ⟨s, 0, none⟩ = some (.int .i64 kd)) : Calls Tryz.prog 34 #[.pointer (some ⟨s, 0, none⟩)] w fun e w' => e = .returned (.bool (kd == 0)) ∧ w' = w := by
  go_enter Tryz.func34, Tryz.ntmps34
  go_wp2_with fail
  go_ret
  exact ⟨rfl, rfl⟩
set_option maxRecDepth 100000 in
theorem panesC_any (w : World) (x : Pn) : Calls Tryz.prog 42 #[plV x] w fun e w' => e = .returned (.bool true) ∧ Below w.heap.size w w' := by
  have HB := hide (below_box w (.cells #[.int .i64 x.k, .int .i64 x.f, .int .i64 x.t] 89))
  unfold plV
  go_enter Tryz.func42, Tryz.ntmps42
  go_wp2_with fail
  go_ret
  exact ⟨rfl, HB.out⟩
set_option maxRecDepth 100000 in
theorem Len_any {w : World} {s : Nat} {kd size slide ag : Int} {fp : Nat → Prop} {M : List Pn} (h : SA w s kd size slide ag fp M) : Calls Tryz.prog 21 #[.pointer (some ⟨s, 0, none⟩)] w fun e w' => e = .returned (.int .i64 M.length) ∧ w' = w := by
  obtain ⟨m, o, fq, R, h, _⟩ := h
  obtain ⟨_, _, _, _, c4, _⟩ := h.cells
  have hm := h.mp
  go_enter Tryz.func21, Tryz.ntmps21
  go_wp2_with (first | (at_len; refine wp_lenM _ rfl _ 72 rfl 2 Tryz.underlying72 rfl hm ?_) | fail)
  go_ret
  exact ⟨by simp, rfl⟩
theorem runF (F : Nat) (h : ∀ (args : Array Value) (W : World), (callFunc F args).run Tryz.prog W = .ok (.enter F args) W) (args : Array Value) (W : World) : (callFunc F args).run Tryz.prog W = .ok (.enter F args) W := h args W
end Go.Proofs.YtdoldohcimbdaaaGreat
