/-
  Texts in build order: SPlA.
-/
import Derived.Test.YtdoldohcimbdaaaGreatM12
import Derived.Test.YtdoldohcimbdaaaGreatM14
/-
  The document's operator as StatePlays makes it: node, New, Whole.
-/
namespace Go.Proofs.YtdoldohcimbdaaaGreat
open Go.RowKit

/-- The cells of a node that is a reduce (kind 6) or a window (kind 7). -/
def ndCs (kind k size slide a : Int) : Array Value := #[.int .i64 kind, .slice none 0 0, .int .i64 0, .int .i64 0, .int .i64 0, .slice none 0 0, .int .i64 a, .int .i64 k, .int .i64 size, .int .i64 slide]
def ndK (k : Int) : Int := if k = 0 then 6 else 7
/-- The cells of an operator. -/
def opCs (k size slide a : Int) (lv : Value) (mk late : Int) : Array Value := #[.int .i64 (ndK k), .slice none 0 0, .int .i64 0, .int .i64 0, .int .i64 0, .slice none 0 0, .int .i64 a, .int .i64 k, .int .i64 size, .int .i64 slide, lv, .int .i64 mk, .int .i64 late]
set_option maxHeartbeats 2000000 in
set_option maxRecDepth 100000 in
theorem node_any (w : World) {k size slide a : Int} (h0 : k = 0 → size = 0 ∧ slide = 0) :
    Calls Tryz.prog 8 #[.agg #[.int .i64 k, .int .i64 size, .int .i64 slide], .int .i64 a] w fun e w' => e = .returned (.agg (ndCs (ndK k) k size slide a)) ∧ Below w.heap.size w w' := by
  by_cases hk : k = 0
  · obtain ⟨rfl, rfl⟩ := h0 hk
    subst hk
    go_enter Tryz.func8, Tryz.ntmps8
    go_wp2_with fail
    exact bodyPost_ret (v := .agg (ndCs 6 0 0 0 a)) (by simp [results, Tryz.results8, go_sem, ndCs]) rfl ⟨rfl, below_box2 w _ _⟩
  · have hkb : (k == 0) = false := by simpa using hk
    go_enter Tryz.func8, Tryz.ntmps8
    go_wp2_with fail
    exact bodyPost_ret (v := .agg (ndCs 7 k size slide a)) (by simp [results, Tryz.results8, go_sem, ndCs]) rfl ⟨by rw [ndK, if_neg hk], below_box2 w _ _⟩
set_option maxHeartbeats 2000000 in
set_option maxRecDepth 100000 in
theorem rNew_any (w : World) (k size slide a : Int) : Calls Tryz.prog 7 #[.agg (ndCs (ndK k) k size slide a)] w fun e w' => ∃ o, e = .returned (.pointer (some ⟨o, 0, none⟩)) ∧ BoxT 46 w' o (opCs k size slide a (.slice none 0 0) (-9223372036854775808) 0) ∧ w.heap.size ≤ o ∧ Below w.heap.size w w' := by
  generalize hk : ndK k = kd
  unfold ndCs opCs
  rw [hk]
  go_enter Tryz.func7, Tryz.ntmps7
  go_wp2_with fail
  go_ret
  refine ⟨w.heap.size + 1, rfl, ?_, by omega, below_box2 w _ _⟩
  have h1 := BoxT.new 46 (w.alloc (.cells #[.int .i64 kd, .slice none 0 0, .int .i64 0, .int .i64 0, .int .i64 0, .slice none 0 0, .int .i64 a, .int .i64 k, .int .i64 size, .int .i64 slide] 36)) #[.int .i64 kd, .slice none 0 0, .int .i64 0, .int .i64 0, .int .i64 0, .slice none 0 0, .int .i64 a, .int .i64 k, .int .i64 size, .int .i64 slide, .slice none 0 0, .int .i64 (-9223372036854775808), .int .i64 0]
  have e : (w.alloc (.cells #[.int .i64 kd, .slice none 0 0, .int .i64 0, .int .i64 0, .int .i64 0, .slice none 0 0, .int .i64 a, .int .i64 k, .int .i64 size, .int .i64 slide] 36)).heap.size = w.heap.size + 1 := by simp
  rw [e] at h1
  exact h1
set_option maxHeartbeats 1000000 in
set_option maxRecDepth 100000 in
theorem whole_any (w : World) : Calls Tryz.prog 31 #[] w fun e w' => e = .returned (.agg #[.int .i64 (-9223372036854775808), .int .i64 2199023255553]) ∧ Below w.heap.size w w' := by
  go_enter Tryz.func31, Tryz.ntmps31
  go_wp2_with fail
  exact bodyPost_ret (v := .agg #[.int .i64 (-9223372036854775808), .int .i64 2199023255553]) (by simp [results, Tryz.results31, go_sem]) rfl ⟨rfl, below_box w _⟩
end Go.Proofs.YtdoldohcimbdaaaGreat
