/-
  Walks over the helps of the laws: parts held against one another; parts that are looked at.
-/
import Derived.Test.YtaajjejgjnlbgabDoorHelpO
import Derived.Test.YtaajjejgjnlbgabDoorSnap
namespace Go.Proofs.YtaajjejgjnlbgabDoor
open Go.RowKit

def decSn : DecidableEq Sn := fun a b =>
  have _i := decPn
  have _j := decOt
  decidable_of_iff (a.task = b.task ∧ a.off = b.off ∧ a.mark = b.mark ∧ a.marks = b.marks ∧ a.panes = b.panes ∧ a.outs = b.outs) (by cases a; cases b; simp)

/-- A part that is looked at. -/
def Sn.light (s : Sn) : Bool := decide (s.marks.length ≤ 300) && ((decide (s.panes.length ≤ 300) || (decide (4096 < s.panes.length) && decide (s.panes.length < 4105))) && (decide (s.outs.length ≤ 300) || (decide (4096 < s.outs.length) && decide (s.outs.length < 4105))))

set_option maxHeartbeats 2000000 in
set_option maxRecDepth 100000 in
theorem light_any (s : Sn) (vm vp vc : Value) (w : World) (hs : SnSeg w.heap.size w vm vp vc s) :
    Calls Tryd.prog 5 #[.agg #[.int .i64 s.task, .int .i64 s.off, .int .i64 s.mark, vm, vp, vc]] w fun e w' => e = .returned (.bool s.light) ∧ Below w.heap.size w w' := by
  obtain ⟨am, cm, rfl, hl1, -⟩ := hs.m
  obtain ⟨ap, cp, rfl, hl2, -⟩ := hs.p
  obtain ⟨ac, cc, rfl, hl3, -⟩ := hs.c
  clear hs
  unfold Sn.light
  generalize s.marks.length = nm at *
  generalize s.panes.length = np at *
  generalize s.outs.length = no at *
  have hb0 : Below w.heap.size w (w.alloc (.cells #[.int .i64 s.task, .int .i64 s.off, .int .i64 s.mark, .slice am nm cm, .slice ap np cp, .slice ac no cc] 26)) := (Below.refl _ _).alloc (Nat.le_refl _) _
  by_cases h1 : nm ≤ 300
  rotate_left
  · go_enter Tryd.func5, Tryd.ntmps5
    go_wp2
    go_ret
    exact ⟨ret_bool (by simp <;> omega), hb0⟩
  have key : ∀ b : Bool, (decide (np ≤ 300) || (decide (4096 < np) && decide (np < 4105))) = b → Hid ((decide (np ≤ 300) || (decide (4096 < np) && decide (np < 4105))) = b) := fun _ h => h
  by_cases h2 : np ≤ 300
  · have K := key true (by simp [h2])
    rw [K.out]
    clear key K
    by_cases h3 : no ≤ 300
    · go_enter Tryd.func5, Tryd.ntmps5
      go_wp2
      go_ret
      exact ⟨ret_bool (by simp <;> omega), hb0⟩
    by_cases h4 : 4096 < no
    · by_cases h5 : no < 4105
      · go_enter Tryd.func5, Tryd.ntmps5
        go_wp2
        go_ret
        exact ⟨ret_bool (by simp <;> omega), hb0⟩
      · go_enter Tryd.func5, Tryd.ntmps5
        go_wp2
        go_ret
        exact ⟨ret_bool (by simp <;> omega), hb0⟩
    · go_enter Tryd.func5, Tryd.ntmps5
      go_wp2
      go_ret
      exact ⟨ret_bool (by simp <;> omega), hb0⟩
  by_cases h6 : 4096 < np
  rotate_left
  · go_enter Tryd.func5, Tryd.ntmps5
    go_wp2
    go_ret
    exact ⟨ret_bool (by simp <;> omega), hb0⟩
  by_cases h7 : np < 4105
  rotate_left
  · go_enter Tryd.func5, Tryd.ntmps5
    go_wp2
    go_ret
    exact ⟨ret_bool (by simp <;> omega), hb0⟩
  have K := key true (by simp [h6, h7])
  rw [K.out]
  clear key K
  by_cases h3 : no ≤ 300
  · go_enter Tryd.func5, Tryd.ntmps5
    go_wp2
    go_ret
    exact ⟨ret_bool (by simp <;> omega), hb0⟩
  by_cases h4 : 4096 < no
  · by_cases h5 : no < 4105
    · go_enter Tryd.func5, Tryd.ntmps5
      go_wp2
      go_ret
      exact ⟨ret_bool (by rw [Bool.eq_iff_iff]; simp; omega), hb0⟩
    · go_enter Tryd.func5, Tryd.ntmps5
      go_wp2
      go_ret
      exact ⟨ret_bool (by rw [Bool.eq_iff_iff]; simp; omega), hb0⟩
  · go_enter Tryd.func5, Tryd.ntmps5
    go_wp2
    go_ret
    exact ⟨ret_bool (by simp <;> omega), hb0⟩
end Go.Proofs.YtaajjejgjnlbgabDoor
