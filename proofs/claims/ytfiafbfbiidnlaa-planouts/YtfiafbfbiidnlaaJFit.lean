/-
  What a node must have: its expression, its aggregate, its window.
-/
import Derived.Test.YtfiafbfbiidnlaaJNode
namespace Go.Proofs.Ytfiafbfbiidnlaa
open Go.RowKit

def spanB (s : Int) : Bool := decide (1 ≤ s ∧ s ≤ 68719476736)
def winB (k wk ws wl : Int) : Bool := if k = 7 then (if wk = 2 then spanB ws && spanB wl else if wk = 1 ∨ wk = 3 then spanB ws && decide (wl = 0) else false) else decide (wk = 0 ∧ ws = 0 ∧ wl = 0)
def aggB (k a : Int) : Bool := if k = 6 ∨ k = 7 then decide (1 ≤ a ∧ a ≤ 5) else decide (a = 0)
theorem ret_bool {a b : Bool} (h : a = b) : Ending.returned (.bool a) = .returned (.bool b) := by rw [h]

set_option maxRecDepth 100000 in
theorem span_any (w : World) (s : Int) : Calls Try.prog 68 #[.int .i64 s] w fun e w' => e = .returned (.bool (spanB s)) ∧ w = w' := by
  by_cases h1 : 1 ≤ s
  · by_cases h2 : s ≤ 68719476736
    · have hd : spanB s = true := by simp [spanB, h1, h2]
      rw [hd]
      go_enter Try.func68, Try.ntmps68
      go_wp2
      go_ret
      exact ⟨rfl, rfl⟩
    · have hd : spanB s = false := by simp [spanB, h2]
      rw [hd]
      go_enter Try.func68, Try.ntmps68
      go_wp2
      go_ret
      simp
  · have hd : spanB s = false := by simp [spanB, h1]
    rw [hd]
    go_enter Try.func68, Try.ntmps68
    go_wp2
    go_ret
    simp

set_option maxHeartbeats 1000000 in
set_option maxRecDepth 100000 in
theorem win_any (n : Nd) (w : World) : Calls Try.prog 61 #[n.val] w fun e w' => e = .returned (.bool (winB n.kind n.wk n.ws n.wl)) ∧ Below w.heap.size w w' := by
  obtain ⟨kd, ia, icp, ins, par, ⟨eo, en, ea, ec, el⟩, ag, wk, ws, wl⟩ := n
  unfold Nd.val
  simp only
  have hb : Below w.heap.size w (w.alloc (.cells #[.int .i64 kd, .slice ia ins.length icp, .int .i64 par, .int .i64 eo, .int .i64 en, .slice ea el.length ec, .int .i64 ag, .int .i64 wk, .int .i64 ws, .int .i64 wl] 54)) := (Below.refl _ _).alloc (Nat.le_refl _) _
  have HB := hide hb
  clear hb
  by_cases h7 : kd = 7
  · subst h7
    by_cases h2 : wk = 2
    · subst h2
      have hw : winB 7 2 ws wl = (spanB ws && spanB wl) := by unfold winB; rw [if_pos rfl, if_pos rfl]
      rw [hw]
      cases hs : spanB ws
      · rw [Bool.false_and]
        go_enter Try.func61, Try.ntmps61
        go_wp2_with (go_at_call 68; refine (span_any _ _).mono ?_; rintro e w1 ⟨rfl, rfl⟩)
        all_goals
          go_ret
          exact ⟨rfl, HB.out⟩
      · rw [Bool.true_and]
        go_enter Try.func61, Try.ntmps61
        go_wp2_with (go_at_call 68; refine (span_any _ _).mono ?_; rintro e w1 ⟨rfl, rfl⟩)
        all_goals
          go_ret
          exact ⟨rfl, HB.out⟩
    · have k2 : (wk == 2) = false := by simp [h2]
      by_cases h3 : wk = 1 ∨ wk = 3
      · have hw : winB 7 wk ws wl = (spanB ws && decide (wl = 0)) := by unfold winB; rw [if_pos rfl, if_neg h2, if_pos h3]
        rw [hw]
        clear hw h2
        cases hs : spanB ws
        · rw [Bool.false_and]
          rcases h3 with rfl | rfl
          · go_enter Try.func61, Try.ntmps61
            go_wp2_with (go_at_call 68; refine (span_any _ _).mono ?_; rintro e w1 ⟨rfl, rfl⟩)
            all_goals
              go_ret
              exact ⟨rfl, HB.out⟩
          · go_enter Try.func61, Try.ntmps61
            go_wp2_with (go_at_call 68; refine (span_any _ _).mono ?_; rintro e w1 ⟨rfl, rfl⟩)
            all_goals
              go_ret
              exact ⟨rfl, HB.out⟩
        · rw [Bool.true_and]
          by_cases hl : wl = 0
          · subst hl
            rcases h3 with rfl | rfl
            · go_enter Try.func61, Try.ntmps61
              go_wp2_with (go_at_call 68; refine (span_any _ _).mono ?_; rintro e w1 ⟨rfl, rfl⟩)
              all_goals
                go_ret
                exact ⟨ret_bool (by simp), HB.out⟩
            · go_enter Try.func61, Try.ntmps61
              go_wp2_with (go_at_call 68; refine (span_any _ _).mono ?_; rintro e w1 ⟨rfl, rfl⟩)
              all_goals
                go_ret
                exact ⟨ret_bool (by simp), HB.out⟩
          · have hd : decide (wl = 0) = false := by simp [hl]
            have hd2 : (wl == 0) = false := by simp [hl]
            rw [hd]
            rcases h3 with rfl | rfl
            · go_enter Try.func61, Try.ntmps61
              go_wp2_with (go_at_call 68; refine (span_any _ _).mono ?_; rintro e w1 ⟨rfl, rfl⟩)
              all_goals
                go_ret
                exact ⟨rfl, HB.out⟩
            · go_enter Try.func61, Try.ntmps61
              go_wp2_with (go_at_call 68; refine (span_any _ _).mono ?_; rintro e w1 ⟨rfl, rfl⟩)
              all_goals
                go_ret
                exact ⟨rfl, HB.out⟩
      · have hw : winB 7 wk ws wl = false := by unfold winB; rw [if_pos rfl, if_neg h2, if_neg h3]
        have k1 : (wk == 1) = false := by simp; omega
        have k3 : (wk == 3) = false := by simp; omega
        rw [hw]
        clear hw h2 h3
        go_enter Try.func61, Try.ntmps61
        go_wp2
        all_goals
          go_ret
          exact ⟨rfl, HB.out⟩
  · have hk : (kd != 7) = true := by simp [h7]
    have hw : winB kd wk ws wl = decide (wk = 0 ∧ ws = 0 ∧ wl = 0) := by unfold winB; rw [if_neg h7]
    rw [hw]
    clear hw
    by_cases hz : wk = 0 ∧ ws = 0 ∧ wl = 0
    · have hd : decide (wk = 0 ∧ ws = 0 ∧ wl = 0) = true := by simp [hz]
      rw [hd]
      obtain ⟨rfl, rfl, rfl⟩ := hz
      clear hd
      go_enter Try.func61, Try.ntmps61
      go_wp2
      all_goals
        go_ret
        exact ⟨rfl, HB.out⟩
    · have hd : decide (wk = 0 ∧ ws = 0 ∧ wl = 0) = false := by simpa using hz
      rw [hd]
      clear hd
      by_cases z1 : wk = 0
      · subst z1
        by_cases z2 : ws = 0
        · subst z2
          have z3 : wl ≠ 0 := by omega
          have q : (wl == 0) = false := by simp [z3]
          clear hz
          go_enter Try.func61, Try.ntmps61
          go_wp2
          all_goals
            go_ret
            exact ⟨rfl, HB.out⟩
        · have q : (ws == 0) = false := by simp [z2]
          clear hz
          go_enter Try.func61, Try.ntmps61
          go_wp2
          all_goals
            go_ret
            exact ⟨rfl, HB.out⟩
      · have q : (wk == 0) = false := by simp [z1]
        clear hz
        go_enter Try.func61, Try.ntmps61
        go_wp2
        all_goals
          go_ret
          exact ⟨rfl, HB.out⟩

set_option maxHeartbeats 1000000 in
set_option maxRecDepth 100000 in
theorem agg_any (n : Nd) (w : World) : Calls Try.prog 60 #[n.val] w fun e w' => e = .returned (.bool (aggB n.kind n.agg)) ∧ Below w.heap.size w w' := by
  obtain ⟨kd, ia, icp, ins, par, ⟨eo, en, ea, ec, el⟩, ag, wk, ws, wl⟩ := n
  unfold Nd.val
  simp only
  have hb : Below w.heap.size w (w.alloc (.cells #[.int .i64 kd, .slice ia ins.length icp, .int .i64 par, .int .i64 eo, .int .i64 en, .slice ea el.length ec, .int .i64 ag, .int .i64 wk, .int .i64 ws, .int .i64 wl] 54)) := (Below.refl _ _).alloc (Nat.le_refl _) _
  have HB := hide hb
  clear hb
  by_cases hk : kd = 6 ∨ kd = 7
  · have hw : aggB kd ag = decide (1 ≤ ag ∧ ag ≤ 5) := by unfold aggB; rw [if_pos hk]
    rw [hw]
    clear hw
    by_cases h1 : 1 ≤ ag
    · by_cases h2 : ag ≤ 5
      · have hd : decide (1 ≤ ag ∧ ag ≤ 5) = true := by simp [h1, h2]
        rw [hd]
        clear hd
        rcases hk with rfl | rfl
        · go_enter Try.func60, Try.ntmps60
          go_wp2
          all_goals
            go_ret
            exact ⟨ret_bool (by simp), HB.out⟩
        · go_enter Try.func60, Try.ntmps60
          go_wp2
          all_goals
            go_ret
            exact ⟨ret_bool (by simp), HB.out⟩
      · have hd : decide (1 ≤ ag ∧ ag ≤ 5) = false := by simp [h2]
        rw [hd]
        clear hd
        rcases hk with rfl | rfl
        · go_enter Try.func60, Try.ntmps60
          go_wp2
          all_goals
            go_ret
            exact ⟨ret_bool (by simp), HB.out⟩
        · go_enter Try.func60, Try.ntmps60
          go_wp2
          all_goals
            go_ret
            exact ⟨ret_bool (by simp), HB.out⟩
    · have hd : decide (1 ≤ ag ∧ ag ≤ 5) = false := by simp [h1]
      rw [hd]
      clear hd
      rcases hk with rfl | rfl
      · go_enter Try.func60, Try.ntmps60
        go_wp2
        all_goals
          go_ret
          exact ⟨ret_bool (by simp), HB.out⟩
      · go_enter Try.func60, Try.ntmps60
        go_wp2
        all_goals
          go_ret
          exact ⟨ret_bool (by simp), HB.out⟩
  · have hw : aggB kd ag = decide (ag = 0) := by unfold aggB; rw [if_neg hk]
    rw [hw]
    have k6 : (kd == 6) = false := by simp; omega
    have k7 : (kd == 7) = false := by simp; omega
    clear hw hk
    by_cases hz : ag = 0
    · subst hz
      go_enter Try.func60, Try.ntmps60
      go_wp2
      all_goals
        go_ret
        exact ⟨ret_bool (by simp), HB.out⟩
    · have hd : decide (ag = 0) = false := by simp [hz]
      have hd2 : (ag == 0) = false := by simp [hz]
      rw [hd]
      clear hd hz
      go_enter Try.func60, Try.ntmps60
      go_wp2
      all_goals
        go_ret
        exact ⟨rfl, HB.out⟩

def exB (k op n : Int) (m : Nat) (c : Int) : Bool := if 2 ≤ k ∧ k ≤ 4 then decide (c = 0) else decide (op = 0 ∧ n = 0 ∧ m = 0)
set_option maxHeartbeats 1000000 in
set_option maxRecDepth 100000 in
/-- What is asked of an expression; c: what Check tells of it. -/
theorem ex_any (n : Nd) (w : World) (c : Int) (hc : 2 ≤ n.kind ∧ n.kind ≤ 4 → ∀ w', Below w.heap.size w w' → Calls Try.prog 67 #[n.e.val] w' fun r w'' => r = .returned (.int .i64 c) ∧ Below w'.heap.size w' w'') :
    Calls Try.prog 59 #[n.val] w fun e w' => e = .returned (.bool (exB n.kind n.e.op n.e.n n.e.l.length c)) ∧ Below w.heap.size w w' := by
  obtain ⟨kd, ia, icp, ins, par, ⟨eo, en, ea, ec, el⟩, ag, wk, ws, wl⟩ := n
  unfold Nd.val
  unfold Ex.val at hc
  simp only at hc ⊢
  have hb : Below w.heap.size w (w.alloc (.cells #[.int .i64 kd, .slice ia ins.length icp, .int .i64 par, .int .i64 eo, .int .i64 en, .slice ea el.length ec, .int .i64 ag, .int .i64 wk, .int .i64 ws, .int .i64 wl] 54)) := (Below.refl _ _).alloc (Nat.le_refl _) _
  have HB := hide hb
  clear hb
  by_cases hk : 2 ≤ kd ∧ kd ≤ 4
  · have hw : exB kd eo en el.length c = decide (c = 0) := by unfold exB; rw [if_pos hk]
    rw [hw]
    have HC := hide (hc hk _ HB.out)
    have hk3 : kd = 2 ∨ kd = 3 ∨ kd = 4 := by omega
    clear hw hc hk
    by_cases hz : c = 0
    · subst hz
      rcases hk3 with rfl | rfl | rfl
      · go_enter Try.func59, Try.ntmps59
        go_wp2_with (go_at_call 67; refine HC.out.mono ?_; rintro e w1 ⟨rfl, b1⟩)
        all_goals
          go_ret
          exact ⟨ret_bool (by simp), HB.out.trans (b1.mono HB.out.size)⟩
      · go_enter Try.func59, Try.ntmps59
        go_wp2_with (go_at_call 67; refine HC.out.mono ?_; rintro e w1 ⟨rfl, b1⟩)
        all_goals
          go_ret
          exact ⟨ret_bool (by simp), HB.out.trans (b1.mono HB.out.size)⟩
      · go_enter Try.func59, Try.ntmps59
        go_wp2_with (go_at_call 67; refine HC.out.mono ?_; rintro e w1 ⟨rfl, b1⟩)
        all_goals
          go_ret
          exact ⟨ret_bool (by simp), HB.out.trans (b1.mono HB.out.size)⟩
    · have hd : decide (c = 0) = false := by simp [hz]
      have hd2 : (c == 0) = false := by simp [hz]
      rw [hd]
      clear hd hz
      rcases hk3 with rfl | rfl | rfl
      · go_enter Try.func59, Try.ntmps59
        go_wp2_with (go_at_call 67; refine HC.out.mono ?_; rintro e w1 ⟨rfl, b1⟩)
        all_goals
          go_ret
          exact ⟨rfl, HB.out.trans (b1.mono HB.out.size)⟩
      · go_enter Try.func59, Try.ntmps59
        go_wp2_with (go_at_call 67; refine HC.out.mono ?_; rintro e w1 ⟨rfl, b1⟩)
        all_goals
          go_ret
          exact ⟨rfl, HB.out.trans (b1.mono HB.out.size)⟩
      · go_enter Try.func59, Try.ntmps59
        go_wp2_with (go_at_call 67; refine HC.out.mono ?_; rintro e w1 ⟨rfl, b1⟩)
        all_goals
          go_ret
          exact ⟨rfl, HB.out.trans (b1.mono HB.out.size)⟩
  · have hw : exB kd eo en el.length c = decide (eo = 0 ∧ en = 0 ∧ el.length = 0) := by unfold exB; rw [if_neg hk]
    rw [hw]
    have k2 : (kd == 2) = false := by simp; omega
    have k3 : (kd == 3) = false := by simp; omega
    have k4 : (kd == 4) = false := by simp; omega
    clear hw hc hk
    by_cases h1 : eo = 0
    · subst h1
      by_cases h2 : en = 0
      · subst h2
        generalize el.length = m at *
        by_cases h3 : m = 0
        · subst h3
          go_enter Try.func59, Try.ntmps59
          go_wp2
          all_goals
            go_ret
            exact ⟨ret_bool (by simp), HB.out⟩
        · have hd : decide ((0 : Int) = 0 ∧ (0 : Int) = 0 ∧ m = 0) = false := by simp [h3]
          have hd2 : ((m : Int) == 0) = false := by simp; omega
          rw [hd]
          clear hd h3
          go_enter Try.func59, Try.ntmps59
          go_wp2
          all_goals
            go_ret
            exact ⟨rfl, HB.out⟩
      · have hd : decide ((0 : Int) = 0 ∧ en = 0 ∧ el.length = 0) = false := by simp [h2]
        have hd2 : (en == 0) = false := by simp [h2]
        rw [hd]
        clear hd h2
        go_enter Try.func59, Try.ntmps59
        go_wp2
        all_goals
          go_ret
          exact ⟨rfl, HB.out⟩
    · have hd : decide (eo = 0 ∧ en = 0 ∧ el.length = 0) = false := by simp [h1]
      have hd2 : (eo == 0) = false := by simp [h1]
      rw [hd]
      clear hd h1
      go_enter Try.func59, Try.ntmps59
      go_wp2
      all_goals
        go_ret
        exact ⟨rfl, HB.out⟩
end Go.Proofs.Ytfiafbfbiidnlaa
