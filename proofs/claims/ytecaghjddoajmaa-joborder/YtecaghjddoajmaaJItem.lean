/-
  Logs: items, and whether they may stand there.
-/
import Derived.Test.YtecaghjddoajmaaJCheck
namespace Go.Proofs.Ytecaghjddoajmaa
open Go.RowKit

/-- An item of a log. -/
structure It where
  kind : Int
  key : Int
  time : Int
  val : Int
  mark : Int
def It.cs (i : It) : List Value := [.int .i64 i.kind, .int .i64 i.key, .int .i64 i.time, .int .i64 i.val, .int .i64 i.mark]
def It.vl (i : It) : Value := .agg #[.int .i64 i.kind, .int .i64 i.key, .int .i64 i.time, .int .i64 i.val, .int .i64 i.mark]
theorem It.cs_len (i : It) : i.cs.length = 5 := rfl
def tmB (t : Int) : Bool := decide (-1099511627776 ≤ t ∧ t ≤ 1099511627776)
def recB (key time val : Int) : Bool := decide (key = 0 ∧ time = 0 ∧ val = 0)
def mkB9 (m : Int) : Bool := decide (m = 9223372036854775807)
def noneB (i : It) : Bool := if i.kind = 1 then (!decide (i.mark = 0) || !tmB i.time) else if i.kind = 2 then (!recB i.key i.time i.val || (!tmB i.mark && !mkB9 i.mark)) else true
def endB (i : It) : Bool := decide (i.kind = 2) && mkB9 i.mark

set_option maxRecDepth 100000 in
theorem time_any (w : World) (s : Int) : Calls Try.prog 51 #[.int .i64 s] w fun e w' => e = .returned (.bool (tmB s)) ∧ w = w' := by
  by_cases h1 : -1099511627776 ≤ s
  · by_cases h2 : s ≤ 1099511627776
    · have hd : tmB s = true := by simp [tmB, h1, h2]
      rw [hd]
      go_enter Try.func51, Try.ntmps51
      go_wp2
      go_ret
      exact ⟨rfl, rfl⟩
    · have hd : tmB s = false := by simp [tmB, h2]
      rw [hd]
      go_enter Try.func51, Try.ntmps51
      go_wp2
      go_ret
      simp
  · have hd : tmB s = false := by simp [tmB, h1]
    rw [hd]
    go_enter Try.func51, Try.ntmps51
    go_wp2
    go_ret
    simp

set_option maxHeartbeats 1000000 in
set_option maxRecDepth 100000 in
theorem end_any (i : It) (w : World) : Calls Try.prog 33 #[i.vl] w fun e w' => e = .returned (.bool (endB i)) ∧ Below w.heap.size w w' := by
  obtain ⟨kd, ky, ti, va, mk⟩ := i
  unfold It.vl endB
  simp only
  have hb : Below w.heap.size w (w.alloc (.cells #[.int .i64 kd, .int .i64 ky, .int .i64 ti, .int .i64 va, .int .i64 mk] 57)) := (Below.refl _ _).alloc (Nat.le_refl _) _
  have HB := hide hb
  clear hb
  by_cases h2 : kd = 2
  · subst h2
    by_cases hm : mk = 9223372036854775807
    · subst hm
      go_enter Try.func33, Try.ntmps33
      go_wp2
      all_goals
        go_ret
        exact ⟨ret_bool (by simp [mkB9]), HB.out⟩
    · have hd : mkB9 mk = false := by simp [mkB9, hm]
      have hd2 : (mk == 9223372036854775807) = false := by simp [hm]
      rw [hd]
      clear hd hm
      go_enter Try.func33, Try.ntmps33
      go_wp2
      all_goals
        go_ret
        exact ⟨ret_bool (by simp), HB.out⟩
  · have q2 : (kd == 2) = false := by simp [h2]
    have hd : (decide (kd = 2) && mkB9 mk) = false := by simp [h2]
    rw [hd]
    clear hd h2
    go_enter Try.func33, Try.ntmps33
    go_wp2
    all_goals
      go_ret
      exact ⟨rfl, HB.out⟩

set_option maxHeartbeats 1000000 in
set_option maxRecDepth 100000 in
theorem none_any (i : It) (w : World) : Calls Try.prog 40 #[i.vl] w fun e w' => e = .returned (.bool (noneB i)) ∧ Below w.heap.size w w' := by
  obtain ⟨kd, ky, ti, va, mk⟩ := i
  unfold It.vl noneB
  simp only
  have hb : Below w.heap.size w (w.alloc (.cells #[.int .i64 kd, .int .i64 ky, .int .i64 ti, .int .i64 va, .int .i64 mk] 57)) := (Below.refl _ _).alloc (Nat.le_refl _) _
  have HB := hide hb
  clear hb
  by_cases h1 : kd = 1
  · rw [if_pos h1]
    subst h1
    by_cases hm : mk = 0
    · subst hm
      have hz : (!decide ((0 : Int) = 0) || !tmB ti) = !tmB ti := by simp
      rw [hz]
      clear hz
      cases ht : tmB ti
      · go_enter Try.func40, Try.ntmps40
        go_wp2_with (go_at_call 51; refine (time_any _ _).mono ?_; rintro e w1 ⟨rfl, rfl⟩)
        all_goals
          go_ret
          exact ⟨rfl, HB.out⟩
      · go_enter Try.func40, Try.ntmps40
        go_wp2_with (go_at_call 51; refine (time_any _ _).mono ?_; rintro e w1 ⟨rfl, rfl⟩)
        all_goals
          go_ret
          exact ⟨rfl, HB.out⟩
    · have hz : (!decide (mk = 0) || !tmB ti) = true := by simp [hm]
      have q : (mk != 0) = true := by simp [hm]
      rw [hz]
      clear hz hm
      go_enter Try.func40, Try.ntmps40
      go_wp2_with (go_at_call 51; refine (time_any _ _).mono ?_; rintro e w1 ⟨rfl, rfl⟩)
      all_goals
        go_ret
        exact ⟨rfl, HB.out⟩
  · rw [if_neg h1]
    have q1 : (kd == 1) = false := by simp [h1]
    clear h1
    by_cases h2 : kd = 2
    · rw [if_pos h2]
      subst h2
      by_cases hz : ky = 0 ∧ ti = 0 ∧ va = 0
      · have hr : recB ky ti va = true := by simp [recB, hz]
        obtain ⟨rfl, rfl, rfl⟩ := hz
        rw [hr, Bool.not_true, Bool.false_or]
        clear hr
        cases ht : tmB mk
        · by_cases hm : mk = 9223372036854775807
          · subst hm
            have hd : mkB9 9223372036854775807 = true := by simp [mkB9]
            rw [hd]
            clear hd
            go_enter Try.func40, Try.ntmps40
            go_wp2_with (go_at_call 51; refine (time_any _ _).mono ?_; rintro e w1 ⟨rfl, rfl⟩)
            all_goals
              go_ret
              exact ⟨ret_bool (by simp), HB.out⟩
          · have hd : mkB9 mk = false := by simp [mkB9, hm]
            have hd2 : (mk != 9223372036854775807) = true := by simp [hm]
            rw [hd]
            clear hd hm
            go_enter Try.func40, Try.ntmps40
            go_wp2_with (go_at_call 51; refine (time_any _ _).mono ?_; rintro e w1 ⟨rfl, rfl⟩)
            all_goals
              go_ret
              exact ⟨ret_bool (by simp), HB.out⟩
        · rw [Bool.not_true, Bool.false_and]
          go_enter Try.func40, Try.ntmps40
          go_wp2_with (go_at_call 51; refine (time_any _ _).mono ?_; rintro e w1 ⟨rfl, rfl⟩)
          all_goals
            go_ret
            exact ⟨rfl, HB.out⟩
      · have hr : recB ky ti va = false := by simpa [recB] using hz
        rw [hr, Bool.not_false, Bool.true_or]
        by_cases z1 : ky = 0
        · subst z1
          by_cases z2 : ti = 0
          · subst z2
            have z3 : va ≠ 0 := by omega
            have q : (va == 0) = false := by simp [z3]
            clear hz hr
            go_enter Try.func40, Try.ntmps40
            go_wp2_with (go_at_call 51; refine (time_any _ _).mono ?_; rintro e w1 ⟨rfl, rfl⟩)
            all_goals
              go_ret
              exact ⟨rfl, HB.out⟩
          · have q : (ti == 0) = false := by simp [z2]
            clear hz hr
            go_enter Try.func40, Try.ntmps40
            go_wp2_with (go_at_call 51; refine (time_any _ _).mono ?_; rintro e w1 ⟨rfl, rfl⟩)
            all_goals
              go_ret
              exact ⟨rfl, HB.out⟩
        · have q : (ky == 0) = false := by simp [z1]
          clear hz hr
          go_enter Try.func40, Try.ntmps40
          go_wp2_with (go_at_call 51; refine (time_any _ _).mono ?_; rintro e w1 ⟨rfl, rfl⟩)
          all_goals
            go_ret
            exact ⟨rfl, HB.out⟩
    · rw [if_neg h2]
      have q2 : (kd == 2) = false := by simp [h2]
      clear h2
      go_enter Try.func40, Try.ntmps40
      go_wp2_with (go_at_call 51; refine (time_any _ _).mono ?_; rintro e w1 ⟨rfl, rfl⟩)
      all_goals
        go_ret
        exact ⟨rfl, HB.out⟩
end Go.Proofs.Ytecaghjddoajmaa
