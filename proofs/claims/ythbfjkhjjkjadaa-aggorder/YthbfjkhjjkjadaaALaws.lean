/-
  The laws of layer 10, walked.
-/
import Derived.Test.YthbfjkhjjkjadaaARef
namespace Go.Proofs.Ythbfjkhjjkjadaa
open Go.RowKit

set_option maxHeartbeats 4000000 in
theorem known_any (w : World) : Calls Try.prog 6 #[] w fun e w' => e = .returned (.bool true) ∧ Below w.heap.size w w' := by
  have hs : LSeg 1 i64cs (w.alloc (.cells #[.int .i64 5, .int .i64 5] 2)).heap.size (w.alloc (.cells #[.int .i64 5, .int .i64 5] 2)) (.slice (some ⟨w.heap.size, 0, none⟩) 2 2) [5, 5] := by
    refine ⟨_, 2, rfl, by simp, .inr ⟨w.heap.size, 0, rfl, by simp, fun i x hi j u hu => ?_⟩⟩
    have hb := BoxT.new 2 w #[.int .i64 5, .int .i64 5]
    rw [hb.cellAt]
    match i, hi with
    | 0, hi => match j, hu with
      | 0, hu => cases hi; cases hu; rfl
    | 1, hi => match j, hu with
      | 0, hu => cases hi; cases hu; rfl
  have HS := hide (All_any hs (by decide) 2)
  have HB := hide (below_box w (.cells #[.int .i64 5, .int .i64 5] 2))
  have H1 := hide (fun w => Zero_any w 3)
  have H2 := hide (fun w => Merge_any w 3 3 9223372036854775807)
  have H3 := hide (fun w => Add_any w 1 4 (-1))
  have H4 := hide (fun w => Merge_any w 4 (-5) 2)
  have H5 := hide (fun w => Merge_any w 5 6 3)
  have H6 := hide (fun w => Is_any w 5)
  have H7 := hide (fun w => Is_any w 0)
  have H8 := hide (fun w => Merge_any w 9 1 2)
  rw [show al 2 [5, 5] = 2 by decide +kernel] at HS
  rw [show zr 3 = 9223372036854775807 from rfl] at H1
  rw [show jn 3 3 9223372036854775807 = 3 by decide +kernel] at H2
  generalize (9223372036854775807 : Int) = M at H1 H2
  rw [show ad 1 4 (-1) = 3 by decide +kernel] at H3
  rw [show jn 4 (-5) 2 = 2 by decide +kernel] at H4
  rw [show jn 5 6 3 = 5 by decide +kernel] at H5
  rw [show decide ((1 : Int) ≤ 5 ∧ (5 : Int) ≤ 5) = true by decide] at H6
  rw [show decide ((1 : Int) ≤ 0 ∧ (0 : Int) ≤ 5) = false by decide] at H7
  rw [show jn 9 1 2 = 0 by decide +kernel] at H8
  clear hs
  go_enter Try.func6, Try.ntmps6
  go_wp2_with (first
    | (go_at_call 11; refine HS.out.mono ?_; rintro e w1 ⟨rfl, b1⟩; have B1 := hide (HB.out.trans (b1.mono HB.out.size)); clear b1)
    | (go_at_call_of 8 (Value.int IntKind.i64 3); refine (H1.out _).mono ?_; rintro e w2 ⟨rfl, b2⟩; have B2 := hide (B1.out.trans (b2.mono B1.out.size)); clear b2)
    | (go_at_call_of 10 (Value.int IntKind.i64 M); refine (H2.out _).mono ?_; rintro e w3 ⟨rfl, b3⟩; have B3 := hide (B2.out.trans (b3.mono B2.out.size)); clear b3)
    | (go_at_call 9; refine (H3.out _).mono ?_; rintro e w4 ⟨rfl, b4⟩; have B4 := hide (B3.out.trans (b4.mono B3.out.size)); clear b4)
    | (go_at_call_of 10 (Value.int IntKind.i64 4); refine (H4.out _).mono ?_; rintro e w5 ⟨rfl, b5⟩; have B5 := hide (B4.out.trans (b5.mono B4.out.size)); clear b5)
    | (go_at_call_of 10 (Value.int IntKind.i64 6); refine (H5.out _).mono ?_; rintro e w6 ⟨rfl, b6⟩; have B6 := hide (B5.out.trans (b6.mono B5.out.size)); clear b6)
    | (go_at_call_of 7 (Value.int IntKind.i64 5); refine (H6.out _).mono ?_; rintro e w7 ⟨rfl, b7⟩; have B7 := hide (B6.out.trans (b7.mono B6.out.size)); clear b7)
    | (go_at_call_of 7 (Value.int IntKind.i64 0); refine (H7.out _).mono ?_; rintro e w8 ⟨rfl, b8⟩; have B8 := hide (B7.out.trans (b8.mono B7.out.size)); clear b8)
    | (go_at_call_of 10 (Value.int IntKind.i64 9); refine (H8.out _).mono ?_; rintro e w9 ⟨rfl, b9⟩; have B9 := hide (B8.out.trans (b9.mono B8.out.size)); clear b9))
  go_ret
  exact ⟨rfl, B9.out⟩
set_option maxHeartbeats 4000000 in
theorem AggPlays_walk {w : World} {v : Value} {l : List Int} (hl : LSeg 1 i64cs w.heap.size w v l) (a x y : Int) : Calls Try.prog 3 #[.int .i64 a, v, .int .i64 x, .int .i64 y] w fun e w' => e = .returned (.bool true) ∧ Below w.heap.size w w' := by
  obtain ⟨ao, cap, rfl⟩ := hl.shape
  have hz : (l.length : Int) ≤ 140737488355328 := by obtain ⟨_, _, _, h, _⟩ := hl; omega
  have HK := hide (known_any w)
  by_cases hn : (2000 : Int) < (l.length : Int)
  · clear hl
    go_enter Try.func3, Try.ntmps3
    go_wp2_with (go_at_call 6; refine HK.out.mono ?_; rintro e w1 ⟨rfl, b1⟩)
    go_ret
    exact ⟨rfl, b1⟩
  have HL := hide hl
  have hn' : l.length ≤ 100000 := by omega
  have HIs := hide (fun w => Is_any w a)
  have HZ := hide (fun w => Zero_any w a)
  have HA := hide (fun w => Add_any w a x y)
  have HM := hide (fun w => Merge_any w a x y)
  have HRZ := hide (fun w => RZero_any w a)
  have HRA := hide (fun w => RAdd_any w a x y)
  have HRM := hide (fun w => RMerge_any w a x y)
  have HAl : Hid (∀ w', Below w.heap.size w w' → Calls Try.prog 11 #[.int .i64 a, .slice ao l.length cap] w' fun e w'' => e = .returned (.int .i64 (al a l)) ∧ Below w'.heap.size w' w'') := fun w' h => All_any ((hl.below h).mono h.size) hn' a
  have HRAl : Hid (∀ w', Below w.heap.size w w' → Calls Try.prog 15 #[.int .i64 a, .slice ao l.length cap] w' fun e w'' => e = .returned (.int .i64 (al a l)) ∧ w'' = w') := fun w' h => RAll_any ((hl.below h).mono h.size) hn' a
  clear hl hn'
  by_cases ha : 1 ≤ a ∧ a ≤ 5
  · rw [decide_eq_true ha] at HIs
    obtain ⟨ha1, ha5⟩ := ha
    generalize zr a = p1 at *
    generalize ad a x y = p2 at *
    generalize jn a x y = p3 at *
    generalize al a l = p4 at *
    as_aux_lemma =>
    go_enter Try.func3, Try.ntmps3
    go_wp2_with (first
      | (go_at_call 6; refine HK.out.mono ?_; rintro e w1 ⟨rfl, b1⟩; have B := hide b1; clear b1)
      | (go_at_call 7; refine (HIs.out _).mono ?_; rintro e w2 ⟨rfl, b2⟩; replace B := hide (B.out.trans (b2.mono B.out.size)); clear b2)
      | (go_at_call 8; refine (HZ.out _).mono ?_; rintro e w2 ⟨rfl, b2⟩; replace B := hide (B.out.trans (b2.mono B.out.size)); clear b2)
      | (go_at_call 9; refine (HA.out _).mono ?_; rintro e w2 ⟨rfl, b2⟩; replace B := hide (B.out.trans (b2.mono B.out.size)); clear b2)
      | (go_at_call 10; refine (HM.out _).mono ?_; rintro e w2 ⟨rfl, b2⟩; replace B := hide (B.out.trans (b2.mono B.out.size)); clear b2)
      | (go_at_call 11; refine (HAl.out _ B.out).mono ?_; rintro e w2 ⟨rfl, b2⟩; replace B := hide (B.out.trans (b2.mono B.out.size)); clear b2)
      | (go_at_call 12; refine (HRZ.out _).mono ?_; rintro e w2 ⟨rfl, rfl⟩)
      | (go_at_call 13; refine (HRA.out _).mono ?_; rintro e w2 ⟨rfl, rfl⟩)
      | (go_at_call 14; refine (HRM.out _).mono ?_; rintro e w2 ⟨rfl, rfl⟩)
      | (go_at_call 15; refine (HRAl.out _ B.out).mono ?_; rintro e w2 ⟨rfl, rfl⟩))
    go_ret
    exact ⟨rfl, B.out⟩
  · rw [decide_eq_false ha] at HIs
    have e1 : zr a = 0 := by unfold zr; rw [if_neg (by omega), if_neg (by omega)]
    have e2 : ad a x y = 0 := jn_none ha _ _
    have e3 : jn a x y = 0 := jn_none ha _ _
    have e4 : al a l = 0 := by
      unfold al
      rw [e1]
      have : ∀ l : List Int, l.foldl (ad a) 0 = 0 := by
        intro l
        induction l with
        | nil => rfl
        | cons x l ih => rw [List.foldl_cons, show ad a 0 x = 0 from jn_none ha _ _, ih]
      exact this l
    rw [e1] at HZ
    rw [e2] at HA
    rw [e3] at HM
    rw [e4] at HAl
    clear HRZ HRA HRM HRAl e1 e2 e3 e4
    by_cases h1 : (1 : Int) ≤ a
    · have h5 : ¬ a ≤ (5 : Int) := by omega
      clear ha
      as_aux_lemma =>
      go_enter Try.func3, Try.ntmps3
      go_wp2_with (first
        | (go_at_call 6; refine HK.out.mono ?_; rintro e w1 ⟨rfl, b1⟩; have B := hide b1; clear b1)
        | (go_at_call 7; refine (HIs.out _).mono ?_; rintro e w2 ⟨rfl, b2⟩; replace B := hide (B.out.trans (b2.mono B.out.size)); clear b2)
        | (go_at_call 8; refine (HZ.out _).mono ?_; rintro e w2 ⟨rfl, b2⟩; replace B := hide (B.out.trans (b2.mono B.out.size)); clear b2)
        | (go_at_call 9; refine (HA.out _).mono ?_; rintro e w2 ⟨rfl, b2⟩; replace B := hide (B.out.trans (b2.mono B.out.size)); clear b2)
        | (go_at_call 10; refine (HM.out _).mono ?_; rintro e w2 ⟨rfl, b2⟩; replace B := hide (B.out.trans (b2.mono B.out.size)); clear b2)
        | (go_at_call 11; refine (HAl.out _ B.out).mono ?_; rintro e w2 ⟨rfl, b2⟩; replace B := hide (B.out.trans (b2.mono B.out.size)); clear b2))
      go_ret
      exact ⟨rfl, B.out⟩
    · clear ha
      as_aux_lemma =>
      go_enter Try.func3, Try.ntmps3
      go_wp2_with (first
        | (go_at_call 6; refine HK.out.mono ?_; rintro e w1 ⟨rfl, b1⟩; have B := hide b1; clear b1)
        | (go_at_call 7; refine (HIs.out _).mono ?_; rintro e w2 ⟨rfl, b2⟩; replace B := hide (B.out.trans (b2.mono B.out.size)); clear b2)
        | (go_at_call 8; refine (HZ.out _).mono ?_; rintro e w2 ⟨rfl, b2⟩; replace B := hide (B.out.trans (b2.mono B.out.size)); clear b2)
        | (go_at_call 9; refine (HA.out _).mono ?_; rintro e w2 ⟨rfl, b2⟩; replace B := hide (B.out.trans (b2.mono B.out.size)); clear b2)
        | (go_at_call 10; refine (HM.out _).mono ?_; rintro e w2 ⟨rfl, b2⟩; replace B := hide (B.out.trans (b2.mono B.out.size)); clear b2)
        | (go_at_call 11; refine (HAl.out _ B.out).mono ?_; rintro e w2 ⟨rfl, b2⟩; replace B := hide (B.out.trans (b2.mono B.out.size)); clear b2))
      go_ret
      exact ⟨rfl, B.out⟩
end Go.Proofs.Ythbfjkhjjkjadaa
