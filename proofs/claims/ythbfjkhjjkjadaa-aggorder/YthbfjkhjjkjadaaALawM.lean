/-
  AggMonoid, walked.
-/
import Derived.Test.YthbfjkhjjkjadaaALaws
namespace Go.Proofs.Ythbfjkhjjkjadaa
open Go.RowKit

theorem OwnL.lsegI {base : Nat} {w : World} {v : Value} {xs : List Int} (h : OwnL 2 1 i64cs base w v xs) (hl : xs.length ≤ 1000000) : LSeg 1 i64cs w.heap.size w v xs := by
  rcases h.2 with ⟨rfl, h0⟩ | ⟨g, cap, cur, rfl, h2, h3, h4, h5, h6, h7⟩
  · rw [List.length_eq_zero_iff.1 h0]
    exact ⟨none, 0, rfl, by simp, .inl rfl⟩
  · refine ⟨_, cap, rfl, by omega, .inr ⟨g, 0, rfl, (Array.getElem?_eq_some_iff.1 h3).1, fun i x hx k u hu => ?_⟩⟩
    have hf := flat_get i64cs_len xs i k x u hx hu
    rw [← h7, List.getElem?_take] at hf
    split at hf
    · rw [BoxT.cellAt (t := 2) h3, Nat.zero_add]; simpa using hf
    · cases hf
set_option maxHeartbeats 8000000 in
theorem AggMonoid_walk {w : World} {v v2 : Value} {l m : List Int} (hl : LSeg 1 i64cs w.heap.size w v l) (hm : LSeg 1 i64cs w.heap.size w v2 m) (hin : ∀ x ∈ l, In64 x) (a x y z : Int) (hx : In64 x) : Calls Try.prog 4 #[.int .i64 a, .int .i64 x, .int .i64 y, .int .i64 z, v, v2] w fun e w' => e = .returned (.bool true) ∧ Below w.heap.size w w' := by
  obtain ⟨ao, cap, rfl⟩ := hl.shape
  obtain ⟨ao2, cap2, rfl⟩ := hm.shape
  have hz : (l.length : Int) ≤ 140737488355328 := by obtain ⟨_, _, _, h, _⟩ := hl; omega
  have hz2 : (m.length : Int) ≤ 140737488355328 := by obtain ⟨_, _, _, h, _⟩ := hm; omega
  have HK := hide (known_any w)
  have HIs := hide (fun w => Is_any w a)
  by_cases ha : 1 ≤ a ∧ a ≤ 5
  case neg =>
    rw [decide_eq_false ha] at HIs
    clear hl hm hin hx ha
    as_aux_lemma =>
    go_enter Try.func4, Try.ntmps4
    go_wp2_with (first
      | (go_at_call 6; refine HK.out.mono ?_; rintro e w1 ⟨rfl, b1⟩; have B := hide b1; clear b1)
      | (go_at_call 7; refine (HIs.out _).mono ?_; rintro e w2 ⟨rfl, b2⟩; replace B := hide (B.out.trans (b2.mono B.out.size)); clear b2))
    go_ret
    exact ⟨rfl, B.out⟩
  rw [decide_eq_true ha] at HIs
  by_cases hn : (1000 : Int) < (l.length : Int)
  · clear hl hm hin hx ha
    as_aux_lemma =>
    go_enter Try.func4, Try.ntmps4
    go_wp2_with (first
      | (go_at_call 6; refine HK.out.mono ?_; rintro e w1 ⟨rfl, b1⟩; have B := hide b1; clear b1)
      | (go_at_call 7; refine (HIs.out _).mono ?_; rintro e w2 ⟨rfl, b2⟩; replace B := hide (B.out.trans (b2.mono B.out.size)); clear b2))
    go_ret
    exact ⟨rfl, B.out⟩
  by_cases hn2 : (1000 : Int) < (m.length : Int)
  · clear hl hm hin hx ha
    as_aux_lemma =>
    go_enter Try.func4, Try.ntmps4
    go_wp2_with (first
      | (go_at_call 6; refine HK.out.mono ?_; rintro e w1 ⟨rfl, b1⟩; have B := hide b1; clear b1)
      | (go_at_call 7; refine (HIs.out _).mono ?_; rintro e w2 ⟨rfl, b2⟩; replace B := hide (B.out.trans (b2.mono B.out.size)); clear b2))
    go_ret
    exact ⟨rfl, B.out⟩
  have HL := hide hl
  have HM2 := hide hm
  have HAl : Hid (∀ w', Below w.heap.size w w' → Calls Try.prog 11 #[.int .i64 a, .slice ao l.length cap] w' fun e w'' => e = .returned (.int .i64 (al a l)) ∧ Below w'.heap.size w' w'') := fun w' h => All_any ((hl.below h).mono h.size) (by omega) a
  have HAm : Hid (∀ w', Below w.heap.size w w' → Calls Try.prog 11 #[.int .i64 a, .slice ao2 m.length cap2] w' fun e w'' => e = .returned (.int .i64 (al a m)) ∧ Below w'.heap.size w' w'') := fun w' h => All_any ((hm.below h).mono h.size) (by omega) a
  have HAa : Hid (∀ (w' : World) (u : Value), OwnL 2 1 i64cs w.heap.size w' u (m ++ l) → Calls Try.prog 11 #[.int .i64 a, u] w' fun e w'' => e = .returned (.int .i64 (al a (m ++ l))) ∧ Below w'.heap.size w' w'') := fun w' u h => All_any (OwnL.lsegI h (by simp; omega)) (by simp; omega) a
  have HZ := hide (fun w => Zero_any w a)
  have H1 : Hid (∀ (w : World) (p q : Int), (p = x ∧ q = y) ∨ (p = y ∧ q = x) → Calls Try.prog 10 #[.int .i64 a, .int .i64 p, .int .i64 q] w fun e w' => e = .returned (.int .i64 (jn a x y)) ∧ Below w.heap.size w w') := fun w p q h => by
    rcases h with ⟨rfl, rfl⟩ | ⟨rfl, rfl⟩
    · exact Merge_any w a p q
    · rw [jn_comm a q p]; exact Merge_any w a p q
  have H3 := hide (fun w => Merge_any w a (jn a x y) z)
  have H4 := hide (fun w => Merge_any w a y z)
  have H5 := hide (fun w => Merge_any w a x (jn a y z))
  have H6 := hide (fun w => Merge_any w a x (zr a))
  have H7 := hide (fun w => Merge_any w a (al a l) (al a m))
  rw [jn_assoc a x y z] at H3
  rw [jn_zero ha hx] at H6
  rw [al_app ha hin] at H7
  have hS : (m ++ l).length ≤ 1000000 := by simp; omega
  have HS := hide hS
  clear hl hm hin hx ha hS
  generalize jn a x (jn a y z) = p1 at *
  generalize jn a x y = p2 at *
  generalize jn a y z = p3 at *
  generalize zr a = p4 at *
  generalize al a l = p5 at *
  generalize al a m = p6 at *
  generalize al a (m ++ l) = p7 at *
  as_aux_lemma =>
  go_enter Try.func4, Try.ntmps4
  go_wp2_with (first
    | (go_at_call 6; refine HK.out.mono ?_; rintro e w1 ⟨rfl, b1⟩; have B := hide b1; clear b1)
    | (go_at_call 7; refine (HIs.out _).mono ?_; rintro e w2 ⟨rfl, b2⟩; replace B := hide (B.out.trans (b2.mono B.out.size)); clear b2)
    | (at_builtin; refine app_lseg rfl _ _ rfl w.heap.size (.slice none 0 0) [] rfl (OwnL.nil _ _ _ _ _) w.heap.size _ m rfl (HM2.out.below B.out) (by simp; omega) B.out.size ?_; intro v4 w4 h4 g4 n4; rw [List.nil_append] at h4; replace B := hide (B.out.grown g4 B.out.size (fun k e => by cases e)); have O4 := hide h4; clear h4 g4 n4)
    | (at_builtin; refine app_lseg rfl _ _ rfl w.heap.size v4 m rfl O4.out w.heap.size _ l rfl (HL.out.below B.out) (by simpa using HS.out) B.out.size ?_; intro v5 w5 h5 g5 n5; replace B := hide (B.out.grown g5 B.out.size (fun k e => O4.out.at k e)); have O5 := hide h5; have C := hide (Below.refl w5.heap.size w5); clear h5 g5 n5 O4)
    | (go_at_call 8; refine (HZ.out _).mono ?_; rintro e w6 ⟨rfl, b6⟩; replace B := hide (B.out.trans (b6.mono B.out.size)); replace C := hide (C.out.trans (b6.mono C.out.size)); clear b6)
    | (go_at_call_of 10 (Value.int IntKind.i64 p2); refine (H3.out _).mono ?_; rintro e w6 ⟨rfl, b6⟩; replace B := hide (B.out.trans (b6.mono B.out.size)); replace C := hide (C.out.trans (b6.mono C.out.size)); clear b6)
    | (go_at_call_of 10 (Value.int IntKind.i64 p3); refine (H5.out _).mono ?_; rintro e w6 ⟨rfl, b6⟩; replace B := hide (B.out.trans (b6.mono B.out.size)); replace C := hide (C.out.trans (b6.mono C.out.size)); clear b6)
    | (go_at_call_of 10 (Value.int IntKind.i64 p4); refine (H6.out _).mono ?_; rintro e w6 ⟨rfl, b6⟩; replace B := hide (B.out.trans (b6.mono B.out.size)); replace C := hide (C.out.trans (b6.mono C.out.size)); clear b6)
    | (go_at_call_of 10 (Value.int IntKind.i64 p5); refine (H7.out _).mono ?_; rintro e w6 ⟨rfl, b6⟩; replace B := hide (B.out.trans (b6.mono B.out.size)); replace C := hide (C.out.trans (b6.mono C.out.size)); clear b6)
    | (go_at_call_of 10 (Value.int IntKind.i64 z); refine (H4.out _).mono ?_; rintro e w6 ⟨rfl, b6⟩; replace B := hide (B.out.trans (b6.mono B.out.size)); replace C := hide (C.out.trans (b6.mono C.out.size)); clear b6)
    | (go_at_call 10; refine (H1.out _ _ _ (by first | exact .inl ⟨rfl, rfl⟩ | exact .inr ⟨rfl, rfl⟩)).mono ?_; rintro e w6 ⟨rfl, b6⟩; replace B := hide (B.out.trans (b6.mono B.out.size)); replace C := hide (C.out.trans (b6.mono C.out.size)); clear b6)
    | (go_at_call_of 11 (Value.slice ao l.length cap); refine (HAl.out _ B.out).mono ?_; rintro e w6 ⟨rfl, b6⟩; replace B := hide (B.out.trans (b6.mono B.out.size)); replace C := hide (C.out.trans (b6.mono C.out.size)); clear b6)
    | (go_at_call_of 11 (Value.slice ao2 m.length cap2); refine (HAm.out _ B.out).mono ?_; rintro e w6 ⟨rfl, b6⟩; replace B := hide (B.out.trans (b6.mono B.out.size)); replace C := hide (C.out.trans (b6.mono C.out.size)); clear b6)
    | (go_at_call_of 11 v5; refine (HAa.out _ v5 (O5.out.below C.out)).mono ?_; rintro e w6 ⟨rfl, b6⟩; replace B := hide (B.out.trans (b6.mono B.out.size)); replace C := hide (C.out.trans (b6.mono C.out.size)); clear b6))
  go_ret
  exact ⟨rfl, B.out⟩
end Go.Proofs.Ythbfjkhjjkjadaa
