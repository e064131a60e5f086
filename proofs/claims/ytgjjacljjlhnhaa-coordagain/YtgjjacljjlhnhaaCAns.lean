/-
  full, askAgain, answer.
-/
import Derived.Test.YtgjjacljjlhnhaaCRoll
namespace Go.Proofs.Ytgjjacljjlhnhaa
open Go.RowKit

theorem grownBy_of_below {a c : World} {r : Option Nat} (h : Below a.heap.size a c) : a.grownBy c r := ⟨h.os, h.tape, h.output, h.size, fun i hi _ => h.block i hi⟩
theorem cont_eq {A B : List Int} (h : ∀ x, x ∈ A ↔ x ∈ B) (x : Int) : A.contains x = B.contains x := by
  rw [Bool.eq_iff_iff]; simp [h x]
set_option maxHeartbeats 4000000 in
set_option maxRecDepth 100000 in
theorem full_any {w : World} {b : Nat} {A : List Int} (hA : SetAt w b A) (ao : Option Addr) (n cap : Nat) (ov : Value) :
    Calls Try.prog 31 #[.agg #[.slice ao n cap, ov, .map (some b)]] w fun e w' => e = .returned (.bool (A.length == n)) ∧ Below w.heap.size w w' := by
  have hb1 := below_box w (.cells #[.slice ao n cap, ov, .map (some b)] 56)
  have hbx : BoxT 56 (w.alloc (.cells #[.slice ao n cap, ov, .map (some b)] 56)) w.heap.size #[.slice ao n cap, ov, .map (some b)] := BoxT.new _ _ _
  obtain ⟨b0, b1, b2⟩ := hbx.cells3
  have HA := hide (hA.below hb1)
  have HB1 := hide hb1
  clear hbx hb1 hA
  by_cases hq : A.length = n
  · subst hq
    have hlen := HA.out.len
    generalize A.length = m at *
    have e1 : (m == m) = true := by simp
    rw [e1]
    go_enter Try.func31, Try.ntmps31
    go_wp2_with fail
    go_ret
    exact ⟨by simp, HB1.out⟩
  · have e1 : (A.length == n) = false := by simpa using hq
    rw [e1]
    have bq : ¬ ((A.length : Int) = (n : Int)) := by omega
    have hlen := HA.out.len
    go_enter Try.func31, Try.ntmps31
    go_wp2_with fail
    go_ret
    exact ⟨by simp; omega, HB1.out⟩
set_option maxHeartbeats 4000000 in
set_option maxRecDepth 100000 in
theorem askAgain_any {w : World} {b : Nat} {A : List Int} (hA : SetAt w b A) (v ov : Value) :
    Calls Try.prog 29 #[.agg #[v, ov, .map (some b)]] w fun e w' => e = .returned (.tuple #[]) ∧ SetAt w' b [] ∧ w.grownBy w' (some b) := by
  have hb1 := below_box w (.cells #[v, ov, .map (some b)] 56)
  have hbx : BoxT 56 (w.alloc (.cells #[v, ov, .map (some b)] 56)) w.heap.size #[v, ov, .map (some b)] := BoxT.new _ _ _
  obtain ⟨b0, b1, b2⟩ := hbx.cells3
  have HA := hide (hA.below hb1)
  clear hbx hb1 hA
  obtain ⟨w2, hclr, s2, m2⟩ := HA.out.clear 0
  have S2 := hide s2
  have M2 := hide m2
  clear s2 m2
  go_enter Try.func29, Try.ntmps29
  go_wp2_with fail
  go_end0
  exact ⟨rfl, S2.out, grownBy_trans (grownBy_alloc' _ _ _) M2.out.grown⟩
set_option maxHeartbeats 4000000 in
set_option maxRecDepth 100000 in
theorem answer_any {w : World} {o b : Nat} {T O A : List Int} (hO : SetAt w o O) (hOT : ∀ x, x ∈ O ↔ x ∈ T) (hA : SetAt w b A) (ao : Option Addr) (cap : Nat) {x : Int} (hx : In64 x) :
    Calls Try.prog 35 #[.agg #[.slice ao T.length cap, .map (some o), .map (some b)], .int .i64 x] w fun e w' => e = .returned (.bool (ansB T A x)) ∧ SetAt w' b (ansL T A x) ∧ w.grownBy w' (some b) := by
  have hb1 := below_box w (.cells #[.slice ao T.length cap, .map (some o), .map (some b)] 56)
  have hbx : BoxT 56 (w.alloc (.cells #[.slice ao T.length cap, .map (some o), .map (some b)] 56)) w.heap.size #[.slice ao T.length cap, .map (some o), .map (some b)] := BoxT.new _ _ _
  obtain ⟨b0, b1, b2⟩ := hbx.cells3
  have HO := hide (hO.below hb1)
  have HA := hide (hA.below hb1)
  generalize hW : w.alloc (.cells #[.slice ao T.length cap, .map (some o), .map (some b)] 56) = W at *
  have HBX := hide hbx
  have HB1 := hide hb1
  have HX := hide hx
  have H1 := hide (has_any HO.out hx)
  rw [cont_eq hOT x] at H1
  have HG : Hid (w.grownBy W (some b)) := hide (by rw [← hW]; exact grownBy_alloc' _ _ _)
  clear hO hA hb1 hbx hx
  unfold ansB ansL fresh
  obtain ⟨r, hr⟩ : ∃ r, T.contains x = r := ⟨_, rfl⟩
  obtain ⟨q, hq⟩ : ∃ q, A.contains x = q := ⟨_, rfl⟩
  have HQ := hide hq
  rw [hr, hq]
  rw [hr] at H1
  clear hr hq
  cases r with
  | false =>
    go_enter Try.func35, Try.ntmps35
    go_wp2_with (first | ((try rw [hW]); go_at_call 36; refine H1.out.mono ?_; rintro e w1 ⟨rfl, k1⟩; have B1 := hide k1; clear k1) | fail)
    go_ret
    exact ⟨by simp, HA.out.below B1.out, grownBy_trans HG.out (grownBy_of_below B1.out)⟩
  | true =>
    have H2 : Hid (∀ w1, Below W.heap.size W w1 → Calls Try.prog 36 #[.map (some b), .int .i64 x] w1 fun e w' => e = .returned (.bool q) ∧ Below w1.heap.size w1 w') := hide (fun w1 h1 => by rw [← HQ.out]; exact has_any (HA.out.below h1) HX.out)
    cases q with
    | true =>
      go_enter Try.func35, Try.ntmps35
      go_wp2_with (first | ((try rw [hW]); go_at_call 36; refine H1.out.mono ?_; rintro e w1 ⟨rfl, k1⟩; have B1 := hide k1; clear k1 H1; obtain ⟨b0, b1, b2⟩ := (HBX.out.below B1.out).cells3) | (go_at_call 36; refine (H2.out _ B1.out).mono ?_; rintro e w2 ⟨rfl, k1⟩; have B2 := hide k1; clear k1 H2) | fail)
      go_ret
      exact ⟨by simp, (HA.out.below B1.out).below B2.out, grownBy_trans HG.out (grownBy_trans (grownBy_of_below B1.out) (grownBy_of_below B2.out))⟩
    | false =>
      have HN : Hid (x ∉ A) := hide (by have := HQ.out; simpa using this)
      go_enter Try.func35, Try.ntmps35
      go_wp2_with (first | ((try rw [hW]); go_at_call 36; refine H1.out.mono ?_; rintro e w1 ⟨rfl, k1⟩; have B1 := hide k1; clear k1 H1; obtain ⟨b0, b1, b2⟩ := (HBX.out.below B1.out).cells3) | (go_at_call 36; refine (H2.out _ B1.out).mono ?_; rintro e w2 ⟨rfl, k1⟩; have B2 := hide (B1.out.trans (k1.mono B1.out.size)); clear k1 H2; obtain ⟨b0, b1, b2⟩ := (HBX.out.below B2.out).cells3) | (go_at_call 37; refine (put_any (HA.out.below B2.out) HX.out HN.out).mono ?_; rintro e w3 ⟨rfl, s3, m3⟩; have S3 := hide s3; have M3 := hide m3; clear s3 m3; obtain ⟨b0, b1, b2⟩ := ((HBX.out.below B2.out).back (M3.out.other (SetAt.noBox (HA.out.below B2.out) (HBX.out.below B2.out)))).cells3) | (go_at_call 31; refine (full_any S3.out ao T.length cap (.map (some o))).mono ?_; rintro e w4 ⟨rfl, k1⟩; have B4 := hide k1; clear k1) | fail)
      go_ret
      refine ⟨?_, ?_, ?_⟩
      · simp [List.length_cons]
      · simpa using S3.out.below B4.out
      · exact grownBy_trans HG.out (grownBy_trans (grownBy_of_below B2.out) (grownBy_trans M3.out.grown (grownBy_of_below B4.out)))

end Go.Proofs.Ytgjjacljjlhnhaa
