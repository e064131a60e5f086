/-
  Settled.
-/
import Derived.Test.YtgjjacljjlhnhaaCTick
namespace Go.Proofs.Ytgjjacljjlhnhaa
open Go.RowKit

set_option maxHeartbeats 4000000 in
set_option maxRecDepth 100000 in
theorem Settled_any {w : World} {k : Nat} {P : Sh} {s : Cd} (h : CX w k P s) :
    Calls Try.prog 22 #[.pointer (some ⟨k, 0, none⟩)] w fun r w' => r = .returned (.bool (cSet s)) ∧ Below w.heap.size w w' := by
  have z3 := h.c3
  have z10 := h.c10
  have z11 := h.c11
  have z12 := h.c12
  have H := hide h
  unfold cSet
  obtain ⟨F, hF⟩ : ∃ F, (s.rd.length == s.T.length) = F := ⟨_, rfl⟩
  obtain ⟨G, hG⟩ : ∃ G, (s.dn.length == s.S.length) = G := ⟨_, rfl⟩
  have HF := hide hF
  have HG := hide hG
  rw [hF, hG]
  clear h hF hG
  by_cases he : s.ep = 0
  · rw [he] at z3
    have e1 : (decide (0 < s.ep) && F && s.un == 0 && (s.du == 0 || G)) = false := by simp [he]
    rw [e1]
    clear e1 he
    go_enter Try.func22, Try.ntmps22
    go_wp2_with fail
    go_ret
    exact ⟨rfl, Below.refl _ _⟩
  · have be : (s.ep : Int) > 0 := by omega
    have e0 : decide (0 < s.ep) = true := by simp; omega
    rw [e0, Bool.true_and]
    clear e0 he
    cases F with
    | false =>
      go_enter Try.func22, Try.ntmps22
      go_wp2_with (first | (go_at_call 31; refine (full1 H.out).mono ?_; rintro r w1 ⟨rfl, b1⟩; rw [HF.out]; have B1 := hide b1; clear b1; have y4 := (H.out.below B1.out).c4; have y5 := (H.out.below B1.out).c5; have y16 := (H.out.below B1.out).c16; have y17 := (H.out.below B1.out).c17; have y18 := (H.out.below B1.out).c18) | (go_at_call 31; refine (full3 (H.out.below B1.out)).mono ?_; rintro r w2 ⟨rfl, b2⟩; rw [HG.out]; have B2 := hide (B1.out.trans (b2.mono B1.out.size)); clear b2) | fail)
      go_ret
      exact ⟨rfl, B1.out⟩
    | true =>
      rw [Bool.true_and]
      by_cases hu : s.un = 0
      · have bu : (s.un : Int) = 0 := by omega
        have e1 : (s.un == 0) = true := by simpa using hu
        rw [e1, Bool.true_and]
        clear e1 hu
        by_cases hd : s.du = 0
        · have bd : (s.du : Int) = 0 := by omega
          have e1 : (s.du == 0) = true := by simpa using hd
          rw [e1, Bool.true_or]
          clear e1 hd
          go_enter Try.func22, Try.ntmps22
          go_wp2_with (first | (go_at_call 31; refine (full1 H.out).mono ?_; rintro r w1 ⟨rfl, b1⟩; rw [HF.out]; have B1 := hide b1; clear b1; have y4 := (H.out.below B1.out).c4; have y5 := (H.out.below B1.out).c5; have y16 := (H.out.below B1.out).c16; have y17 := (H.out.below B1.out).c17; have y18 := (H.out.below B1.out).c18) | (go_at_call 31; refine (full3 (H.out.below B1.out)).mono ?_; rintro r w2 ⟨rfl, b2⟩; rw [HG.out]; have B2 := hide (B1.out.trans (b2.mono B1.out.size)); clear b2) | fail)
          go_ret
          exact ⟨rfl, B1.out⟩
        · have bd : ¬ (s.du : Int) = 0 := by omega
          have e1 : (s.du == 0) = false := by simpa using hd
          rw [e1, Bool.false_or]
          clear e1 hd
          cases G with
          | false =>
            go_enter Try.func22, Try.ntmps22
            go_wp2_with (first | (go_at_call 31; refine (full1 H.out).mono ?_; rintro r w1 ⟨rfl, b1⟩; rw [HF.out]; have B1 := hide b1; clear b1; have y4 := (H.out.below B1.out).c4; have y5 := (H.out.below B1.out).c5; have y16 := (H.out.below B1.out).c16; have y17 := (H.out.below B1.out).c17; have y18 := (H.out.below B1.out).c18) | (go_at_call 31; refine (full3 (H.out.below B1.out)).mono ?_; rintro r w2 ⟨rfl, b2⟩; rw [HG.out]; have B2 := hide (B1.out.trans (b2.mono B1.out.size)); clear b2) | fail)
            go_ret
            exact ⟨(show Ending.returned (.bool ((s.du : Int) == 0)) = _ from ret_bool (by simp; omega)), B2.out⟩
          | true =>
            go_enter Try.func22, Try.ntmps22
            go_wp2_with (first | (go_at_call 31; refine (full1 H.out).mono ?_; rintro r w1 ⟨rfl, b1⟩; rw [HF.out]; have B1 := hide b1; clear b1; have y4 := (H.out.below B1.out).c4; have y5 := (H.out.below B1.out).c5; have y16 := (H.out.below B1.out).c16; have y17 := (H.out.below B1.out).c17; have y18 := (H.out.below B1.out).c18) | (go_at_call 31; refine (full3 (H.out.below B1.out)).mono ?_; rintro r w2 ⟨rfl, b2⟩; rw [HG.out]; have B2 := hide (B1.out.trans (b2.mono B1.out.size)); clear b2) | fail)
            go_ret
            exact ⟨rfl, B2.out⟩
      · have bu : ¬ (s.un : Int) = 0 := by omega
        have e1 : (s.un == 0) = false := by simpa using hu
        rw [e1, Bool.false_and]
        clear e1 hu
        go_enter Try.func22, Try.ntmps22
        go_wp2_with (first | (go_at_call 31; refine (full1 H.out).mono ?_; rintro r w1 ⟨rfl, b1⟩; rw [HF.out]; have B1 := hide b1; clear b1; have y4 := (H.out.below B1.out).c4; have y5 := (H.out.below B1.out).c5; have y16 := (H.out.below B1.out).c16; have y17 := (H.out.below B1.out).c17; have y18 := (H.out.below B1.out).c18) | (go_at_call 31; refine (full3 (H.out.below B1.out)).mono ?_; rintro r w2 ⟨rfl, b2⟩; rw [HG.out]; have B2 := hide (B1.out.trans (b2.mono B1.out.size)); clear b2) | fail)
        go_ret
        exact ⟨rfl, B1.out⟩

end Go.Proofs.Ytgjjacljjlhnhaa
