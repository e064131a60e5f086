/-
  The laws' known: a channel of one credit worked by hand.
-/
import Derived.Test.YtnomoekbfclckaaFLawI
namespace Go.Proofs.Ytnomoekbfclckaa
open Go.RowKit

section
variable {W w : World} {K cr : Nat} {S : FS Int}
theorem fMovingI (H : FlI W w K cr S) : Calls Try.prog 16 #[.pointer (some ⟨K, 0, none⟩)] w fun r w' => r = .returned (.int .i64 S.mov.length) ∧ w' = w := by
  obtain ⟨fp, h1, h2, h3⟩ := H
  exact cMovingI h1
theorem fMostI (H : FlI W w K cr S) : Calls Try.prog 32 #[.pointer (some ⟨K, 0, none⟩)] w fun r w' => r = .returned (.int .i64 S.mo) ∧ w' = w := by
  obtain ⟨fp, h1, h2, h3⟩ := H
  exact cMostI h1
theorem fCreditsI (H : FlI W w K cr S) (hm : S.mov.length ≤ 1000) : Calls Try.prog 30 #[.pointer (some ⟨K, 0, none⟩)] w fun r w' => r = .returned (.int .i64 (pCr cr S)) ∧ FlI W w' K cr S := by
  obtain ⟨fp, h1, h2, h3⟩ := H
  exact (cCreditsI h1 hm).mono (fun r w' h => ⟨h.1, FlI.below ⟨fp, h1, h2, h3⟩ h.2⟩)
end
set_option maxHeartbeats 4000000 in
set_option maxRecDepth 100000 in
theorem known_any (w : World) : Calls Try.prog 7 #[] w fun r w' => r = .returned (.bool true) ∧ Below w.heap.size w w' := by
  go_enter Try.func7, Try.ntmps7
  go_wp2_with fail
  go_at_call 9
  refine (fNewI (Below.refl w.heap.size w) 1 1).mono ?_
  rintro r w1 ⟨K, rfl, h1⟩
  have H1 : Hid (FlI w w1 K 1 ⟨[], [], [], 1, 1, 0, 1⟩) := h1
  clear h1
  go_wp2_with fail
  go_at_call 10
  refine (fOfferI H1.out (by decide) 5).mono ?_
  rintro r w2 ⟨rfl, h2⟩
  have H2 : Hid (FlI w w2 K 1 ⟨[5], [], [], 1, 1, 0, 1⟩) := h2
  clear h2 H1
  go_wp2_with fail
  go_at_call 10
  refine (fOfferI H2.out (by decide) 6).mono ?_
  rintro r w3 ⟨rfl, h3⟩
  have H3 : Hid (FlI w w3 K 1 ⟨[5, 6], [], [], 1, 1, 0, 1⟩) := h3
  clear h3 H2
  go_wp2_with fail
  go_at_call 11
  refine (fSendI H3.out (by decide) (by decide) (by decide) (by decide)).mono ?_
  rintro r w4 ⟨h0, h4⟩
  have h0' : r = .returned (.bool true) := h0
  subst h0'
  have H4 : Hid (FlI w w4 K 1 ⟨[6], [(1, 5)], [], 2, 1, 0, 1⟩) := h4
  clear h4 H3 h0
  go_wp2_with fail
  go_at_call 11
  refine (fSendI H4.out (by decide) (by decide) (by decide) (by decide)).mono ?_
  rintro r w5 ⟨h0, h5⟩
  have h0' : r = .returned (.bool false) := h0
  subst h0'
  have H5 : Hid (FlI w w5 K 1 ⟨[6], [(1, 5)], [], 2, 1, 0, 1⟩) := h5
  clear h5 H4 h0
  go_wp2_with fail
  go_at_call 12
  refine (fDeliverI H5.out (by decide) (by decide) (by decide)).mono ?_
  rintro r w6 ⟨h0, h6⟩
  have h0' : r = .returned (.int .i64 0) := h0
  subst h0'
  have H6 : Hid (FlI w w6 K 1 ⟨[6], [], [5], 2, 2, 1, 1⟩) := h6
  clear h6 H5 h0
  go_wp2_with fail
  go_at_call 13
  refine (fTakeI H6.out rfl).mono ?_
  rintro r w7 ⟨rfl, h7⟩
  have H7 : Hid (FlI w w7 K 1 ⟨[6], [], [], 2, 2, 1, 1⟩) := h7
  clear h7 H6
  go_wp2_with fail
  go_at_call 11
  refine (fSendI H7.out (by decide) (by decide) (by decide) (by decide)).mono ?_
  rintro r w8 ⟨h0, h8⟩
  have h0' : r = .returned (.bool true) := h0
  subst h0'
  have H8 : Hid (FlI w w8 K 1 ⟨[], [(2, 6)], [], 3, 2, 1, 1⟩) := h8
  clear h8 H7 h0
  go_wp2_with fail
  go_at_call 24
  refine (fArriveI H8.out (by decide) (by decide) 2 2 0).mono ?_
  rintro r w9 ⟨h0, h9⟩
  have h0' : r = .returned (.int .i64 62) := h0
  subst h0'
  have H9 : Hid (FlI w w9 K 1 ⟨[], [(2, 6)], [], 3, 2, 1, 1⟩) := h9
  clear h9 H8 h0
  go_wp2_with fail
  go_at_call 24
  refine (fArriveI H9.out (by decide) (by decide) 1 9 0).mono ?_
  rintro r w10 ⟨h0, h10⟩
  have h0' : r = .returned (.int .i64 61) := h0
  subst h0'
  have H10 : Hid (FlI w w10 K 1 ⟨[], [(2, 6)], [], 3, 2, 1, 1⟩) := h10
  clear h10 H9 h0
  have hmv := hide (fMovingI H10.out)
  have hbk := hide (fBacklogI H10.out)
  have hmo := hide (fMostI H10.out)
  have hcr := hide (fCreditsI H10.out (by decide))
  go_wp2_with (first
    | (go_at_call 16; refine hmv.out.mono ?_; rintro r w11 ⟨h0, rfl⟩; have h0' : r = .returned (.int .i64 1) := h0; subst h0'; clear h0)
    | (go_at_call 15; refine hbk.out.mono ?_; rintro r w12 ⟨h0, rfl⟩; have h0' : r = .returned (.int .i64 0) := h0; subst h0'; clear h0)
    | (go_at_call 32; refine hmo.out.mono ?_; rintro r w13 ⟨h0, rfl⟩; have h0' : r = .returned (.int .i64 1) := h0; subst h0'; clear h0)
    | (go_at_call 30; refine hcr.out.mono ?_; rintro r w14 ⟨h0, h14⟩; have h0' : r = .returned (.int .i64 0) := h0; subst h0'; clear h0)
    | fail)
  go_ret
  exact ⟨rfl, h14.bel⟩
end Go.Proofs.Ytnomoekbfclckaa
