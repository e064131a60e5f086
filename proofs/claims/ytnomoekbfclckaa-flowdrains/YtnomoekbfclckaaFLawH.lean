/-
  The law FlowHolds, walked.
-/
import Derived.Test.YtnomoekbfclckaaFLaw2
import Derived.Deep.CutBlock
import Derived.Deep.CutRange
namespace Go.Proofs.Ytnomoekbfclckaa
open Go.RowKit

/-- What FlowHolds keeps: n were offered, a of them taken. -/
structure HH (W w : World) (K cr i n a : Nat) (S : FS Int) : Prop where
  fl : FlI W w K cr S
  nb : Nb i S
  ord : Ord cr S
  all : pAll S = upto a (n - a)
theorem HH.len {W w : World} {K cr i n a : Nat} {S : FS Int} (H : HH W w K cr i n a S) : S.back.length + S.mov.length + S.wait.length = n - a := by
  have h := congrArg List.length H.all
  rwa [all_len, upto_len] at h
set_option maxHeartbeats 16000000 in
set_option maxRecDepth 100000 in
theorem FlowHolds_walk (w : World) (c : Int) (ao : Option Addr) (cap : Nat) (xs : List Stp) (hs : Hid (LSeg 4 Stp.cs w.heap.size w (.slice ao xs.length cap) xs)) :
    Calls Try.prog 5 #[.int .i64 c, .slice ao xs.length cap] w fun e w' => e = .returned (.bool true) ∧ Below w.heap.size w w' := by
  have hknown := known_any w
  have hlen : xs.length ≤ 140737488355328 := by obtain ⟨_, _, e, h2, _⟩ := hs.out; exact h2
  go_enter Try.func5, Try.ntmps5
  go_wp2_with fail
  refine hknown.mono ?_
  rintro e w1 ⟨rfl, hb1⟩
  clear hknown
  have HB1 := hide hb1
  clear hb1
  by_cases hl : xs.length ≤ 500
  rotate_left
  · go_wp2
    go_ret
    exact ⟨rfl, HB1.out⟩
  go_wp2_with fail
  go_at_call 9
  refine (fNewI HB1.out c 7).mono ?_
  rintro r w2 ⟨K, rfl, h2⟩
  have hcr1 : 1 ≤ (min (max c 1) 64).toNat := by omega
  have hcr2 : (min (max c 1) 64).toNat ≤ 64 := by omega
  have hcr3 : (((min (max c 1) 64).toNat : Nat) : Int) = min (max c 1) 64 := by omega
  generalize (min (max c 1) 64).toNat = cr at *
  have H2 : Hid (HH w w2 K cr 0 0 0 (pNew 7)) := ⟨h2, Nb.new 7, Ord.new cr 7, rfl⟩
  clear h2 HB1
  go_upto_region 6 with fail
  go_cut [6] from 22 to 24 (fun mv wx => mv = .int .i64 (cr : Int) ∧ wx = w2)
  case first =>
    go_wp2_with fail
    all_goals
      rename_i hi
      go_meet
      refine ⟨?_, rfl⟩
      rw [hcr3]
      refine congrArg (Value.int .i64) ?_
      first | (rw [if_pos (by omega)] at hi; omega) | (rw [if_neg (by omega)] at hi; omega)
  case rest =>
  obtain ⟨rfl, rfl⟩ := hcut
  clear hcr3
  go_wp2_with fail
  go_loopw [7, 8, 9] (fun nv av iv wr => ∃ (i n a : Nat) (S : FS Int), i ≤ xs.length ∧ n ≤ i ∧ a ≤ n ∧ nv = .int .i64 n ∧ av = .int .i64 a ∧ iv = .int .i64 i ∧ Hid (HH w wr K cr i n a S)) (fun _ _ iv _ => xs.length - (intOf iv).toNat)
  case atStart => exact ⟨0, 0, 0, _, Nat.zero_le _, Nat.le_refl _, Nat.le_refl _, rfl, rfl, rfl, H2.out⟩
  case round =>
    clear H2
    obtain ⟨i, n, a, S, hi, hn, ha, rfl, rfl, rfl, HI⟩ := hrel
    by_cases hlt : i < xs.length
    · obtain ⟨t, ht⟩ : ∃ t, xs[i]? = some t := ⟨_, List.getElem?_eq_getElem hlt⟩
      obtain ⟨bb, off, rfl, hbb, c0, _⟩ := (hs.out.below HI.out.fl.bel).stp ht
      obtain ⟨wh, x, ep, sq⟩ := t
      dsimp only at c0
      clear ht
      go_upto_block 2 with fail
      go_cut [7, 8, 10, 11, 12] from 31 to 76 (fun nv av _ _ _ wx => ∃ (n2 a2 : Nat) (S2 : FS Int), n2 ≤ i + 1 ∧ a2 ≤ n2 ∧ nv = .int .i64 n2 ∧ av = .int .i64 a2 ∧ Hid (HH w wx K cr (i + 1) n2 a2 S2))
      case rest =>
        clear HI c0
        obtain ⟨n2, a2, S2, hn2, ha2, rfl, rfl, H7⟩ := hcut
        have hl7 := H7.out.len
        have hle := H7.out.ord.le
        have hmo := H7.out.ord.mo
        have h1 := hide (fMovingI H7.out.fl)
        have h2 := hide (fWaitingI H7.out.fl)
        have h3 := hide (fMostI H7.out.fl)
        have h4 := hide (fBacklogI H7.out.fl)
        generalize S2.back.length = lb at *
        generalize S2.mov.length = lm at *
        generalize S2.wait.length = lw at *
        generalize S2.mo = mo at *
        have e1 : (lm : Int) + lw ≤ cr := by omega
        have e2 : (lb : Int) + lm + lw = (n2 : Int) - a2 := by omega
        go_wp2_with (first
          | (go_at_call 16; refine h1.out.mono ?_; rintro r w8 ⟨rfl, rfl⟩)
          | (go_at_call 17; refine h2.out.mono ?_; rintro r w8 ⟨rfl, rfl⟩)
          | (go_at_call 32; refine h3.out.mono ?_; rintro r w8 ⟨rfl, rfl⟩)
          | (go_at_call 15; refine h4.out.mono ?_; rintro r w8 ⟨rfl, rfl⟩)
          | fail)
        go_roundw
        case rel => exact ⟨i + 1, n2, a2, S2, by omega, hn2, ha2, rfl, rfl, by go_num, H7.out⟩
        case measure => simp [intOf]; omega
      case first =>
      have hbl := HI.out.len
      have hnb := HI.out.nb
      by_cases hk : wh = 0 ∨ wh = 1 ∨ wh = 2
      · have hof := hide (fOfferI HI.out.fl (by omega) (n : Int))
        have hA : pAll (pOffer S (n : Int)) = upto a (n + 1 - a) := by
          rw [all_offer, HI.out.all, show n + 1 - a = n - a + 1 by omega, ← upto_app]
          congr 2; omega
        rcases hk with rfl | rfl | rfl
        all_goals
          go_wp2_with (first | (go_at_call 10; refine hof.out.mono ?_; rintro r w3 ⟨rfl, h3⟩; have H3 := hide h3; clear h3) | fail)
          go_meet
          exact ⟨n + 1, a, _, by omega, by omega, by go_num, rfl, H3.out, (hnb.offer (n : Int)).mono (by omega), HI.out.ord.offer (n : Int), hA⟩
      by_cases hk2 : wh = 3 ∨ wh = 4 ∨ wh = 5
      · have hsd := hide (fSendI HI.out.fl (by omega) (by have := hnb.1; omega) hnb.2.1.1 (by have := hnb.2.1.2; omega))
        obtain ⟨hO, hA⟩ := HI.out.ord.send
        rw [HI.out.all] at hA
        rcases hk2 with rfl | rfl | rfl
        all_goals
          go_wp2_with (first | (go_at_call 11; refine hsd.out.mono ?_; rintro r w3 ⟨rfl, h3⟩; have H3 := hide h3; clear h3) | fail)
          go_meet
          exact ⟨n, a, _, by omega, by omega, rfl, rfl, H3.out, hnb.send hcr2, hO, hA⟩
      by_cases hk3 : wh = 6 ∨ wh = 7
      · have hsd := hide (fDeliverI HI.out.fl (by have := hnb.1; omega) hnb.2.2.1 (by have := hnb.2.2.2; omega))
        obtain ⟨hO, hA, he⟩ := HI.out.ord.del_any
        rw [HI.out.all] at hA
        have hN := hnb.del (cr := cr)
        generalize pDel cr S = pr at *
        obtain ⟨S1, e1⟩ := pr
        dsimp only at hO hA he hN hsd
        rcases hk3 with rfl | rfl
        all_goals
          rcases he with rfl | rfl
          all_goals
            go_wp2_with (first | (go_at_call 12; refine hsd.out.mono ?_; rintro r w3 ⟨rfl, h3⟩; have H3 := hide h3; clear h3) | fail)
            go_meet
            exact ⟨n, a, S1, by omega, by omega, rfl, rfl, H3.out, hN, hO, hA⟩
      by_cases hk4 : wh = 8 ∨ wh = 9 ∨ wh = 10
      · cases hw : S.wait with
        | nil =>
          have htk := hide (fTakeNI HI.out.fl hw)
          rcases hk4 with rfl | rfl | rfl
          all_goals
            go_wp2_with (first | (go_at_call 13; refine htk.out.mono ?_; rintro r w3 ⟨rfl, rfl⟩) | fail)
            go_meet
            exact ⟨n, a, S, by omega, by omega, rfl, rfl, HI.out.fl, hnb.mono (by omega), HI.out.ord, HI.out.all⟩
        | cons y T =>
          have htk := fTakeI HI.out.fl hw
          have hA := HI.out.all
          rw [all_take hw] at hA
          have han : a < n := by
            rcases Nat.lt_or_ge a n with h | h
            · exact h
            · rw [show n - a = 0 by omega] at hA; cases hA
          rw [show n - a = (n - a - 1) + 1 by omega] at hA
          have hyn : y = (a : Int) := (List.cons.inj hA).1
          have hA2 : pAll (pTake S) = upto ((a + 1 : Nat) : Int) (n - (a + 1)) := by
            rw [(List.cons.inj hA).2, show n - (a + 1) = n - a - 1 by omega]
            congr 1
          rw [hyn] at htk
          have htk := hide htk
          clear hA hyn
          rcases hk4 with rfl | rfl | rfl
          all_goals
            go_wp2_with (first | (go_at_call 13; refine htk.out.mono ?_; rintro r w3 ⟨rfl, h3⟩; have H3 := hide h3; clear h3) | fail)
            go_meet
            exact ⟨n, a + 1, _, by omega, by omega, rfl, by go_num, H3.out, hnb.take.mono (by omega), HI.out.ord.take, hA2⟩
      · have n0 : ¬ wh = 0 := by omega
        have n1 : ¬ wh = 1 := by omega
        have n2 : ¬ wh = 2 := by omega
        have n3 : ¬ wh = 3 := by omega
        have n4 : ¬ wh = 4 := by omega
        have n5 : ¬ wh = 5 := by omega
        have n6 : ¬ wh = 6 := by omega
        have n7 : ¬ wh = 7 := by omega
        have n8 : ¬ wh = 8 := by omega
        have n9 : ¬ wh = 9 := by omega
        have n10 : ¬ wh = 10 := by omega
        clear hk hk2 hk3 hk4
        go_wp2
        go_meet
        exact ⟨n, a, S, by omega, by omega, rfl, rfl, HI.out.fl, hnb.mono (by omega), HI.out.ord, HI.out.all⟩
    · have hbl := HI.out.len
      have hnb := HI.out.nb
      have hdr := hide (fDrainI HI.out.fl (by omega) (by have := hnb.1; omega))
      have hmn : n - a ≤ 500 := by omega
      have ha5 : a ≤ 500 := by omega
      have hn5 : n ≤ 500 := by omega
      have hmI : (n : Int) - a = ((n - a : Nat) : Int) := by omega
      have hAll := HI.out.all
      generalize n - a = m at *
      have hll : (pAll S).length = m := by rw [hAll, upto_len]
      have HM := hide (And.intro hmI hAll)
      clear hs hi hbl hnb hmI hAll
      go_wp2_with (first | (go_at_call 14; refine hdr.out.mono ?_; rintro r w3 ⟨v3, rfl, l3, f3⟩; have F3 := hide f3; obtain ⟨a3, c3, hv3, hc3, hl3⟩ := l3; rw [hll] at hv3; subst hv3; have L3 := hide hl3; clear hl3 f3 hc3) | fail)
      go_loopw [14] (fun iv wr => ∃ k : Nat, k ≤ m ∧ iv = .int .i64 k ∧ wr = w3) (fun iv _ => m - (intOf iv).toNat)
      case atStart => exact ⟨0, Nat.zero_le _, rfl, rfl⟩
      case round =>
        obtain ⟨k, hk, rfl, rfl⟩ := hrel
        by_cases hkl : k < m
        · have hg := upto_get (a : Int) m k hkl
          rw [← HM.out.2] at hg
          rcases L3.out with h | ⟨b, off, rfl, hb, hcell⟩
          · rw [h] at hg; simp at hg
          have f0 := hcell k _ hg 0 _ rfl
          simp only [Nat.mul_one, Nat.add_zero] at f0
          clear hcell hg L3
          go_wp2
          go_roundw
          case rel => exact ⟨k + 1, by omega, by go_num, trivial⟩
          case measure => simp [intOf]; omega
        · obtain rfl : k = m := by omega
          have hcd := hide (fCreditsI F3.out (by simp [pDrain]))
          rw [show pCr cr (pDrain S) = (cr : Int) by simp [pCr, pDrain]] at hcd
          have hmI := HM.out.1
          go_wp2_with (first | (go_at_call 30; refine hcd.out.mono ?_; rintro r w4 ⟨rfl, h4⟩; have H4 := hide h4; clear h4) | fail)
          go_ret
          exact ⟨rfl, H4.out.bel⟩
end Go.Proofs.Ytnomoekbfclckaa
