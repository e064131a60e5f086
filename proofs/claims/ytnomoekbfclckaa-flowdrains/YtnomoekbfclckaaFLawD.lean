/-
  The law FlowDrains, walked.
-/
import Derived.Test.YtnomoekbfclckaaFLawH
namespace Go.Proofs.Ytnomoekbfclckaa
open Go.RowKit

set_option maxHeartbeats 16000000 in
set_option maxRecDepth 100000 in
theorem FlowDrains_walk (w : World) (c : Int) (ao : Option Addr) (cap : Nat) (xs : List Stp) (hs : Hid (LSeg 4 Stp.cs w.heap.size w (.slice ao xs.length cap) xs)) (y : Int) :
    Calls Try.prog 3 #[.int .i64 c, .slice ao xs.length cap, .int .i64 y] w fun e w' => e = .returned (.bool true) ∧ Below w.heap.size w w' := by
  have hknown := known_any w
  have hlen : xs.length ≤ 140737488355328 := by obtain ⟨_, _, e, h2, _⟩ := hs.out; exact h2
  obtain ⟨m, hm, hm2⟩ : ∃ m : Nat, y % 40 = (m : Int) ∧ m < 40 := ⟨(y % 40).toNat, by omega, by omega⟩
  go_enter Try.func3, Try.ntmps3
  go_wp2_with fail
  refine hknown.mono ?_
  rintro e w1 ⟨rfl, hb1⟩
  clear hknown
  have HB1 := hide hb1
  clear hb1
  by_cases hl : xs.length ≤ 300
  rotate_left
  · go_wp2
    go_ret
    exact ⟨rfl, HB1.out⟩
  go_wp2_with fail
  go_at_call 8
  refine (Place_any w1 y 40 (by decide) (by decide)).mono ?_
  rintro r w1' ⟨rfl, rfl⟩
  rw [hm]
  clear hm
  go_wp2_with fail
  go_at_call 9
  refine (fNewI HB1.out c 3).mono ?_
  rintro r w2 ⟨K, rfl, h2⟩
  have hcr1 : 1 ≤ (min (max c 1) 64).toNat := by omega
  have hcr2 : (min (max c 1) 64).toNat ≤ 64 := by omega
  generalize (min (max c 1) 64).toNat = cr at *
  have H2 : Hid (HH w w2 K cr 0 0 0 (pNew 3) ∧ (pNew 3 : FS Int).e = 3) := ⟨⟨h2, Nb.new 3, Ord.new cr 3, rfl⟩, rfl⟩
  clear h2 HB1
  go_wp2_with fail
  go_loopw [8, 9, 10] (fun nv av iv wr => ∃ (i n a : Nat) (S : FS Int), i ≤ xs.length ∧ n ≤ i ∧ a ≤ n ∧ nv = .int .i64 n ∧ av = .int .i64 a ∧ iv = .int .i64 i ∧ Hid (HH w wr K cr i n a S ∧ S.e = 3)) (fun _ _ iv _ => xs.length - (intOf iv).toNat)
  case atStart => exact ⟨0, 0, 0, _, Nat.zero_le _, Nat.le_refl _, Nat.le_refl _, rfl, rfl, rfl, H2.out⟩
  case round =>
    clear H2
    obtain ⟨i, n, a, S, hi, hn, ha, rfl, rfl, rfl, HI0⟩ := hrel
    have HI : Hid (HH w wr K cr i n a S) := HI0.out.1
    have HE : Hid (S.e = 3) := HI0.out.2
    clear HI0
    have hbl := HI.out.len
    have hnb := HI.out.nb
    by_cases hlt : i < xs.length
    · obtain ⟨t, ht⟩ : ∃ t, xs[i]? = some t := ⟨_, List.getElem?_eq_getElem hlt⟩
      obtain ⟨bb, off, rfl, hbb, c0, _⟩ := (hs.out.below HI.out.fl.bel).stp ht
      obtain ⟨wh, x, ep, sq⟩ := t
      dsimp only at c0
      clear ht
      by_cases hk : wh = 0 ∨ wh = 1 ∨ wh = 2
      · have hof := hide (fOfferI HI.out.fl (by omega) (n : Int))
        have hA : pAll (pOffer S (n : Int)) = upto a (n + 1 - a) := by
          rw [all_offer, HI.out.all, show n + 1 - a = n - a + 1 by omega, ← upto_app]
          congr 2; omega
        rcases hk with rfl | rfl | rfl
        all_goals
          go_wp2_with (first | (go_at_call 10; refine hof.out.mono ?_; rintro r w3 ⟨rfl, h3⟩; have H3 := hide h3; clear h3) | fail)
          go_roundw
          case rel => exact ⟨i + 1, n + 1, a, _, by omega, by omega, by omega, by go_num, rfl, by go_num, ⟨H3.out, (hnb.offer (n : Int)).mono (by omega), HI.out.ord.offer (n : Int), hA⟩, HE.out⟩
          case measure => simp [intOf]; omega
      by_cases hk2 : wh = 3 ∨ wh = 4 ∨ wh = 5
      · have hsd := hide (fSendI HI.out.fl (by omega) (by have := hnb.1; omega) hnb.2.1.1 (by have := hnb.2.1.2; omega))
        obtain ⟨hO, hA⟩ := HI.out.ord.send
        rw [HI.out.all] at hA
        rcases hk2 with rfl | rfl | rfl
        all_goals
          go_wp2_with (first | (go_at_call 11; refine hsd.out.mono ?_; rintro r w3 ⟨rfl, h3⟩; have H3 := hide h3; clear h3) | fail)
          go_roundw
          case rel => exact ⟨i + 1, n, a, _, by omega, by omega, by omega, rfl, rfl, by go_num, ⟨H3.out, hnb.send hcr2, hO, hA⟩, by rw [ep_send]; exact HE.out⟩
          case measure => simp [intOf]; omega
      by_cases hk3 : wh = 6 ∨ wh = 7
      · have hsd := hide (fDeliverI HI.out.fl (by have := hnb.1; omega) hnb.2.2.1 (by have := hnb.2.2.2; omega))
        obtain ⟨hO, hA, he⟩ := HI.out.ord.del_any
        rw [HI.out.all] at hA
        have hN := hnb.del (cr := cr)
        have hE1 : (pDel cr S).1.e = 3 := by rw [ep_del]; exact HE.out
        generalize pDel cr S = pr at *
        obtain ⟨S1, e1⟩ := pr
        dsimp only at hO hA he hN hsd hE1
        rcases hk3 with rfl | rfl
        all_goals
          rcases he with rfl | rfl
          all_goals
            go_wp2_with (first | (go_at_call 12; refine hsd.out.mono ?_; rintro r w3 ⟨rfl, h3⟩; have H3 := hide h3; clear h3) | fail)
            go_roundw
            case rel => exact ⟨i + 1, n, a, S1, by omega, by omega, by omega, rfl, rfl, by go_num, ⟨H3.out, hN, hO, hA⟩, hE1⟩
            case measure => simp [intOf]; omega
      by_cases hk4 : wh = 8 ∨ wh = 9 ∨ wh = 10
      · cases hw : S.wait with
        | nil =>
          have htk := hide (fTakeNI HI.out.fl hw)
          rcases hk4 with rfl | rfl | rfl
          all_goals
            go_wp2_with (first | (go_at_call 13; refine htk.out.mono ?_; rintro r w3 ⟨rfl, rfl⟩) | fail)
            go_roundw
            case rel => exact ⟨i + 1, n, a, S, by omega, by omega, by omega, rfl, rfl, by go_num, ⟨HI.out.fl, hnb.mono (by omega), HI.out.ord, HI.out.all⟩, HE.out⟩
            case measure => simp [intOf]; omega
        | cons y T =>
          have htk := fTakeI HI.out.fl hw
          have hA := HI.out.all
          rw [all_take hw] at hA
          have han : a < n := by
            rcases Nat.lt_or_ge a n with h | h
            · exact h
            · rw [show n - a = 0 by omega] at hA; cases hA
          rw [show n - a = (n - a - 1) + 1 by omega] at hA
          have hyn : y = (a : Int) := (List.cons.inj hA).1
          have hA2 : pAll (pTake S) = upto ((a + 1 : Nat) : Int) (n - (a + 1)) := by
            rw [(List.cons.inj hA).2, show n - (a + 1) = n - a - 1 by omega]
            congr 1
          rw [hyn] at htk
          have htk := hide htk
          clear hA hyn
          rcases hk4 with rfl | rfl | rfl
          all_goals
            go_wp2_with (first | (go_at_call 13; refine htk.out.mono ?_; rintro r w3 ⟨rfl, h3⟩; have H3 := hide h3; clear h3) | fail)
            go_roundw
            case rel => exact ⟨i + 1, n, a + 1, _, by omega, by omega, by omega, rfl, by go_num, by go_num, ⟨H3.out, hnb.take.mono (by omega), HI.out.ord.take, hA2⟩, HE.out⟩
            case measure => simp [intOf]; omega
      by_cases hk5 : wh = 12
      · subst hk5
        have hdr := hide (fDrainI HI.out.fl (by omega) (by have := hnb.1; omega))
        have hmn : n - a ≤ 300 := by omega
        have ha5 : a ≤ 300 := by omega
        have hn5 : n ≤ 300 := by omega
        have hmI : (n : Int) - a = ((n - a : Nat) : Int) := by omega
        have hAll := HI.out.all
        have hD : HH w w K cr i n n (pDrain S) → True := fun _ => trivial
        generalize hq : n - a = q at *
        have hll : (pAll S).length = q := by rw [hAll, upto_len]
        have HM := hide hAll
        clear hAll hD
        go_wp2_with (first | (go_at_call 14; refine hdr.out.mono ?_; rintro r w3 ⟨v3, rfl, l3, f3⟩; have F3 := hide f3; obtain ⟨a3, c3, hv3, hc3, hl3⟩ := l3; rw [hll] at hv3; subst hv3; have L3 := hide hl3; clear hl3 f3 hc3) | fail)
        go_loopw [14] (fun iv wr => ∃ k : Nat, k ≤ q ∧ iv = .int .i64 k ∧ wr = w3) (fun iv _ => q - (intOf iv).toNat)
        case atStart => exact ⟨0, Nat.zero_le _, rfl, rfl⟩
        case round =>
          obtain ⟨k, hk, rfl, rfl⟩ := hrel
          by_cases hkl : k < q
          · have hg := upto_get (a : Int) q k hkl
            rw [← HM.out] at hg
            rcases L3.out with h | ⟨b, off, rfl, hb, hcell⟩
            · rw [h] at hg; simp at hg
            have f0 := hcell k _ hg 0 _ rfl
            simp only [Nat.mul_one, Nat.add_zero] at f0
            clear hcell hg L3
            go_wp2
            go_roundw
            case rel => exact ⟨k + 1, by omega, by go_num, trivial⟩
            case measure => simp [intOf]; omega
          · have h1 := hide (fMovingI F3.out)
            have h2 := hide (fWaitingI F3.out)
            have h4 := hide (fBacklogI F3.out)
            simp only [pDrain, List.length_nil, Int.ofNat_zero] at h1 h2 h4
            go_wp2_with (first
              | (go_at_call 16; refine h1.out.mono ?_; rintro r w8 ⟨rfl, rfl⟩)
              | (go_at_call 17; refine h2.out.mono ?_; rintro r w8 ⟨rfl, rfl⟩)
              | (go_at_call 15; refine h4.out.mono ?_; rintro r w8 ⟨rfl, rfl⟩)
              | fail)
            go_roundw
            case rel => exact ⟨i + 1, n, n, pDrain S, by omega, by omega, by omega, rfl, rfl, by go_num, ⟨F3.out, hnb.drain.mono (by omega), HI.out.ord.drain, by rw [Nat.sub_self]; rfl⟩, HE.out⟩
            case measure => simp [intOf]; omega
      · have n0 : ¬ wh = 0 := by omega
        have n1 : ¬ wh = 1 := by omega
        have n2 : ¬ wh = 2 := by omega
        have n3 : ¬ wh = 3 := by omega
        have n4 : ¬ wh = 4 := by omega
        have n5 : ¬ wh = 5 := by omega
        have n6 : ¬ wh = 6 := by omega
        have n7 : ¬ wh = 7 := by omega
        have n8 : ¬ wh = 8 := by omega
        have n9 : ¬ wh = 9 := by omega
        have n10 : ¬ wh = 10 := by omega
        have n12 : ¬ wh = 12 := hk5
        clear hk hk2 hk3 hk4 hk5
        go_wp2
        go_roundw
        case rel => exact ⟨i + 1, n, a, S, by omega, by omega, by omega, rfl, rfl, by go_num, ⟨HI.out.fl, hnb.mono (by omega), HI.out.ord, HI.out.all⟩, HE.out⟩
        case measure => simp [intOf]; omega
    · have hdr := hide (fDrainI HI.out.fl (by omega) (by have := hnb.1; omega))
      have HD : Hid (Nb 300 (pDrain S) ∧ Ord cr (pDrain S) ∧ (pDrain S).e = 3 ∧ pAll (pDrain S) = upto 1000 0) := ⟨hnb.drain.mono (by omega), HI.out.ord.drain, HE.out, rfl⟩
      clear hs hi hbl hnb HI
      go_wp2_with (first | (go_at_call 14; refine hdr.out.mono ?_; rintro r w3 ⟨v3, rfl, _, f3⟩; have F3 := hide f3; clear f3) | fail)
      generalize pDrain S = S0 at *
      go_loopw [15] (fun iv wr => ∃ (k : Nat) (S : FS Int), k ≤ m ∧ iv = .int .i64 k ∧ Hid (FlI w wr K cr S ∧ Nb 300 S ∧ Ord cr S ∧ S.e = 3 ∧ pAll S = upto 1000 k)) (fun iv _ => m - (intOf iv).toNat)
      case atStart => exact ⟨0, S0, Nat.zero_le _, rfl, F3.out, HD.out⟩
      case round =>
        clear F3 HD
        obtain ⟨k, S, hk, rfl, HI⟩ := hrel
        have hbl : S.back.length + S.mov.length + S.wait.length = k := by
          have h := congrArg List.length HI.out.2.2.2.2
          rwa [all_len, upto_len] at h
        by_cases hkl : k < m
        · have hof := hide (fOfferI HI.out.1 (by omega) (1000 + (k : Int)))
          go_wp2_with (first | (go_at_call 10; refine hof.out.mono ?_; rintro r w4 ⟨rfl, h4⟩; have H4 := hide h4; clear h4) | fail)
          go_roundw
          case rel => exact ⟨k + 1, _, by omega, by go_num, H4.out, HI.out.2.1.offer _, HI.out.2.2.1.offer _, HI.out.2.2.2.1, by rw [all_offer, HI.out.2.2.2.2, ← upto_app]⟩
          case measure => simp [intOf]; omega
        · have hkm : k = m := by omega
          have HJ : Hid (FlI w wr K cr S ∧ Nb 300 S ∧ Ord cr S ∧ S.e = 3 ∧ pAll S = upto (1000 + ((0 : Nat) : Int)) (m - 0)) := by
            have h := HI.out
            rw [hkm, show (1000 : Int) = 1000 + ((0 : Nat) : Int) by simp] at h
            exact h
          clear HI hbl
          go_wp2_with fail
          go_loopw [16, 17] (fun gv iv wr => ∃ (k g : Nat) (S : FS Int), k ≤ 3 * m + 3 ∧ g ≤ m ∧ (k ≤ g ∨ g = m) ∧ gv = .int .i64 g ∧ iv = .int .i64 k ∧ Hid (FlI w wr K cr S ∧ Nb (300 + 2 * k) S ∧ Ord cr S ∧ S.e = 3 ∧ pAll S = upto (1000 + (g : Int)) (m - g))) (fun _ iv _ => 3 * m + 3 - (intOf iv).toNat)
          case atStart => exact ⟨0, 0, S, by omega, by omega, .inl (Nat.le_refl _), rfl, rfl, HJ.out⟩
          case round =>
            clear HJ hk hkl hkm
            obtain ⟨k, g, S, hk, hg, hkg, rfl, rfl, HI⟩ := hrel
            by_cases hkl : k < 3 * m + 3
            · have hS1 : S.back.length ≤ 512 := by
                have h1 := congrArg List.length HI.out.2.2.2.2
                rw [all_len, upto_len] at h1
                omega
              obtain ⟨hF, hN1, hO1, hE1, hA1⟩ := HI.out
              have hsd := hide (fSendI hF hS1 (by have := hN1.1; omega) hN1.2.1.1 (by have := hN1.2.1.2; omega))
              have hN2 := hN1.send hcr2
              obtain ⟨hO2, hA2⟩ := hO1.send
              have hE2 : (pSend cr S).1.e = 3 := by rw [ep_send]; exact hE1
              have hN3 := hN2.del (cr := cr)
              obtain ⟨hO3, hA3, he3⟩ := hO2.del_any
              have hE3 : (pDel cr (pSend cr S).1).1.e = 3 := by rw [ep_del]; exact hE2
              rw [hA2, hA1] at hA3
              have hcm : g < m → (pDel cr (pSend cr S).1).1.wait ≠ [] := fun hlt => comes hO1 hcr1 (by rw [hA1, show m - g = (m - g - 1) + 1 by omega]; simp [upto])
              have hq3 := hN2.1
              have hq4 := hN2.2.2
              generalize pSend cr S = pr at *
              obtain ⟨S2, b2⟩ := pr
              dsimp only at *
              obtain ⟨S3, r3, hpr⟩ : ∃ S3 r3, pDel cr S2 = (S3, r3) := ⟨_, _, rfl⟩
              rw [hpr] at hN3 hO3 hE3 hA3 hcm he3
              dsimp only at hN3 hO3 hE3 hA3 hcm he3
              have HS3 := hide (And.intro hN3 (And.intro hO3 (And.intro hE3 (And.intro hA3 (And.intro hcm hpr)))))
              clear hF hO1 hA1 hE1 hN1 hN2 hO2 hA2 hE2 hN3 hO3 hA3 hE3 HI hcm hpr
              cases hw : S3.wait with
              | nil =>
                have hgm : g = m := by
                  rcases Nat.lt_or_ge g m with h | h
                  · exact absurd hw (HS3.out.2.2.2.2.1 h)
                  · omega
                rcases he3 with rfl | rfl
                all_goals
                  go_wp2_with (first
                    | (go_at_call 11; refine hsd.out.mono ?_; rintro r w7 ⟨rfl, h7⟩; have hdl := fDeliverI h7 (by omega) hq4.1 (by omega); rw [HS3.out.2.2.2.2.2] at hdl; have hdl := hide hdl; clear h7)
                    | (go_at_call 12; refine hdl.out.mono ?_; rintro r w8 ⟨rfl, h8⟩; have H8 := hide h8; clear h8)
                    | (go_at_call 13; refine (fTakeNI H8.out hw).mono ?_; rintro r w9 ⟨rfl, rfl⟩)
                    | fail)
                  go_roundw
                  case rel => exact ⟨k + 1, g, S3, by omega, by omega, .inr hgm, by first | rfl | rw [hgm], by go_num, H8.out, HS3.out.1.mono (by omega), HS3.out.2.1, HS3.out.2.2.1, HS3.out.2.2.2.1⟩
                  case measure => simp [intOf]; omega
              | cons z T =>
                have hA := HS3.out.2.2.2.1
                rw [all_take hw] at hA
                have hgm : g < m := by
                  rcases Nat.lt_or_ge g m with h | h
                  · exact h
                  · rw [show m - g = 0 by omega] at hA; cases hA
                rw [show m - g = (m - g - 1) + 1 by omega] at hA
                have hzn : z = 1000 + (g : Int) := (List.cons.inj hA).1
                have hA2 : pAll (pTake S3) = upto (1000 + ((g + 1 : Nat) : Int)) (m - (g + 1)) := by
                  rw [(List.cons.inj hA).2, show m - (g + 1) = m - g - 1 by omega]
                  congr 1
                subst hzn
                clear hA
                rcases he3 with rfl | rfl
                all_goals
                  go_wp2_with (first
                    | (go_at_call 11; refine hsd.out.mono ?_; rintro r w7 ⟨rfl, h7⟩; have hdl := fDeliverI h7 (by omega) hq4.1 (by omega); rw [HS3.out.2.2.2.2.2] at hdl; have hdl := hide hdl; clear h7)
                    | (go_at_call 12; refine hdl.out.mono ?_; rintro r w8 ⟨rfl, h8⟩; have H8 := hide h8; clear h8)
                    | (go_at_call 13; refine (fTakeI H8.out hw).mono ?_; rintro r w9 ⟨rfl, h9⟩; have H9 := hide h9; clear h9)
                    | fail)
                  go_roundw
                  case rel => exact ⟨k + 1, g + 1, pTake S3, by omega, by omega, by omega, by go_num, by go_num, H9.out, HS3.out.1.take.mono (by omega), HS3.out.2.1.take, HS3.out.2.2.1, hA2⟩
                  case measure => simp [intOf]; omega
            · have hgm : g = m := by omega
              have hE := hide (fEpochI HI.out.1)
              rw [HI.out.2.2.2.1] at hE
              go_wp2_with (first | (go_at_call 18; refine hE.out.mono ?_; rintro r w7 ⟨rfl, rfl⟩) | fail)
              all_goals
                go_ret
                exact ⟨rfl, HI.out.1.bel⟩
end Go.Proofs.Ytnomoekbfclckaa
