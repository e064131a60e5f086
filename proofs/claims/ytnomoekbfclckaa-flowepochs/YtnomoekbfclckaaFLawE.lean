/-
  The law FlowEpochs, walked.
-/
import Derived.Test.YtnomoekbfclckaaFLaw2
namespace Go.Proofs.Ytnomoekbfclckaa
open Go.RowKit

set_option maxHeartbeats 16000000 in
set_option maxRecDepth 100000 in
theorem FlowEpochs_walk (w : World) (c : Int) (ao : Option Addr) (cap : Nat) (xs : List Stp) (hs : Hid (LSeg 4 Stp.cs w.heap.size w (.slice ao xs.length cap) xs)) (bo : Option Addr) (bcap : Nat) (ys : List Stp) (hy : Hid (LSeg 4 Stp.cs w.heap.size w (.slice bo ys.length bcap) ys)) :
    Calls Try.prog 6 #[.int .i64 c, .slice ao xs.length cap, .slice bo ys.length bcap] w fun e w' => e = .returned (.bool true) ∧ Below w.heap.size w w' := by
  have hknown := known_any w
  have hlen : xs.length ≤ 140737488355328 := by obtain ⟨_, _, e, h2, _⟩ := hs.out; exact h2
  have hleny : ys.length ≤ 140737488355328 := by obtain ⟨_, _, e, h2, _⟩ := hy.out; exact h2
  go_enter Try.func6, Try.ntmps6
  go_wp2_with fail
  refine hknown.mono ?_
  rintro e w1 ⟨rfl, hb1⟩
  clear hknown
  have HB1 := hide hb1
  clear hb1
  by_cases hl : xs.length ≤ 300
  rotate_left
  · go_wp2
    go_ret
    exact ⟨rfl, HB1.out⟩
  by_cases hl2 : ys.length ≤ 100
  rotate_left
  · go_wp2
    go_ret
    exact ⟨rfl, HB1.out⟩
  go_wp2_with fail
  go_at_call 9
  refine (fNewI HB1.out c 5).mono ?_
  rintro r w2 ⟨K, rfl, h2⟩
  have hcr1 : 1 ≤ (min (max c 1) 64).toNat := by omega
  have hcr2 : (min (max c 1) 64).toNat ≤ 64 := by omega
  generalize (min (max c 1) 64).toNat = cr at *
  have H2 : Hid (FlI w w2 K cr (pNew 5) ∧ Nb 0 (pNew 5 : FS Int) ∧ Ord cr (pNew 5 : FS Int)) := ⟨h2, Nb.new 5, Ord.new cr 5⟩
  clear h2 HB1
  go_wp2_with fail
  go_loopw [8] (fun iv wr => ∃ (i : Nat) (S : FS Int), i ≤ xs.length ∧ iv = .int .i64 i ∧ S.back.length ≤ i ∧ Hid (FlI w wr K cr S ∧ Nb i S ∧ Ord cr S ∧ S.e = 5)) (fun iv _ => xs.length - (intOf iv).toNat)
  case atStart => exact ⟨0, _, Nat.zero_le _, rfl, Nat.le_refl _, H2.out.1, H2.out.2.1, H2.out.2.2, rfl⟩
  case round =>
    obtain ⟨i, S, hi, rfl, hbk, HI⟩ := hrel
    by_cases hlt : i < xs.length
    · obtain ⟨t, ht⟩ : ∃ t, xs[i]? = some t := ⟨_, List.getElem?_eq_getElem hlt⟩
      obtain ⟨bb, off, rfl, hbb, c0, _⟩ := (hs.out.below HI.out.1.bel).stp ht
      obtain ⟨wh, x, ep, sq⟩ := t
      dsimp only at c0
      clear ht
      by_cases hk : wh = 0 ∨ wh = 1 ∨ wh = 2
      · have hof := hide (fOfferI HI.out.1 (by omega) (-1))
        rcases hk with rfl | rfl | rfl
        all_goals
          go_wp2_with (first | (go_at_call 10; refine hof.out.mono ?_; rintro r w3 ⟨rfl, h3⟩; have H3 := hide h3; clear h3) | fail)
          go_roundw
          case rel => exact ⟨i + 1, _, by omega, by go_num, by simp [pOffer]; omega, H3.out, (HI.out.2.1.offer (-1)).mono (by omega), HI.out.2.2.1.offer (-1), HI.out.2.2.2⟩
          case measure => simp [intOf]; omega
      by_cases hk2 : wh = 3 ∨ wh = 4 ∨ wh = 5
      · have hsd := hide (fSendI HI.out.1 (by omega) (by have := HI.out.2.1.1; omega) HI.out.2.1.2.1.1 (by have := HI.out.2.1.2.1.2; omega))
        rcases hk2 with rfl | rfl | rfl
        all_goals
          go_wp2_with (first | (go_at_call 11; refine hsd.out.mono ?_; rintro r w3 ⟨rfl, h3⟩; have H3 := hide h3; clear h3) | fail)
          go_roundw
          case rel => exact ⟨i + 1, _, by omega, by go_num, by have := back_send (cr := cr) (S := S); omega, H3.out, HI.out.2.1.send hcr2, HI.out.2.2.1.send.1, by rw [ep_send]; exact HI.out.2.2.2⟩
          case measure => simp [intOf]; omega
      by_cases hk3 : wh = 6 ∨ wh = 7
      · have hsd := hide (fDeliverI HI.out.1 (by have := HI.out.2.1.1; omega) HI.out.2.1.2.2.1 (by have := HI.out.2.1.2.2.2; omega))
        rcases hk3 with rfl | rfl
        all_goals
          go_wp2_with (first | (go_at_call 12; refine hsd.out.mono ?_; rintro r w3 ⟨rfl, h3⟩; have H3 := hide h3; clear h3) | fail)
          go_roundw
          case rel => exact ⟨i + 1, _, by omega, by go_num, by rw [back_del]; omega, H3.out, HI.out.2.1.del, HI.out.2.2.1.del_any.1, by rw [ep_del]; exact HI.out.2.2.2⟩
          case measure => simp [intOf]; omega
      by_cases hk4 : wh = 8
      · subst hk4
        cases hw : S.wait with
        | nil =>
          have htk := hide (fTakeNI HI.out.1 hw)
          go_wp2_with (first | (go_at_call 13; refine htk.out.mono ?_; rintro r w3 ⟨rfl, rfl⟩) | fail)
          go_roundw
          case rel => exact ⟨i + 1, S, by omega, by go_num, by omega, HI.out.1, HI.out.2.1.mono (by omega), HI.out.2.2⟩
          case measure => simp [intOf]; omega
        | cons y T =>
          have htk := hide (fTakeI HI.out.1 hw)
          go_wp2_with (first | (go_at_call 13; refine htk.out.mono ?_; rintro r w3 ⟨rfl, h3⟩; have H3 := hide h3; clear h3) | fail)
          go_roundw
          case rel => exact ⟨i + 1, _, by omega, by go_num, by simp [pTake]; omega, H3.out, HI.out.2.1.take.mono (by omega), HI.out.2.2.1.take, HI.out.2.2.2⟩
          case measure => simp [intOf]; omega
      · have n0 : ¬ wh = 0 := by omega
        have n1 : ¬ wh = 1 := by omega
        have n2 : ¬ wh = 2 := by omega
        have n3 : ¬ wh = 3 := by omega
        have n4 : ¬ wh = 4 := by omega
        have n5 : ¬ wh = 5 := by omega
        have n6 : ¬ wh = 6 := by omega
        have n7 : ¬ wh = 7 := by omega
        clear hk hk2 hk3
        go_wp2
        go_roundw
        case rel => exact ⟨i + 1, S, by omega, by go_num, by omega, HI.out.1, HI.out.2.1.mono (by omega), HI.out.2.2⟩
        case measure => simp [intOf]; omega
    · go_wp2_with fail
      go_at_call 28
      refine (fKillI HI.out.1 9).mono ?_
      rintro r w3 ⟨rfl, h3⟩
      have H3 : Hid (FlI w w3 K cr (pKill S 9) ∧ Nb 0 (pKill S 9) ∧ Ord cr (pKill S 9) ∧ (pKill S 9).e = 9 ∧ pAll (pKill S 9) = []) := ⟨h3, Nb.kill S 9, HI.out.2.2.1.kill 9, by simp only [pKill]; rw [HI.out.2.2.2]; rfl, rfl⟩
      generalize pKill S 9 = S0 at *
      clear h3 HI H2 hs hbk hi hlt hlen hl
      clear S
      have hE : ∀ k : Int, IntKind.u64.wrap (k % 9) ≠ 9 := fun k => by
        have e : IntKind.u64.wrap (k % 9) = k % 9 := by unfold IntKind.wrap; simp [IntKind.bits]; omega
        rw [e]; omega
      have harr : ∀ (S : FS Int) (e' q x : Int), S.e = 9 → e' ≠ 9 → pArr cr S e' q x = (S, 62) := fun S e' q x h1 h2 => by unfold pArr; rw [if_pos (by rw [h1]; exact h2)]
      have HE := hide (And.intro hE harr)
      clear hE harr
      go_wp2_with fail
      go_loopw [9, 10] (fun nv iv wr => ∃ (i n : Nat) (S : FS Int), i ≤ 40 ∧ n ≤ i ∧ nv = .int .i64 n ∧ iv = .int .i64 i ∧ Hid (FlI w wr K cr S ∧ Nb (4 * i) S ∧ Ord cr S ∧ S.e = 9 ∧ pAll S = upto n (i - n))) (fun _ iv _ => 40 - (intOf iv).toNat)
      case atStart => exact ⟨0, 0, S0, by omega, by omega, rfl, rfl, H3.out⟩
      case round =>
        obtain ⟨i, n, S, hi, hn, rfl, rfl, HI⟩ := hrel
        by_cases hlt : i < 40
        · by_cases hyl : i < ys.length
          · obtain ⟨t, ht⟩ : ∃ t, ys[i]? = some t := ⟨_, List.getElem?_eq_getElem hyl⟩
            obtain ⟨bb, off, rfl, hbb, _, _, c2, c3⟩ := (hy.out.below HI.out.1.bel).stp ht
            obtain ⟨wh, x, ep, sq⟩ := t
            dsimp only at c2 c3
            clear ht
            go_wp2_with fail
            go_region_held3 (fun w' => w'.cell? ⟨bb, off + i * 4 + 2, none⟩ = some (.int .u64 ep) ∧ w'.cell? ⟨bb, off + i * 4 + 3, none⟩ = some (.int .u64 sq)) (first | go_keep | exact ⟨c2, c3⟩ | exact ⟨z2, z3⟩)
              (first
                | (go_at_call 8; refine (Place_any _ _ 9 (by decide) (by decide)).mono ?_; rintro r w4 ⟨rfl, rfl⟩)
                | (go_at_call 24; refine (fArriveI (HI.out.1.below ((Below.refl _ _).drew)) HI.out.2.1.2.2.1 (by have := HI.out.2.1.2.2.2; omega) _ _ _).mono ?_; rintro r w5 ⟨h0, h5⟩; rw [HE.out.2 S _ _ _ HI.out.2.2.2.1 (HE.out.1 _)] at h0 h5; dsimp only at h0 h5; subst h0; have H5 := hide h5; have z2 := (h5.bel.cell (p := ⟨bb, off + i * 4 + 2, none⟩) hbb).trans ((HI.out.1.bel.cell (p := ⟨bb, off + i * 4 + 2, none⟩) hbb).symm.trans c2); have z3 := (h5.bel.cell (p := ⟨bb, off + i * 4 + 3, none⟩) hbb).trans ((HI.out.1.bel.cell (p := ⟨bb, off + i * 4 + 3, none⟩) hbb).symm.trans c3); clear h5))

            have hS := HI.out
            obtain ⟨hF, hNb, hOrd, hep9, hall⟩ := hS
            have hS1 : (pOffer S (i : Int)).back.length ≤ 512 := by
              have h1 := congrArg List.length hall
              rw [all_len, upto_len] at h1
              simp [pOffer]; omega
            have hof := hide (fOfferI H5.out (by simp [pOffer] at hS1; omega) (i : Int))
            have hO1 := hOrd.offer (i : Int)
            have hN1 := hNb.offer (i : Int)
            have hA1 : pAll (pOffer S (i : Int)) = upto n (i + 1 - n) := by
              rw [all_offer, hall, show i + 1 - n = i - n + 1 by omega, ← upto_app]
              congr 2; omega
            have hE1 : (pOffer S (i : Int)).e = 9 := hep9
            generalize pOffer S (i : Int) = S1 at *
            have hN2 := hN1.send hcr2
            obtain ⟨hO2, hA2⟩ := hO1.send
            have hE2 : (pSend cr S1).1.e = 9 := by rw [ep_send]; exact hE1
            have hN3 := hN2.del (cr := cr)
            obtain ⟨hO3, hA3, _⟩ := hO2.del_any
            have hE3 : (pDel cr (pSend cr S1).1).1.e = 9 := by rw [ep_del]; exact hE2
            rw [hA2, hA1] at hA3
            have HS3 := hide (And.intro hN3 (And.intro hO3 (And.intro hE3 hA3)))
            have hq1 := hN1.1
            have hq2 := hN1.2.1
            have hq3 := hN2.1
            have hq4 := hN2.2.2
            clear hF hNb hOrd hep9 hall hO1 hA1 hE1 hN2 hO2 hA2 hE2 hN3 hO3 hA3 hE3 HI
            go_wp2_with (first
              | (go_at_call 10; refine hof.out.mono ?_; rintro r w6 ⟨rfl, h6⟩; have hsd := hide (fSendI h6 (by omega) (by omega) hq2.1 (by omega)); clear h6)
              | (go_at_call 11; refine hsd.out.mono ?_; rintro r w7 ⟨rfl, h7⟩; have hdl := hide (fDeliverI h7 (by omega) hq4.1 (by omega)); clear h7)
              | (go_at_call 12; refine hdl.out.mono ?_; rintro r w8 ⟨rfl, h8⟩; have H8 := hide h8; clear h8)
              | fail)
            all_goals generalize (pDel cr (pSend cr S1).1).1 = S3 at *
            · go_roundw
              case rel => exact ⟨i + 1, n, S3, by omega, by omega, rfl, by go_num, H8.out, HS3.out.1.mono (by omega), HS3.out.2⟩
              case measure => simp [intOf]; omega
            · cases hw : S3.wait with
              | nil =>
                refine (fTakeNI H8.out hw).mono ?_
                rintro r w9 ⟨rfl, rfl⟩
                go_wp2
                go_roundw
                case rel => exact ⟨i + 1, n, S3, by omega, by omega, rfl, by go_num, H8.out, HS3.out.1.mono (by omega), HS3.out.2⟩
                case measure => simp [intOf]; omega
              | cons y T =>
                have hA := HS3.out.2.2.2
                rw [all_take hw, show i + 1 - n = (i - n) + 1 by omega] at hA
                have hyn : y = (n : Int) := (List.cons.inj hA).1
                have hA2 : pAll (pTake S3) = upto ((n + 1 : Nat) : Int) (i + 1 - (n + 1)) := by
                  rw [(List.cons.inj hA).2, show i + 1 - (n + 1) = i - n by omega]
                  congr 1
                subst hyn
                refine (fTakeI H8.out hw).mono ?_
                rintro r w9 ⟨rfl, h9⟩
                have H9 := hide h9
                clear h9 hA
                go_wp2
                go_roundw
                case rel => exact ⟨i + 1, n + 1, pTake S3, by omega, by omega, by go_num, by go_num, H9.out, HS3.out.1.take.mono (by omega), HS3.out.2.1.take, HS3.out.2.2.1, hA2⟩
                case measure => simp [intOf]; omega
          · have H5 := hide HI.out.1
            have hS := HI.out
            obtain ⟨hF, hNb, hOrd, hep9, hall⟩ := hS
            have hS1 : (pOffer S (i : Int)).back.length ≤ 512 := by
              have h1 := congrArg List.length hall
              rw [all_len, upto_len] at h1
              simp [pOffer]; omega
            have hof := hide (fOfferI H5.out (by simp [pOffer] at hS1; omega) (i : Int))
            have hO1 := hOrd.offer (i : Int)
            have hN1 := hNb.offer (i : Int)
            have hA1 : pAll (pOffer S (i : Int)) = upto n (i + 1 - n) := by
              rw [all_offer, hall, show i + 1 - n = i - n + 1 by omega, ← upto_app]
              congr 2; omega
            have hE1 : (pOffer S (i : Int)).e = 9 := hep9
            generalize pOffer S (i : Int) = S1 at *
            have hN2 := hN1.send hcr2
            obtain ⟨hO2, hA2⟩ := hO1.send
            have hE2 : (pSend cr S1).1.e = 9 := by rw [ep_send]; exact hE1
            have hN3 := hN2.del (cr := cr)
            obtain ⟨hO3, hA3, _⟩ := hO2.del_any
            have hE3 : (pDel cr (pSend cr S1).1).1.e = 9 := by rw [ep_del]; exact hE2
            rw [hA2, hA1] at hA3
            have HS3 := hide (And.intro hN3 (And.intro hO3 (And.intro hE3 hA3)))
            have hq1 := hN1.1
            have hq2 := hN1.2.1
            have hq3 := hN2.1
            have hq4 := hN2.2.2
            clear hF hNb hOrd hep9 hall hO1 hA1 hE1 hN2 hO2 hA2 hE2 hN3 hO3 hA3 hE3 HI
            go_wp2_with (first
              | (go_at_call 10; refine hof.out.mono ?_; rintro r w6 ⟨rfl, h6⟩; have hsd := hide (fSendI h6 (by omega) (by omega) hq2.1 (by omega)); clear h6)
              | (go_at_call 11; refine hsd.out.mono ?_; rintro r w7 ⟨rfl, h7⟩; have hdl := hide (fDeliverI h7 (by omega) hq4.1 (by omega)); clear h7)
              | (go_at_call 12; refine hdl.out.mono ?_; rintro r w8 ⟨rfl, h8⟩; have H8 := hide h8; clear h8)
              | fail)
            all_goals generalize (pDel cr (pSend cr S1).1).1 = S3 at *
            · go_roundw
              case rel => exact ⟨i + 1, n, S3, by omega, by omega, rfl, by go_num, H8.out, HS3.out.1.mono (by omega), HS3.out.2⟩
              case measure => simp [intOf]; omega
            · cases hw : S3.wait with
              | nil =>
                refine (fTakeNI H8.out hw).mono ?_
                rintro r w9 ⟨rfl, rfl⟩
                go_wp2
                go_roundw
                case rel => exact ⟨i + 1, n, S3, by omega, by omega, rfl, by go_num, H8.out, HS3.out.1.mono (by omega), HS3.out.2⟩
                case measure => simp [intOf]; omega
              | cons y T =>
                have hA := HS3.out.2.2.2
                rw [all_take hw, show i + 1 - n = (i - n) + 1 by omega] at hA
                have hyn : y = (n : Int) := (List.cons.inj hA).1
                have hA2 : pAll (pTake S3) = upto ((n + 1 : Nat) : Int) (i + 1 - (n + 1)) := by
                  rw [(List.cons.inj hA).2, show i + 1 - (n + 1) = i - n by omega]
                  congr 1
                subst hyn
                refine (fTakeI H8.out hw).mono ?_
                rintro r w9 ⟨rfl, h9⟩
                have H9 := hide h9
                clear h9 hA
                go_wp2
                go_roundw
                case rel => exact ⟨i + 1, n + 1, pTake S3, by omega, by omega, by go_num, by go_num, H9.out, HS3.out.1.take.mono (by omega), HS3.out.2.1.take, HS3.out.2.2.1, hA2⟩
                case measure => simp [intOf]; omega
        · have hi40 : i = 40 := by omega
          have H4 : Hid (FlI w wr K cr S ∧ Nb 160 S ∧ Ord cr S ∧ S.e = 9 ∧ pAll S = upto n (40 - n)) := by
            have h := HI.out
            rw [hi40] at h
            exact h
          clear hy H3 HE
          clear HI
          go_wp2_with fail
          go_loopw [9, 14] (fun nv iv wr => ∃ (k n : Nat) (S : FS Int), k ≤ 200 ∧ n ≤ 40 ∧ (k ≤ n ∨ n = 40) ∧ nv = .int .i64 n ∧ iv = .int .i64 k ∧ Hid (FlI w wr K cr S ∧ Nb (160 + 2 * k) S ∧ Ord cr S ∧ S.e = 9 ∧ pAll S = upto n (40 - n))) (fun _ iv _ => 200 - (intOf iv).toNat)
          case atStart => exact ⟨0, n, S, by omega, by omega, .inl (Nat.zero_le _), rfl, rfl, H4.out⟩
          case round =>
            clear H4 hn hi hi40 hlt
            obtain ⟨k, n, S, hk, hn, hkn, rfl, rfl, HI⟩ := hrel
            by_cases hlt : k < 200
            · have hS1 : S.back.length ≤ 512 := by
                have h1 := congrArg List.length HI.out.2.2.2.2
                rw [all_len, upto_len] at h1
                omega
              obtain ⟨hF, hN1, hO1, hE1, hA1⟩ := HI.out
              have hsd := hide (fSendI hF hS1 (by have := hN1.1; omega) hN1.2.1.1 (by have := hN1.2.1.2; omega))
              have hN2 := hN1.send hcr2
              obtain ⟨hO2, hA2⟩ := hO1.send
              have hE2 : (pSend cr S).1.e = 9 := by rw [ep_send]; exact hE1
              have hN3 := hN2.del (cr := cr)
              obtain ⟨hO3, hA3, _⟩ := hO2.del_any
              have hE3 : (pDel cr (pSend cr S).1).1.e = 9 := by rw [ep_del]; exact hE2
              rw [hA2, hA1] at hA3
              have hcm : n < 40 → (pDel cr (pSend cr S).1).1.wait ≠ [] := fun hlt => comes hO1 hcr1 (by rw [hA1, show 40 - n = (39 - n) + 1 by omega]; simp [upto])
              have HS3 := hide (And.intro hN3 (And.intro hO3 (And.intro hE3 (And.intro hA3 hcm))))
              have hq3 := hN2.1
              have hq4 := hN2.2.2
              clear hF hO1 hA1 hE1 hN1 hN2 hO2 hA2 hE2 hN3 hO3 hA3 hE3 HI hcm
              go_wp2_with (first
                | (go_at_call 11; refine hsd.out.mono ?_; rintro r w7 ⟨rfl, h7⟩; have hdl := hide (fDeliverI h7 (by omega) hq4.1 (by omega)); clear h7)
                | (go_at_call 12; refine hdl.out.mono ?_; rintro r w8 ⟨rfl, h8⟩; have H8 := hide h8; clear h8)
                | fail)
              generalize (pDel cr (pSend cr S).1).1 = S3 at *
              cases hw : S3.wait with
              | nil =>
                have hn40 : n = 40 := by
                  rcases Nat.lt_or_ge n 40 with h | h
                  · exact absurd hw (HS3.out.2.2.2.2 h)
                  · omega
                refine (fTakeNI H8.out hw).mono ?_
                rintro r w9 ⟨rfl, rfl⟩
                go_wp2
                go_roundw
                case rel => exact ⟨k + 1, n, S3, by omega, by omega, .inr hn40, by rw [hn40]; rfl, by go_num, H8.out, HS3.out.1.mono (by omega), HS3.out.2.1, HS3.out.2.2.1, HS3.out.2.2.2.1⟩
                case measure => simp [intOf]; omega
              | cons y T =>
                have hA := HS3.out.2.2.2.1
                rw [all_take hw] at hA
                have hn40 : n < 40 := by
                  rcases Nat.lt_or_ge n 40 with h | h
                  · exact h
                  · rw [show 40 - n = 0 by omega] at hA; cases hA
                rw [show 40 - n = (39 - n) + 1 by omega] at hA
                have hyn : y = (n : Int) := (List.cons.inj hA).1
                have hA2 : pAll (pTake S3) = upto ((n + 1 : Nat) : Int) (40 - (n + 1)) := by
                  rw [(List.cons.inj hA).2, show 40 - (n + 1) = 39 - n by omega]
                  congr 1
                subst hyn
                refine (fTakeI H8.out hw).mono ?_
                rintro r w9 ⟨rfl, h9⟩
                have H9 := hide h9
                clear h9 hA
                go_wp2
                go_roundw
                case rel => exact ⟨k + 1, n + 1, pTake S3, by omega, by omega, by omega, by go_num, by go_num, H9.out, HS3.out.1.take.mono (by omega), HS3.out.2.1.take, HS3.out.2.2.1, hA2⟩
                case measure => simp [intOf]; omega
            · have hn40 : n = 40 := by omega
              subst hn40
              have hE := hide (fEpochI HI.out.1)
              rw [HI.out.2.2.2.1] at hE
              go_wp2_with (first | (go_at_call 18; refine hE.out.mono ?_; rintro r w7 ⟨rfl, rfl⟩) | fail)
              go_ret
              exact ⟨rfl, HI.out.1.bel⟩
end Go.Proofs.Ytnomoekbfclckaa
