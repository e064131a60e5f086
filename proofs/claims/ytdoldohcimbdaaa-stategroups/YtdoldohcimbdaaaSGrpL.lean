/-
  The law StateGroups, walked.
-/
import Derived.Test.YtdoldohcimbdaaaSGrpP
namespace Go.Proofs.Ytdoldohcimbdaaa
open Go.RowKit

set_option maxHeartbeats 8000000 in
set_option maxRecDepth 100000 in
theorem StateGroups_walk {w : World} {v : Value} {rs : List Rc} (hl : LSeg 3 Rc.cs w.heap.size w v rs) (hrs : ∀ r ∈ rs, In64 r.k ∧ In64 r.v) {k size slide : Int} (hs : In64 size) (hsl : In64 slide) (a : Int) :
    Calls Try.prog 7 #[.agg #[.int .i64 k, .int .i64 size, .int .i64 slide], .int .i64 a, v] w fun e w' => e = .returned (.bool true) ∧ Below w.heap.size w w' := by
  obtain ⟨ao, cap, rfl⟩ := hl.shapeOf
  have HB0 := hide (below_box w (.cells #[.int .i64 k, .int .i64 size, .int .i64 slide] 23))
  have HBX := hide (BoxT.new 23 w #[.int .i64 k, .int .i64 size, .int .i64 slide])
  have HK := hide (fun W => known_any W)
  by_cases hF : FitS k size slide a
  case neg =>
    have HFT := hide (fit_no hF)
    clear hl hF
    go_enter Try.func7, Try.ntmps7
    go_wp2_with (first
      | (go_at_call 8; refine (HK.out _).mono ?_; rintro e w1 ⟨rfl, b1⟩; have HB1 := hide (HB0.out.trans (b1.mono HB0.out.size)); have HX1 := hide (BoxT.below (t := 23) HBX.out b1); obtain ⟨y0, y1, y2⟩ := HX1.out.cells3; clear b1)
      | (go_at_call 9; refine (HFT.out _).mono ?_; rintro e w2 ⟨rfl, b2⟩; have HB2 := hide (HB1.out.trans (b2.mono HB1.out.size)); clear b2 y0 y1 y2))
    go_ret
    exact ⟨rfl, HB2.out⟩
  have HFT := hide (fit_yes hF)
  have HF := hide hF
  clear hF
  by_cases hn : (60 : Int) < (rs.length : Int)
  · clear hl
    go_enter Try.func7, Try.ntmps7
    go_wp2_with (first
      | (go_at_call 8; refine (HK.out _).mono ?_; rintro e w1 ⟨rfl, b1⟩; have HB1 := hide (HB0.out.trans (b1.mono HB0.out.size)); have HX1 := hide (BoxT.below (t := 23) HBX.out b1); obtain ⟨y0, y1, y2⟩ := HX1.out.cells3; clear b1)
      | (go_at_call 9; refine (HFT.out _).mono ?_; rintro e w2 ⟨rfl, b2⟩; have HB2 := hide (HB1.out.trans (b2.mono HB1.out.size)); clear b2 y0 y1 y2))
    go_ret
    exact ⟨rfl, HB2.out⟩
  have HL := hide hl
  have HRS := hide hrs
  have HS := hide hs
  have HSL := hide hsl
  have hn60 : rs.length ≤ 60 := by omega
  have HNW := hide (fun W => New_any W k size slide a)
  clear hl hrs hs hsl
  go_enter Try.func7, Try.ntmps7
  go_upto_region 5 with (first
    | (go_at_call 8; refine (HK.out _).mono ?_; rintro e w1 ⟨rfl, b1⟩; have HB1 := hide (HB0.out.trans (b1.mono HB0.out.size)); have HX1 := hide (BoxT.below (t := 23) HBX.out b1); obtain ⟨y0, y1, y2⟩ := HX1.out.cells3; clear b1)
    | (go_at_call 9; refine (HFT.out _).mono ?_; rintro e w2 ⟨rfl, b2⟩; have HB2 := hide (HB1.out.trans (b2.mono HB1.out.size)); have HX2 := hide (BoxT.below (t := 23) HX1.out b2); obtain ⟨z0, z1, z2⟩ := HX2.out.cells3; clear b2 y0 y1 y2))
  clear HK HFT HB1 HX1 HBX HB0
  have hz2 : w.heap.size + 1 ≤ w2.heap.size := HX2.out.lt
  have HZ2 := hide hz2
  clear hz2
  go_upto_region 6 with (first | (go_at_call 10; refine (HNW.out _).mono ?_; rintro e w3 ⟨s, fp, rfl, s3, f3, b3⟩; have T3 : Hid (K1 w w3 s k size slide a fp []) := (show K1 _ _ _ _ _ _ _ _ _ from ⟨s3, fun i hi => Nat.le_trans HZ2.out (f3 i hi), HB2.out.trans (b3.mono HB2.out.size), BoxT.below (t := 23) HX2.out b3⟩); clear s3 f3 b3) | fail)
  clear HX2 HB2 HZ2 z0 z1 z2
  go_wp2_with fail
  go_loopg [8] (rs.length + 1) (fun gh iv wr => ∃ (i : Nat) (fp : Nat → Prop) (M : List Pn), iv = .int .i64 (i : Int) ∧ i ≤ rs.length ∧ rs.length + 1 ≤ gh + i ∧ Hid (K1 w wr s k size slide a fp M) ∧ Hid (Comes (sess k) (jn a) (allS k size slide a (rs.take i)) M) ∧ Hid (∀ r ∈ rs.take i, TimeOk r.t))
  case atStart => exact ⟨0, fp, [], rfl, by omega, by omega, T3, (show Comes _ _ _ _ from Comes.refl .nil), (show ∀ r, _ from fun r hr => by simp at hr)⟩
  case round =>
    clear T3 fp
    obtain ⟨i, fp, M, rfl, hi, hg, GT, GM, GO⟩ := hrel
    obtain ⟨go, rfl⟩ : ∃ go, gk = go + 1 := ⟨gk - 1, by omega⟩
    by_cases hlt : i < rs.length
    · obtain ⟨r, hr⟩ := get_of_lt hlt
      have bt : (i : Int) < (rs.length : Int) := by omega
      obtain ⟨nb, no, rfl, nlt, e0, e1, e2⟩ := (HL.out.below GT.out.bl).rec hr
      have hmem := List.mem_of_getElem? hr
      have HIN := hide (HRS.out r hmem)
      have HSN := hide (allS_snoc k size slide a hr)
      have HTS := hide (take_snoc hr)
      have hlenA : (allS k size slide a (rs.take i)).length ≤ 3840 := by have := allS_len k size slide a (rs.take i); rw [List.length_take] at this; omega
      have HML : Hid (M.length ≤ 3840) := Nat.le_trans GM.out.1.len hlenA
      obtain ⟨rk, rt, rv⟩ := r
      simp only at e0 e1 e2 HIN
      clear hr hmem hlenA
      by_cases hT : TimeOk rt
      · have HTI := hide (time_yes hT)
        have HT := hide hT
        have HP1 := hide (put_ok GT.out.sa HF.out HS.out HSL.out rk rt rv HIN.out.1 HIN.out.2 hT (by have := HML.out; omega) GM.out)
        clear hT
        go_wp2_with (first
          | (go_at_call 12; refine (HTI.out _).mono ?_; rintro e w5 ⟨rfl, e5⟩; subst e5)
          | (go_at_call 13; refine HP1.out.mono ?_; rintro e w6 ⟨rfl, fp', M', s6, f6, c6⟩; have T6 := hide (GT.out.turn s6 f6); have C6 := hide c6; clear s6 f6 c6 HP1)
          | fail)
        go_roundg go
        case rel => exact ⟨i + 1, fp', M', by go_num, by omega, by omega, T6, (show Comes _ _ _ _ by rw [HSN.out]; exact C6.out), (show ∀ r, _ by
          rw [HTS.out]
          intro r hr
          rcases List.mem_append.1 hr with hr | hr
          · exact GO.out r hr
          · obtain rfl := List.mem_singleton.1 hr
            exact HT.out)⟩
        case measure => omega
      · have HTI := hide (time_no hT)
        clear hT
        go_wp2_with (first | (go_at_call 12; refine (HTI.out _).mono ?_; rintro e w5 ⟨rfl, e5⟩; subst e5) | fail)
        go_ret
        exact ⟨rfl, GT.out.bl⟩
    · obtain rfl : i = rs.length := by omega
      have bt : ¬ ((rs.length : Nat) : Int) < (rs.length : Int) := by omega
      have hML : M.length ≤ 3840 := by
        have h1 := GM.out.1.len
        have h2 := allS_len k size slide a (rs.take rs.length)
        rw [List.length_take] at h2
        omega
      have HSE : Hid (k = 3 → ∀ x ∈ M, x.f < x.t) := sess_lt HF.out GO.out GM.out
      have HAP : Hid (Apart (sess k) M) := GM.out.2
      have HML := hide hML
      clear hML GM GO hn60 hn hg HRS HL hi
      go_wp2_with fail
      obtain ⟨wo, rfl⟩ : ∃ wo, wo = wr := ⟨_, rfl⟩
      go_loopg [9, 10, 11, 12] 17 (fun gh av gv _ _ wx => ∃ (j : Nat), gv = .int .i64 (15 - (j : Int)) ∧ j ≤ 16 ∧ 17 ≤ gh + j ∧ Hid (K1 w wx s k size slide a fp M) ∧ Hid (OwnL 43 4 Pn.cs (w.heap.size + 1) wx av (allG M j)) ∧ Hid (∀ g, av.ownBlock = some g → ¬ fp g))
      case atStart => exact ⟨0, rfl, by omega, by omega, GT, OwnL.nil _ _ _ _ _, (show ∀ g, _ from fun g e => by cases e)⟩
      case round =>
        clear GT
        obtain ⟨j, rfl, hj, hg2, GT, GA, GB⟩ := hrel
        obtain ⟨go2, hgo2⟩ : ∃ go2, gk = go2 + 1 := ⟨gk - 1, by omega⟩
        subst hgo2
        by_cases hjl : j < 16
        · have bj : (0 : Int) ≤ 15 - (j : Int) := by omega
          have HGR := hide (group_ok GT.out.sa (15 - (j : Int)) (by have := HML.out; omega))
          have HGL := hide (gl_len M (15 - (j : Int)))
          have HGG := hide (@gl_grp M (15 - (j : Int)))
          have HGS := hide (gl_srt M (15 - (j : Int)))
          have HAL := hide (allG_len M hj)
          have HAS : Hid (allG M (j + 1) = allG M j ++ gl M (15 - (j : Int))) := (show _ = _ from rfl)
          have hpl : (gl M (15 - (j : Int))).length ≤ 3840 := Nat.le_trans HGL.out HML.out
          have HAN : Hid ((allG M j).length ≤ 3840) := (show _ ≤ _ from Nat.le_trans HAL.out HML.out)
          obtain ⟨aa, ac, rfl⟩ := GA.out.shape
          clear HGL HAL
          generalize gl M (15 - (j : Int)) = P at *
          generalize hAJ : allG M j = AJ at *
          have HAJ := hide hAJ
          clear hAJ
          go_upto_region 19 with (first
            | (go_at_call 18; refine HGR.out.mono ?_; rintro e w7 ⟨u7, rfl, o7, b7⟩; have T7 := hide (GT.out.grow b7); have A7 := hide (GA.out.below b7); have O7 := hide o7; have HSO := hide (rSort_any (o7.seg Pn.cs_len (by omega)) (by omega)); obtain ⟨ua, uc, rfl⟩ := o7.shape; clear o7 b7 HGR)
            | (go_at_call 23; refine HSO.out.mono ?_; rintro e w8 ⟨u8, rfl, o8, b8⟩; rw [HGS.out] at o8; have T8 := hide (T7.out.grow b8); have A8 := hide (A7.out.below b8); have O8 := hide (O7.out.below b8); have HPN := hide (hPanes_any ((O7.out.below b8).seg Pn.cs_len (by omega)) (o8.seg Pn.cs_len (by omega)) (by omega)); obtain ⟨ub, ud, rfl⟩ := o8.shape; clear o8 b8 HSO)
            | (go_at_call 22; refine HPN.out.mono ?_; rintro e w9 ⟨rfl, b9⟩; have T9 := hide (T8.out.grow b9); have A9 := hide (A8.out.below b9); have O9 := hide (O8.out.below b9); clear b9 HPN)
            | fail)
          clear T7 T8 A7 A8 O7 O8 GT GA
          go_wp2_with fail
          obtain ⟨wp, rfl⟩ : ∃ wp, wp = w9 := ⟨_, rfl⟩
          go_loopg [12] (P.length + 1) (fun gh jv wx => ∃ q : Nat, jv = .int .i64 (q : Int) ∧ q ≤ P.length ∧ P.length + 1 ≤ gh + q ∧ wx = wp)
          case atStart => exact ⟨0, rfl, by omega, by omega, rfl⟩
          case round =>
            obtain ⟨q, rfl, hq, hg3, rfl⟩ := hrel
            obtain ⟨go3, hgo3⟩ : ∃ go3, gk = go3 + 1 := ⟨gk - 1, by omega⟩
            subst hgo3
            by_cases hql : q < P.length
            · obtain ⟨x, hx⟩ := get_of_lt hql
              have bq : (q : Int) < (P.length : Int) := by omega
              have hxg := HGG.out x (List.mem_of_getElem? hx)
              have HRG := hide (RGroup_any wr x.k)
              rw [hxg] at HRG
              obtain ⟨nb, no, rfl, nlt, e0, e1, e2, e3⟩ := (O9.out.seg Pn.cs_len (by omega)).pane hx
              clear hx hxg
              obtain ⟨xk, xf, xt, xa⟩ := x
              simp only at e0 e1 e2 e3 HRG
              go_wp2_with (first | (go_at_call 20; refine HRG.out.mono ?_; rintro e w10 ⟨rfl, e10⟩; subst e10) | fail)
              go_roundg go3
              case rel => exact ⟨q + 1, by go_num, by omega, by omega, rfl⟩
              case measure => omega
            · obtain rfl : q = P.length := by omega
              have bq : ¬ ((P.length : Nat) : Int) < (P.length : Int) := by omega
              have HSZ : Hid (w.heap.size + 1 ≤ wr.heap.size) := T9.out.bx.lt
              have HAP2 : Hid (∀ v' W, OwnL 43 4 Pn.cs (w.heap.size + 1) W v' (AJ ++ P) → wr.grownBy W (Value.slice aa AJ.length ac).ownBlock → (v'.ownBlock = (Value.slice aa AJ.length ac).ownBlock ∨ v'.ownBlock = some wr.heap.size) → K1 w W s k size slide a fp M ∧ (∀ g, v'.ownBlock = some g → ¬ fp g)) := (show ∀ v' W, _ from fun v' W h1 h2 h3 => ⟨T9.out.grown h2 (fun g e => GB.out g e) (fun g e => A9.out.at g e), fun g e => by
                rcases h3 with h3 | h3
                · exact GB.out g (h3 ▸ e)
                · rw [h3] at e
                  cases e
                  exact fun h => Nat.lt_irrefl _ (T9.out.sa.flt _ h)⟩)
              go_wp2_with (first | (at_builtin; refine app_segL Try.infoPn Try.underlying44 rfl (by decide) (by decide) Pn.cs_len Pn.cs_one rfl _ _ rfl (w.heap.size + 1) (.slice aa AJ.length ac) AJ rfl A9.out wr.heap.size _ P rfl (O9.out.seg Pn.cs_len (by omega)) (by have := HAN.out; omega) HSZ.out ?_; intro v10 w10 h10 g10 k10; obtain ⟨T10, F10⟩ := HAP2.out v10 w10 h10 g10 k10; have TT := hide T10; have FF := hide F10; have OO := hide h10; clear T10 F10 h10 g10 k10) | fail)
              go_roundg go2
              case rel => exact ⟨j + 1, by go_num, by omega, by omega, TT, (show OwnL _ _ _ _ _ _ _ by rw [HAS.out]; exact OO.out), FF⟩
              case measure => omega
        · obtain rfl : j = 16 := by omega
          have bj : ¬ (0 : Int) ≤ 15 - ((16 : Nat) : Int) := by omega
          have HPM := hide (allG_all M)
          have HOK : Hid (∀ x ∈ allG M 16, PnOk x ∧ (k = 3 → x.f < x.t)) := (show ∀ x, _ from fun x hx => ⟨GT.out.sa.ok x (HPM.out.mem_iff.1 hx), fun e => HSE.out e x (HPM.out.mem_iff.1 hx)⟩)
          have HAN : Hid ((allG M 16).length ≤ 3840) := (show _ ≤ _ from Nat.le_trans (allG_len M (Nat.le_refl _)) HML.out)
          have HUN : Hid (∀ M', Comes (sess k) (jn a) (allG M 16) M' → srt M' = srt M ∧ M'.length ≤ 3840) := (show ∀ M', _ from fun M' h => by
            have h1 := Comes.unique (jn_comm a) (jn_assoc a) (h.perm HPM.out (.refl _)) (Comes.refl HAP.out)
            exact ⟨srt_eq h1, by rw [h1.length_eq]; exact HML.out⟩)
          have hml : M.length ≤ 3840 := HML.out
          obtain ⟨aa, ac, rfl⟩ := GA.out.shape
          obtain ⟨z0, z1, z2⟩ := GT.out.bx.cells3
          generalize allG M 16 = AG at *
          go_upto_region 26 with (first | (go_at_call 10; refine (HNW.out _).mono ?_; rintro e w11 ⟨t, fq, rfl, s11, f11, b11⟩; have K11 := hide (GT.out.grow b11); have A11 := hide (GA.out.below b11); have S11 := hide s11; have F11 := hide f11; have Z11 := hide GT.out.sa.flt; have GLT : Hid (∀ g, (Value.slice aa AG.length ac).ownBlock = some g → ¬ fq g) := (show ∀ g, _ from fun g e h => by { have h1 := f11 g h; have h2 := GA.out.lt g e; omega }); clear s11 f11 b11) | fail)
          have T11 : Hid (T2 w w11 t s k size slide a fq fp [] M) := (show T2 _ _ _ _ _ _ _ _ _ _ _ _ from ⟨S11.out, K11.out.sa, fun i hi => Nat.le_trans GT.out.bl.size (F11.out i hi), fun i hi => (by have := K11.out.nw i hi; omega), fun i h1 h2 => (by have := F11.out i h1; have := Z11.out i h2; omega), K11.out.bl⟩)
          have HLD := hide (Load_any S11.out (A11.out.seg Pn.cs_len (by have := HAN.out; omega)) GLT.out HOK.out (by have := HAN.out; omega))
          clear K11 A11 S11 F11 Z11 GLT z0 z1 z2 GT GA
          go_upto_region 27 with (first | (go_at_call 21; refine HLD.out.mono ?_; rintro e w12 ⟨rfl, fq', M', s12, f12, c12⟩; have T12 := hide (T11.out.turn s12 f12); have U12 := hide (HUN.out M' c12); clear s12 f12 c12) | fail)
          clear T11 HLD HUN HOK
          have HG1 := hide (group_no T12.out.ta (-1) (by omega) (by omega))
          have HM' : Hid (M'.length ≤ 20000) := (show _ ≤ _ by have := U12.out.2; omega)
          have HBL : Hid ((wrB (srt M)).length ≤ 1000000) := (show _ ≤ _ by rw [wrB_len, srt_len]; omega)
          go_wp2_with (first
            | (go_at_call 18; refine HG1.out.mono ?_; rintro e w13 ⟨ga, gc, rfl, b13⟩; have T13 := hide (T12.out.grow b13); have HG2 := hide (group_no T13.out.ta 16 (by omega) (by omega)); clear b13 HG1)
            | (go_at_call 18; refine HG2.out.mono ?_; rintro e w14 ⟨ga2, gc2, rfl, b14⟩; have T14 := hide (T13.out.grow b14); have HY1 := hide (Bytes_any T14.out.sa HM'.out); clear b14)
            | (go_at_call_of 15 (Value.pointer (some ⟨t, 0, none⟩)); refine HY1.out.mono ?_; rintro e w15 ⟨u15, rfl, o15, b15⟩; rw [U12.out.1] at o15; have T15 := hide (T14.out.grow b15); have O15 := hide o15; have HY2 := hide (Bytes_any T15.out.ta (by omega)); clear o15 b15)
            | (go_at_call_of 15 (Value.pointer (some ⟨s, 0, none⟩)); refine HY2.out.mono ?_; rintro e w16 ⟨u16, rfl, o16, b16⟩; have T16 := hide (T15.out.grow b16); have HHB := hide (hBytes_any ((O15.out.below b16).seg u8cs_len (by have := HBL.out; omega)) (o16.seg u8cs_len (by have := HBL.out; omega)) HBL.out); clear o16 b16)
            | (go_at_call 14; refine HHB.out.mono ?_; rintro e w17 ⟨rfl, b17⟩; have T17 := hide (T16.out.grow b17); clear b17)
            | fail)
          go_ret
          exact ⟨rfl, T17.out.bl⟩
end Go.Proofs.Ytdoldohcimbdaaa
