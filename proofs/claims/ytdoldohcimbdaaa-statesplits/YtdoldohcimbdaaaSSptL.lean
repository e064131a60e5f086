/-
  The law StateSplits, walked.
-/
import Derived.Test.YtdoldohcimbdaaaSSplA
import Derived.Test.YtdoldohcimbdaaaSKnown2
namespace Go.Proofs.Ytdoldohcimbdaaa
open Go.RowKit

set_option maxHeartbeats 32000000 in
set_option maxRecDepth 100000 in
theorem StateSplits_walk {w : World} {v v2 : Value} {rs ms : List Rc} (hl : LSeg 3 Rc.cs w.heap.size w v rs) (hrs : ∀ r ∈ rs, In64 r.k ∧ In64 r.v) (hl2 : LSeg 3 Rc.cs w.heap.size w v2 ms) (hms : ∀ r ∈ ms, In64 r.k ∧ In64 r.v) {k size slide : Int} (hs : In64 size) (hsl : In64 slide) (a par mk : Int) :
    Calls Try.prog 4 #[.agg #[.int .i64 k, .int .i64 size, .int .i64 slide], .int .i64 a, v, v2, .int .i64 par, .int .i64 mk] w fun e w' => e = .returned (.bool true) ∧ Below w.heap.size w w' := by
  obtain ⟨ao, cap, rfl⟩ := hl.shapeOf
  obtain ⟨bo, bcap, rfl⟩ := hl2.shapeOf
  have HB0 := hide (below_box w (.cells #[.int .i64 k, .int .i64 size, .int .i64 slide] 23))
  have HBX := hide (BoxT.new 23 w #[.int .i64 k, .int .i64 size, .int .i64 slide])
  have HK := hide (fun W => known_any W)
  by_cases hF : FitS k size slide a
  case neg =>
    have HFT := hide (fit_no hF)
    clear hl hF
    go_enter Try.func4, Try.ntmps4
    go_wp2_with (first
      | (go_at_call 8; refine (HK.out _).mono ?_; rintro e w1 ⟨rfl, b1⟩; have HB1 := hide (HB0.out.trans (b1.mono HB0.out.size)); have HX1 := hide (BoxT.below (t := 23) HBX.out b1); obtain ⟨y0, y1, y2⟩ := HX1.out.cells3; clear b1)
      | (go_at_call 9; refine (HFT.out _).mono ?_; rintro e w2 ⟨rfl, b2⟩; have HB2 := hide (HB1.out.trans (b2.mono HB1.out.size)); clear b2 y0 y1 y2))
    go_ret
    exact ⟨rfl, HB2.out⟩
  have HFT := hide (fit_yes hF)
  have HF := hide hF
  clear hF
  by_cases hn : (60 : Int) < (rs.length : Int)
  · clear hl
    go_enter Try.func4, Try.ntmps4
    go_wp2_with (first
      | (go_at_call 8; refine (HK.out _).mono ?_; rintro e w1 ⟨rfl, b1⟩; have HB1 := hide (HB0.out.trans (b1.mono HB0.out.size)); have HX1 := hide (BoxT.below (t := 23) HBX.out b1); obtain ⟨y0, y1, y2⟩ := HX1.out.cells3; clear b1)
      | (go_at_call 9; refine (HFT.out _).mono ?_; rintro e w2 ⟨rfl, b2⟩; have HB2 := hide (HB1.out.trans (b2.mono HB1.out.size)); clear b2 y0 y1 y2))
    go_ret
    exact ⟨rfl, HB2.out⟩
  by_cases hm : (60 : Int) < (ms.length : Int)
  · clear hl
    go_enter Try.func4, Try.ntmps4
    go_wp2_with (first
      | (go_at_call 8; refine (HK.out _).mono ?_; rintro e w1 ⟨rfl, b1⟩; have HB1 := hide (HB0.out.trans (b1.mono HB0.out.size)); have HX1 := hide (BoxT.below (t := 23) HBX.out b1); obtain ⟨y0, y1, y2⟩ := HX1.out.cells3; clear b1)
      | (go_at_call 9; refine (HFT.out _).mono ?_; rintro e w2 ⟨rfl, b2⟩; have HB2 := hide (HB1.out.trans (b2.mono HB1.out.size)); clear b2 y0 y1 y2))
    go_ret
    exact ⟨rfl, HB2.out⟩
  by_cases hp : par < 1 ∨ 4 < par
  · have HSP := hide (fun (W : World) (ao : Option Addr) (n cap : Nat) => Split_no W ao n cap par hp)
    clear hl hl2 hrs hms
    rcases hp with hp | hp
    · go_enter Try.func4, Try.ntmps4
      go_wp2_with (first
        | (go_at_call 8; refine (HK.out _).mono ?_; rintro e w1 ⟨rfl, b1⟩; have HB1 := hide (HB0.out.trans (b1.mono HB0.out.size)); have HX1 := hide (BoxT.below (t := 23) HBX.out b1); obtain ⟨y0, y1, y2⟩ := HX1.out.cells3; clear b1)
        | (go_at_call 9; refine (HFT.out _).mono ?_; rintro e w2 ⟨rfl, b2⟩; have HB2 := hide (HB1.out.trans (b2.mono HB1.out.size)); clear b2 y0 y1 y2)
        | (go_at_call 16; refine (HSP.out _ _ _ _).mono ?_; rintro e w3 ⟨rfl, e3⟩; subst e3)
        | fail)
      go_ret
      exact ⟨rfl, HB2.out.trans ((below_box _ _).mono HB2.out.size)⟩
    · have hp1 : ¬ par < 1 := by omega
      go_enter Try.func4, Try.ntmps4
      go_wp2_with (first
        | (go_at_call 8; refine (HK.out _).mono ?_; rintro e w1 ⟨rfl, b1⟩; have HB1 := hide (HB0.out.trans (b1.mono HB0.out.size)); have HX1 := hide (BoxT.below (t := 23) HBX.out b1); obtain ⟨y0, y1, y2⟩ := HX1.out.cells3; clear b1)
        | (go_at_call 9; refine (HFT.out _).mono ?_; rintro e w2 ⟨rfl, b2⟩; have HB2 := hide (HB1.out.trans (b2.mono HB1.out.size)); clear b2 y0 y1 y2)
        | (go_at_call 16; refine (HSP.out _ _ _ _).mono ?_; rintro e w3 ⟨rfl, e3⟩; subst e3)
        | fail)
      go_ret
      exact ⟨rfl, HB2.out.trans ((below_box _ _).mono HB2.out.size)⟩
  obtain ⟨pn, rfl⟩ : ∃ pn : Nat, par = (pn : Int) := ⟨par.toNat, by omega⟩
  have hp1 : ¬ (pn : Int) < 1 := by omega
  have hp2 : ¬ (4 : Int) < (pn : Int) := by omega
  have HPN : Hid (1 ≤ pn ∧ pn ≤ 4) := (show _ ∧ _ by omega)
  have HL := hide hl
  have HL2 := hide hl2
  have HRS := hide hrs
  have HMS := hide hms
  have HS := hide hs
  have HSL := hide hsl
  have hn60 : rs.length ≤ 60 := by omega
  have hm60 : ms.length ≤ 60 := by omega
  have HNW := hide (fun W => New_any W k size slide a)
  clear hl hl2 hrs hms hs hsl hp
  go_enter Try.func4, Try.ntmps4
  go_upto_region 7 with (first
    | (go_at_call 8; refine (HK.out _).mono ?_; rintro e w1 ⟨rfl, b1⟩; have HB1 := hide (HB0.out.trans (b1.mono HB0.out.size)); have HX1 := hide (BoxT.below (t := 23) HBX.out b1); obtain ⟨y0, y1, y2⟩ := HX1.out.cells3; clear b1)
    | (go_at_call 9; refine (HFT.out _).mono ?_; rintro e w2 ⟨rfl, b2⟩; have HB2 := hide (HB1.out.trans (b2.mono HB1.out.size)); have HX2 := hide (BoxT.below (t := 23) HX1.out b2); obtain ⟨z0, z1, z2⟩ := HX2.out.cells3; clear b2 y0 y1 y2))
  clear HK HFT HB1 HX1 HBX HB0
  have hz2 : w.heap.size + 1 ≤ w2.heap.size := HX2.out.lt
  have HZ2 := hide hz2
  clear hz2
  go_upto_region 8 with (first | (go_at_call 10; refine (HNW.out _).mono ?_; rintro e w3 ⟨s, fp, rfl, s3, f3, b3⟩; have T3 : Hid (K1 w w3 s k size slide a fp []) := (show K1 _ _ _ _ _ _ _ _ _ from ⟨s3, fun i hi => Nat.le_trans HZ2.out (f3 i hi), HB2.out.trans (b3.mono HB2.out.size), BoxT.below (t := 23) HX2.out b3⟩); clear s3 f3 b3) | fail)
  clear HX2 HB2 HZ2 z0 z1 z2
  go_wp2_with fail
  go_loopg [14] (rs.length + 1) (fun gh iv wr => ∃ (i : Nat) (fp : Nat → Prop) (M : List Pn), iv = .int .i64 (i : Int) ∧ i ≤ rs.length ∧ rs.length + 1 ≤ gh + i ∧ Hid (K1 w wr s k size slide a fp M) ∧ Hid (Comes (sess k) (jn a) (allS k size slide a (rs.take i)) M) ∧ Hid (∀ r ∈ rs.take i, TimeOk r.t))
  case atStart => exact ⟨0, fp, [], rfl, by omega, by omega, T3, (show Comes _ _ _ _ from Comes.refl .nil), (show ∀ r, _ from fun r hr => by simp at hr)⟩
  case round =>
    clear T3 fp
    obtain ⟨i, fp, M, rfl, hi, hg, GT, GM, GO⟩ := hrel
    obtain ⟨go, rfl⟩ : ∃ go, gk = go + 1 := ⟨gk - 1, by omega⟩
    by_cases hlt : i < rs.length
    · as_aux_lemma =>
      obtain ⟨r, hr⟩ := get_of_lt hlt
      have bt : (i : Int) < (rs.length : Int) := by omega
      obtain ⟨nb, no, rfl, nlt, e0, e1, e2⟩ := (HL.out.below GT.out.bl).rec hr
      have hmem := List.mem_of_getElem? hr
      have HIN := hide (HRS.out r hmem)
      have HSN := hide (allS_snoc k size slide a hr)
      have HTS := hide (take_snoc hr)
      have hlenA : (allS k size slide a (rs.take i)).length ≤ 3840 := by have := allS_len k size slide a (rs.take i); rw [List.length_take] at this; omega
      have HML : Hid (M.length ≤ 3840) := Nat.le_trans GM.out.1.len hlenA
      obtain ⟨rk, rt, rv⟩ := r
      simp only at e0 e1 e2 HIN
      clear hr hmem hlenA
      by_cases hT : TimeOk rt
      · have HTI := hide (time_yes hT)
        have HT := hide hT
        have HP1 := hide (put_ok GT.out.sa HF.out HS.out HSL.out rk rt rv HIN.out.1 HIN.out.2 hT (by have := HML.out; omega) GM.out)
        clear hT
        go_wp2_with (first
          | (go_at_call 12; refine (HTI.out _).mono ?_; rintro e w5 ⟨rfl, e5⟩; subst e5)
          | (go_at_call 13; refine HP1.out.mono ?_; rintro e w6 ⟨rfl, fp', M', s6, f6, c6⟩; have T6 := hide (GT.out.turn s6 f6); have C6 := hide c6; clear s6 f6 c6 HP1)
          | fail)
        go_roundg go
        case rel => exact ⟨i + 1, fp', M', by go_num, by omega, by omega, T6, (show Comes _ _ _ _ by rw [HSN.out]; exact C6.out), (show ∀ r, _ by
          rw [HTS.out]
          intro r hr
          rcases List.mem_append.1 hr with hr | hr
          · exact GO.out r hr
          · obtain rfl := List.mem_singleton.1 hr
            exact HT.out)⟩
        case measure => omega
      · have HTI := hide (time_no hT)
        clear hT
        go_wp2_with (first | (go_at_call 12; refine (HTI.out _).mono ?_; rintro e w5 ⟨rfl, e5⟩; subst e5) | fail)
        go_ret
        exact ⟨rfl, GT.out.bl⟩
    · obtain rfl : i = rs.length := by omega
      have bt : ¬ ((rs.length : Nat) : Int) < (rs.length : Int) := by omega
      have hML : M.length ≤ 3840 := by
        have h1 := GM.out.1.len
        have h2 := allS_len k size slide a (rs.take rs.length)
        rw [List.length_take] at h2
        omega
      have HSE : Hid (k = 3 → ∀ x ∈ M, x.f < x.t) := sess_lt HF.out GO.out GM.out
      have HAP : Hid (Apart (sess k) M) := GM.out.2
      have HAL : Hid ((allS k size slide a (rs.take rs.length)).length ≤ 3840) := (show _ ≤ _ by
        have h2 := allS_len k size slide a (rs.take rs.length)
        rw [List.length_take] at h2
        omega)
      have HML := hide hML
      have hslM : (srt M).length = M.length := srt_len M
      have HSS : Hid (srt (srt M) = srt M) := (show _ = _ from srt_self (srt_rising M))
      have HOK : Hid (∀ x ∈ srt M, PnOk x ∧ (k = 3 → x.f < x.t)) := (show ∀ x, _ from fun x hx => ⟨GT.out.sa.ok x ((srt_perm M).mem_iff.1 hx), fun e => HSE.out e x ((srt_perm M).mem_iff.1 hx)⟩)
      have HPA := hide (Panes_any GT.out.sa (by omega))
      generalize allS k size slide a (rs.take rs.length) = A0 at *
      clear GO hn60 hn hg HRS HL hi HSE
      go_upto_region 15 with (first
        | (go_at_call 17; refine HPA.out.mono ?_; rintro e w4 ⟨u4, rfl, o4, b4⟩; have T4 := hide (GT.out.grow b4); have HSP := hide (Split_any (o4.seg Pn.cs_len (by omega)) (by omega) HPN.out.1 HPN.out.2); rw [HSS.out] at HSP; clear o4 b4)
        | (go_at_call 16; refine HSP.out.mono ?_; rintro e w5 ⟨G, vs, rfl, p5, b5, g5⟩; have T5 := hide (T4.out.grow b5); have P5 := hide p5; have GG : Hid (Kp w5 [⟨s, fp, M⟩] G) := (show Kp _ _ _ from ⟨p5.row.lt, fun x hx e => by (obtain rfl := List.mem_singleton.1 hx; have := T4.out.sa.flt _ e; omega)⟩); clear p5 b5 g5)
        | fail)
      have HSM : Hid ((srt M).length ≤ 3840) := (show _ ≤ _ by omega)
      clear HSP HPA T4 GT hslM
      go_wp2_with fail
      go_loopg [17, 18] 17 (fun gh bv gv wx => ∃ (j : Nat), gv = .int .i64 (j : Int) ∧ j ≤ 16 ∧ 17 ≤ gh + j ∧ Hid (Below w5.heap.size w5 wx) ∧ Hid (OwnL 43 4 Pn.cs w5.heap.size wx bv (upG M j)))
      case atStart => exact ⟨0, rfl, by omega, by omega, Below.refl _ _, OwnL.nil _ _ _ _ _⟩
      case round =>
        obtain ⟨j, rfl, hj, hg2, GB, GA⟩ := hrel
        obtain ⟨go2, hgo2⟩ : ∃ go2, gk = go2 + 1 := ⟨gk - 1, by omega⟩
        subst hgo2
        by_cases hjl : j < 16
        · as_aux_lemma =>
          have bj : (j : Int) < 16 := by omega
          have HGR := hide (group_ok (T5.out.grow GB.out).sa (j : Int) (by have := HML.out; omega))
          have HGL := hide (gl_len M (j : Int))
          have HAL2 := hide (upG_len M j)
          have HAS : Hid (upG M (j + 1) = upG M j ++ gl M (j : Int)) := (show _ = _ from rfl)
          have hpl : (gl M (j : Int)).length ≤ 3840 := Nat.le_trans HGL.out HML.out
          have HAN : Hid ((upG M j).length ≤ 3840) := (show _ ≤ _ from Nat.le_trans HAL2.out HML.out)
          obtain ⟨aa, ac, rfl⟩ := GA.out.shape
          clear HGL HAL2
          generalize gl M (j : Int) = P at *
          generalize hAJ : upG M j = AJ at *
          have HAJ := hide hAJ
          clear hAJ
          go_wp2_with (first
            | (go_at_call 18; refine HGR.out.mono ?_; rintro e w7 ⟨u7, rfl, o7, b7⟩; have B7 := hide (GB.out.trans (b7.mono GB.out.size)); have A7 := hide (GA.out.below b7); have O7 := hide o7; have Z7 := hide B7.out.size; obtain ⟨ua, uc, rfl⟩ := o7.shape; clear o7 b7 HGR)
            | (at_builtin; refine app_segL Try.infoPn Try.underlying44 rfl (by decide) (by decide) Pn.cs_len Pn.cs_one rfl _ _ rfl w5.heap.size (.slice aa AJ.length ac) AJ rfl A7.out w7.heap.size _ P rfl (O7.out.seg Pn.cs_len (by omega)) (by have := HAN.out; omega) Z7.out ?_; intro v10 w10 h10 g10 k10; have B10 := hide (B7.out.grown g10 Z7.out (fun g e => A7.out.at g e)); have OO := hide h10; clear h10 g10 k10)
            | fail)
          go_roundg go2
          case rel => exact ⟨j + 1, by go_num, by omega, by omega, B10, (show OwnL _ _ _ _ _ _ _ by rw [HAS.out]; exact OO.out)⟩
          case measure => omega
        · obtain rfl : j = 16 := by omega
          have bj : ¬ ((16 : Nat) : Int) < 16 := by omega
          have HPM := hide (upG_all M)
          have HUL : Hid ((upG M 16).length ≤ 3840) := (show _ ≤ _ from Nat.le_trans (upG_len M 16) HML.out)
          have HSB : Hid (srt (upG M 16) = srt M) := (show _ = _ from srt_eq HPM.out)
          have T6 := hide (T5.out.grow GB.out)
          have P6 := hide (P5.out.below GB.out)
          generalize upG M 16 = UG at *
          obtain ⟨aa, ac, rfl⟩ := GA.out.shape
          clear HPM
          go_wp2_with fail
          obtain ⟨wb, rfl⟩ : ∃ wb, wb = wr := ⟨_, rfl⟩
          have T6S : Hid (Sts w wb k size slide a [⟨s, fp, M⟩]) := (show Sts _ _ _ _ _ _ _ from ⟨fun x hx => by (obtain rfl := List.mem_singleton.1 hx; exact T6.out.sa), fun x hx => by (obtain rfl := List.mem_singleton.1 hx; exact T6.out.nw), List.pairwise_singleton .., T6.out.bl, T6.out.bx⟩)
          go_loopg [16, 19, 20, 21] (pn + 1) (fun gh tv iv _ _ wx => ∃ (i : Nat) (T : List Stt) (TS : List Nat), iv = .int .i64 (i : Int) ∧ i ≤ pn ∧ pn + 1 ≤ gh + i ∧ Hid (T.map Stt.s = TS) ∧ Hid (Below wb.heap.size wb wx) ∧ Hid (Sts w wx k size slide a (⟨s, fp, M⟩ :: T)) ∧ Hid (OwnL 27 1 ptC wb.heap.size wx tv TS) ∧ Hid (∀ g, tv.ownBlock = some g → Kp wx (⟨s, fp, M⟩ :: T) g) ∧ Hid (T.length = i) ∧ Hid (∀ (j : Nat) (x : Stt), T[j]? = some x → x.M.Perm ((srt M).filter (inP pn j))))
          case atStart => exact ⟨0, [], [], rfl, by omega, by omega, (show _ = _ from rfl), Below.refl _ _, T6S, OwnL.nil _ _ _ _ _, (show ∀ g, _ from fun g e => by cases e), (show _ = _ from rfl), (show ∀ j : Nat, _ from fun j x hx => by simp at hx)⟩
          case round =>
            obtain ⟨i, T, TS, rfl, hi, hg3, GTS, GB3, GS, GT3, GK, GL, GE⟩ := hrel
            obtain ⟨go3, hgo3⟩ : ∃ go3, gk = go3 + 1 := ⟨gk - 1, by omega⟩
            subst hgo3
            by_cases hil : i < pn
            · as_aux_lemma =>
              have bi : (i : Int) < (pn : Int) := by omega
              have PX := hide (P6.out.below GB3.out)
              have hvl : vs.length = pn := by rw [P6.out.len, ptL_len]
              obtain ⟨vq, hvq⟩ := get_of_lt (l := vs) (i := i) (by omega)
              have HPL : Hid ((ptL (srt M) pn (srt M).length)[i]? = some ((srt M).filter (inP pn i))) := (show _ = _ by rw [ptL_get (srt M) hil, List.take_of_length_le (Nat.le_refl _)])
              have HO := hide (PX.out.each i vq _ hvq HPL.out)
              have hcell := PX.out.cell hvq
              have HLN : Hid (((srt M).filter (inP pn i)).length ≤ 3840) := (show _ ≤ _ by exact Nat.le_trans (List.length_filter_le ..) HSM.out)
              have HIP : Hid (∀ x ∈ (srt M).filter (inP pn i), prt (grp x.k) (pn : Int) = (i : Int) ∧ PnOk x ∧ (k = 3 → x.f < x.t)) := (show ∀ x, _ from fun x hx => by
                have h1 := List.mem_filter.1 hx
                exact ⟨by simpa [inP] using h1.2, HOK.out x h1.1⟩)
              have HPF : Hid (∀ N, Comes (sess k) (jn a) ((srt M).filter (inP pn i)) N → N.Perm ((srt M).filter (inP pn i))) := (show ∀ N, _ from fun N h => part_loads HAP.out h)
              have HLT : Hid (∀ g, vq.ownBlock = some g → g < wr.heap.size) := (show ∀ g, _ from fun g e => PX.out.lt hvq e)
              have HGE : Hid (∀ (N : List Pn) (t : Nat) (fq : Nat → Prop), N.Perm ((srt M).filter (inP pn i)) → ∀ (j : Nat) (x : Stt), (T ++ [⟨t, fq, N⟩])[j]? = some x → x.M.Perm ((srt M).filter (inP pn j))) := (show ∀ N : List Pn, _ from fun N t fq hN j x hx => by
                by_cases hj : j < T.length
                · rw [List.getElem?_append_left hj] at hx
                  exact GE.out j x hx
                · have h2 := lt_of_get hx
                  rw [List.length_append, List.length_singleton] at h2
                  have h3 : j = i := by have := GL.out; omega
                  subst h3
                  rw [List.getElem?_append_right (by omega)] at hx
                  have h4 : j - T.length = 0 := by have := GL.out; omega
                  rw [h4] at hx
                  cases hx
                  exact hN)
              obtain ⟨va, vc, rfl⟩ := HO.out.shape
              obtain ⟨z0, z1, z2⟩ := GS.out.bx.cells3
              have hpl : ((srt M).filter (inP pn i)).length ≤ 3840 := HLN.out
              have HVQ := hide hvq
              clear hvl hvq HPL GE
              generalize (srt M).filter (inP pn i) = P at *
              go_wp2_with fail
              obtain ⟨wp, rfl⟩ : ∃ wp, wp = wr := ⟨_, rfl⟩
              go_loopg [20] (P.length + 1) (fun gh jv wx => ∃ q : Nat, jv = .int .i64 (q : Int) ∧ q ≤ P.length ∧ P.length + 1 ≤ gh + q ∧ wx = wp)
              case atStart => exact ⟨0, rfl, by omega, by omega, rfl⟩
              case round =>
                obtain ⟨q, rfl, hq, hg4, rfl⟩ := hrel
                obtain ⟨go4, hgo4⟩ : ∃ go4, gk = go4 + 1 := ⟨gk - 1, by omega⟩
                subst hgo4
                by_cases hql : q < P.length
                · as_aux_lemma =>
                  obtain ⟨x, hx⟩ := get_of_lt hql
                  have bq : (q : Int) < (P.length : Int) := by omega
                  have hxg := (HIP.out x (List.mem_of_getElem? hx)).1
                  obtain ⟨gz, hgz⟩ : ∃ gz : Int, (grp x.k : Int) = gz := ⟨_, rfl⟩
                  have HRG := hide (RGroup_of hgz wr)
                  have HRP := hide (RPart_of hgz hxg wr)
                  clear hgz
                  obtain ⟨nb, no, rfl, nlt, e0, e1, e2, e3⟩ := (HO.out.seg Pn.cs_len (by have := HLN.out; omega)).pane hx
                  clear hx hxg
                  obtain ⟨xk, xf, xt, xa⟩ := x
                  simp only at e0 e1 e2 e3 HRG HRP
                  go_wp2_with (first | (go_at_call 20; refine HRG.out.mono ?_; rintro e w10 ⟨rfl, e10⟩; subst e10) | (go_at_call 19; refine HRP.out.mono ?_; rintro e w10 ⟨rfl, e10⟩; subst e10) | fail)
                  go_roundg go4
                  case rel => exact ⟨q + 1, by go_num, by omega, by omega, rfl⟩
                  case measure => omega
                · obtain rfl : q = P.length := by omega
                  have bq : ¬ ((P.length : Nat) : Int) < (P.length : Int) := by omega
                  obtain ⟨aa3, ac3, rfl⟩ := GT3.out.shape
                  have HTL : Hid (TS.length ≤ 4) := (show _ ≤ _ by rw [← GTS.out, List.length_map]; have := GL.out; have := HPN.out; omega)
                  go_upto_region 32 with (first | (go_at_call 10; refine (HNW.out _).mono ?_; rintro e w11 ⟨t, fq, rfl, s11, f11, b11⟩; have HLD := hide (Load_any s11 ((HO.out.below b11).seg Pn.cs_len (by omega)) (fun g e h => by (have h1 := f11 g h; have h2 := HLT.out g e; omega)) (fun x hx => (HIP.out x hx).2) (by omega)); have F11 := hide f11; have B11 := hide b11; have hcell2 := (PX.out.below b11).cell HVQ.out; clear s11 f11 b11) | fail)
                  clear z0 z1 z2 hcell
                  go_upto_region 33 with (first | (go_at_call 21; refine HLD.out.mono ?_; rintro e w12 ⟨rfl, fq', N', s12, f12, c12⟩; have HN := hide (HPF.out N' c12); have F12 : Hid (∀ b, fq' b → wr.heap.size ≤ b) := (show ∀ b, _ from fun b hb => by (rcases f12.sub b hb with e | e; exact F11.out b e; exact Nat.le_trans B11.out.size e)); have B12 := hide (B11.out.trans (f12.below B11.out.size F11.out)); have S12 := hide (GS.out.push s12 F12.out B12.out); have K12 : Hid (∀ g, (Value.slice aa3 TS.length ac3).ownBlock = some g → Kp w12 ((⟨s, fp, M⟩ :: T) ++ [⟨t, fq', N'⟩]) g) := (show ∀ g, _ from fun g e => (GK.out g e).push F12.out B12.out); have O12 := hide (GT3.out.below B12.out); clear s12 f12 c12) | fail)
                  clear HLD hcell2 HPF GS GK
                  have S13 := hide (S12.out.grow (below_box w12 (.cells #[.pointer (some ⟨t, 0, none⟩)] 27)))
                  have K13 : Hid (∀ g, (Value.slice aa3 TS.length ac3).ownBlock = some g → Kp (w12.alloc (.cells #[.pointer (some ⟨t, 0, none⟩)] 27)) ((⟨s, fp, M⟩ :: T) ++ [⟨t, fq', N'⟩]) g) := (show ∀ g, _ from fun g e => (K12.out g e).grow (below_box w12 _))
                  have O13 := hide (O12.out.below (below_box w12 (.cells #[.pointer (some ⟨t, 0, none⟩)] 27)))
                  have X13 := hide (seg_ptr (BoxT.new 27 w12 #[.pointer (some ⟨t, 0, none⟩)]))
                  have B13 := hide (B12.out.trans ((below_box w12 (.cells #[.pointer (some ⟨t, 0, none⟩)] 27)).mono B12.out.size))
                  have Z13 : Hid (wb.heap.size ≤ (w12.alloc (.cells #[.pointer (some ⟨t, 0, none⟩)] 27)).heap.size) := (show _ ≤ _ from Nat.le_trans GB3.out.size B13.out.size)
                  have HAP2 : Hid (∀ v' W, OwnL 27 1 ptC wb.heap.size W v' (TS ++ [t]) → (w12.alloc (.cells #[.pointer (some ⟨t, 0, none⟩)] 27)).grownBy W (Value.slice aa3 TS.length ac3).ownBlock → (v'.ownBlock = (Value.slice aa3 TS.length ac3).ownBlock ∨ v'.ownBlock = some (w12.alloc (.cells #[.pointer (some ⟨t, 0, none⟩)] 27)).heap.size) → Sts w W k size slide a (⟨s, fp, M⟩ :: (T ++ [⟨t, fq', N'⟩])) ∧ (∀ g, v'.ownBlock = some g → Kp W (⟨s, fp, M⟩ :: (T ++ [⟨t, fq', N'⟩])) g) ∧ Below wb.heap.size wb W) := (show ∀ (v' : Value) (W : World), _ from fun v' W h1 h2 h3 => ⟨S13.out.grown h2 (fun g e => ⟨by (have := O13.out.at g e; have := GB3.out.size; have := T6.out.bx.lt; omega), K13.out g e⟩), fun g e => by
                    rcases h3 with h3 | h3
                    · exact (K13.out g (h3 ▸ e)).grown h2
                    · exact Kp.new S13.out (by rw [h3] at e; cases e; exact Nat.le_refl _) (h1.lt g e), (GB3.out.trans (B13.out.mono GB3.out.size)).grown h2 Z13.out (fun g e => O13.out.at g e)⟩)
                  clear S12 K12 O12 B12
                  go_wp2_with (first | (at_builtin; refine app_segL Try.infoPt Try.underlying46 rfl (by decide) (by decide) ptC_len ptC_one rfl _ _ rfl wb.heap.size (.slice aa3 TS.length ac3) TS rfl O13.out _ _ [t] rfl X13.out (by have := HTL.out; simp; omega) Z13.out ?_; intro v14 w14 h14 g14 k14; have A14 := hide (HAP2.out v14 w14 h14 g14 k14); have O14 := hide h14; clear h14 g14 k14) | fail)
                  go_roundg go3
                  case rel => exact ⟨i + 1, T ++ [⟨t, fq', N'⟩], TS ++ [t], by go_num, by omega, by omega, (show _ = _ by rw [List.map_append, GTS.out]; rfl), (show Below _ _ _ from A14.out.2.2), (show Sts _ _ _ _ _ _ _ from A14.out.1), O14, (show ∀ g, _ from A14.out.2.1), (show _ = _ by rw [List.length_append, GL.out]; rfl), (show ∀ j : Nat, _ from HGE.out N' t fq' HN.out)⟩
                  case measure => omega
            · obtain rfl : i = pn := by omega
              have bi : ¬ ((i : Nat) : Int) < (i : Int) := by omega
              have HUS := hide (rSort_any ((GA.out.below GB3.out).seg Pn.cs_len (by have := HUL.out; omega)) (by have := HUL.out; omega))
              rw [HSB.out] at HUS
              have HTI : Hid (TsI k a i A0 M T) := (show TsI _ _ _ _ _ _ from TsI.start GL.out GM.out GE.out)
              have HSA0 : Hid (∀ W, Sts w W k size slide a (⟨s, fp, M⟩ :: T) → SA W s k size slide a fp M) := (show ∀ W, _ from fun W h => h.sa ⟨s, fp, M⟩ (List.mem_cons_self ..))
              obtain ⟨ta, tc, rfl⟩ := GT3.out.shape
              clear P6 T6S GE hg3 HSB
              go_upto_region 36 with (first
                | (go_at_call 23; refine HUS.out.mono ?_; rintro e w20 ⟨u20, rfl, o20, b20⟩; have S20 := hide (GS.out.grow b20); have R20 := hide (GT3.out.below b20); have K20 : Hid (∀ g, (Value.slice ta TS.length tc).ownBlock = some g → Kp w20 (⟨s, fp, M⟩ :: T) g) := (show ∀ g, _ from fun g e => (GK.out g e).grow b20); have O20 := hide o20; have HP20 := hide (Panes_any (HSA0.out _ S20.out) (by have := HML.out; omega)); obtain ⟨ua, uc, rfl⟩ := o20.shape; clear o20 b20 HUS)
                | (go_at_call 17; refine HP20.out.mono ?_; rintro e w21 ⟨u21, rfl, o21, b21⟩; have S21 := hide (S20.out.grow b21); have R21 := hide (R20.out.below b21); have K21 : Hid (∀ g, (Value.slice ta TS.length tc).ownBlock = some g → Kp w21 (⟨s, fp, M⟩ :: T) g) := (show ∀ g, _ from fun g e => (K20.out g e).grow b21); have HH21 := hide (hPanes_any ((O20.out.below b21).seg Pn.cs_len (by have := HSM.out; omega)) (o21.seg Pn.cs_len (by have := HSM.out; omega)) (by have := HSM.out; omega)); obtain ⟨ub, ud, rfl⟩ := o21.shape; clear o21 b21 HP20)
                | (go_at_call 22; refine HH21.out.mono ?_; rintro e w22 ⟨rfl, b22⟩; have S22 := hide (S21.out.grow b22); have R22 := hide (R21.out.below b22); have K22 : Hid (∀ g, (Value.slice ta TS.length tc).ownBlock = some g → Kp w22 (⟨s, fp, M⟩ :: T) g) := (show ∀ g, _ from fun g e => (K21.out g e).grow b22); clear b22 HH21)
                | fail)
              clear S20 S21 R20 R21 K20 K21 GS GT3 GK GA
              go_wp2_with fail
              go_loopg [22] (ms.length + 1) (fun gh iv wx => ∃ (m : Nat) (fp : Nat → Prop) (M : List Pn) (T : List Stt), iv = .int .i64 (m : Int) ∧ m ≤ ms.length ∧ ms.length + 1 ≤ gh + m ∧ Hid (T.map Stt.s = TS) ∧ Hid (Sts w wx k size slide a (⟨s, fp, M⟩ :: T)) ∧ Hid (OwnL 27 1 ptC wb.heap.size wx (.slice ta TS.length tc) TS) ∧ Hid (∀ g, (Value.slice ta TS.length tc).ownBlock = some g → Kp wx (⟨s, fp, M⟩ :: T) g) ∧ Hid (TsI k a i (A0 ++ allS k size slide a (ms.take m)) M T))
              case atStart => exact ⟨0, fp, M, T, rfl, by omega, by omega, GTS, S22, R22, K22, (show TsI _ _ _ _ _ _ by simpa [allS] using HTI.out)⟩
              case round =>
                clear S22 R22 K22 HTI HSA0 HML HOK HAP HUL GM T5 T6 GG P5 GTS GL
                obtain ⟨m, fp2, M2, T2, rfl, hmm, hg5, GTS, GS, GR, GK, GI⟩ := hrel
                obtain ⟨go5, hgo5⟩ : ∃ go5, gk = go5 + 1 := ⟨gk - 1, by omega⟩
                subst hgo5
                have HAN : Hid ((A0 ++ allS k size slide a (ms.take m)).length ≤ 8000) := (show _ ≤ _ by
                  have h1 := allS_len k size slide a (ms.take m)
                  rw [List.length_take] at h1
                  rw [List.length_append]
                  have := HAL.out
                  omega)
                have HSA0 : Hid (SA wr s k size slide a fp2 M2) := (show SA _ _ _ _ _ _ _ _ from GS.out.sa ⟨s, fp2, M2⟩ (List.mem_cons_self ..))
                have HM2 : Hid (M2.length ≤ 8000) := (show _ ≤ _ from Nat.le_trans GI.out.le.1 HAN.out)
                by_cases hml : m < ms.length
                · as_aux_lemma =>
                  obtain ⟨r, hr⟩ := get_of_lt hml
                  have bm : (m : Int) < (ms.length : Int) := by omega
                  obtain ⟨nb, no, rfl, nlt, e0, e1, e2⟩ := (HL2.out.below GS.out.bl).rec hr
                  have HIN := hide (HMS.out r (List.mem_of_getElem? hr))
                  have HSN : Hid (A0 ++ allS k size slide a (ms.take (m + 1)) = (A0 ++ allS k size slide a (ms.take m)) ++ frS k size slide a r) := (show _ = _ by rw [allS_snoc k size slide a hr, List.append_assoc])
                  obtain ⟨qz, hqz⟩ : ∃ qz, prt (grp r.k) (i : Int) = qz := ⟨_, rfl⟩
                  have hqr := prt_in (grp_lt r.k) HPN.out.1 HPN.out.2
                  rw [hqz] at hqr
                  obtain ⟨q, rfl⟩ : ∃ q : Nat, qz = (q : Int) := ⟨qz.toNat, by omega⟩
                  have hql : q < i := by omega
                  have htl : T2.length = i := GI.out.len
                  obtain ⟨x, hx⟩ := get_of_lt (l := T2) (i := q) (by omega)
                  have hxs : TS[q]? = some x.s := by rw [← GTS.out, List.getElem?_map, hx]; rfl
                  have hTSl : TS.length = i := by rw [← GTS.out, List.length_map]; exact htl
                  have HTL2 := hide hTSl
                  have hq1 : (q : Int) < (TS.length : Int) := by omega
                  have HXS := hide hxs
                  have HX := hide hx
                  have HQ := hide hqz
                  clear hTSl hxs htl hqr hx hqz
                  obtain ⟨rk, rt, rv⟩ := r
                  simp only at e0 e1 e2 HIN HQ
                  by_cases hT : TimeOk rt
                  · have HTI := hide (time_yes hT)
                    have HT := hide hT
                    have HP1 := hide (put_ok HSA0.out HF.out HS.out HSL.out rk rt rv HIN.out.1 HIN.out.2 hT (by have := HM2.out; omega) GI.out.cm)
                    obtain ⟨pb, po, rfl, plt, pc⟩ := (GR.out.seg ptC_len (by have := HTL2.out; have := HPN.out; omega)).ptr HXS.out
                    obtain ⟨gz, hgz⟩ : ∃ gz : Int, (grp rk : Int) = gz := ⟨_, rfl⟩
                    have HRG := hide (RGroup_of hgz)
                    have HRP := hide (RPart_of hgz HQ.out)
                    clear hgz
                    have hq0 : (0 : Int) ≤ (q : Int) := Int.natCast_nonneg q
                    have HKB := hide (GK.out pb rfl)
                    have HPC := hide pc
                    have HE0 := hide e0
                    have HE1 := hide e1
                    have HE2 := hide e2
                    have HNB := hide nlt
                    clear hT hr
                    go_upto_region 42 with (first
                      | (go_at_call 12; refine (HTI.out _).mono ?_; rintro e w5 ⟨rfl, e5⟩; subst e5)
                      | (go_at_call 13; refine HP1.out.mono ?_; rintro e w6 ⟨rfl, fp', M', s6, f6, c6⟩; have S6 : Hid (Sts w w6 k size slide a (⟨s, fp', M'⟩ :: T2)) := (show Sts _ _ _ _ _ _ _ from GS.out.turn (q := 0) (x := ⟨s, fp2, M2⟩) rfl s6 f6); have F6 := hide f6; have C6 := hide c6; clear s6 f6 c6 HP1)
                      | fail)
                    clear HTI
                    have HW6 := hide F6.out.size
                    have K6 : Hid (∀ g, Kp w5 (⟨s, fp2, M2⟩ :: T2) g → Kp w6 (⟨s, fp', M'⟩ :: T2) g ∧ w6.heap[g]? = w5.heap[g]?) := (show ∀ g, _ from fun g h => Kp.turn (M' := M') h (q := 0) (x := ⟨s, fp2, M2⟩) rfl F6.out)
                    have B6 : Hid (Below w.heap.size w5 w6) := (show Below _ _ _ from ⟨S6.out.bl.os.trans GS.out.bl.os.symm, S6.out.bl.tape.trans GS.out.bl.tape.symm, S6.out.bl.output.trans GS.out.bl.output.symm, HW6.out, fun b hb => (S6.out.bl.block b hb).trans (GS.out.bl.block b hb).symm⟩)
                    have hp6 : w6.cell? ⟨pb, po + q, none⟩ = some (.pointer (some ⟨x.s, 0, none⟩)) := (cell_back (K6.out pb HKB.out).2).trans HPC.out
                    have RC : Hid (∀ W : World, Below w.heap.size w6 W → W.heap[pb]? = w6.heap[pb]? → RS W nb (no + m * 3) rk rt rv pb (po + q) x.s) := (show ∀ W : World, _ from fun W h1 h2 => ⟨((B6.out.trans h1).cell (p := ⟨nb, no + m * 3, none⟩) HNB.out).trans HE0.out, ((B6.out.trans h1).cell (p := ⟨nb, no + m * 3 + 1, none⟩) HNB.out).trans HE1.out, ((B6.out.trans h1).cell (p := ⟨nb, no + m * 3 + 2, none⟩) HNB.out).trans HE2.out, (cell_back (h2.trans (K6.out pb HKB.out).2)).trans HPC.out⟩)
                    have HSX : Hid (SA w6 x.s k size slide a x.fp x.M) := (show SA _ _ _ _ _ _ _ _ from S6.out.sa x (List.mem_cons_of_mem _ (List.mem_of_getElem? HX.out)))
                    have HP2 := hide (put_ok (W := w6.drew) (HSX.out.below (Below.refl _ _).drew) HF.out HS.out HSL.out rk rt rv HIN.out.1 HIN.out.2 HT.out (by have := GI.out.le.2 q x HX.out; have := HAN.out; omega) (GI.out.each q x HX.out))
                    refine wp_region_M (S := fun w' => RS w' nb (no + m * 3) rk rt rv pb (po + q) x.s) (late := []) (by kernel_rfl) (RC.out _ (Below.refl _ _).drew rfl) (fun hHeld => ?_)
                    (try simp only [List.size_toArray, List.length_cons, List.length_nil, Nat.zero_add, Nat.reduceAdd, Array.replicate, List.replicate])
                    refine wpAnyM_take (i := 0) (oi := ⟨_, _, _, _, _, _⟩) (v := ?_) rfl (by kernel_rfl) (by kernel_rfl) (by kernel_rfl) (by kernel_rfl) (fun _ _ _ h => h) (Or.inl ⟨by rfl, ?_⟩) hHeld ?_
                    rotate_left
                    · (intro w' hSw; obtain ⟨s0, s1, s2, s3⟩ := hSw; go_simp; try (with_reducible rfl))
                    (try simp only [Act.put, List.setIfInBounds_toArray, List.set_cons_zero, List.set_cons_succ])
                    refine wpAnyM_take (i := 1) (oi := ⟨_, _, _, _, _, _⟩) (v := ?_) rfl (by kernel_rfl) (by kernel_rfl) (by kernel_rfl) (by kernel_rfl) (fun _ _ _ h => h) (Or.inl ⟨by rfl, ?_⟩) hHeld ?_
                    rotate_left
                    · (intro w' hSw; obtain ⟨s0, s1, s2, s3⟩ := hSw; go_simp; try (with_reducible rfl))
                    (try simp only [Act.put, List.setIfInBounds_toArray, List.set_cons_zero, List.set_cons_succ])
                    refine wpAnyM_take (i := 2) (oi := ⟨_, _, _, _, _, _⟩) (v := ?_) rfl (by kernel_rfl) (by kernel_rfl) (by kernel_rfl) (by kernel_rfl) (fun _ _ _ h => h) (Or.inl ⟨by rfl, ?_⟩) hHeld ?_
                    rotate_left
                    · (intro w' hSw; obtain ⟨s0, s1, s2, s3⟩ := hSw; go_simp; try (with_reducible rfl))
                    (try simp only [Act.put, List.setIfInBounds_toArray, List.set_cons_zero, List.set_cons_succ])
                    refine wpAnyM_take (i := 3) (oi := ⟨_, _, _, _, _, _⟩) (v := ?_) rfl (by kernel_rfl) (by kernel_rfl) (by kernel_rfl) (by kernel_rfl) (fun _ _ _ h => h) (Or.inl ⟨by rfl, ?_⟩) hHeld ?_
                    rotate_left
                    · (intro w' hSw; obtain ⟨s0, s1, s2, s3⟩ := hSw; go_simp; try (with_reducible rfl))
                    (try simp only [Act.put, List.setIfInBounds_toArray, List.set_cons_zero, List.set_cons_succ])
                    refine wpAnyM_take (i := 4) (oi := ⟨_, _, _, _, _, _⟩) (v := ?_) rfl (by kernel_rfl) (by kernel_rfl) (by kernel_rfl) (by kernel_rfl) (fun _ _ _ h => h) (Or.inl ⟨by rfl, ?_⟩) hHeld ?_
                    rotate_left
                    · (intro w' hSw; obtain ⟨s0, s1, s2, s3⟩ := hSw; go_simp; try (with_reducible rfl))
                    (try simp only [Act.put, List.setIfInBounds_toArray, List.set_cons_zero, List.set_cons_succ])
                    refine wpAnyM_take (i := 5) (oi := ⟨_, _, _, _, _, _⟩) (v := ?_) rfl (by kernel_rfl) (by kernel_rfl) (by kernel_rfl) (by kernel_rfl) (fun _ _ _ h => h) (Or.inl ⟨by rfl, ?_⟩) hHeld ?_
                    rotate_left
                    · (intro w' hSw; obtain ⟨s0, s1, s2, s3⟩ := hSw; go_simp; try (with_reducible rfl))
                    (try simp only [Act.put, List.setIfInBounds_toArray, List.set_cons_zero, List.set_cons_succ])
                    refine wpAnyM_take (i := 7) (oi := ⟨_, _, _, _, _, _⟩) (v := ?_) rfl (by kernel_rfl) (by kernel_rfl) (by kernel_rfl) (by kernel_rfl) (fun _ _ _ h => h) (Or.inl ⟨by rfl, ?_⟩) hHeld ?_
                    rotate_left
                    · (intro w' hSw; obtain ⟨s0, s1, s2, s3⟩ := hSw; go_simp; try (with_reducible rfl))
                    (try simp only [Act.put, List.setIfInBounds_toArray, List.set_cons_zero, List.set_cons_succ])
                    refine wpAnyM_take (i := 11) (oi := ⟨_, _, _, _, _, _⟩) (v := ?_) rfl (by kernel_rfl) (by kernel_rfl) (by kernel_rfl) (by kernel_rfl) (fun _ _ _ h => h) (Or.inl ⟨by rfl, ?_⟩) hHeld ?_
                    rotate_left
                    · (intro w' hSw; obtain ⟨s0, s1, s2, s3⟩ := hSw; go_simp; try (with_reducible rfl))
                    (try simp only [Act.put, List.setIfInBounds_toArray, List.set_cons_zero, List.set_cons_succ])
                    refine wpAnyM_take (i := 12) (oi := ⟨_, _, _, _, _, _⟩) (v := ?_) rfl (by kernel_rfl) (by kernel_rfl) (by kernel_rfl) (by kernel_rfl) (fun _ _ _ h => h) (Or.inl ⟨by rfl, ?_⟩) hHeld ?_
                    rotate_left
                    · (intro w' hSw; obtain ⟨s0, s1, s2, s3⟩ := hSw; go_simp; try (with_reducible rfl))
                    (try simp only [Act.put, List.setIfInBounds_toArray, List.set_cons_zero, List.set_cons_succ])
                    refine wpAnyM_take (i := 13) (oi := ⟨_, _, _, _, _, _⟩) (v := ?_) rfl (by kernel_rfl) (by kernel_rfl) (by kernel_rfl) (by kernel_rfl) (fun _ _ _ h => h) (Or.inl ⟨by rfl, ?_⟩) hHeld ?_
                    rotate_left
                    · (intro w' hSw; obtain ⟨s0, s1, s2, s3⟩ := hSw; go_simp; try (with_reducible rfl))
                    (try simp only [Act.put, List.setIfInBounds_toArray, List.set_cons_zero, List.set_cons_succ])
                    refine wpAnyM_take (i := 14) (oi := ⟨_, _, _, _, _, _⟩) (v := ?_) rfl (by kernel_rfl) (by kernel_rfl) (by kernel_rfl) (by kernel_rfl) (fun _ _ _ h => h) (Or.inl ⟨by rfl, ?_⟩) hHeld ?_
                    rotate_left
                    · (intro w' hSw; obtain ⟨s0, s1, s2, s3⟩ := hSw; go_simp; try (with_reducible rfl))
                    (try simp only [Act.put, List.setIfInBounds_toArray, List.set_cons_zero, List.set_cons_succ])
                    refine wpAnyM_one (i := 6) (o := ⟨_, _, _, _, _, _⟩) (by kernel_rfl) rfl (fun K hK => ?_)
                    go_simp
                    go_at_call 20
                    refine (HRG.out _).mono ?_
                    rintro e w7 ⟨rfl, e7⟩
                    subst e7
                    refine hK.out _ _ hHeld (fun hHeld => ?_)
                    clear hK K
                    (try simp only [List.setIfInBounds_toArray, List.set_cons_zero, List.set_cons_succ])
                    refine wpAnyM_one (i := 8) (o := ⟨_, _, _, _, _, _⟩) (by kernel_rfl) rfl (fun K hK => ?_)
                    go_simp
                    go_at_call 19
                    refine (HRP.out _).mono ?_
                    rintro e w7 ⟨rfl, e7⟩
                    subst e7
                    refine hK.out _ _ hHeld (fun hHeld => ?_)
                    clear hK K
                    (try simp only [List.setIfInBounds_toArray, List.set_cons_zero, List.set_cons_succ])
                    refine wpAnyM_one (i := 9) (o := ⟨_, _, _, _, _, _⟩) (by kernel_rfl) rfl (fun K hK => ?_)
                    (have hc4 := hHeld.2.2.2)
                    go_simp
                    refine hK.out _ _ hHeld (fun hHeld => ?_)
                    clear hK K
                    (try simp only [List.setIfInBounds_toArray, List.set_cons_zero, List.set_cons_succ])
                    refine wpAnyM_one (i := 10) (o := ⟨_, _, _, _, _, _⟩) (by kernel_rfl) rfl (fun K hK => ?_)
                    (have hc4 := hHeld.2.2.2)
                    go_simp
                    refine hK.out _ _ hHeld (fun hHeld => ?_)
                    clear hK K
                    (try simp only [List.setIfInBounds_toArray, List.set_cons_zero, List.set_cons_succ])
                    refine wpAnyM_one (i := 15) (o := ⟨_, _, _, _, _, _⟩) (by kernel_rfl) rfl (fun K hK => ?_)
                    go_simp
                    go_at_call 13
                    refine HP2.out.mono ?_
                    rintro e w8 ⟨rfl, fq', N', s8, f8, c8⟩
                    have f8' : FT x.fp fq' w6 w8 := (FT.of_below (Below.refl w6.heap.size w6).drew).trans f8
                    have S8 : Hid (Sts w w8 k size slide a (⟨s, fp', M'⟩ :: T2.set q ⟨x.s, fq', N'⟩)) := (show Sts _ _ _ _ _ _ _ from S6.out.turn (q := q + 1) (x := x) HX.out s8 f8')
                    have K8 : Hid (∀ g, Kp w6 (⟨s, fp', M'⟩ :: T2) g → Kp w8 (⟨s, fp', M'⟩ :: T2.set q ⟨x.s, fq', N'⟩) g ∧ w8.heap[g]? = w6.heap[g]?) := (show ∀ g, _ from fun g h => Kp.turn (M' := N') h (q := q + 1) (x := x) HX.out f8')
                    have I8 : Hid (TsI k a i ((A0 ++ allS k size slide a (ms.take m)) ++ frS k size slide a ⟨rk, rt, rv⟩) M' (T2.set q ⟨x.s, fq', N'⟩)) := (show TsI _ _ _ _ _ _ from GI.out.put C6.out HQ.out c8 x.s fq')
                    have B8 : Hid (Below w.heap.size w6 w8) := (show Below _ _ _ from f8'.below S6.out.bl.size (fun b hb => by have := S6.out.nw x (List.mem_cons_of_mem _ (List.mem_of_getElem? HX.out)) b hb; omega))
                    refine hK.out _ _ (RC.out _ B8.out (K8.out pb (K6.out pb HKB.out).1).2) (fun hHeld => ?_)
                    clear hK K s8 f8 c8 f8'
                    (try simp only [List.setIfInBounds_toArray, List.set_cons_zero, List.set_cons_succ])
                    refine wpAnyM_done (by kernel_rfl) ?_ _
                    go_wp2_with fail
                    go_roundg go5
                    case rel => exact ⟨m + 1, fp', M', T2.set q ⟨x.s, fq', N'⟩, by go_num, by omega, by omega, (show _ = _ by
                      rw [← GTS.out]
                      apply List.ext_getElem?
                      intro j
                      rw [List.getElem?_map, List.getElem?_map]
                      by_cases e : q = j
                      · subst e
                        rw [List.getElem?_set_self (lt_of_get HX.out), HX.out]
                        rfl
                      · rw [List.getElem?_set_ne e]), S8, (show OwnL _ _ _ _ _ _ _ from GR.out.back (fun g e => ((K8.out g (K6.out g (GK.out g e)).1).2).trans (K6.out g (GK.out g e)).2)), (show ∀ g, _ from fun g e => (K8.out g (K6.out g (GK.out g e)).1).1), (show TsI _ _ _ _ _ _ by rw [HSN.out]; exact I8.out)⟩
                    case measure => omega
                  · as_aux_lemma =>
                    have HTI := hide (time_no hT)
                    clear hT hr hq1
                    go_wp2_with (first | (go_at_call 12; refine (HTI.out _).mono ?_; rintro e w5 ⟨rfl, e5⟩; subst e5) | fail)
                    go_ret
                    exact ⟨rfl, GS.out.bl⟩
                · obtain rfl : m = ms.length := by omega
                  have bm : ¬ ((ms.length : Nat) : Int) < (ms.length : Int) := by omega
                  obtain ⟨c2, hc2⟩ : ∃ c2, cnt k mk M2 = c2 := ⟨_, rfl⟩
                  have HC2 := hide hc2
                  have hc28 : c2 ≤ 8000 := by rw [← hc2]; exact Nat.le_trans (cnt_le' k mk M2) HM2.out
                  have HFI := hide (fire_of HSA0.out mk (by have := HM2.out; omega) hc2)
                  have HPE : Hid (∀ (j : Nat) (x : Stt), T2[j]? = some x → x.M.Perm (M2.filter (inP i j))) := (show ∀ j : Nat, _ from fun j x hx => GI.out.perm hx)
                  have HTL2 : Hid (T2.length = i) := (show _ = _ from GI.out.len)
                  clear hc2 HL2 HMS hmm hg5 hm60 GI HAN
                  go_upto_region 46 with (first
                    | (go_at_call 24; refine HFI.out.mono ?_; rintro e w30 ⟨oa, oc, fp3, rfl, s30, f30⟩; have S30 : Hid (Sts w w30 k size slide a (⟨s, fp3, sty k mk M2⟩ :: T2)) := (show Sts _ _ _ _ _ _ _ from GS.out.turn (q := 0) (x := ⟨s, fp2, M2⟩) rfl s30 f30); have F30 := hide f30; clear s30 f30 HFI)
                    | fail)
                  have K30 : Hid (∀ g, Kp wr (⟨s, fp2, M2⟩ :: T2) g → Kp w30 (⟨s, fp3, sty k mk M2⟩ :: T2) g ∧ w30.heap[g]? = wr.heap[g]?) := (show ∀ g, _ from fun g h => Kp.turn (M' := sty k mk M2) h (q := 0) (x := ⟨s, fp2, M2⟩) rfl F30.out)
                  have R30 : Hid (OwnL 27 1 ptC wb.heap.size w30 (.slice ta TS.length tc) TS) := (show OwnL _ _ _ _ _ _ _ from GR.out.back (fun g e => (K30.out g (GK.out g e)).2))
                  have KR30 : Hid (∀ g, (Value.slice ta TS.length tc).ownBlock = some g → Kp w30 (⟨s, fp3, sty k mk M2⟩ :: T2) g) := (show ∀ g, _ from fun g e => (K30.out g (GK.out g e)).1)
                  clear GS GR GK K30 F30 HSA0
                  go_wp2_with fail
                  go_loopg [23, 24, 26] (i + 1) (fun gh av fv iv wx => ∃ (n c : Nat) (T : List Stt) (AL : List Pn), iv = .int .i64 (n : Int) ∧ n ≤ i ∧ i + 1 ≤ gh + n ∧ fv = .int .i64 (c : Int) ∧ c ≤ 8000 ∧ Hid (cnt k mk (toP i n M2) = c) ∧ Hid (T.map Stt.s = TS) ∧ Hid (Sts w wx k size slide a (⟨s, fp3, sty k mk M2⟩ :: T)) ∧ Hid (OwnL 27 1 ptC wb.heap.size wx (.slice ta TS.length tc) TS) ∧ Hid (∀ g, (Value.slice ta TS.length tc).ownBlock = some g → Kp wx (⟨s, fp3, sty k mk M2⟩ :: T) g) ∧ Hid (OwnL 43 4 Pn.cs (w.heap.size + 1) wx av AL) ∧ Hid (∀ g, av.ownBlock = some g → Kp wx (⟨s, fp3, sty k mk M2⟩ :: T) g) ∧ Hid (AL.Perm (sty k mk (toP i n M2))) ∧ Hid (T.length = i) ∧ Hid (∀ (j : Nat) (x : Stt), n ≤ j → T[j]? = some x → x.M.Perm (M2.filter (inP i j))))
                  case atStart => exact ⟨0, 0, T2, [], rfl, by omega, by omega, rfl, by omega, (show _ = _ by rw [toP_zero HPN.out.1 HPN.out.2]; rfl), GTS, S30, R30, KR30, OwnL.nil _ _ _ _ _, (show ∀ g, _ from fun g e => by cases e), (show List.Perm _ _ by rw [toP_zero HPN.out.1 HPN.out.2]; exact .refl _), HTL2, (show ∀ j : Nat, _ from fun j x _ hx => HPE.out j x hx)⟩
                  case round =>
                    clear S30 R30 KR30 HPE HTL2 GTS T2
                    obtain ⟨n, c, T, AL, rfl, hn, hg6, rfl, hc8, GC, GTS, GS, GR, GK, GA, GKA, GP, GL, GE⟩ := hrel
                    obtain ⟨go6, hgo6⟩ : ∃ go6, gk = go6 + 1 := ⟨gk - 1, by omega⟩
                    subst hgo6
                    have HALn : Hid (AL.length ≤ 8000) := (show _ ≤ _ by rw [GP.out.length_eq]; exact Nat.le_trans (sty_len k mk _) (Nat.le_trans (List.length_filter_le ..) HM2.out))
                    obtain ⟨la, lc, rfl⟩ := GA.out.shape
                    have HSZ : Hid (w.heap.size + 1 ≤ wr.heap.size) := (show _ ≤ _ from GS.out.bx.lt)
                    by_cases hnl : n < i
                    · as_aux_lemma =>
                      have bn : (n : Int) < (i : Int) := by omega
                      obtain ⟨x, hx⟩ := get_of_lt (l := T) (i := n) (by have := GL.out; omega)
                      have hTSl : TS.length = i := by rw [← GTS.out, List.length_map]; exact GL.out
                      have HTSL := hide hTSl
                      have bn2 : (n : Int) < (TS.length : Int) := by omega
                      have hxs : TS[n]? = some x.s := by rw [← GTS.out, List.getElem?_map, hx]; rfl
                      obtain ⟨pb, po, rfl, plt, pc⟩ := (GR.out.seg ptC_len (by have := HTSL.out; have := HPN.out; omega)).ptr hxs
                      have HX := hide hx
                      have HXP := hide (GE.out n x (Nat.le_refl _) hx)
                      have HXL : Hid (x.M.length ≤ 8000) := (show _ ≤ _ from Nat.le_trans (filter_len_le HXP.out) HM2.out)
                      obtain ⟨cx, hcx⟩ : ∃ cx, cnt k mk x.M = cx := ⟨_, rfl⟩
                      have HCX := hide hcx
                      have HCS : Hid (cnt k mk (toP i (n + 1) M2) = c + cx) := (show _ = _ by rw [cnt_step HXP.out, GC.out, HCX.out])
                      have HC8 : Hid (c + cx ≤ 8000) := (show _ ≤ _ by rw [← HCS.out]; exact Nat.le_trans (cnt_le' k mk _) (Nat.le_trans (List.length_filter_le ..) HM2.out))
                      have hc8' : c + cx ≤ 8000 := HC8.out
                      have HFX := hide (fire_of (GS.out.sa x (List.mem_cons_of_mem _ (List.mem_of_getElem? hx))) mk (by have := HXL.out; omega) hcx)
                      have HKB := hide (GK.out pb rfl)
                      have HPC := hide pc
                      clear hx hTSl hxs hcx plt
                      go_upto_region 50 with (first
                        | (go_at_call 24; refine HFX.out.mono ?_; rintro e w31 ⟨xa, xc, fq, rfl, s31, f31⟩; have S31 : Hid (Sts w w31 k size slide a (⟨s, fp3, sty k mk M2⟩ :: T.set n ⟨x.s, fq, sty k mk x.M⟩)) := (show Sts _ _ _ _ _ _ _ from GS.out.turn (q := n + 1) (x := x) HX.out s31 f31); have X31 := hide s31; have F31 := hide f31; clear s31 f31 HFX)
                        | fail)
                      have K31 : Hid (∀ g, Kp wr (⟨s, fp3, sty k mk M2⟩ :: T) g → Kp w31 (⟨s, fp3, sty k mk M2⟩ :: T.set n ⟨x.s, fq, sty k mk x.M⟩) g ∧ w31.heap[g]? = wr.heap[g]?) := (show ∀ g, _ from fun g h => Kp.turn (M' := sty k mk x.M) h (q := n + 1) (x := x) HX.out F31.out)
                      have pc31 : w31.cell? ⟨pb, po + n, none⟩ = some (.pointer (some ⟨x.s, 0, none⟩)) := (cell_back (K31.out pb HKB.out).2).trans HPC.out
                      have A31 : Hid (OwnL 43 4 Pn.cs (w.heap.size + 1) w31 (.slice la AL.length lc) AL) := (show OwnL _ _ _ _ _ _ _ from GA.out.back (fun g e => (K31.out g (GKA.out g e)).2))
                      have HPX := hide (Panes_any X31.out (by have := sty_len k mk x.M; have := HXL.out; omega))
                      have HPL : Hid ((srt (sty k mk x.M)).length ≤ 8000) := (show _ ≤ _ by rw [srt_len]; exact Nat.le_trans (sty_len k mk x.M) HXL.out)
                      have HST : Hid ((AL ++ srt (sty k mk x.M)).Perm (sty k mk (toP i (n + 1) M2))) := (show List.Perm _ _ from sty_step HXP.out GP.out)
                      have hZ31 : w.heap.size + 1 ≤ w31.heap.size := Nat.le_trans HSZ.out F31.out.size
                      have HZ31 := hide hZ31
                      clear hZ31 pc
                      obtain ⟨PX, hPX⟩ : ∃ PX, srt (sty k mk x.M) = PX := ⟨_, rfl⟩
                      rw [hPX] at HPX HPL HST
                      clear hPX
                      go_wp2_with (first
                        | (go_at_call 17; refine HPX.out.mono ?_; rintro e w32 ⟨u32, rfl, o32, b32⟩; have S32 := hide (S31.out.grow b32); have A32 := hide (A31.out.below b32); have O32 := hide o32; have B32 := hide b32; have Z32 := hide (Nat.le_trans HZ31.out b32.size); obtain ⟨ua, uc, rfl⟩ := o32.shape; clear o32 b32 HPX)
                        | (at_builtin; refine app_segL Try.infoPn Try.underlying44 rfl (by decide) (by decide) Pn.cs_len Pn.cs_one rfl _ _ rfl (w.heap.size + 1) (.slice la AL.length lc) AL rfl A32.out w32.heap.size _ PX rfl (O32.out.seg Pn.cs_len (by have := HPL.out; omega)) (by have := HALn.out; have := HPL.out; omega) Z32.out ?_; intro v33 w33 h33 g33 k33; have H33 := hide h33; have G33 := hide g33; have K33 := hide k33; clear h33 g33 k33)
                        | fail)
                      have KA32 : Hid (∀ g, Kp wr (⟨s, fp3, sty k mk M2⟩ :: T) g → Kp w32 (⟨s, fp3, sty k mk M2⟩ :: T.set n ⟨x.s, fq, sty k mk x.M⟩) g) := (show ∀ g, _ from fun g h => (K31.out g h).1.grow B32.out)
                      have R32 : Hid (OwnL 27 1 ptC wb.heap.size w32 (.slice (some ⟨pb, po, none⟩) TS.length tc) TS) := (show OwnL _ _ _ _ _ _ _ from (GR.out.back (fun g e => (K31.out g (GK.out g e)).2)).below B32.out)
                      go_roundg go6
                      case rel => exact ⟨n + 1, c + cx, T.set n ⟨x.s, fq, sty k mk x.M⟩, AL ++ PX, by go_num, by omega, by omega, by go_num, hc8', HCS, (show _ = _ by rw [map_set_s HX.out]; exact GTS.out), (show Sts _ _ _ _ _ _ _ from S32.out.grown G33.out (fun g e => ⟨A32.out.at g e, KA32.out g (GKA.out g e)⟩)), (show OwnL _ _ _ _ _ _ _ from R32.out.other A32.out G33.out (by decide)), (show ∀ g, _ from fun g e => (KA32.out g (GK.out g e)).grown G33.out), H33, (show ∀ g, _ from fun g e => by
                        rcases K33.out with h3 | h3
                        · exact (KA32.out g (GKA.out g (h3 ▸ e))).grown G33.out
                        · exact Kp.new S32.out (by rw [h3] at e; cases e; exact Nat.le_refl _) (H33.out.lt g e)), HST, (show _ = _ by rw [List.length_set]; exact GL.out), (show ∀ j : Nat, _ from fun j y hj hy => by
                        rw [List.getElem?_set_ne (by omega)] at hy
                        exact GE.out j y (by omega) hy)⟩
                      case measure => omega
                    · obtain rfl : n = i := by omega
                      have bn : ¬ ((n : Nat) : Int) < (n : Int) := by omega
                      obtain rfl : c = c2 := by
                        rw [← GC.out, ← HC2.out, toP_all HPN.out.1 HPN.out.2]
                      have HSO : Hid (srt AL = srt (sty k mk M2)) := (show _ = _ from srt_eq (by have := GP.out; rwa [toP_all HPN.out.1 HPN.out.2] at this))
                      have HRS := hide (rSort_any (GA.out.seg Pn.cs_len (by have := HALn.out; omega)) (by have := HALn.out; omega))
                      rw [HSO.out] at HRS
                      have HSA : Hid (∀ W, Below wr.heap.size wr W → Calls Try.prog 17 #[.pointer (some ⟨s, 0, none⟩)] W fun e w' => ∃ u, e = .returned u ∧ Row 43 4 Pn.cs W.heap.size w' u (srt (sty k mk M2)) ∧ Below W.heap.size W w') := (show ∀ W, _ from fun W h => Panes_any ((GS.out.grow h).sa ⟨s, fp3, sty k mk M2⟩ (List.mem_cons_self ..)) (by have := sty_len k mk M2; have := HM2.out; show (sty k mk M2).length ≤ _; omega))
                      have HPL : Hid ((srt (sty k mk M2)).length ≤ 8000) := (show _ ≤ _ by rw [srt_len]; exact Nat.le_trans (sty_len k mk M2) HM2.out)
                      have HBL := hide GS.out.bl
                      clear GC GTS GS GR GK GA GKA GP GL GE HC2 HSO HM2
                      generalize srt (sty k mk M2) = PX at *
                      as_aux_lemma =>
                      go_wp2_with (first
                        | (go_at_call 23; refine HRS.out.mono ?_; rintro e w40 ⟨u40, rfl, o40, b40⟩; have O40 := hide o40; have B40 := hide b40; have HP40 := hide (HSA.out _ b40); obtain ⟨ua, uc, rfl⟩ := o40.shape; clear o40 b40 HRS)
                        | (go_at_call 17; refine HP40.out.mono ?_; rintro e w41 ⟨u41, rfl, o41, b41⟩; have HH := hide (hPanes_any ((O40.out.below b41).seg Pn.cs_len (by have := HPL.out; omega)) (o41.seg Pn.cs_len (by have := HPL.out; omega)) (by have := HPL.out; omega)); have B41 := hide (B40.out.trans (b41.mono B40.out.size)); obtain ⟨ub, ud, rfl⟩ := o41.shape; clear o41 b41 HP40)
                        | (go_at_call 22; refine HH.out.mono ?_; rintro e w42 ⟨rfl, b42⟩; have B42 := hide (B41.out.trans (b42.mono B41.out.size)); clear b42 HH)
                        | fail)
                      go_ret
                      exact ⟨rfl, HBL.out.trans (B42.out.mono HBL.out.size)⟩
end Go.Proofs.Ytdoldohcimbdaaa
