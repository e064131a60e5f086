/-
  The law StateTimers, walked.
-/
import Derived.Test.YtdoldohcimbdaaaSLaw
namespace Go.Proofs.Ytdoldohcimbdaaa
open Go.RowKit

set_option maxHeartbeats 8000000 in
set_option maxRecDepth 100000 in
theorem StateTimers_walk {w : World} {v : Value} {rs : List Rc} (hl : LSeg 3 Rc.cs w.heap.size w v rs) (hrs : ∀ r ∈ rs, In64 r.k ∧ In64 r.v) {k size slide : Int} (hs : In64 size) (hsl : In64 slide) (a : Int) :
    Calls Try.prog 6 #[.agg #[.int .i64 k, .int .i64 size, .int .i64 slide], .int .i64 a, v] w fun e w' => e = .returned (.bool true) ∧ Below w.heap.size w w' := by
  obtain ⟨ao, cap, rfl⟩ := hl.shapeOf
  have HB0 := hide (below_box w (.cells #[.int .i64 k, .int .i64 size, .int .i64 slide] 23))
  have HBX := hide (BoxT.new 23 w #[.int .i64 k, .int .i64 size, .int .i64 slide])
  have HK := hide (fun W => known_any W)
  by_cases hF : FitS k size slide a
  case neg =>
    have HFT := hide (fit_no hF)
    clear hl hF
    go_enter Try.func6, Try.ntmps6
    go_wp2_with (first
      | (go_at_call 8; refine (HK.out _).mono ?_; rintro e w1 ⟨rfl, b1⟩; have HB1 := hide (HB0.out.trans (b1.mono HB0.out.size)); have HX1 := hide (BoxT.below (t := 23) HBX.out b1); obtain ⟨y0, y1, y2⟩ := HX1.out.cells3; clear b1)
      | (go_at_call 9; refine (HFT.out _).mono ?_; rintro e w2 ⟨rfl, b2⟩; have HB2 := hide (HB1.out.trans (b2.mono HB1.out.size)); clear b2 y0 y1 y2))
    go_ret
    exact ⟨rfl, HB2.out⟩
  have HFT := hide (fit_yes hF)
  have HF := hide hF
  clear hF
  by_cases hk0 : k = 0
  · subst hk0
    clear hl
    go_enter Try.func6, Try.ntmps6
    go_wp2_with (first
      | (go_at_call 8; refine (HK.out _).mono ?_; rintro e w1 ⟨rfl, b1⟩; have HB1 := hide (HB0.out.trans (b1.mono HB0.out.size)); have HX1 := hide (BoxT.below (t := 23) HBX.out b1); obtain ⟨y0, y1, y2⟩ := HX1.out.cells3; clear b1)
      | (go_at_call 9; refine (HFT.out _).mono ?_; rintro e w2 ⟨rfl, b2⟩; have HB2 := hide (HB1.out.trans (b2.mono HB1.out.size)); obtain ⟨z0, z1, z2⟩ := (BoxT.below (t := 23) HX1.out b2).cells3; clear b2 y0 y1 y2))
    go_ret
    exact ⟨rfl, HB2.out⟩
  have hkb : (k == 0) = false := by simpa using hk0
  by_cases hn : (60 : Int) < (rs.length : Int)
  · clear hl
    go_enter Try.func6, Try.ntmps6
    go_wp2_with (first
      | (go_at_call 8; refine (HK.out _).mono ?_; rintro e w1 ⟨rfl, b1⟩; have HB1 := hide (HB0.out.trans (b1.mono HB0.out.size)); have HX1 := hide (BoxT.below (t := 23) HBX.out b1); obtain ⟨y0, y1, y2⟩ := HX1.out.cells3; clear b1)
      | (go_at_call 9; refine (HFT.out _).mono ?_; rintro e w2 ⟨rfl, b2⟩; have HB2 := hide (HB1.out.trans (b2.mono HB1.out.size)); obtain ⟨z0, z1, z2⟩ := (BoxT.below (t := 23) HX1.out b2).cells3; clear b2 y0 y1 y2))
    go_ret
    exact ⟨rfl, HB2.out⟩
  have HW : Hid (FitW k size slide) := by
    obtain ⟨_, _, ⟨h, _⟩ | h⟩ := HF.out
    · exact absurd h hk0
    · exact h
  have HL := hide hl
  have HRS := hide hrs
  have HS := hide hs
  have HSL := hide hsl
  have HK0 := hide hk0
  have hn60 : rs.length ≤ 60 := by omega
  have HNW := hide (fun W => New_any W k size slide a)
  clear hl hrs hs hsl hk0
  go_enter Try.func6, Try.ntmps6
  go_upto_region 5 with (first
    | (go_at_call 8; refine (HK.out _).mono ?_; rintro e w1 ⟨rfl, b1⟩; have HB1 := hide (HB0.out.trans (b1.mono HB0.out.size)); have HX1 := hide (BoxT.below (t := 23) HBX.out b1); obtain ⟨y0, y1, y2⟩ := HX1.out.cells3; clear b1)
    | (go_at_call 9; refine (HFT.out _).mono ?_; rintro e w2 ⟨rfl, b2⟩; have HB2 := hide (HB1.out.trans (b2.mono HB1.out.size)); have HX2 := hide (BoxT.below (t := 23) HX1.out b2); obtain ⟨z0, z1, z2⟩ := HX2.out.cells3; clear b2 y0 y1 y2))
  clear HK HFT HB1 HX1 HBX HB0 hkb
  have HX2d := hide (BoxT.below (t := 23) HX2.out ((Below.refl _ _).drew))
  obtain ⟨y0, y1, y2⟩ := HX2d.out.cells3
  have HN1 := hide (HNW.out w2.drew)
  have HB2d := hide HB2.out.drew
  clear HB2 z0 z1 z2
  go_region_held3 (fun w' => w'.cell? ⟨w.heap.size, 0, none⟩ = some (.int .i64 k) ∧ w'.cell? ⟨w.heap.size, 1, none⟩ = some (.int .i64 size) ∧ w'.cell? ⟨w.heap.size, 2, none⟩ = some (.int .i64 slide)) (first | go_keep | exact ⟨y0, y1, y2⟩ | exact ⟨x0, x1, x2⟩ | exact ⟨z0, z1, z2⟩)
    (first
    | (go_at_call 10; refine HN1.out.mono ?_; rintro e w3 ⟨s, fp, rfl, s3, f3, b3⟩; have HX3 := hide (BoxT.below (t := 23) HX2d.out b3); have HN2 := hide (HNW.out w3); have HB3 := hide (HB2d.out.trans (b3.mono HB2d.out.size)); have HZ3 := hide (Nat.le_trans HB2d.out.size b3.size); have S3 := hide s3; have F3 : Hid (∀ i, fp i → w.heap.size ≤ i) := (show ∀ i, _ from fun i hi => Nat.le_trans HB2d.out.size (f3 i hi)); obtain ⟨x0, x1, x2⟩ := HX3.out.cells3; clear s3 f3 b3 HN1)
    | (go_at_call 10; refine HN2.out.mono ?_; rintro e w4 ⟨t, fq, rfl, s4, f4, b4⟩; have T4 : Hid (T2 w w4 s t k size slide a fp fq [] []) := (show T2 _ _ _ _ _ _ _ _ _ _ _ _ from ⟨S3.out.below b4, s4, F3.out, fun i hi => Nat.le_trans HB3.out.size (f4 i hi), fun i h1 h2 => (by have := S3.out.flt i h1; have := f4 i h2; omega), HB3.out.trans (b4.mono HB3.out.size)⟩); obtain ⟨z0, z1, z2⟩ := (BoxT.below (t := 23) HX3.out b4).cells3; clear s4 f4 b4 HN2))
  clear HNW HX2 HX2d HX3 HB2d HB3 HZ3 S3 F3 x0 x1 x2 y0 y1 y2 z0 z1 z2
  go_wp2_with fail
  go_loopg [9] (rs.length + 1) (fun gh iv wr => ∃ (i : Nat) (fp fq : Nat → Prop) (M N : List Pn), iv = .int .i64 (i : Int) ∧ i ≤ rs.length ∧ rs.length + 1 ≤ gh + i ∧ Hid (T2 w wr s t k size slide a fp fq M N) ∧ Hid (Comes (sess k) (jn a) (allS k size slide a (rs.take i)) M) ∧ Hid (Comes (sess k) (jn a) (allS k size slide a (rs.take i)) N) ∧ Hid (∀ r ∈ rs.take i, TimeOk r.t))
  case atStart => exact ⟨0, fp, fq, [], [], rfl, by omega, by omega, T4, (show Comes _ _ _ _ from Comes.refl .nil), (show Comes _ _ _ _ from Comes.refl .nil), (show ∀ r, _ from fun r hr => by simp at hr)⟩
  case round =>
    clear T4 fp fq
    obtain ⟨i, fp, fq, M, N, rfl, hi, hg, GT, GM, GN, GO⟩ := hrel
    obtain ⟨go, rfl⟩ : ∃ go, gk = go + 1 := ⟨gk - 1, by omega⟩
    by_cases hlt : i < rs.length
    · obtain ⟨r, hr⟩ := get_of_lt hlt
      have bt : (i : Int) < (rs.length : Int) := by omega
      obtain ⟨nb, no, rfl, nlt, e0, e1, e2⟩ := (HL.out.below GT.out.bl).rec hr
      have hmem := List.mem_of_getElem? hr
      have HIN := hide (HRS.out r hmem)
      have HSN := hide (allS_snoc k size slide a hr)
      have HTS := hide (take_snoc hr)
      have hlenA : (allS k size slide a (rs.take i)).length ≤ 3840 := by have := allS_len k size slide a (rs.take i); rw [List.length_take] at this; omega
      have HML : Hid (M.length ≤ 3840) := Nat.le_trans GM.out.1.len hlenA
      have HNL : Hid (N.length ≤ 3840) := Nat.le_trans GN.out.1.len hlenA
      have HRD : Hid (∀ W, Below w.heap.size w W → W.cell? ⟨nb, no + i * 3, none⟩ = some (.int .i64 r.k) ∧ W.cell? ⟨nb, no + i * 3 + 1, none⟩ = some (.int .i64 r.t) ∧ W.cell? ⟨nb, no + i * 3 + 2, none⟩ = some (.int .i64 r.v)) := fun W hb => by
        obtain ⟨b', o', e', _, h0, h1, h2⟩ := (HL.out.below hb).rec hr
        cases e'
        exact ⟨h0, h1, h2⟩
      obtain ⟨rk, rt, rv⟩ := r
      simp only at e0 e1 e2 HIN HRD
      clear hr hmem hlenA
      by_cases hT : TimeOk rt
      · have HTI := hide (time_yes hT)
        have HT := hide hT
        have HP1 := hide (put_ok GT.out.sa HF.out HS.out HSL.out rk rt rv HIN.out.1 HIN.out.2 hT (by have := HML.out; omega) GM.out)
        clear hT
        go_wp2_with (first
          | (go_at_call 12; refine (HTI.out _).mono ?_; rintro e w5 ⟨rfl, e5⟩; subst e5)
          | (go_at_call 13; refine HP1.out.mono ?_; rintro e w6 ⟨rfl, fp', M', s6, f6, c6⟩; have T6 := hide (GT.out.turn s6 f6); have C6 := hide c6; have HP2 := hide (put_ok T6.out.ta HF.out HS.out HSL.out rk rt rv HIN.out.1 HIN.out.2 HT.out (by have := HNL.out; omega) GN.out); obtain ⟨h0, h1, h2⟩ := HRD.out w6 T6.out.bl; clear s6 f6 c6 HP1)
          | (go_at_call 13; refine HP2.out.mono ?_; rintro e w7 ⟨rfl, fq', N', s7, f7, c7⟩; have T7 := hide (T6.out.turn2 s7 f7); have C7 := hide c7; clear s7 f7 c7 HP2)
          | fail)
        go_roundg go
        case rel => exact ⟨i + 1, fp', fq', M', N', by go_num, by omega, by omega, T7, (show Comes _ _ _ _ by rw [HSN.out]; exact C6.out), (show Comes _ _ _ _ by rw [HSN.out]; exact C7.out), (show ∀ r, _ by
          rw [HTS.out]
          intro r hr
          rcases List.mem_append.1 hr with hr | hr
          · exact GO.out r hr
          · obtain rfl := List.mem_singleton.1 hr
            exact HT.out)⟩
        case measure => omega
      · have HTI := hide (time_no hT)
        clear hT
        go_wp2_with (first | (go_at_call 12; refine (HTI.out _).mono ?_; rintro e w5 ⟨rfl, e5⟩; subst e5) | fail)
        go_ret
        exact ⟨rfl, GT.out.bl⟩
    · obtain rfl : i = rs.length := by omega
      have bt : ¬ ((rs.length : Nat) : Int) < (rs.length : Int) := by omega
      have hML : M.length ≤ 3840 := by
        have h1 := GM.out.1.len
        have h2 := allS_len k size slide a (rs.take rs.length)
        rw [List.length_take] at h2
        omega
      have HFN : Hid (∀ x ∈ M, Fn k x) := (show ∀ x ∈ M, _ from Reds.fn GM.out.1 (all_fn HW.out GO.out))
      have HPM : Hid (M.Perm N) := (show List.Perm _ _ from Comes.unique (jn_comm a) (jn_assoc a) GM.out GN.out)
      have HML := hide hML
      have HT0 := hide (tm_start HFN.out)
      clear hML GM GN GO HFN hn60 hn hg HRS HL hi
      go_wp2_with fail
      obtain ⟨wo, rfl⟩ : ∃ wo, wo = wr := ⟨_, rfl⟩
      go_loopg [10, 11, 12, 13, 14, 15, 16] 5000 (fun gh av lv iv _ _ _ _ wx => ∃ (i : Nat) (fp : Nat → Prop) (D Q : List Pn) (last : Int) (al : List Rc), iv = .int .i64 (i : Int) ∧ lv = .int .i64 last ∧ 5000 ≤ gh + i ∧ Hid (TmI k M D Q last i) ∧ Hid (T2 w wx s t k size slide a fp fq Q N) ∧ Hid (OwnL 31 3 Rc.cs w.heap.size wx av al) ∧ Hid (al.length = D.length) ∧ Hid (∀ g, av.ownBlock = some g → ¬ fp g ∧ ¬ fq g))
      case atStart => exact ⟨0, fp, [], M, _, [], rfl, rfl, by omega, HT0, GT, OwnL.nil _ _ _ _ _, (show _ = _ from rfl), (show ∀ g, _ from fun g e => by cases e)⟩
      case round =>
        clear HT0 GT fp
        obtain ⟨i, fp, D, Q, last, al, rfl, rfl, hg2, GI, GT, GA, GL, GB⟩ := hrel
        obtain ⟨go2, hgo2⟩ : ∃ go2, gk = go2 + 1 := ⟨gk - 1, by
          have h1 := GI.out.cnt
          have h2 := GI.out.perm.length_eq
          rw [List.length_append] at h2
          have := HML.out
          omega⟩
        subst hgo2
        obtain ⟨aa, ac, rfl⟩ := GA.out.shape
        rw [GL.out] at GA GB
        rw [GL.out]
        by_cases hQ : Q = []
        · subst hQ
          have HNX := hide (next_no GT.out.sa)
          have HON := hide (once_len GI.out HPM.out)
          have HNL : Hid (N.length ≤ 90000) := (show _ ≤ _ by rw [← HPM.out.length_eq]; have := HML.out; omega)
          by_cases hD : D.length = 0
          · have hDb : ((D.length : Int) == 0) = true := by rw [hD]; rfl
            clear hD
            go_wp2_with (first
              | (go_at_call 26; refine HNX.out.mono ?_; rintro e w8 ⟨rfl, b8⟩; have T8 := hide (GT.out.grow b8); have HFI := hide (fire_ok T8.out.ta last HK0.out HNL.out); clear b8)
              | (go_at_call 24; refine HFI.out.mono ?_; rintro e w9 ⟨u9, fq9, rfl, o9, s9, f9⟩; rw [HON.out.2] at s9; have T9 := hide (T8.out.turn2 s9 f9); obtain ⟨ua, uc, rfl⟩ := o9.shape; rw [HON.out.1]; have L1 := hide (len_nil T9.out.sa); have L2 := hide (len_nil T9.out.ta); have PN := hide (panes_nil T9.out.ta); clear s9 f9 o9 HFI)
              | (go_at_call_of 27 (Value.pointer (some ⟨s, 0, none⟩)); refine L1.out.mono ?_; rintro e w10 ⟨rfl, e10⟩; subst e10)
              | (go_at_call_of 27 (Value.pointer (some ⟨t, 0, none⟩)); refine L2.out.mono ?_; rintro e w11 ⟨rfl, e11⟩; subst e11)
              | (go_at_call 17; refine PN.out.mono ?_; rintro e w12 ⟨pa, pc, rfl, b12⟩; have B12 := hide b12; clear b12)
              | fail)
            go_ret
            exact ⟨rfl, T9.out.bl⟩
          · have hDb : ((D.length : Int) == 0) = false := by simpa using hD
            clear hD
            go_wp2_with (first
              | (go_at_call 26; refine HNX.out.mono ?_; rintro e w8 ⟨rfl, b8⟩; have T8 := hide (GT.out.grow b8); have HFI := hide (fire_ok T8.out.ta last HK0.out HNL.out); clear b8)
              | (go_at_call 24; refine HFI.out.mono ?_; rintro e w9 ⟨u9, fq9, rfl, o9, s9, f9⟩; rw [HON.out.2] at s9; have T9 := hide (T8.out.turn2 s9 f9); obtain ⟨ua, uc, rfl⟩ := o9.shape; rw [HON.out.1]; have L1 := hide (len_nil T9.out.sa); have L2 := hide (len_nil T9.out.ta); have PN := hide (panes_nil T9.out.ta); clear s9 f9 o9 HFI)
              | (go_at_call_of 27 (Value.pointer (some ⟨s, 0, none⟩)); refine L1.out.mono ?_; rintro e w10 ⟨rfl, e10⟩; subst e10)
              | (go_at_call_of 27 (Value.pointer (some ⟨t, 0, none⟩)); refine L2.out.mono ?_; rintro e w11 ⟨rfl, e11⟩; subst e11)
              | (go_at_call 17; refine PN.out.mono ?_; rintro e w12 ⟨pa, pc, rfl, b12⟩; have B12 := hide b12; clear b12)
              | fail)
            go_ret
            exact ⟨rfl, T9.out.bl.trans (B12.out.mono T9.out.bl.size)⟩
        · obtain ⟨hst1, hst2, hst3⟩ := GI.out.step hQ
          have HNX := hide (next_yes GT.out.sa hQ)
          have HST := hide hst2
          have HOT := hide (@outT_time Q)
          have hol := outT_len Q
          have hQL : Q.length ≤ 3840 := by
            have h2 := GI.out.perm.length_eq
            rw [List.length_append] at h2
            have := HML.out
            omega
          have hDL : D.length + (Q.filter (ovr (nextP Q))).length ≤ 3840 := by
            have h2 := hst2.perm.length_eq
            rw [List.length_append, List.length_append] at h2
            have := HML.out
            omega
          have hiD : i ≤ D.length := GI.out.cnt
          rw [← hol] at hst3 hDL
          have HQL : Hid (Q.length ≤ 90000) := (show _ ≤ _ by omega)
          have HOE : Hid (outF (nextP Q) (srt (Q.filter (ovr (nextP Q)))) = outT Q) := (show _ = _ from rfl)
          have HLE : Hid ((D ++ Q.filter (ovr (nextP Q))).length = D.length + (outT Q).length) := (show _ = _ by rw [List.length_append, hol])
          have hn1 : ¬ nextP Q ≤ last := by omega
          have hn2 : ¬ (5000 : Int) < (i : Int) := by omega
          have hne : (((outT Q).length : Int) == 0) = false := by rw [beq_eq_false_iff_ne]; omega
          have HDB : Hid (D.length + (outT Q).length ≤ 3840) := hDL
          clear hol hQ hst1 hst2 hst3 hQL hDL
          generalize outT Q = ou at *
          generalize nextP Q = n at *
          go_upto_region 24 with (first
            | (go_at_call 26; refine HNX.out.mono ?_; rintro e w8 ⟨rfl, b8⟩; have T8 := hide (GT.out.grow b8); have A8 := hide (GA.out.below b8); have HFI := hide (fire_ok T8.out.sa n HK0.out HQL.out); clear b8)
            | (go_at_call 24; refine HFI.out.mono ?_; rintro e w9 ⟨u9, fp9, rfl, o9, s9, f9⟩; rw [HOE.out] at o9; have T9 := hide (T8.out.turn s9 f9); have A9 := hide (A8.out.back (fun g e => f9.block g (A8.out.lt g e) (GB.out g e).1)); have A9B : Hid (∀ g, (Value.slice aa D.length ac).ownBlock = some g → ¬ fp9 g ∧ ¬ fq g) := (show ∀ g, _ from fun g e => ⟨fun h => by { rcases f9.sub g h with h | h; exact (GB.out g e).1 h; have := A8.out.lt g e; omega }, (GB.out g e).2⟩); obtain ⟨ua, uc, rfl⟩ := o9.shape; have O9 := hide o9; have HZ9 := hide f9.size; clear s9 f9 o9 HFI)
            | fail)
          clear HNX T8 A8 HQL GT GA hne hn1 hn2
          go_wp2_with fail
          have hob : ou.length ≤ 3840 := by have := HDB.out; omega
          obtain ⟨wo, rfl⟩ : ∃ wo, wo = w9 := ⟨_, rfl⟩
          go_loopg [16] (ou.length + 1) (fun gh jv wx => ∃ j : Nat, jv = .int .i64 (j : Int) ∧ j ≤ ou.length ∧ ou.length + 1 ≤ gh + j ∧ wx = wo)
          case atStart => exact ⟨0, rfl, by omega, by omega, rfl⟩
          case round =>
            obtain ⟨j, rfl, hj, hg3, rfl⟩ := hrel
            obtain ⟨go3, hgo3⟩ : ∃ go3, gk = go3 + 1 := ⟨gk - 1, by omega⟩
            subst hgo3
            by_cases hjl : j < ou.length
            · obtain ⟨x, hx⟩ := get_of_lt hjl
              have bj : (j : Int) < (ou.length : Int) := by omega
              have hxt := HOT.out x (List.mem_of_getElem? hx)
              obtain ⟨nb, no, rfl, nlt, e0, e1, e2⟩ := (O9.out.seg Rc.cs_len (by have := HDB.out; omega)).rec hx
              rw [hxt] at e1
              clear hx hxt
              go_wp2_with fail
              go_roundg go3
              case rel => exact ⟨j + 1, by go_num, by omega, by omega, rfl⟩
              case measure => omega
            · obtain rfl : j = ou.length := by omega
              have bj : ¬ ((ou.length : Nat) : Int) < (ou.length : Int) := by omega
              have HSZ : Hid (w.heap.size ≤ wr.heap.size) := T9.out.bl.size
              have HAP : Hid (∀ v' W, OwnL 31 3 Rc.cs w.heap.size W v' (al ++ ou) → wr.grownBy W (Value.slice aa D.length ac).ownBlock → (v'.ownBlock = (Value.slice aa D.length ac).ownBlock ∨ v'.ownBlock = some wr.heap.size) → T2 w W s t k size slide a fp9 fq (leftF n Q) N ∧ (∀ g, v'.ownBlock = some g → ¬ fp9 g ∧ ¬ fq g)) := (show ∀ v' W, _ from fun v' W h1 h2 h3 => ⟨T9.out.grown h2 (fun g e => A9B.out g e) (fun g e => A9.out.at g e), fun g e => by
                rcases h3 with h3 | h3
                · exact A9B.out g (h3 ▸ e)
                · rw [h3] at e
                  cases e
                  exact ⟨fun h => Nat.lt_irrefl _ (T9.out.sa.flt _ h), fun h => Nat.lt_irrefl _ (T9.out.ta.flt _ h)⟩⟩)
              go_wp2_with (first | (at_builtin; refine app_segL Try.infoRc Try.underlying24 rfl (by decide) (by decide) Rc.cs_len Rc.cs_one rfl _ _ rfl w.heap.size (.slice aa D.length ac) al rfl A9.out wr.heap.size _ ou rfl (O9.out.seg Rc.cs_len (by have := HDB.out; omega)) (by have := HDB.out; have := GL.out; omega) HSZ.out ?_; intro v10 w10 h10 g10 k10; obtain ⟨T10, F10⟩ := HAP.out v10 w10 h10 g10 k10; have TT := hide T10; have FF := hide F10; have OO := hide h10; clear T10 F10 h10 g10 k10) | fail)
              go_roundg go2
              case rel => exact ⟨i + 1, fp9, D ++ Q.filter (ovr n), leftF n Q, n, al ++ ou, by go_num, rfl, by omega, HST, TT, OO, (show _ = _ by rw [HLE.out, List.length_append, GL.out]), FF⟩
              case measure => omega
end Go.Proofs.Ytdoldohcimbdaaa
