/-
  The law StateOpens, walked.
-/
import Derived.Test.YtdoldohcimbdaaaSWeak
import Derived.Laws.BitsAllLaws
namespace Go.Proofs.Ytdoldohcimbdaaa
open Go.RowKit

theorem ByS.seg {w : World} {v : Value} {l : List Nat} (h : ByS w v l) (h4 : 4 ≤ l.length) (hl : l.length ≤ 640000) : LSeg 1 u8cs w.heap.size w v l := by
  obtain ⟨ao, cap, rfl, h | ⟨b, off, rfl, h⟩⟩ := h
  · omega
  · exact h.seg (Nat.le_refl _) (by omega)
/-- What Open answers, as two letters. -/
def OQ (w' : World) (kd size slide ag : Int) (l : List Nat) (p : Value) (c : Int) : Prop := (p = .pointer none ∧ c = 120) ∨ ∃ s fp M, p = .pointer (some ⟨s, 0, none⟩) ∧ c = 0 ∧ SA w' s kd size slide ag fp M ∧ wrB (srt M) = l ∧ M.length ≤ 20000
theorem OpenX {w : World} {v : Value} {l : List Nat} (kd size slide ag : Int) (h : ByS w v l) (hn : l.length ≤ 640000) :
    Calls Try.prog 25 #[.agg #[.int .i64 kd, .int .i64 size, .int .i64 slide], .int .i64 ag, v] w fun e w' => ∃ p c, e = .returned (.tuple #[p, .int .i64 c]) ∧ OQ w' kd size slide ag l p c ∧ Below w.heap.size w w' := by
  refine (OpenW_any kd size slide ag h hn).mono ?_
  rintro e w' ⟨b1, rfl | ⟨s, fp, M, rfl, h3, _, h5⟩⟩
  · exact ⟨_, _, rfl, .inl ⟨rfl, rfl⟩, b1⟩
  · exact ⟨_, _, rfl, .inr ⟨s, fp, M, rfl, rfl, h3, h5, by have := congrArg List.length h5; rw [wrB_len, srt_len] at this; omega⟩, b1⟩
structure KO (w W : World) (s : Nat) (k size slide a : Int) (fp : Nat → Prop) (M : List Pn) : Prop where
  sa : SA W s k size slide a fp M
  nw : ∀ i, fp i → w.heap.size + 1 ≤ i
  bl : Below w.heap.size w W
  bx : BoxT 23 W w.heap.size #[.int .i64 k, .int .i64 size, .int .i64 slide]
section
variable {w W W' : World} {s : Nat} {k size slide a : Int} {fp fp' : Nat → Prop} {M M' : List Pn}
theorem KO.turn (h : KO w W s k size slide a fp M) (hs : SA W' s k size slide a fp' M') (hf : FT fp fp' W W') : KO w W' s k size slide a fp' M' := by
  have h1 := h.bl.size
  have hlt := h.bx.lt
  refine ⟨hs, fun i hi => ?_, h.bl.trans (hf.below h1 (fun i hi => by have := h.nw i hi; omega)), ?_⟩
  · rcases hf.sub i hi with e | e
    · exact h.nw i e
    · omega
  · have := h.bx
    unfold BoxT at *
    rw [hf.block _ hlt (fun e => by have := h.nw _ e; omega)]
    exact this
theorem KO.grow (h : KO w W s k size slide a fp M) (hb : Below W.heap.size W W') : KO w W' s k size slide a fp M :=
  ⟨h.sa.below hb, h.nw, h.bl.trans (hb.mono h.bl.size), BoxT.below (t := 23) h.bx hb⟩
theorem KO.grown {r : Option Nat} (h : KO w W s k size slide a fp M) (hg : W.grownBy W' r) (hn : ∀ g, r = some g → ¬ fp g) (hb : ∀ g, r = some g → w.heap.size + 1 ≤ g) : KO w W' s k size slide a fp M :=
  ⟨h.sa.grown hg hn, h.nw, h.bl.grown hg h.bl.size (fun g e => by have := hb g e; omega), by
    have h1 := h.bx
    have hlt := h.bx.lt
    unfold BoxT at *
    rw [hg.block _ hlt (fun e => by have := hb _ e.symm; omega)]
    exact h1⟩
end
set_option maxHeartbeats 8000000 in
set_option maxRecDepth 100000 in
theorem StateOpens_walk {w : World} {v : Value} {rs : List Rc} (hl : LSeg 3 Rc.cs w.heap.size w v rs) (hrs : ∀ r ∈ rs, In64 r.k ∧ In64 r.v) {k size slide : Int} (hs : In64 size) (hsl : In64 slide) (a : Int) {vb : Value} {bl : List Nat} (hvb : ByS w vb bl) (pl : Int) (by8 : Nat) (hby : by8 < 256) :
    Calls Try.prog 5 #[.agg #[.int .i64 k, .int .i64 size, .int .i64 slide], .int .i64 a, vb, v, .int .i64 pl, .int .u8 (by8 : Int)] w fun e w' => e = .returned (.bool true) ∧ Below w.heap.size w w' := by
  obtain ⟨ao, cap, rfl⟩ := hl.shapeOf
  have HVB := hide hvb
  obtain ⟨vao, vcap, rfl⟩ : ∃ vao vcap, vb = .slice vao bl.length vcap := by obtain ⟨x, y, e, _⟩ := hvb; exact ⟨x, y, e⟩
  clear hvb
  have HB0 := hide (below_box w (.cells #[.int .i64 k, .int .i64 size, .int .i64 slide] 23))
  have HBX := hide (BoxT.new 23 w #[.int .i64 k, .int .i64 size, .int .i64 slide])
  have HK := hide (fun W => known_any W)
  by_cases hF : FitS k size slide a
  case neg =>
    have HFT := hide (fit_no hF)
    clear hl hF
    go_enter Try.func5, Try.ntmps5
    go_wp2_with (first
      | (go_at_call 8; refine (HK.out _).mono ?_; rintro e w1 ⟨rfl, b1⟩; have HB1 := hide (HB0.out.trans (b1.mono HB0.out.size)); have HX1 := hide (BoxT.below (t := 23) HBX.out b1); obtain ⟨y0, y1, y2⟩ := HX1.out.cells3; clear b1)
      | (go_at_call 9; refine (HFT.out _).mono ?_; rintro e w2 ⟨rfl, b2⟩; have HB2 := hide (HB1.out.trans (b2.mono HB1.out.size)); clear b2 y0 y1 y2))
    go_ret
    exact ⟨rfl, HB2.out⟩
  have HFT := hide (fit_yes hF)
  have HF := hide hF
  clear hF
  by_cases hnb : (4000 : Int) < (bl.length : Int)
  · clear hl
    go_enter Try.func5, Try.ntmps5
    go_wp2_with (first
      | (go_at_call 8; refine (HK.out _).mono ?_; rintro e w1 ⟨rfl, b1⟩; have HB1 := hide (HB0.out.trans (b1.mono HB0.out.size)); have HX1 := hide (BoxT.below (t := 23) HBX.out b1); obtain ⟨y0, y1, y2⟩ := HX1.out.cells3; clear b1)
      | (go_at_call 9; refine (HFT.out _).mono ?_; rintro e w2 ⟨rfl, b2⟩; have HB2 := hide (HB1.out.trans (b2.mono HB1.out.size)); clear b2 y0 y1 y2))
    go_ret
    exact ⟨rfl, HB2.out⟩
  by_cases hn : (40 : Int) < (rs.length : Int)
  · clear hl
    go_enter Try.func5, Try.ntmps5
    go_wp2_with (first
      | (go_at_call 8; refine (HK.out _).mono ?_; rintro e w1 ⟨rfl, b1⟩; have HB1 := hide (HB0.out.trans (b1.mono HB0.out.size)); have HX1 := hide (BoxT.below (t := 23) HBX.out b1); obtain ⟨y0, y1, y2⟩ := HX1.out.cells3; clear b1)
      | (go_at_call 9; refine (HFT.out _).mono ?_; rintro e w2 ⟨rfl, b2⟩; have HB2 := hide (HB1.out.trans (b2.mono HB1.out.size)); clear b2 y0 y1 y2))
    go_ret
    exact ⟨rfl, HB2.out⟩
  have HL := hide hl
  have HRS := hide hrs
  have HS := hide hs
  have HSL := hide hsl
  have hn60 : rs.length ≤ 40 := by omega
  have HNW := hide (fun W => New_any W k size slide a)
  clear hl hrs hs hsl
  go_enter Try.func5, Try.ntmps5
  go_upto_region 5 with (first
    | (go_at_call 8; refine (HK.out _).mono ?_; rintro e w1 ⟨rfl, b1⟩; have HB1 := hide (HB0.out.trans (b1.mono HB0.out.size)); have HX1 := hide (BoxT.below (t := 23) HBX.out b1); obtain ⟨y0, y1, y2⟩ := HX1.out.cells3; clear b1)
    | (go_at_call 9; refine (HFT.out _).mono ?_; rintro e w2 ⟨rfl, b2⟩; have HB2 := hide (HB1.out.trans (b2.mono HB1.out.size)); have HX2 := hide (BoxT.below (t := 23) HX1.out b2); obtain ⟨z0, z1, z2⟩ := HX2.out.cells3; clear b2 y0 y1 y2))
  clear HK HFT HB1 HX1 HBX HB0
  have hz2 : w.heap.size + 1 ≤ w2.heap.size := HX2.out.lt
  have HZ2 := hide hz2
  clear hz2
  go_upto_region 6 with (first | (go_at_call 10; refine (HNW.out _).mono ?_; rintro e w3 ⟨s, fp, rfl, s3, f3, b3⟩; have T3 : Hid (KO w w3 s k size slide a fp []) := (show KO _ _ _ _ _ _ _ _ _ from ⟨s3, fun i hi => Nat.le_trans HZ2.out (f3 i hi), HB2.out.trans (b3.mono HB2.out.size), BoxT.below (t := 23) HX2.out b3⟩); clear s3 f3 b3) | fail)
  clear HX2 HB2 HZ2 z0 z1 z2
  go_wp2_with fail
  go_loopg [14] (rs.length + 1) (fun gh iv wr => ∃ (i : Nat) (fp : Nat → Prop) (M : List Pn), iv = .int .i64 (i : Int) ∧ i ≤ rs.length ∧ rs.length + 1 ≤ gh + i ∧ Hid (KO w wr s k size slide a fp M) ∧ Hid (Comes (sess k) (jn a) (allS k size slide a (rs.take i)) M) ∧ Hid (∀ r ∈ rs.take i, TimeOk r.t))
  case atStart => exact ⟨0, fp, [], rfl, by omega, by omega, T3, (show Comes _ _ _ _ from Comes.refl .nil), (show ∀ r, _ from fun r hr => by simp at hr)⟩
  case round =>
    clear T3 fp
    obtain ⟨i, fp, M, rfl, hi, hg, GT, GM, GO⟩ := hrel
    obtain ⟨go, rfl⟩ : ∃ go, gk = go + 1 := ⟨gk - 1, by omega⟩
    by_cases hlt : i < rs.length
    · obtain ⟨r, hr⟩ := get_of_lt hlt
      have bt : (i : Int) < (rs.length : Int) := by omega
      obtain ⟨nb, no, rfl, nlt, e0, e1, e2⟩ := (HL.out.below GT.out.bl).rec hr
      have hmem := List.mem_of_getElem? hr
      have HIN := hide (HRS.out r hmem)
      have HSN := hide (allS_snoc k size slide a hr)
      have HTS := hide (take_snoc hr)
      have hlenA : (allS k size slide a (rs.take i)).length ≤ 2560 := by have := allS_len k size slide a (rs.take i); rw [List.length_take] at this; omega
      have HML : Hid (M.length ≤ 2560) := Nat.le_trans GM.out.1.len hlenA
      obtain ⟨rk, rt, rv⟩ := r
      simp only at e0 e1 e2 HIN
      clear hr hmem hlenA
      by_cases hT : TimeOk rt
      · have HTI := hide (time_yes hT)
        have HT := hide hT
        have HP1 := hide (put_ok GT.out.sa HF.out HS.out HSL.out rk rt rv HIN.out.1 HIN.out.2 hT (by have := HML.out; omega) GM.out)
        clear hT
        go_wp2_with (first
          | (go_at_call 12; refine (HTI.out _).mono ?_; rintro e w5 ⟨rfl, e5⟩; subst e5)
          | (go_at_call 13; refine HP1.out.mono ?_; rintro e w6 ⟨rfl, fp', M', s6, f6, c6⟩; have T6 := hide (GT.out.turn s6 f6); have C6 := hide c6; clear s6 f6 c6 HP1)
          | fail)
        go_roundg go
        case rel => exact ⟨i + 1, fp', M', by go_num, by omega, by omega, T6, (show Comes _ _ _ _ by rw [HSN.out]; exact C6.out), (show ∀ r, _ by
          rw [HTS.out]
          intro r hr
          rcases List.mem_append.1 hr with hr | hr
          · exact GO.out r hr
          · obtain rfl := List.mem_singleton.1 hr
            exact HT.out)⟩
        case measure => omega
      · have HTI := hide (time_no hT)
        clear hT
        go_wp2_with (first | (go_at_call 12; refine (HTI.out _).mono ?_; rintro e w5 ⟨rfl, e5⟩; subst e5) | fail)
        go_ret
        exact ⟨rfl, GT.out.bl⟩
    · obtain rfl : i = rs.length := by omega
      have bt : ¬ ((rs.length : Nat) : Int) < (rs.length : Int) := by omega
      have hML : M.length ≤ 2560 := by
        have h1 := GM.out.1.len
        have h2 := allS_len k size slide a (rs.take rs.length)
        rw [List.length_take] at h2
        omega
      have HML := hide hML
      have HBY := hide (Bytes_any GT.out.sa (by omega))
      have hcl : (wrB (srt M)).length ≤ 90000 := by rw [wrB_len, srt_len]; omega
      have hcp : 4 ≤ (wrB (srt M)).length := by rw [wrB_len]; omega
      have HCB := hide (wrB_byte (srt M))
      generalize wrB (srt M) = CB at *
      clear hML GM GO hn60 hn hg HRS HL hi
      have hne : ((CB.length : Int) == 0) = false := by rw [beq_eq_false_iff_ne]; omega
      go_upto_region 13 with (first | (go_at_call 15; refine HBY.out.mono ?_; rintro e w5 ⟨u5, rfl, o5, b5⟩; have K5 := hide (GT.out.grow b5); have O5 := hide (o5.mono (show w.heap.size + 1 ≤ _ from GT.out.bx.lt)); clear o5 b5) | fail)
      clear HBY GT
      obtain ⟨cg, cc, hcu⟩ : ∃ g cap, u5 = .slice (some ⟨g, 0, none⟩) CB.length cap := by
        rcases O5.out.2 with ⟨_, e⟩ | ⟨g', cap', cur, e, _⟩
        · omega
        · exact ⟨g', cap', e⟩
      subst hcu
      have hpl := plc_in (i := pl) (n := (CB.length : Int)) (by omega)
      obtain ⟨pq, hpq⟩ : ∃ pq : Nat, plc pl (CB.length : Int) = (pq : Int) := ⟨(plc pl (CB.length : Int)).toNat, by omega⟩
      have hpqlt : pq < CB.length := by omega
      have HPL := hide (fun W => hPlace_any W pl (n := (CB.length : Int)) (by omega) (by omega))
      rw [hpq] at HPL
      obtain ⟨x, hx⟩ := get_of_lt hpqlt
      have hxb : x < 256 := HCB.out x (List.mem_of_getElem? hx)
      have hz : x ^^^ by8 < 256 := Nat.xor_lt_two_pow (n := 8) hxb hby
      have hxor : bits .xor .u8 (x : Int) (by8 : Int) = ((x ^^^ by8 : Nat) : Int) := u8_xor_nat x by8 hxb hby
      generalize x ^^^ by8 = Z at *
      have hset := O5.out.setAt u8cs_len (by decide) hpqlt Z
      have hbx5 : ∃ cur, BoxT 5 w5 cg cur ∧ cur.size = cc * 1 ∧ CB.length ≤ cc := by
        rcases O5.out.2 with ⟨e, _⟩ | ⟨g', cap', cur, e, q2, q3, q4, q5, q6, q7⟩
        · cases e
        · cases e; exact ⟨cur, q3, q6, q4⟩
      obtain ⟨cur, hb5, hcs, hcc⟩ := hbx5
      have c0 : w5.cell? ⟨cg, pq, none⟩ = some (.int .u8 (x : Int)) := by
        obtain ⟨b', o', e', _, _, d⟩ := (O5.out.seg u8cs_len (by omega)).readAt hx
        cases e'
        have h0 := d 0 _ rfl
        simpa using h0
      have cf := hb5.free pq
      have HW6 : Hid (∀ W6, W6 = w5.setCell ⟨cg, pq, none⟩ (.int .u8 (Z : Int)) → Below w.heap.size w W6 ∧ BoxT 23 W6 w.heap.size #[.int .i64 k, .int .i64 size, .int .i64 slide] ∧ ByS W6 (.slice (some ⟨cg, 0, none⟩) CB.length cc) (CB.set pq Z)) := fun W6 e => by
        have hcg : w.heap.size + 1 ≤ cg := O5.out.at cg rfl
        have hg : w5.grownBy W6 (some cg) := by rw [e]; exact grownBy_set _ _ _ _
        refine ⟨K5.out.bl.grown hg K5.out.bl.size (fun g e => by cases e; omega), ?_, ?_⟩
        · have h1 := K5.out.bx
          have hlt := K5.out.bx.lt
          unfold BoxT at *
          rw [hg.block _ hlt (fun e => by cases e; omega)]
          exact h1
        · have h2 : OwnL 5 1 u8cs (w.heap.size + 1) W6 (.slice (some ⟨cg, 0, none⟩) CB.length cc) (CB.set pq Z) := by
            rw [e]; have h3 := hset; rw [Nat.mul_one] at h3; exact h3
          obtain ⟨b', c', e', h4⟩ := h2.bys (by simp; omega) (fun y hy => by
            rcases List.mem_or_eq_of_mem_set hy with hy | rfl
            · exact HCB.out y hy
            · exact hz)
          rw [List.length_set] at e'
          cases e'
          exact ⟨_, _, by simp, .inr ⟨_, _, rfl, h4⟩⟩
      clear hset hb5 hcs hx hpl O5 hpq
      go_upto_region 16 with (first | (go_at_call 11; refine (HPL.out _).mono ?_; rintro e w6 ⟨rfl, e6⟩; subst e6) | fail)
      obtain ⟨W6, hW6⟩ : ∃ W6, W6 = w6.setCell ⟨cg, pq, none⟩ (.int .u8 (Z : Int)) := ⟨_, rfl⟩
      rw [← hW6]
      obtain ⟨b6, x6, v6⟩ := HW6.out W6 hW6
      have B6 := hide b6
      have X6 := hide x6
      have V6 := hide v6
      have VB6 : Hid (ByS W6 (.slice vao bl.length vcap) bl) := (show ByS _ _ _ from HVB.out.below b6)
      have hcbl : (CB.set pq Z).length ≤ 640000 := by simp; omega
      have hcse : (CB.set pq Z).length = CB.length := by simp
      have HCL := hide hcbl
      have HCS := hide hcse
      clear b6 x6 v6 hW6 HW6 hxor hz hxb c0 cf HPL HCB HML K5 hcbl hcse hne hpqlt hcp
      generalize CB.set pq Z = CZ at *
      go_wp2_with fail
      go_loopg [16, 17, 18, 19] 3 (fun gh iv _ _ _ wr => ∃ i : Nat, iv = .int .i64 (i : Int) ∧ i ≤ 2 ∧ 3 ≤ gh + i ∧ Hid (Below W6.heap.size W6 wr))
      case atStart => exact ⟨0, rfl, by omega, by omega, Below.refl _ _⟩
      case round =>
        obtain ⟨i, rfl, hi, hg, GB⟩ := hrel
        obtain ⟨go2, hgo2⟩ : ∃ go2, gk = go2 + 1 := ⟨gk - 1, by omega⟩
        subst hgo2
        by_cases h2 : i < 2
        · have b2 : (i : Int) < 2 := by omega
          obtain ⟨k0, k1, k2⟩ := (BoxT.below (t := 23) X6.out GB.out).cells3
          by_cases h1 : i = 1
          · have hib : ((i : Int) == 1) = true := by rw [h1]; rfl
            clear h1
            have HVX : Hid (ByS W6 (.slice (some ⟨cg, 0, none⟩) CB.length cc) CZ) := V6
            have HXL : Hid (CZ.length ≤ 640000) := HCL
            obtain ⟨XL, hXL⟩ : ∃ XL, XL = CZ := ⟨_, rfl⟩
            rw [← hXL] at HVX HXL
            clear hXL
            have HOX := hide (OpenX k size slide a (HVX.out.below GB.out) HXL.out)
            go_upto_region 23 with (first | (go_at_call 25; refine HOX.out.mono ?_; rintro e w7 ⟨p7, c7, rfl, q7, b7⟩; have Q7 := hide q7; have B7 := hide b7; clear q7 b7) | fail)
            have GB7 := hide (GB.out.trans (B7.out.mono GB.out.size))
            rcases Q7.out with ⟨rfl, rfl⟩ | ⟨t, fpt, Mt, rfl, rfl, st, hwb, hml⟩
            · go_wp2_with fail
              go_roundg go2
              case rel => exact ⟨i + 1, by go_num, by omega, by omega, GB7⟩
              case measure => omega
            · have HYB := hide (Bytes_any st hml)
              rw [hwb] at HYB
              have hx4 : 4 ≤ XL.length := by rw [← hwb, wrB_len]; omega
              have HX7 := hide (((HVX.out.below GB7.out)).seg hx4 HXL.out)
              have HXLn : Hid (XL.length ≤ 1000000) := (show _ ≤ _ by have := HXL.out; omega)
              clear st hwb hml hx4 Q7
              go_wp2_with (first
                | (go_at_call 15; refine HYB.out.mono ?_; rintro e w8 ⟨u8, rfl, o8, b8⟩; have GB8 := hide (GB7.out.trans (b8.mono GB7.out.size)); have HHB := hide (hBytes_any (o8.seg u8cs_len (by have := HXLn.out; omega)) ((HX7.out.below b8)) HXLn.out); obtain ⟨ua, uc, rfl⟩ := o8.shape; clear o8 b8)
                | (go_at_call 14; refine HHB.out.mono ?_; rintro e w9 ⟨rfl, b9⟩; have GB9 := hide (GB8.out.trans (b9.mono GB8.out.size)); clear b9)
                | fail)
              go_roundg go2
              case rel => exact ⟨i + 1, by go_num, by omega, by omega, GB9⟩
              case measure => omega

          · have hib : ((i : Int) == 1) = false := by rw [beq_eq_false_iff_ne]; omega
            clear h1
            have HVX : Hid (ByS W6 (.slice vao bl.length vcap) bl) := VB6
            have HXL : Hid (bl.length ≤ 640000) := (show _ ≤ _ by omega)
            obtain ⟨XL, hXL⟩ : ∃ XL, XL = bl := ⟨_, rfl⟩
            rw [show ByS W6 (.slice vao bl.length vcap) bl = ByS W6 (.slice vao bl.length vcap) XL by rw [hXL]] at HVX
            rw [show (bl.length ≤ 640000) = (XL.length ≤ 640000) by rw [hXL]] at HXL
            clear hXL
            have HOX := hide (OpenX k size slide a (HVX.out.below GB.out) HXL.out)
            go_upto_region 23 with (first | (go_at_call 25; refine HOX.out.mono ?_; rintro e w7 ⟨p7, c7, rfl, q7, b7⟩; have Q7 := hide q7; have B7 := hide b7; clear q7 b7) | fail)
            have GB7 := hide (GB.out.trans (B7.out.mono GB.out.size))
            rcases Q7.out with ⟨rfl, rfl⟩ | ⟨t, fpt, Mt, rfl, rfl, st, hwb, hml⟩
            · go_wp2_with fail
              go_roundg go2
              case rel => exact ⟨i + 1, by go_num, by omega, by omega, GB7⟩
              case measure => omega
            · have HYB := hide (Bytes_any st hml)
              rw [hwb] at HYB
              have hx4 : 4 ≤ XL.length := by rw [← hwb, wrB_len]; omega
              have HX7 := hide (((HVX.out.below GB7.out)).seg hx4 HXL.out)
              have HXLn : Hid (XL.length ≤ 1000000) := (show _ ≤ _ by have := HXL.out; omega)
              clear st hwb hml hx4 Q7
              go_wp2_with (first
                | (go_at_call 15; refine HYB.out.mono ?_; rintro e w8 ⟨u8, rfl, o8, b8⟩; have GB8 := hide (GB7.out.trans (b8.mono GB7.out.size)); have HHB := hide (hBytes_any (o8.seg u8cs_len (by have := HXLn.out; omega)) ((HX7.out.below b8)) HXLn.out); obtain ⟨ua, uc, rfl⟩ := o8.shape; clear o8 b8)
                | (go_at_call 14; refine HHB.out.mono ?_; rintro e w9 ⟨rfl, b9⟩; have GB9 := hide (GB8.out.trans (b9.mono GB8.out.size)); clear b9)
                | fail)
              go_roundg go2
              case rel => exact ⟨i + 1, by go_num, by omega, by omega, GB9⟩
              case measure => omega
        · obtain rfl : i = 2 := by omega
          have b2 : ¬ ((2 : Nat) : Int) < 2 := by omega
          go_wp2_with fail
          go_ret
          exact ⟨rfl, B6.out.trans (GB.out.mono B6.out.size)⟩
end Go.Proofs.Ytdoldohcimbdaaa
