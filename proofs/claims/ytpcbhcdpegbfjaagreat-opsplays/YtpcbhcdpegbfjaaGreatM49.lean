/-
  Texts in build order: OPlaW.
-/
import Derived.Test.YtpcbhcdpegbfjaaGreatM48
import Derived.Test.YtpcbhcdpegbfjaaGreatM43
import Derived.Deep.CutBlock
import Derived.Deep.CutRange
/-
 The law OpsPlays, walked.
-/
namespace Go.Proofs.YtpcbhcdpegbfjaaGreat
set_option maxHeartbeats 16000000
set_option maxRecDepth 100000
open Go.RowKit
theorem OpsPlays_walk {w : World} {v : Value} {xs : List Stp} (hl : LSeg 5 Stp.cs w.heap.size w v xs) (hrs : ∀ r ∈ xs, In64 r.rk ∧ In64 r.rv) {n : J.Nd} (hi : n.ins.length ≤ 140737488355328) (hE : J.In w n.e) :
  Calls Tryz.prog 3 #[n.val, v] w fun e w' => e = .returned (.bool true) ∧ Below w.heap.size w w' := by
 obtain ⟨ao, cap, rfl⟩ := hl.shapeOf
 have HFT := hide (fun (W : World) (hb : Below w.heap.size w W) => J.fitO_any (w := W) hi (hE.below hb))
 have HNW := hide (fun (W : World) (hb : Below w.heap.size w W) (hok : NdOk n) => New_op (w := W) (nd := n) (hE.below hb) hok)
 have HRN := hide (fun (W : World) => rNew_any W n)
 have HOKF := hide (fun (h : n.kind ≠ 1 → n.kind ≠ 8 → J.FtO n) => NdD.of h)
 have HE := hide hE
 have HK := hide (fun W => known_any W)
 have HL := hide hl
 have HRS := hide hrs
 clear hl hE hi hrs
 obtain ⟨nd, hnd⟩ : ∃ nd, nd = n := ⟨_, rfl⟩
 have HND := hide hnd
 have hval : n.val = nd.val := by rw [hnd]
 rw [← hnd] at HFT HNW HRN HOKF HE
 rw [hval]
 clear hval hnd
 obtain ⟨kind, ia, ic, ins, par, ex, ag, k, size, slide⟩ := n
 obtain ⟨op, nn, ea, ec, el⟩ := ex
 have hv : nd.val = .agg #[.int .i64 kind, .slice ia ins.length ic, .int .i64 par, .int .i64 op, .int .i64 nn, .slice ea el.length ec, .int .i64 ag, .int .i64 k, .int .i64 size, .int .i64 slide] := by rw [HND.out]; rfl
 rw [hv] at HFT HNW HRN ⊢
 clear hv HND
 generalize ins.length = il at *
 generalize el.length = en at *
 have HB0 := hide (below_box w (.cells #[.int .i64 kind, .slice ia il ic, .int .i64 par, .int .i64 op, .int .i64 nn, .slice ea en ec, .int .i64 ag, .int .i64 k, .int .i64 size, .int .i64 slide] 29))
 have HBX := hide (BoxT.new 29 w #[.int .i64 kind, .slice ia il ic, .int .i64 par, .int .i64 op, .int .i64 nn, .slice ea en ec, .int .i64 ag, .int .i64 k, .int .i64 size, .int .i64 slide])
 by_cases hn80 : 80 < xs.length
 ·have bn : (80 : Int) < (xs.length : Int) := by omega
  go_enter Tryz.func3, Tryz.ntmps3
  go_upto_region 3 with (go_at_call 8; refine (HK.out _).mono ?_; rintro e w1 ⟨rfl, b1⟩; have HB1 := hide (HB0.out.trans (b1.mono HB0.out.size)); have HX1 := hide (BoxT.below (t := 29) HBX.out b1); have HFN := hide (HFT.out w1 HB1.out); clear b1)
  have y0 : w1.cell? ⟨w.heap.size, 0, none⟩ = _ := HX1.out.cellAt 0
  have y1 : w1.cell? ⟨w.heap.size, 1, none⟩ = _ := HX1.out.cellAt 1
  have y2 : w1.cell? ⟨w.heap.size, 2, none⟩ = _ := HX1.out.cellAt 2
  have y3 : w1.cell? ⟨w.heap.size, 3, none⟩ = _ := HX1.out.cellAt 3
  have y4 : w1.cell? ⟨w.heap.size, 4, none⟩ = _ := HX1.out.cellAt 4
  have y5 : w1.cell? ⟨w.heap.size, 5, none⟩ = _ := HX1.out.cellAt 5
  have y6 : w1.cell? ⟨w.heap.size, 6, none⟩ = _ := HX1.out.cellAt 6
  have y7 : w1.cell? ⟨w.heap.size, 7, none⟩ = _ := HX1.out.cellAt 7
  have y8 : w1.cell? ⟨w.heap.size, 8, none⟩ = _ := HX1.out.cellAt 8
  have y9 : w1.cell? ⟨w.heap.size, 9, none⟩ = _ := HX1.out.cellAt 9
  go_wp2_with (go_at_call 9; refine HFN.out.mono ?_; rintro e w2 ⟨b, rfl, hb, b2⟩; have HB2 := hide (HB1.out.trans (b2.mono HB1.out.size)); clear b2 hb y0 y1 y2 y3 y4 y5 y6 y7 y8 y9; cases b)
  all_goals
   go_ret
   exact ⟨rfl, HB2.out⟩
 have bn : ¬ (80 : Int) < (xs.length : Int) := by omega
 go_enter Tryz.func3, Tryz.ntmps3
 go_upto_region 3 with (go_at_call 8; refine (HK.out _).mono ?_; rintro e w1 ⟨rfl, b1⟩; have HB1 := hide (HB0.out.trans (b1.mono HB0.out.size)); have HX1 := hide (BoxT.below (t := 29) HBX.out b1); have HFN := hide (HFT.out w1 HB1.out); clear b1)
 have y0 : w1.cell? ⟨w.heap.size, 0, none⟩ = _ := HX1.out.cellAt 0
 have y1 : w1.cell? ⟨w.heap.size, 1, none⟩ = _ := HX1.out.cellAt 1
 have y2 : w1.cell? ⟨w.heap.size, 2, none⟩ = _ := HX1.out.cellAt 2
 have y3 : w1.cell? ⟨w.heap.size, 3, none⟩ = _ := HX1.out.cellAt 3
 have y4 : w1.cell? ⟨w.heap.size, 4, none⟩ = _ := HX1.out.cellAt 4
 have y5 : w1.cell? ⟨w.heap.size, 5, none⟩ = _ := HX1.out.cellAt 5
 have y6 : w1.cell? ⟨w.heap.size, 6, none⟩ = _ := HX1.out.cellAt 6
 have y7 : w1.cell? ⟨w.heap.size, 7, none⟩ = _ := HX1.out.cellAt 7
 have y8 : w1.cell? ⟨w.heap.size, 8, none⟩ = _ := HX1.out.cellAt 8
 have y9 : w1.cell? ⟨w.heap.size, 9, none⟩ = _ := HX1.out.cellAt 9
 go_upto_region 5 with (go_at_call 9; refine HFN.out.mono ?_; rintro e w2 ⟨b, rfl, hb, b2⟩; have HB2 := hide (HB1.out.trans (b2.mono HB1.out.size)); have HX2 := hide (BoxT.below (t := 29) HX1.out b2); have HF := hide hb; clear b2 hb y0 y1 y2 y3 y4 y5 y6 y7 y8 y9; cases b)
 all_goals clear HFN HFT HK HX1 HB1 HBX HB0
 ·go_ret
  exact ⟨rfl, HB2.out⟩
 have HOK := hide (HOKF.out (HF.out trivial))
 clear HF HOKF
 have BD : Hid (Below w2.heap.size w2 w2.drew) := (Below.refl _ _).drew
 have HXD := hide (BoxT.below (t := 29) HX2.out BD.out)
 have HBD := hide (HB2.out.drew)
 have HN1 := hide (HNW.out w2.drew HBD.out HOK.out.ok)
 have HXS := hide (show w.heap.size < w2.drew.heap.size from HXD.out.lt)
 have y0 : w2.drew.cell? ⟨w.heap.size, 0, none⟩ = _ := HXD.out.cellAt 0
 have y1 : w2.drew.cell? ⟨w.heap.size, 1, none⟩ = _ := HXD.out.cellAt 1
 have y2 : w2.drew.cell? ⟨w.heap.size, 2, none⟩ = _ := HXD.out.cellAt 2
 have y3 : w2.drew.cell? ⟨w.heap.size, 3, none⟩ = _ := HXD.out.cellAt 3
 have y4 : w2.drew.cell? ⟨w.heap.size, 4, none⟩ = _ := HXD.out.cellAt 4
 have y5 : w2.drew.cell? ⟨w.heap.size, 5, none⟩ = _ := HXD.out.cellAt 5
 have y6 : w2.drew.cell? ⟨w.heap.size, 6, none⟩ = _ := HXD.out.cellAt 6
 have y7 : w2.drew.cell? ⟨w.heap.size, 7, none⟩ = _ := HXD.out.cellAt 7
 have y8 : w2.drew.cell? ⟨w.heap.size, 8, none⟩ = _ := HXD.out.cellAt 8
 have y9 : w2.drew.cell? ⟨w.heap.size, 9, none⟩ = _ := HXD.out.cellAt 9
 go_region_held3 (fun w' => w'.cell? ⟨w.heap.size, 0, none⟩ = some (.int .i64 kind) ∧ w'.cell? ⟨w.heap.size, 1, none⟩ = some (.slice ia il ic) ∧ w'.cell? ⟨w.heap.size, 2, none⟩ = some (.int .i64 par) ∧ w'.cell? ⟨w.heap.size, 3, none⟩ = some (.int .i64 op) ∧ w'.cell? ⟨w.heap.size, 4, none⟩ = some (.int .i64 nn) ∧ w'.cell? ⟨w.heap.size, 5, none⟩ = some (.slice ea en ec) ∧ w'.cell? ⟨w.heap.size, 6, none⟩ = some (.int .i64 ag) ∧ w'.cell? ⟨w.heap.size, 7, none⟩ = some (.int .i64 k) ∧ w'.cell? ⟨w.heap.size, 8, none⟩ = some (.int .i64 size) ∧ w'.cell? ⟨w.heap.size, 9, none⟩ = some (.int .i64 slide)) (first | go_keep | exact ⟨y0, y1, y2, y3, y4, y5, y6, y7, y8, y9⟩ | exact ⟨z0, z1, z2, z3, z4, z5, z6, z7, z8, z9⟩ | exact ⟨q0, q1, q2, q3, q4, q5, q6, q7, q8, q9⟩)
  (first
  | (go_at_call 11; refine (HRN.out _).mono ?_; rintro e w4 ⟨o, rfl, o4, f4, b4⟩; have HB4 := hide (HB3.out.trans (b4.mono HB3.out.size)); have HX4 := hide (BoxT.below (t := 29) HX3.out b4); have HS0 : Hid (QS w w4 nd O 0 F [] (-9223372036854775808) 0 o (.slice none 0 0) [] (-9223372036854775808) 29 w.heap.size #[.int .i64 kind, .slice ia il ic, .int .i64 par, .int .i64 op, .int .i64 nn, .slice ea en ec, .int .i64 ag, .int .i64 k, .int .i64 size, .int .i64 slide]) := (show QS _ _ _ _ _ _ _ _ _ _ _ _ _ _ _ _ from ⟨⟨HA3.out.below b4, o4, fun e => by have := HA3.out.flt _ e; omega, fun e => absurd rfl e, fun i h1 => by have := HF3.out i h1; have := HBD.out.size; omega, by have := HB3.out.size; omega, HX4.out, ⟨fun e => by have := HF3.out _ e; have := HXS.out; omega, by have := HB3.out.size; have := HX3.out.lt; omega⟩, HB4.out⟩, List.Perm.refl _, fun _ => rfl, fun _ x hx => by cases hx⟩); have q0 : w4.cell? ⟨w.heap.size, 0, none⟩ = _ := HX4.out.cellAt 0; have q1 : w4.cell? ⟨w.heap.size, 1, none⟩ = _ := HX4.out.cellAt 1; have q2 : w4.cell? ⟨w.heap.size, 2, none⟩ = _ := HX4.out.cellAt 2; have q3 : w4.cell? ⟨w.heap.size, 3, none⟩ = _ := HX4.out.cellAt 3; have q4 : w4.cell? ⟨w.heap.size, 4, none⟩ = _ := HX4.out.cellAt 4; have q5 : w4.cell? ⟨w.heap.size, 5, none⟩ = _ := HX4.out.cellAt 5; have q6 : w4.cell? ⟨w.heap.size, 6, none⟩ = _ := HX4.out.cellAt 6; have q7 : w4.cell? ⟨w.heap.size, 7, none⟩ = _ := HX4.out.cellAt 7; have q8 : w4.cell? ⟨w.heap.size, 8, none⟩ = _ := HX4.out.cellAt 8; have q9 : w4.cell? ⟨w.heap.size, 9, none⟩ = _ := HX4.out.cellAt 9; clear o4 f4 b4)
  | (go_at_call 10; refine HN1.out.mono ?_; rintro e w3 ⟨O, F, rfl, o3, f3, b3⟩; have HA3 := hide o3; have HF3 := hide f3; have HB3 := hide (HBD.out.trans (b3.mono HBD.out.size)); have HX3 := hide (BoxT.below (t := 29) HXD.out b3); have z0 : w3.cell? ⟨w.heap.size, 0, none⟩ = _ := HX3.out.cellAt 0; have z1 : w3.cell? ⟨w.heap.size, 1, none⟩ = _ := HX3.out.cellAt 1; have z2 : w3.cell? ⟨w.heap.size, 2, none⟩ = _ := HX3.out.cellAt 2; have z3 : w3.cell? ⟨w.heap.size, 3, none⟩ = _ := HX3.out.cellAt 3; have z4 : w3.cell? ⟨w.heap.size, 4, none⟩ = _ := HX3.out.cellAt 4; have z5 : w3.cell? ⟨w.heap.size, 5, none⟩ = _ := HX3.out.cellAt 5; have z6 : w3.cell? ⟨w.heap.size, 6, none⟩ = _ := HX3.out.cellAt 6; have z7 : w3.cell? ⟨w.heap.size, 7, none⟩ = _ := HX3.out.cellAt 7; have z8 : w3.cell? ⟨w.heap.size, 8, none⟩ = _ := HX3.out.cellAt 8; have z9 : w3.cell? ⟨w.heap.size, 9, none⟩ = _ := HX3.out.cellAt 9; clear o3 f3 b3)
  | fail)
 clear HN1 HNW HRN HA3 HF3 HB3 HX3 HX4 HXD HXS HX2 BD HBD HB2 HB4 y0 y1 y2 y3 y4 y5 y6 y7 y8 y9 z0 z1 z2 z3 z4 z5 z6 z7 z8 z9 q0 q1 q2 q3 q4 q5 q6 q7 q8 q9
 go_wp2_with fail
 go_loopg [7, 8] (xs.length + 1) (fun gh iv _ wr => ∃ (i : Nat) (F : Nat → Prop) (X : List Pn) (g d : Int) (lv : Value) (l : List Pn) (g2 : Int) (tb xb : Nat) (xc : Array Value), iv = .int .i64 (i : Int) ∧ i ≤ xs.length ∧ xs.length + 1 ≤ gh + i ∧ Hid (QS w wr nd O (64 * i) F X g d o lv l g2 tb xb xc))
 case atStart => exact ⟨0, F, [], _, 0, _, [], _, _, _, _, rfl, by omega, by omega, HS0⟩
 case round =>
  clear HS0
  obtain ⟨i, F, X, g, d, lv, l, g2, tb, xb0, xc, rfl, hi, hg, HS⟩ := hrel
  obtain ⟨go, rfl⟩ : ∃ go, gk = go + 1 := ⟨gk - 1, by omega⟩
  by_cases hlt : i < xs.length
  ·obtain ⟨x, hx⟩ := get_of_lt hlt
   have bt : (i : Int) < (xs.length : Int) := by omega
   obtain ⟨nb, no, rfl, nlt, e0, e1, e2, e3, e4⟩ := (HL.out.below HS.out.q.bl).stp hx
   have HIN := hide (HRS.out x (List.mem_of_getElem? hx))
   obtain ⟨wh, rk, rt, rv, mk⟩ := x
   simp only at e0 e1 e2 e3 e4 HIN
   clear hx
   have HN : Hid (64 * i ≤ 40000) := (show _ ≤ _ by omega)
   go_upto_region 10 with fail
   clear e0 e1 e2 e3 e4
   refine wp_at (fun W => QS w W nd O (64 * i) F X g d o lv l g2 40 wr.heap.size #[.int .i64 wh, .int .i64 rk, .int .i64 rt, .int .i64 rv, .int .i64 mk]) (HS.out.box _ _) ?_
   clear HS
   generalize wr.heap.size = xb at *
   rintro V GT
   have HS := hide GT
   clear GT
   have e0 : V.cell? ⟨xb, 0, none⟩ = _ := HS.out.q.bx.cellAt 0
   have e1 : V.cell? ⟨xb, 1, none⟩ = _ := HS.out.q.bx.cellAt 1
   have e2 : V.cell? ⟨xb, 2, none⟩ = _ := HS.out.q.bx.cellAt 2
   have e3 : V.cell? ⟨xb, 3, none⟩ = _ := HS.out.q.bx.cellAt 3
   have e4 : V.cell? ⟨xb, 4, none⟩ = _ := HS.out.q.bx.cellAt 4
   have hcase : (wh = 0 ∨ wh = 1 ∨ wh = 2) ∨ wh = 3 ∨ wh = 4 ∨ (¬ wh = 0 ∧ ¬ wh = 1 ∧ ¬ wh = 2 ∧ ¬ wh = 3 ∧ ¬ wh = 4) := by omega
   rcases hcase with hw3 | rfl | rfl | ⟨bw0, bw1, bw2, bw3, bw4⟩
   ·by_cases hT : TimeOk rt
    case neg =>
     have HTI := hide (time_no hT)
     clear hT
     rcases hw3 with rfl | rfl | rfl
     all_goals
      go_wp2_with (go_at_call 12; refine (HTI.out _).mono ?_; rintro e w5 ⟨rfl, e5⟩; have e6 := e5.symm; subst e6)
      go_ret
      exact ⟨rfl, HS.out.q.bl⟩
    have HTI := hide (time_yes hT)
    have HTO := hide hT
    clear hT
    have HSD := hide (HS.out.below (Below.refl _ _).drew)
    have HRA := hide (HSD.out.recA HOK.out ⟨rk, rt, rv⟩ HIN.out.1 HIN.out.2 HTO.out HN.out)
    have HN2 : Hid (64 * i + 64 ≤ 40000) := (show _ ≤ _ by omega)
    have HOL := hide (outR_len nd ⟨rk, rt, rv⟩)
    rcases hw3 with rfl | rfl | rfl
    all_goals
     go_upto_region 16 with (go_at_call 12; refine (HTI.out _).mono ?_; rintro e w5 ⟨rfl, e5⟩; have e6 := e5.symm; subst e6)
     clear e0 e1 e2 e3 e4
     have y0 : V.drew.cell? ⟨xb, 0, none⟩ = _ := HSD.out.q.bx.cellAt 0
     have y1 : V.drew.cell? ⟨xb, 1, none⟩ = _ := HSD.out.q.bx.cellAt 1
     have y2 : V.drew.cell? ⟨xb, 2, none⟩ = _ := HSD.out.q.bx.cellAt 2
     have y3 : V.drew.cell? ⟨xb, 3, none⟩ = _ := HSD.out.q.bx.cellAt 3
     have y4 : V.drew.cell? ⟨xb, 4, none⟩ = _ := HSD.out.q.bx.cellAt 4
     go_region_held3 (fun w' => w'.cell? ⟨xb, 1, none⟩ = some (.int .i64 rk) ∧ w'.cell? ⟨xb, 2, none⟩ = some (.int .i64 rt) ∧ w'.cell? ⟨xb, 3, none⟩ = some (.int .i64 rv) ∧ w'.cell? ⟨xb, 4, none⟩ = some (.int .i64 mk)) (first | go_keep | exact ⟨y1, y2, y3, y4⟩ | exact ⟨z1, z2, z3, z4⟩ | exact ⟨q1, q2, q3, q4⟩ | exact ⟨p1, p2, p3, p4⟩)
      (first
      | (go_at_call 14; refine HRA.out.mono ?_; rintro e w6 ⟨u6, G1, Y1, c1, rfl, l6, s6⟩; have HM6 := hide s6; have HRB := hide (HM6.out.recB HOK.out HE.out HTO.out l6); have z0 : w6.cell? ⟨xb, 0, none⟩ = _ := HM6.out.q.bx.cellAt 0; have z1 : w6.cell? ⟨xb, 1, none⟩ = _ := HM6.out.q.bx.cellAt 1; have z2 : w6.cell? ⟨xb, 2, none⟩ = _ := HM6.out.q.bx.cellAt 2; have z3 : w6.cell? ⟨xb, 3, none⟩ = _ := HM6.out.q.bx.cellAt 3; have z4 : w6.cell? ⟨xb, 4, none⟩ = _ := HM6.out.q.bx.cellAt 4; clear l6 s6)
      | (go_at_call 15; refine HRB.out.mono ?_; rintro e w7 ⟨u7, lv7, l7, rfl, r7, x7, s7⟩; obtain ⟨ua, uc, rfl⟩ := x7.shapeOf; obtain ⟨ub, ud, rfl⟩ := r7.shapeOf; have HS7 := hide s7; have H13 := hide (hRecords_any x7 r7 (by have := HOL.out; omega)); have q0 : w7.cell? ⟨xb, 0, none⟩ = _ := HS7.out.q.bx.cellAt 0; have q1 : w7.cell? ⟨xb, 1, none⟩ = _ := HS7.out.q.bx.cellAt 1; have q2 : w7.cell? ⟨xb, 2, none⟩ = _ := HS7.out.q.bx.cellAt 2; have q3 : w7.cell? ⟨xb, 3, none⟩ = _ := HS7.out.q.bx.cellAt 3; have q4 : w7.cell? ⟨xb, 4, none⟩ = _ := HS7.out.q.bx.cellAt 4; clear r7 x7 s7)
      | (go_at_call 13; refine H13.out.mono ?_; rintro e w8 ⟨rfl, b8⟩; have HS8 := hide (HS7.out.below b8); have p0 : w8.cell? ⟨xb, 0, none⟩ = _ := HS8.out.q.bx.cellAt 0; have p1 : w8.cell? ⟨xb, 1, none⟩ = _ := HS8.out.q.bx.cellAt 1; have p2 : w8.cell? ⟨xb, 2, none⟩ = _ := HS8.out.q.bx.cellAt 2; have p3 : w8.cell? ⟨xb, 3, none⟩ = _ := HS8.out.q.bx.cellAt 3; have p4 : w8.cell? ⟨xb, 4, none⟩ = _ := HS8.out.q.bx.cellAt 4; clear b8)
      | fail)
     clear HSD HRA HM6 HRB HS7 H13 y0 y1 y2 y3 y4 z0 z1 z2 z3 z4 q0 q1 q2 q3 q4 p0 p1 p2 p3 p4 HS HTI HOL
     go_upto_region 23 with fail
     have HT0 := hide (HS8.out.below (Below.refl _ _).drew)
     have HLT := hide (HT0.out.late)
     refine wp_region_M (S := fun w' => w'.cell? ⟨o, 10, none⟩ = some lv7 ∧ w'.cell? ⟨o, 12, none⟩ = some (.int .i64 c1)) (late := []) (by kernel_rfl) ((show _ ∧ _ from ⟨HT0.out.q.b.box.cellAt 10, HT0.out.q.b.box.cellAt 12⟩)) (fun hH => ?_)
     (try simp only [nr, Nat.reduceAdd])
     refine tkA 0 hH ?_; simp only [nm]; refine tkA 2 hH ?_; simp only [nm]; refine tkA 3 hH ?_; simp only [nm]; refine tkA 4 hH ?_; simp only [nm]; refine tkA 5 hH ?_; simp only [nm]
     refine tkO 1 fun Kc hK => ?_
     go_simp
     go_at_call 20
     refine (HLT.out).mono ?_
     rintro e w21 ⟨rfl, b21⟩
     have HT1 := hide (HT0.out.below b21)
     have HPA := hide (HT1.out.panA HN2.out)
     clear b21
     refine hK.out _ _ ((show _ ∧ _ from ⟨HT1.out.q.b.box.cellAt 10, HT1.out.q.b.box.cellAt 12⟩)) (fun hH => ?_)
     clear hK Kc
     (try simp only [nm])
     refine tkA 6 hH ?_; simp only [nm]
     (try simp only [bne_self_eq_false])
     refine tkA 7 hH ?_; simp only [nm]
     (try simp only [bne_self_eq_false])
     refine tkA 8 hH ?_; simp only [nm]; refine tkA 10 hH ?_; simp only [nm]; refine tkA 11 hH ?_; simp only [nm]; refine tkA 12 hH ?_; simp only [nm]; refine tkA 13 hH ?_; simp only [nm]
     refine tkO 9 fun Kc hK => ?_
     go_simp
     go_at_call 19
     refine (HPA.out).mono ?_
     rintro e w22 ⟨u22, G22, rfl, l22, q22, s22⟩
     have HT2 := hide s22
     have L22 := hide l22
     have HSB := hide (HT2.out.sortB HN2.out)
     clear l22 q22 s22
     refine hK.out _ _ ((show _ ∧ _ from ⟨HT2.out.q.b.box.cellAt 10, HT2.out.q.b.box.cellAt 12⟩)) (fun hH => ?_)
     clear hK Kc
     (try simp only [nm])
     refine tkO 14 fun Kc hK => ?_
     go_simp
     go_at_call 22
     refine (HSB.out).mono ?_
     rintro e w23 ⟨u23, rfl, l23, b23⟩
     have HT3 := hide (HT2.out.below b23)
     have H21 := hide (hPanes_any (L22.out.on b23) l23 (by rw [srt_len]; have := HT2.out.q.a.len; have := HN2.out; omega))
     clear l23 b23
     refine hK.out _ _ ((show _ ∧ _ from ⟨HT3.out.q.b.box.cellAt 10, HT3.out.q.b.box.cellAt 12⟩)) (fun hH => ?_)
     clear hK Kc
     (try simp only [nm])
     refine tkO 15 fun Kc hK => ?_
     go_simp
     go_at_call 21
     refine (H21.out).mono ?_
     rintro e w24 ⟨rfl, b24⟩
     have HT4 := hide (HT3.out.below b24)
     clear b24
     refine hK.out _ _ ((show _ ∧ _ from ⟨HT4.out.q.b.box.cellAt 10, HT4.out.q.b.box.cellAt 12⟩)) (fun hH => ?_)
     clear hK Kc
     (try simp only [nm])
     refine tkA 16 hH ?_; simp only [nm]; refine tkA 17 hH ?_; simp only [nm]
     refine wpAnyM_done (by kernel_rfl) ?_ _
     go_wp2_with fail
     go_roundg go
     case rel => exact ⟨i + 1, G22, Y1, g, c1, lv7, l7, g2, _, _, _, by go_num, by omega, by omega, (show QS _ _ _ _ _ _ _ _ _ _ _ _ _ _ _ _ from HT4.out.more (by omega))⟩
     case measure => omega
   ·have HSD := hide (HS.out.below (Below.refl _ _).drew)
    have HMA := hide (HSD.out.markA HN.out mk)
    have HOL := hide (show (outMk nd g mk X).length ≤ 40000 by have := outMk_len nd g mk X; have := HS.out.q.a.len; have := HN.out; omega)
    go_upto_region 19 with fail
    clear e0 e1 e2 e3 e4
    have y0 : V.drew.cell? ⟨xb, 0, none⟩ = _ := HSD.out.q.bx.cellAt 0
    have y1 : V.drew.cell? ⟨xb, 1, none⟩ = _ := HSD.out.q.bx.cellAt 1
    have y2 : V.drew.cell? ⟨xb, 2, none⟩ = _ := HSD.out.q.bx.cellAt 2
    have y3 : V.drew.cell? ⟨xb, 3, none⟩ = _ := HSD.out.q.bx.cellAt 3
    have y4 : V.drew.cell? ⟨xb, 4, none⟩ = _ := HSD.out.q.bx.cellAt 4
    go_region_held3 (fun w' => w'.cell? ⟨xb, 1, none⟩ = some (.int .i64 rk) ∧ w'.cell? ⟨xb, 2, none⟩ = some (.int .i64 rt) ∧ w'.cell? ⟨xb, 3, none⟩ = some (.int .i64 rv) ∧ w'.cell? ⟨xb, 4, none⟩ = some (.int .i64 mk)) (first | go_keep | exact ⟨y1, y2, y3, y4⟩ | exact ⟨z1, z2, z3, z4⟩ | exact ⟨q1, q2, q3, q4⟩ | exact ⟨p1, p2, p3, p4⟩)
     (first
     | (go_at_call 16; refine HMA.out.mono ?_; rintro e w6 ⟨u6, G1, rfl, l6, v6, s6⟩; have HM6 := hide s6; have HRB := hide (HM6.out.markB HOK.out l6 v6); have z0 : w6.cell? ⟨xb, 0, none⟩ = _ := HM6.out.q.bx.cellAt 0; have z1 : w6.cell? ⟨xb, 1, none⟩ = _ := HM6.out.q.bx.cellAt 1; have z2 : w6.cell? ⟨xb, 2, none⟩ = _ := HM6.out.q.bx.cellAt 2; have z3 : w6.cell? ⟨xb, 3, none⟩ = _ := HM6.out.q.bx.cellAt 3; have z4 : w6.cell? ⟨xb, 4, none⟩ = _ := HM6.out.q.bx.cellAt 4; clear l6 v6 s6)
     | (go_at_call 17; refine HRB.out.mono ?_; rintro e w7 ⟨u7, lv7, l7, g7, rfl, r7, x7, s7⟩; obtain ⟨ua, uc, rfl⟩ := x7.shapeOf; obtain ⟨ub, ud, rfl⟩ := r7.shapeOf; have HS7 := hide s7; have H13 := hide (hRecords_any x7 r7 (by have := HOL.out; omega)); have q0 : w7.cell? ⟨xb, 0, none⟩ = _ := HS7.out.q.bx.cellAt 0; have q1 : w7.cell? ⟨xb, 1, none⟩ = _ := HS7.out.q.bx.cellAt 1; have q2 : w7.cell? ⟨xb, 2, none⟩ = _ := HS7.out.q.bx.cellAt 2; have q3 : w7.cell? ⟨xb, 3, none⟩ = _ := HS7.out.q.bx.cellAt 3; have q4 : w7.cell? ⟨xb, 4, none⟩ = _ := HS7.out.q.bx.cellAt 4; clear r7 x7 s7)
     | (go_at_call 13; refine H13.out.mono ?_; rintro e w8 ⟨rfl, b8⟩; have HS8 := hide (HS7.out.below b8); have p0 : w8.cell? ⟨xb, 0, none⟩ = _ := HS8.out.q.bx.cellAt 0; have p1 : w8.cell? ⟨xb, 1, none⟩ = _ := HS8.out.q.bx.cellAt 1; have p2 : w8.cell? ⟨xb, 2, none⟩ = _ := HS8.out.q.bx.cellAt 2; have p3 : w8.cell? ⟨xb, 3, none⟩ = _ := HS8.out.q.bx.cellAt 3; have p4 : w8.cell? ⟨xb, 4, none⟩ = _ := HS8.out.q.bx.cellAt 4; clear b8)
     | fail)
    clear HSD HMA HM6 HRB HS7 H13 y0 y1 y2 y3 y4 z0 z1 z2 z3 z4 q0 q1 q2 q3 q4 p0 p1 p2 p3 p4 HS HOL
    go_upto_region 23 with fail
    have HT0 := hide (HS8.out.below (Below.refl _ _).drew)
    have HLT := hide (HT0.out.late)
    refine wp_region_M (S := fun w' => w'.cell? ⟨o, 10, none⟩ = some lv7 ∧ w'.cell? ⟨o, 12, none⟩ = some (.int .i64 d)) (late := []) (by kernel_rfl) ((show _ ∧ _ from ⟨HT0.out.q.b.box.cellAt 10, HT0.out.q.b.box.cellAt 12⟩)) (fun hH => ?_)
    (try simp only [nr, Nat.reduceAdd])
    refine tkA 0 hH ?_; simp only [nm]; refine tkA 2 hH ?_; simp only [nm]; refine tkA 3 hH ?_; simp only [nm]; refine tkA 4 hH ?_; simp only [nm]; refine tkA 5 hH ?_; simp only [nm]
    refine tkO 1 fun Kc hK => ?_
    go_simp
    go_at_call 20
    refine (HLT.out).mono ?_
    rintro e w21 ⟨rfl, b21⟩
    have HT1 := hide (HT0.out.below b21)
    have HPA := hide (HT1.out.panA HN.out)
    clear b21
    refine hK.out _ _ ((show _ ∧ _ from ⟨HT1.out.q.b.box.cellAt 10, HT1.out.q.b.box.cellAt 12⟩)) (fun hH => ?_)
    clear hK Kc
    (try simp only [nm])
    refine tkA 6 hH ?_; simp only [nm]
    (try simp only [bne_self_eq_false])
    refine tkA 7 hH ?_; simp only [nm]
    (try simp only [bne_self_eq_false])
    refine tkA 8 hH ?_; simp only [nm]; refine tkA 10 hH ?_; simp only [nm]; refine tkA 11 hH ?_; simp only [nm]; refine tkA 12 hH ?_; simp only [nm]; refine tkA 13 hH ?_; simp only [nm]
    refine tkO 9 fun Kc hK => ?_
    go_simp
    go_at_call 19
    refine (HPA.out).mono ?_
    rintro e w22 ⟨u22, G22, rfl, l22, q22, s22⟩
    have HT2 := hide s22
    have L22 := hide l22
    have HSB := hide (HT2.out.sortB HN.out)
    clear l22 q22 s22
    refine hK.out _ _ ((show _ ∧ _ from ⟨HT2.out.q.b.box.cellAt 10, HT2.out.q.b.box.cellAt 12⟩)) (fun hH => ?_)
    clear hK Kc
    (try simp only [nm])
    refine tkO 14 fun Kc hK => ?_
    go_simp
    go_at_call 22
    refine (HSB.out).mono ?_
    rintro e w23 ⟨u23, rfl, l23, b23⟩
    have HT3 := hide (HT2.out.below b23)
    have H21 := hide (hPanes_any (L22.out.on b23) l23 (by rw [srt_len]; have := HT2.out.q.a.len; have := HN.out; omega))
    clear l23 b23
    refine hK.out _ _ ((show _ ∧ _ from ⟨HT3.out.q.b.box.cellAt 10, HT3.out.q.b.box.cellAt 12⟩)) (fun hH => ?_)
    clear hK Kc
    (try simp only [nm])
    refine tkO 15 fun Kc hK => ?_
    go_simp
    go_at_call 21
    refine (H21.out).mono ?_
    rintro e w24 ⟨rfl, b24⟩
    have HT4 := hide (HT3.out.below b24)
    clear b24
    refine hK.out _ _ ((show _ ∧ _ from ⟨HT4.out.q.b.box.cellAt 10, HT4.out.q.b.box.cellAt 12⟩)) (fun hH => ?_)
    clear hK Kc
    (try simp only [nm])
    refine tkA 16 hH ?_; simp only [nm]; refine tkA 17 hH ?_; simp only [nm]
    refine wpAnyM_done (by kernel_rfl) ?_ _
    go_wp2_with fail
    go_roundg go
    case rel => exact ⟨i + 1, G22, (leftMk nd g mk X), (max g mk), d, lv7, l7, g7, _, _, _, by go_num, by omega, by omega, (show QS _ _ _ _ _ _ _ _ _ _ _ _ _ _ _ _ from HT4.out.more (by omega))⟩
    case measure => omega
   ·have HPA0 := hide (HS.out.panA HN.out)
    go_upto_region 23 with (first
     | (go_at_call 19; refine HPA0.out.mono ?_; rintro e w6 ⟨u6, G1, rfl, l6, v6, s6⟩; have HM6 := hide s6; have HLD := hide (HM6.out.loadA HN.out l6 v6); clear l6 v6 s6)
     | (go_at_call 18; refine HLD.out.mono ?_; rintro e w8 ⟨rfl, G8, Y8, s8⟩; have HS8 := hide s8; clear s8))
    clear e0 e1 e2 e3 e4 HPA0 HM6 HLD HS
    have HT0 := hide (HS8.out.below (Below.refl _ _).drew)
    have HLT := hide (HT0.out.late)
    refine wp_region_M (S := fun w' => w'.cell? ⟨o, 10, none⟩ = some lv ∧ w'.cell? ⟨o, 12, none⟩ = some (.int .i64 d)) (late := []) (by kernel_rfl) ((show _ ∧ _ from ⟨HT0.out.q.b.box.cellAt 10, HT0.out.q.b.box.cellAt 12⟩)) (fun hH => ?_)
    (try simp only [nr, Nat.reduceAdd])
    refine tkA 0 hH ?_; simp only [nm]; refine tkA 2 hH ?_; simp only [nm]; refine tkA 3 hH ?_; simp only [nm]; refine tkA 4 hH ?_; simp only [nm]; refine tkA 5 hH ?_; simp only [nm]
    refine tkO 1 fun Kc hK => ?_
    go_simp
    go_at_call 20
    refine (HLT.out).mono ?_
    rintro e w21 ⟨rfl, b21⟩
    have HT1 := hide (HT0.out.below b21)
    have HPA := hide (HT1.out.panA HN.out)
    clear b21
    refine hK.out _ _ ((show _ ∧ _ from ⟨HT1.out.q.b.box.cellAt 10, HT1.out.q.b.box.cellAt 12⟩)) (fun hH => ?_)
    clear hK Kc
    (try simp only [nm])
    refine tkA 6 hH ?_; simp only [nm]
    (try simp only [bne_self_eq_false])
    refine tkA 7 hH ?_; simp only [nm]
    (try simp only [bne_self_eq_false])
    refine tkA 8 hH ?_; simp only [nm]; refine tkA 10 hH ?_; simp only [nm]; refine tkA 11 hH ?_; simp only [nm]; refine tkA 12 hH ?_; simp only [nm]; refine tkA 13 hH ?_; simp only [nm]
    refine tkO 9 fun Kc hK => ?_
    go_simp
    go_at_call 19
    refine (HPA.out).mono ?_
    rintro e w22 ⟨u22, G22, rfl, l22, q22, s22⟩
    have HT2 := hide s22
    have L22 := hide l22
    have HSB := hide (HT2.out.sortB HN.out)
    clear l22 q22 s22
    refine hK.out _ _ ((show _ ∧ _ from ⟨HT2.out.q.b.box.cellAt 10, HT2.out.q.b.box.cellAt 12⟩)) (fun hH => ?_)
    clear hK Kc
    (try simp only [nm])
    refine tkO 14 fun Kc hK => ?_
    go_simp
    go_at_call 22
    refine (HSB.out).mono ?_
    rintro e w23 ⟨u23, rfl, l23, b23⟩
    have HT3 := hide (HT2.out.below b23)
    have H21 := hide (hPanes_any (L22.out.on b23) l23 (by rw [srt_len]; have := HT2.out.q.a.len; have := HN.out; omega))
    clear l23 b23
    refine hK.out _ _ ((show _ ∧ _ from ⟨HT3.out.q.b.box.cellAt 10, HT3.out.q.b.box.cellAt 12⟩)) (fun hH => ?_)
    clear hK Kc
    (try simp only [nm])
    refine tkO 15 fun Kc hK => ?_
    go_simp
    go_at_call 21
    refine (H21.out).mono ?_
    rintro e w24 ⟨rfl, b24⟩
    have HT4 := hide (HT3.out.below b24)
    clear b24
    refine hK.out _ _ ((show _ ∧ _ from ⟨HT4.out.q.b.box.cellAt 10, HT4.out.q.b.box.cellAt 12⟩)) (fun hH => ?_)
    clear hK Kc
    (try simp only [nm])
    refine tkA 16 hH ?_; simp only [nm]; refine tkA 17 hH ?_; simp only [nm]
    refine wpAnyM_done (by kernel_rfl) ?_ _
    go_wp2_with fail
    go_roundg go
    case rel => exact ⟨i + 1, G22, Y8, g, d, lv, l, g2, _, _, _, by go_num, by omega, by omega, (show QS _ _ _ _ _ _ _ _ _ _ _ _ _ _ _ _ from HT4.out.more (by omega))⟩
    case measure => omega
   ·have bx0 : (wh == 0) = false := by simp [bw0]
    have bx1 : (wh == 1) = false := by simp [bw1]
    have bx2 : (wh == 2) = false := by simp [bw2]
    have bx3 : (wh == 3) = false := by simp [bw3]
    have bx4 : (wh == 4) = false := by simp [bw4]
    go_upto_region 23 with fail
    clear e0 e1 e2 e3 e4 bx0 bx1 bx2 bx3 bx4 bw0 bw1 bw2 bw3 bw4
    have HT0 := hide (HS.out.below (Below.refl _ _).drew)
    have HLT := hide (HT0.out.late)
    refine wp_region_M (S := fun w' => w'.cell? ⟨o, 10, none⟩ = some lv ∧ w'.cell? ⟨o, 12, none⟩ = some (.int .i64 d)) (late := []) (by kernel_rfl) ((show _ ∧ _ from ⟨HT0.out.q.b.box.cellAt 10, HT0.out.q.b.box.cellAt 12⟩)) (fun hH => ?_)
    (try simp only [nr, Nat.reduceAdd])
    refine tkA 0 hH ?_; simp only [nm]; refine tkA 2 hH ?_; simp only [nm]; refine tkA 3 hH ?_; simp only [nm]; refine tkA 4 hH ?_; simp only [nm]; refine tkA 5 hH ?_; simp only [nm]
    refine tkO 1 fun Kc hK => ?_
    go_simp
    go_at_call 20
    refine (HLT.out).mono ?_
    rintro e w21 ⟨rfl, b21⟩
    have HT1 := hide (HT0.out.below b21)
    have HPA := hide (HT1.out.panA HN.out)
    clear b21
    refine hK.out _ _ ((show _ ∧ _ from ⟨HT1.out.q.b.box.cellAt 10, HT1.out.q.b.box.cellAt 12⟩)) (fun hH => ?_)
    clear hK Kc
    (try simp only [nm])
    refine tkA 6 hH ?_; simp only [nm]
    (try simp only [bne_self_eq_false])
    refine tkA 7 hH ?_; simp only [nm]
    (try simp only [bne_self_eq_false])
    refine tkA 8 hH ?_; simp only [nm]; refine tkA 10 hH ?_; simp only [nm]; refine tkA 11 hH ?_; simp only [nm]; refine tkA 12 hH ?_; simp only [nm]; refine tkA 13 hH ?_; simp only [nm]
    refine tkO 9 fun Kc hK => ?_
    go_simp
    go_at_call 19
    refine (HPA.out).mono ?_
    rintro e w22 ⟨u22, G22, rfl, l22, q22, s22⟩
    have HT2 := hide s22
    have L22 := hide l22
    have HSB := hide (HT2.out.sortB HN.out)
    clear l22 q22 s22
    refine hK.out _ _ ((show _ ∧ _ from ⟨HT2.out.q.b.box.cellAt 10, HT2.out.q.b.box.cellAt 12⟩)) (fun hH => ?_)
    clear hK Kc
    (try simp only [nm])
    refine tkO 14 fun Kc hK => ?_
    go_simp
    go_at_call 22
    refine (HSB.out).mono ?_
    rintro e w23 ⟨u23, rfl, l23, b23⟩
    have HT3 := hide (HT2.out.below b23)
    have H21 := hide (hPanes_any (L22.out.on b23) l23 (by rw [srt_len]; have := HT2.out.q.a.len; have := HN.out; omega))
    clear l23 b23
    refine hK.out _ _ ((show _ ∧ _ from ⟨HT3.out.q.b.box.cellAt 10, HT3.out.q.b.box.cellAt 12⟩)) (fun hH => ?_)
    clear hK Kc
    (try simp only [nm])
    refine tkO 15 fun Kc hK => ?_
    go_simp
    go_at_call 21
    refine (H21.out).mono ?_
    rintro e w24 ⟨rfl, b24⟩
    have HT4 := hide (HT3.out.below b24)
    clear b24
    refine hK.out _ _ ((show _ ∧ _ from ⟨HT4.out.q.b.box.cellAt 10, HT4.out.q.b.box.cellAt 12⟩)) (fun hH => ?_)
    clear hK Kc
    (try simp only [nm])
    refine tkA 16 hH ?_; simp only [nm]; refine tkA 17 hH ?_; simp only [nm]
    refine wpAnyM_done (by kernel_rfl) ?_ _
    go_wp2_with fail
    go_roundg go
    case rel => exact ⟨i + 1, G22, X, g, d, lv, l, g2, _, _, _, by go_num, by omega, by omega, (show QS _ _ _ _ _ _ _ _ _ _ _ _ _ _ _ _ from HT4.out.more (by omega))⟩
    case measure => omega
  ·have bt : ¬ (i : Int) < (xs.length : Int) := by omega
   go_wp2_with fail
   go_ret
   exact ⟨rfl, HS.out.q.bl⟩
end Go.Proofs.YtpcbhcdpegbfjaaGreat
