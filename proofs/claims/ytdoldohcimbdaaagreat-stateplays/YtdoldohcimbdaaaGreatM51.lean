/-
  Texts in build order: SLawPl.
-/
import Derived.Test.YtdoldohcimbdaaaGreatM50
import Derived.Test.YtdoldohcimbdaaaGreatM34
import Derived.Test.YtdoldohcimbdaaaGreatM36
import Derived.Test.YtdoldohcimbdaaaGreatM40
import Derived.Deep.CutBlock
import Derived.Deep.CutRange
/-
  The law StatePlays, walked.
-/
namespace Go.Proofs.YtdoldohcimbdaaaGreat
open Go.RowKit

/-- A step of a script. -/
structure Stp where
  wh : Int
  rk : Int
  rt : Int
  rv : Int
  mm : Int
def Stp.cs (x : Stp) : List Value := [.int .i64 x.wh, .int .i64 x.rk, .int .i64 x.rt, .int .i64 x.rv, .int .i64 x.mm]
theorem LSeg.stp {B : Nat} {w : World} {ao : Option Addr} {n cap : Nat} {xs : List Stp} (h : LSeg 5 Stp.cs B w (.slice ao n cap) xs) {i : Nat} {x : Stp} (hx : xs[i]? = some x) : ∃ b o, ao = some ⟨b, o, none⟩ ∧ b < B ∧ w.cell? ⟨b, o + i * 5, none⟩ = some (.int .i64 x.wh) ∧ w.cell? ⟨b, o + i * 5 + 1, none⟩ = some (.int .i64 x.rk) ∧ w.cell? ⟨b, o + i * 5 + 2, none⟩ = some (.int .i64 x.rt) ∧ w.cell? ⟨b, o + i * 5 + 3, none⟩ = some (.int .i64 x.rv) ∧ w.cell? ⟨b, o + i * 5 + 4, none⟩ = some (.int .i64 x.mm) := by
  obtain ⟨ao', cap', e, _, hs⟩ := h
  cases e
  rcases hs with rfl | ⟨b, off, rfl, hb, hc⟩
  · simp at hx
  · exact ⟨b, off, rfl, hb, hc i x hx 0 _ rfl, hc i x hx 1 _ rfl, hc i x hx 2 _ rfl, hc i x hx 3 _ rfl, hc i x hx 4 _ rfl⟩
theorem wp_at {c : Code} {Q : Exit → Act → World → Prop} {a : Act} {w : World} (P : World → Prop) (h : P w) (k : ∀ W, P W → c.wp Tryz.prog Q a W) : c.wp Tryz.prog Q a w := k w h
theorem next_take {L : List Pn} {i : Nat} {x : Pn} (h : L[i]? = some x) : nextP (L.take (i + 1)) = min (nextP (L.take i)) (lastP x) := by
  have hl := lt_of_get h
  have e : L[i] = x := by rw [List.getElem?_eq_getElem hl] at h; exact Option.some.inj h
  unfold nextP
  rw [List.take_succ_eq_append_getElem hl, e, List.foldl_append]; rfl
theorem BoxT.all5 {t : TypeId} {W : World} {R : Nat} {a0 a1 a2 a3 a4 : Value} (h : BoxT t W R #[a0, a1, a2, a3, a4]) : W.cell? ⟨R, 0, none⟩ = some a0 ∧ W.cell? ⟨R, 1, none⟩ = some a1 ∧ W.cell? ⟨R, 2, none⟩ = some a2 ∧ W.cell? ⟨R, 3, none⟩ = some a3 ∧ W.cell? ⟨R, 4, none⟩ = some a4 := by
  unfold BoxT at h
  simp [World.cell?, h]
set_option maxHeartbeats 8000000 in
set_option maxRecDepth 100000 in
theorem StatePlays_walk {w : World} {v : Value} {xs : List Stp} (hl : LSeg 5 Stp.cs w.heap.size w v xs) (hrs : ∀ r ∈ xs, In64 r.rk ∧ In64 r.rv) {k size slide : Int} (hs : In64 size) (hsl : In64 slide) (a : Int) :
    Calls Tryz.prog 3 #[.agg #[.int .i64 k, .int .i64 size, .int .i64 slide], .int .i64 a, v] w fun e w' => e = .returned (.bool true) ∧ Below w.heap.size w w' := by
  obtain ⟨ao, cap, rfl⟩ := hl.shapeOf
  have HB0 := hide (below_box w (.cells #[.int .i64 k, .int .i64 size, .int .i64 slide] 23))
  have HBX := hide (BoxT.new 23 w #[.int .i64 k, .int .i64 size, .int .i64 slide])
  have HK := hide (fun W => known_any W)
  by_cases hF : FitS k size slide a
  case neg =>
    have HFT := hide (fit_no hF)
    clear hl hF
    go_enter Tryz.func3, Tryz.ntmps3
    go_wp2_with (first
      | (go_at_call 4; refine (HK.out _).mono ?_; rintro e w1 ⟨rfl, b1⟩; have HB1 := hide (HB0.out.trans (b1.mono HB0.out.size)); have HX1 := hide (BoxT.below (t := 23) HBX.out b1); obtain ⟨y0, y1, y2⟩ := HX1.out.cells3; clear b1)
      | (go_at_call 5; refine (HFT.out _).mono ?_; rintro e w2 ⟨rfl, b2⟩; have HB2 := hide (HB1.out.trans (b2.mono HB1.out.size)); have HX2 := hide (BoxT.below (t := 23) HX1.out b2); obtain ⟨z0, z1, z2⟩ := HX2.out.cells3; clear b2 y0 y1 y2))
    go_ret
    exact ⟨rfl, HB2.out⟩
  have HFT := hide (fit_yes hF)
  have HF := hide hF
  clear hF
  by_cases hn : (80 : Int) < (xs.length : Int)
  · clear hl
    go_enter Tryz.func3, Tryz.ntmps3
    go_wp2_with (first
      | (go_at_call 4; refine (HK.out _).mono ?_; rintro e w1 ⟨rfl, b1⟩; have HB1 := hide (HB0.out.trans (b1.mono HB0.out.size)); have HX1 := hide (BoxT.below (t := 23) HBX.out b1); obtain ⟨y0, y1, y2⟩ := HX1.out.cells3; clear b1)
      | (go_at_call 5; refine (HFT.out _).mono ?_; rintro e w2 ⟨rfl, b2⟩; have HB2 := hide (HB1.out.trans (b2.mono HB1.out.size)); have HX2 := hide (BoxT.below (t := 23) HX1.out b2); obtain ⟨z0, z1, z2⟩ := HX2.out.cells3; clear b2 y0 y1 y2))
    go_ret
    exact ⟨rfl, HB2.out⟩
  have HL := hide hl
  have HRS := hide hrs
  have HS := hide hs
  have HSL := hide hsl
  have hn80 : xs.length ≤ 80 := by omega
  have HN1 := hide (fun W => New_any W k size slide a)
  have HN2 : Hid (∀ W, _) := fun W => node_any W (k := k) (size := size) (slide := slide) (a := a) (fun e => by
    rcases HF.out.2.2 with h | h
    · exact ⟨h.2.1, h.2.2⟩
    · have := h.1; omega)
  have HN3 := hide (fun W => rNew_any W k size slide a)
  clear hl hrs hs hsl
  go_enter Tryz.func3, Tryz.ntmps3
  go_upto_region 5 with (first
    | (go_at_call 4; refine (HK.out _).mono ?_; rintro e w1 ⟨rfl, b1⟩; have HB1 := hide (HB0.out.trans (b1.mono HB0.out.size)); have HX1 := hide (BoxT.below (t := 23) HBX.out b1); obtain ⟨y0, y1, y2⟩ := HX1.out.cells3; clear b1)
    | (go_at_call 5; refine (HFT.out _).mono ?_; rintro e w2 ⟨rfl, b2⟩; have HB2 := hide (HB1.out.trans (b2.mono HB1.out.size)); have HX2 := hide (BoxT.below (t := 23) HX1.out b2); obtain ⟨z0, z1, z2⟩ := HX2.out.cells3; clear b2 y0 y1 y2))
  clear HK HFT HB1 HX1 HBX HB0
  have HX2d := hide (BoxT.below (t := 23) HX2.out ((Below.refl _ _).drew))
  obtain ⟨y0, y1, y2⟩ := HX2d.out.cells3
  have HB2d := hide HB2.out.drew
  clear HB2 z0 z1 z2
  go_region_held3 (fun w' => w'.cell? ⟨w.heap.size, 0, none⟩ = some (.int .i64 k) ∧ w'.cell? ⟨w.heap.size, 1, none⟩ = some (.int .i64 size) ∧ w'.cell? ⟨w.heap.size, 2, none⟩ = some (.int .i64 slide)) (first | go_keep | exact ⟨y0, y1, y2⟩ | exact ⟨x0, x1, x2⟩ | exact ⟨q0, q1, q2⟩ | exact ⟨z0, z1, z2⟩)
    (first
    | (go_at_call 6; refine (HN1.out w2.drew).mono ?_; rintro e w3 ⟨s, fp, rfl, s3, f3, b3⟩; have HX3 := hide (BoxT.below (t := 23) HX2d.out b3); have HB3 := hide (HB2d.out.trans (b3.mono HB2d.out.size)); have S3 := hide s3; have F3 : Hid (∀ i, fp i → w.heap.size + 1 ≤ i) := (show ∀ i, _ from fun i hi => Nat.le_trans HX2d.out.lt (f3 i hi)); obtain ⟨x0, x1, x2⟩ := HX3.out.cells3; clear s3 f3 b3)
    | (go_at_call 8; refine (HN2.out w3).mono ?_; rintro e w4 ⟨rfl, b4⟩; have HX4 := hide (BoxT.below (t := 23) HX3.out b4); have HB4 := hide (HB3.out.trans (b4.mono HB3.out.size)); have S4 := hide (S3.out.below b4); obtain ⟨q0, q1, q2⟩ := HX4.out.cells3; clear b4)
    | (go_at_call 7; refine (HN3.out w4).mono ?_; rintro e w5 ⟨o, rfl, h5, g5, b5⟩; have T5 : Hid (PW w w5 s o k size slide a fp [] (.slice none 0 0) []) := (show PW _ _ _ _ _ _ _ _ _ _ _ _ from ⟨S4.out.below b5, ⟨h5, LSeg.nil' _ _ _ _, fun e => absurd rfl e, (S4.out.below b5).flt, fun e => absurd rfl e⟩, F3.out, Nat.le_trans HX4.out.lt g5, fun e => by have := S4.out.flt o e; omega, HB4.out.trans (b5.mono HB4.out.size), BoxT.below (t := 23) HX4.out b5⟩); obtain ⟨z0, z1, z2⟩ := (BoxT.below (t := 23) HX4.out b5).cells3; clear h5 g5 b5))
  clear HN1 HN2 HN3 HX2 HX2d HX3 HX4 HB2d HB3 HB4 S3 S4 F3 x0 x1 x2 y0 y1 y2 q0 q1 q2 z0 z1 z2
  go_wp2_with fail
  go_loopg [7, 9, 10, 11, 12, 13, 14, 15, 16, 17, 18, 19] (xs.length + 1) (fun gh sv iv _ _ _ _ _ _ _ _ _ _ wr => ∃ (i s : Nat) (fp : Nat → Prop) (M : List Pn) (lv : Value) (l : List Pn), sv = .pointer (some ⟨s, 0, none⟩) ∧ iv = .int .i64 (i : Int) ∧ i ≤ xs.length ∧ xs.length + 1 ≤ gh + i ∧ Hid (PW w wr s o k size slide a fp M lv l) ∧ Hid (Pp k M l i))
  case atStart => exact ⟨0, s, fp, [], _, [], rfl, rfl, by omega, by omega, T5, ⟨.refl _, .nil, (fun x hx => (by cases hx)), by simp⟩⟩
  case round =>
    clear T5 fp
    obtain ⟨i, s, fp, M, lv, l, rfl, rfl, hi, hg, GT, GP⟩ := hrel
    obtain ⟨go, rfl⟩ : ∃ go, gk = go + 1 := ⟨gk - 1, by omega⟩
    by_cases hlt : i < xs.length
    · obtain ⟨x, hx⟩ := get_of_lt hlt
      have bt : (i : Int) < (xs.length : Int) := by omega
      obtain ⟨nb, no, rfl, nlt, e0, e1, e2, e3, e4⟩ := (HL.out.below GT.out.bl).stp hx
      have HIN := hide (HRS.out x (List.mem_of_getElem? hx))
      obtain ⟨wh, rk, rt, rv, mk⟩ := x
      simp only at e0 e1 e2 e3 e4 HIN
      clear hx
      have HML : Hid (M.length ≤ 5120) := (show M.length ≤ 5120 by have := GP.out.ln; omega)
      go_upto_region 10 with fail
      clear e0 e1 e2 e3 e4
      refine wp_at (fun W => PW w W s o k size slide a fp M lv l ∧ BoxT 41 W wr.heap.size #[.int .i64 wh, .int .i64 rk, .int .i64 rt, .int .i64 rv, .int .i64 mk] ∧ ∀ i, fp i → i < wr.heap.size) ⟨GT.out.grow (below_box _ _), BoxT.new _ _ _, GT.out.sa.flt⟩ ?_
      clear GT
      generalize wr.heap.size = xb at *
      rintro V ⟨GT, XB, hfx⟩
      have HGT := hide GT
      have HXB := hide XB
      have HFX := hide hfx
      obtain ⟨x0, x1, x2, x3, x4⟩ := XB.all5
      clear GT XB hfx
      go_upto_block 2 with fail
      go_cut [7, 11, 12, 13, 14] from 38 to 185 (fun sv _ _ _ _ wx => ∃ (s : Nat) (fp : Nat → Prop) (M : List Pn) (lv : Value) (l : List Pn), sv = .pointer (some ⟨s, 0, none⟩) ∧ Hid (PW w wx s o k size slide a fp M lv l) ∧ Hid (Pp k M l (i + 1)))
      case first =>
        have hll : l.length ≤ 5120 := by rw [← GP.out.pm.length_eq]; exact HML.out
        have HLL := hide hll
        clear hll
        by_cases h03 : wh = 0 ∨ wh = 1 ∨ wh = 2 ∨ wh = 3
        · by_cases hT : TimeOk rt
          · have HT := hide hT
            have HTI := hide (time_yes hT)
            have HPU := hide (HGT.out.put HF.out HS.out HSL.out rk rt rv HIN.out.1 HIN.out.2 hT (by have := HML.out; omega) GP.out.ap)
            clear hT
            rcases h03 with rfl | rfl | rfl | rfl
            all_goals
              go_upto_region 18 with (first
                | (go_at_call 9; refine (HTI.out _).mono ?_; rintro e w5 ⟨rfl, e5⟩; subst e5)
                | (go_at_call 10; refine HPU.out.mono ?_; rintro e w6 ⟨rfl, fp2, M2, g6, c6, k6⟩; have G6 := hide g6; have C6 := hide c6; have X6 : Hid (BoxT 41 w6 xb _) := (show BoxT _ _ _ _ from HXB.out.back (k6 xb HXB.out.lt (fun e => Nat.lt_irrefl _ (HFX.out xb e)))); clear g6 c6 k6))
              have frO := G6.out.op.box.free
              have cO := G6.out.op.box.cellAt 11
              have hxo : xb ≠ o := X6.out.ne G6.out.op.box (by decide)
              clear x0 x1 x2 x3 x4
              go_upto_region 19 with fail
              refine wp_at (fun W => PW w W s o k size slide a fp2 M2 lv l ∧ BoxT 41 W xb _) ⟨G6.out.mark, X6.out.other _ _ hxo⟩ ?_
              clear G6 X6 frO cO
              rintro V2 ⟨G7, X7⟩
              have HG7 := hide G7
              obtain ⟨x0, x1, x2, x3, x4⟩ := X7.all5
              have HRC := hide (G7.record HF.out rk rt rv HT.out (by have := HLL.out; omega) (GP.out.ap.perm GP.out.pm) (fun e x hx => (GP.out.gd x (GP.out.pm.mem_iff.2 hx)).2 e))
              clear G7 X7
              go_wp2_with (first | (go_at_call 11; refine HRC.out.mono ?_; rintro e w8 ⟨u8, lv8, l8, rfl, g8, c8⟩; have G8 := hide g8; have C8 := hide c8; clear g8 c8) | fail)
              go_meet
              case rel => exact ⟨s, fp2, M2, lv8, l8, rfl, G8, GP.out.put HF.out (r := ⟨rk, rt, rv⟩) HT.out C6.out C8.out⟩
          · have HTI := hide (time_no hT)
            clear hT
            rcases h03 with rfl | rfl | rfl | rfl
            all_goals
              go_wp2_with (first | (go_at_call 9; refine (HTI.out _).mono ?_; rintro e w5 ⟨rfl, e5⟩; subst e5) | fail)
              go_ret
              exact ⟨rfl, HGT.out.bl⟩
        · have b0 : (wh == 0) = false := by simp; omega
          have b1 : (wh == 1) = false := by simp; omega
          have b2 : (wh == 2) = false := by simp; omega
          have b3 : (wh == 3) = false := by simp; omega
          have b0' : ¬ wh = 0 := by omega
          have b1' : ¬ wh = 1 := by omega
          have b2' : ¬ wh = 2 := by omega
          have b3' : ¬ wh = 3 := by omega
          clear h03
          by_cases h4 : wh = 4
          · subst h4
            go_upto_region 21 with fail
            have BD : Hid (Below V.heap.size V V.drew) := (Below.refl _ _).drew
            have HGD := hide (HGT.out.grow BD.out)
            have HXD := hide (BoxT.below (t := 41) HXB.out BD.out)
            have y0 : V.drew.cell? ⟨w.heap.size, 0, none⟩ = some (.int .i64 k) := HGD.out.bx.cells3.1
            have y1 : V.drew.cell? ⟨o, 10, none⟩ = some lv := HGD.out.op.box.cellAt 10
            have y2 : V.drew.cell? ⟨xb, 4, none⟩ = some (.int .i64 mk) := HXD.out.all5.2.2.2.2
            have HFI := hide (HGD.out.fires mk (by have := HLL.out; omega))
            clear x0 x1 x2 x3 x4
            go_region_held3 (fun w' => w'.cell? ⟨w.heap.size, 0, none⟩ = some (.int .i64 k) ∧ w'.cell? ⟨o, 10, none⟩ = some lv ∧ w'.cell? ⟨xb, 4, none⟩ = some (.int .i64 mk)) (first | go_keep | exact ⟨y0, y1, y2⟩ | exact ⟨z0, z1, z2⟩)
              (first | (go_at_call 12; refine HFI.out.mono ?_; rintro e w5 ⟨u1, ua, un, uc, rfl, o1, b5, cl⟩; have O1 := hide o1; have B5 := hide b5; have CL := hide cl; have HG5 := hide (HGD.out.grow b5); have HX5 := hide (BoxT.below (t := 41) HXD.out b5); have z0 : w5.cell? ⟨w.heap.size, 0, none⟩ = some (.int .i64 k) := HG5.out.bx.cells3.1; have z1 : w5.cell? ⟨o, 10, none⟩ = some lv := HG5.out.op.box.cellAt 10; have z2 : w5.cell? ⟨xb, 4, none⟩ = some (.int .i64 mk) := HX5.out.all5.2.2.2.2; clear o1 b5 cl) | fail)
            have frO := HG5.out.op.box.free
            have hxo : xb ≠ o := HX5.out.ne HG5.out.op.box (by decide)
            have hoW : o < V.drew.heap.size := HGD.out.op.box.lt
            clear y0 y1 y2 z0 z2
            go_upto_region 23 with fail
            refine wp_at (fun W => PW w W s o k size slide a fp M (.slice ua un uc) (leftK k mk l) ∧ BoxT 41 W xb _ ∧ OwnL 39 3 Rc.cs V.drew.heap.size W u1 (outK k mk l)) ⟨CL.out _ (Below.refl _ _), HX5.out.other _ _ hxo, O1.out.back (fun g e => Below.heap_setCell w5 ⟨o, 10, none⟩ _ g (fun e2 => by have := O1.out.at g e; have e3 : g = o := e2; omega))⟩ ?_
            clear CL HX5 HG5 O1 B5 HGD HXD HFI frO z1
            rintro V2 ⟨G7, X7, O7⟩
            have hfv : ∀ i, fp i → i < V.drew.heap.size := fun i hi => HGT.out.sa.flt i hi
            obtain ⟨x0, x1, x2, x3, x4⟩ := X7.all5
            have HFR := hide (G7.fire mk (by have := HML.out; omega) GP.out)
            have O7h := hide O7
            clear G7 X7 O7
            go_wp2_with (first
              | (go_at_call 14; refine HFR.out.mono ?_; rintro e w7 ⟨u7, fp7, rfl, s7, g7, k7⟩; have G7h := hide g7; have S7 := hide s7; have O8 := hide ((O7h.out.aside k7 hfv).seg Rc.cs_len (by have h1 := out_len mk (srt l); have h2 := HLL.out; unfold outK; split <;> simp <;> rw [srt_len] at h1 <;> omega)); clear s7 g7 k7)
              | (go_at_call 13; refine (hRecords_any S7.out O8.out (by have h1 := out_len mk (srt l); have h2 := HLL.out; unfold outK; split <;> simp <;> rw [srt_len] at h1 <;> omega)).mono ?_; rintro e w8 ⟨rfl, b8⟩; have G8 := hide (G7h.out.grow b8); clear b8))
            go_meet
            case rel => exact ⟨s, fp7, leftM k mk M, _, leftK k mk l, rfl, G8, GP.out.fireK mk⟩
          · have b4 : (wh == 4) = false := by simp; omega
            have b4' : ¬ wh = 4 := h4
            by_cases h5 : wh = 5
            · subst h5
              have HPN := hide (Panes_any HGT.out.sa (by have := HML.out; omega))
              go_wp2_with (first
                | (go_at_call 16; refine HPN.out.mono ?_; rintro e w5 ⟨u5, rfl, r5, b5⟩; have HLD := hide (HGT.out.load GP.out (by have := HML.out; omega) r5 b5); clear r5 b5)
                | (go_at_call 15; refine HLD.out.mono ?_; rintro e w6 ⟨rfl, fp6, M6, g6, p6⟩; have G6 := hide g6; have P6 := hide p6; clear g6 p6))
              go_meet
              case rel => exact ⟨s, fp6, M6, lv, l, rfl, G6, GP.out.swap P6.out⟩
            · have b5 : (wh == 5) = false := by simp; omega
              have b5' : ¬ wh = 5 := h5
              by_cases h6 : wh = 6
              · subst h6
                go_upto_region 28 with fail
                have BD : Hid (Below V.heap.size V V.drew) := (Below.refl _ _).drew
                have HGD := hide (HGT.out.grow BD.out)
                obtain ⟨y0, y1, y2⟩ := HGD.out.bx.cells3
                have HBY := hide (Bytes_any HGD.out.sa (by have := HML.out; omega))
                clear x0 x1 x2 x3 x4
                go_region_held3 (fun w' => w'.cell? ⟨w.heap.size, 0, none⟩ = some (.int .i64 k) ∧ w'.cell? ⟨w.heap.size, 1, none⟩ = some (.int .i64 size) ∧ w'.cell? ⟨w.heap.size, 2, none⟩ = some (.int .i64 slide)) (first | go_keep | exact ⟨y0, y1, y2⟩ | exact ⟨z0, z1, z2⟩ | exact ⟨q0, q1, q2⟩)
                  (first
                  | (go_at_call 18; refine HBY.out.mono ?_; rintro e w5 ⟨u5, rfl, o5, b5⟩; have HOP := hide (HGD.out.open_ GP.out (by have := HML.out; omega) o5 b5); obtain ⟨z0, z1, z2⟩ := (HGD.out.grow b5).bx.cells3; clear o5 b5)
                  | (go_at_call 17; refine HOP.out.mono ?_; rintro e w6 ⟨s6, fp6, M6, rfl, g6, p6⟩; have G6 := hide g6; have P6 := hide p6; obtain ⟨q0, q1, q2⟩ := g6.bx.cells3; clear g6 p6))
                clear y0 y1 y2 z0 z1 z2 q0 q1 q2
                go_wp2_with fail
                go_meet
                case rel => exact ⟨s6, fp6, M6, lv, l, rfl, G6, GP.out.swap P6.out⟩
              · have b6 : (wh == 6) = false := by simp; omega
                have b6' : ¬ wh = 6 := h6
                go_wp2_with fail
                go_meet
                case rel => exact ⟨s, fp, M, lv, l, rfl, HGT, GP.out.next⟩
      case rest =>
      clear HGT HXB HFX GP HML
      obtain ⟨s, fp, M, lv, l, rfl, GT, GP⟩ := hcut
      have hml : M.length ≤ 5184 := by have := GP.out.ln; omega
      have hll : l.length ≤ 5184 := by rw [← GP.out.pm.length_eq]; exact hml
      have HSR := hide GP.out.srt
      have c10 : wc.cell? ⟨o, 10, none⟩ = some lv := GT.out.op.box.cellAt 10
      have HSO := hide (rSort_any GT.out.op.seg (by omega))
      have hsl2 : (srt l).length = M.length := by rw [srt_len, GP.out.pm.length_eq]
      go_upto_region 33 with (first | (go_at_call 19; refine HSO.out.mono ?_; rintro e w5 ⟨u5, rfl, o5, b5⟩; have G5 := hide (GT.out.grow b5); have O5 := hide (o5.seg Pn.cs_len (by rw [hsl2]; omega)); clear o5 b5) | fail)
      clear GT HSO c10
      obtain ⟨ua, uc, hu5⟩ := O5.out.shapeOf
      obtain ⟨mn, hmn⟩ : ∃ mn, M.length = mn := ⟨_, rfl⟩
      rw [hsl2, hmn] at hu5
      subst hu5
      rw [HSR.out] at O5
      have hmn2 : mn ≤ 5184 := by omega
      have HMN := hide hmn
      have HLN : Hid ((srt M).length = mn) := (show _ = _ by rw [srt_len]; exact hmn)
      have HPN := hide (Panes_any G5.out.sa (by omega))
      have HWL : Hid ((wrB (srt M)).length ≤ 200000) := (show _ ≤ _ by rw [wrB_len, HLN.out]; omega)
      have hl1 : Hid ((srt M).length ≤ 20000) := (show _ ≤ _ by rw [HLN.out]; omega)
      have hm1 : Hid (M.length ≤ 20000) := (show _ ≤ _ by omega)
      clear hmn hml hll hsl2
      go_upto_region 35 with (first
        | (go_at_call 16; refine HPN.out.mono ?_; rintro e w6 ⟨u6, rfl, r6, b6⟩; have G6 := hide (G5.out.grow b6); have O6 := hide (O5.out.on b6); have R6 := hide (r6.seg Pn.cs_len (Nat.le_trans hl1.out (by decide))); clear r6 b6)
        | (go_at_call 20; refine (hPanes_any R6.out O6.out (Nat.le_trans hl1.out (by decide))).mono ?_; rintro e w7 ⟨rfl, b7⟩; have G7 := hide (G6.out.grow b7); have O7 := hide (O6.out.on b7); clear b7; have HLE := hide (Len_any G7.out.sa); rw [HMN.out] at HLE; have HBY := hide (Bytes_any G7.out.sa hm1.out))
        | (go_at_call 21; refine HLE.out.mono ?_; rintro e w8 ⟨rfl, e8⟩; subst e8)
        | (go_at_call 18; refine HBY.out.mono ?_; rintro e w9 ⟨u9, rfl, o9, b9⟩; have G9 := hide (G7.out.grow b9); have O9 := hide (O7.out.on b9); have Y9 := hide (o9.seg u8cs_len (Nat.le_trans HWL.out (by decide))); clear o9 b9)
        | (go_at_call 23; refine (lbytes_any O9.out hl1.out).mono ?_; rintro e w10 ⟨u10, rfl, o10, b10⟩; have G10 := hide (G9.out.grow b10); have O10 := hide (O9.out.on b10); have Y10 := hide (Y9.out.on b10); have Z10 := hide (o10.seg u8cs_len (Nat.le_trans HWL.out (by decide))); clear o10 b10)
        | (go_at_call 22; refine (hBytes_any Y10.out Z10.out (Nat.le_trans HWL.out (by decide))).mono ?_; rintro e w11 ⟨rfl, b11⟩; have G11 := hide (G10.out.grow b11); have O11 := hide (O10.out.on b11); clear b11))
      clear G5 O5 G6 O6 R6 G7 O7 G9 O9 Y9 G10 O10 Y10 Z10 HLE HBY HPN
      obtain ⟨nv, hnv⟩ : ∃ nv, (if M = [] then 0 else nextP M) = nv := ⟨_, rfl⟩
      obtain ⟨bv, hbv⟩ : ∃ bv, decide (M ≠ []) = bv := ⟨_, rfl⟩
      have HNX := hide (Next_any G11.out.sa)
      rw [hnv, hbv] at HNX
      have HNV : Hid (mn = 0 → nv = 0 ∧ bv = false) := (show _ → _ from fun e => by
        have e2 : M = [] := List.length_eq_zero_iff.1 (by rw [HMN.out]; exact e)
        rw [← hnv, ← hbv, e2]; exact ⟨rfl, rfl⟩)
      have HNV2 : Hid (0 < mn → nv = nextP (srt M) ∧ bv = true) := (show _ → _ from fun e => by
        have e2 : M ≠ [] := fun e2 => by have h := HMN.out; rw [e2] at h; simp at h; omega
        rw [← hnv, ← hbv, if_neg e2, next_perm (srt_perm M)]; exact ⟨rfl, decide_eq_true e2⟩)
      clear hnv hbv
      go_upto_region 37 with (first | (go_at_call 24; refine HNX.out.mono ?_; rintro e w12 ⟨rfl, b12⟩; have G12 := hide (G11.out.grow b12); have O12 := hide (O11.out.on b12); clear b12) | fail)
      clear HNX G11 O11
      have HN0 : Hid ((9223372036854775807 : Int) = nextP ((srt M).take 0)) := (show _ = _ by rw [List.take_zero]; rfl)
      go_wp2_with fail
      go_loopg [18, 19] (mn + 1) (fun gh lv kv wr => ∃ j : Nat, kv = .int .i64 (j : Int) ∧ lv = .int .i64 (nextP ((srt M).take j)) ∧ j ≤ mn ∧ mn + 1 ≤ gh + j ∧ wr = w12)
      case atStart => exact ⟨0, rfl, by rw [← HN0.out], by omega, by omega, rfl⟩
      case round =>
        obtain ⟨j, rfl, rfl, hj, hgj, rfl⟩ := hrel
        obtain ⟨gj, rfl⟩ : ∃ gj, gk = gj + 1 := ⟨gk - 1, by omega⟩
        by_cases hlj : j < mn
        · have btj : (j : Int) < (mn : Int) := by omega
          obtain ⟨y, hy⟩ := get_of_lt (show j < (srt M).length by rw [HLN.out]; exact hlj)
          have HNT := hide (next_take hy)
          obtain ⟨pb, po, rfl, _, p0, p1, p2, p3⟩ := O12.out.pane hy
          generalize nextP ((srt M).take j) = cur at *
          obtain ⟨yk, yf, yt, ya⟩ := y
          simp only at p0 p1 p2 p3
          clear hy
          have HLP : Hid (lastP ⟨yk, yf, yt, ya⟩ = wrap64 (yt - 1)) := (show _ = _ from rfl)
          go_wp2_with fail
          go_roundg gj
          case rel => exact ⟨j + 1, by go_num, by rw [HNT.out, HLP.out], by omega, by omega, rfl⟩
          case measure => omega
        · have btj : ¬ (j : Int) < (mn : Int) := by omega
          have HNF : Hid (nextP ((srt M).take j) = nextP (srt M)) := (show _ = _ by rw [List.take_of_length_le (by rw [HLN.out]; omega)])
          rw [HNF.out]
          by_cases hz : mn = 0
          · obtain ⟨rfl, rfl⟩ := HNV.out hz
            have bz : ¬ (0 : Int) < (mn : Int) := by omega
            have bz2 : decide ((0 : Int) < (mn : Int)) = false := decide_eq_false bz
            generalize nextP (srt M) = cur at *
            go_wp2_with fail
            go_roundg go
            case rel => exact ⟨i + 1, s, fp, M, lv, l, rfl, by go_num, by omega, by omega, G12, GP⟩
            case measure => omega
          · obtain ⟨rfl, rfl⟩ := HNV2.out (by omega)
            have bz : (0 : Int) < (mn : Int) := by omega
            have bz2 : decide ((0 : Int) < (mn : Int)) = true := decide_eq_true bz
            generalize nextP (srt M) = cur at *
            go_wp2_with fail
            go_roundg go
            case rel => exact ⟨i + 1, s, fp, M, lv, l, rfl, by go_num, by omega, by omega, G12, GP⟩
            case measure => omega
    · have bt : ¬ (i : Int) < (xs.length : Int) := by omega
      go_wp2_with fail
      go_ret
      exact ⟨rfl, GT.out.bl⟩
end Go.Proofs.YtdoldohcimbdaaaGreat
