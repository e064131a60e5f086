/-
  Texts in build order: SKnown2.
-/
import Derived.Test.YtdoldohcimbdaaaGreatM35
/-
  The chapter's examples, walked.
-/
namespace Go.Proofs.YtdoldohcimbdaaaGreat
open Go.RowKit

set_option maxHeartbeats 8000000 in
set_option maxRecDepth 100000 in
theorem known_any (w : World) : Calls Tryz.prog 4 #[] w fun e w' => e = .returned (.bool true) ∧ Below w.heap.size w w' := by
  have hb0 := below_box w (.cells #[.int .i64 1, .int .i64 10, .int .i64 0] 23)
  obtain ⟨W0, hW0⟩ : ∃ W0, W0 = w.alloc (.cells #[.int .i64 1, .int .i64 10, .int .i64 0] 23) := ⟨_, rfl⟩
  have hx0 : BoxT 23 W0 w.heap.size #[.int .i64 1, .int .i64 10, .int .i64 0] := by rw [hW0]; exact BoxT.new _ _ _
  have hz0 : W0.heap.size = w.heap.size + 1 := by rw [hW0]; simp
  rw [← hW0] at hb0
  have HB0 := hide hb0
  have HX0 := hide hx0
  have HZ0 := hide hz0
  obtain ⟨x0, x1, x2⟩ := hx0.cells3
  clear hb0 hx0 hz0
  have HNW := hide (New_any W0 1 10 0 1)
  go_enter Tryz.func4, Tryz.ntmps4
  go_upto_region 2 with fail
  rw [← hW0]
  clear hW0
  go_upto_region 5 with (first | (go_at_call 6; refine HNW.out.mono ?_; rintro e w1 ⟨s, fp, rfl, s1, f1, b1⟩; have HK1 : Hid (KI w w1 s fp []) := ⟨s1, fun i hi => by have := f1 i hi; rw [HZ0.out] at this; exact this, HB0.out.trans (b1.mono HB0.out.size), BoxT.below (t := 23) HX0.out b1⟩; clear s1 f1 b1) | fail)
  clear HNW HB0 HX0 HZ0 x0 x1 x2
  have HP1 := hide (kPut1 HK1.out)
  go_upto_region 6 with (first | (go_at_call 10; refine HP1.out.mono ?_; rintro e w2 ⟨rfl, fp2, k2⟩; have HK2 := hide k2; clear k2) | fail)
  clear HP1 HK1
  have HP2 := hide (kPut2 HK2.out)
  go_upto_region 7 with (first | (go_at_call 10; refine HP2.out.mono ?_; rintro e w3 ⟨rfl, fp3, k3⟩; have HK3 := hide k3; clear k3) | fail)
  clear HP2 HK2
  have HFL : Hid (∀ i, fp3 i → i < w3.heap.size) := HK3.out.sa.flt
  have HPN := hide (Panes_any HK3.out.sa (by simp))
  rw [ksrt] at HPN
  go_upto_region 8 with (first | (go_at_call 16; refine HPN.out.mono ?_; rintro e w4 ⟨pv, rfl, o4, b4⟩; have O4 := hide o4; have HK4 := hide (HK3.out.grow b4); have HZ4 := hide b4.size; obtain ⟨pa, pc, rfl⟩ := o4.shape; clear o4 b4) | fail)
  clear HPN HK3
  have HNX := hide (Next_any HK4.out.sa)
  rw [if_neg (by simp), decide_eq_true (by simp), knext] at HNX
  go_upto_region 9 with (first | (go_at_call 24; refine HNX.out.mono ?_; rintro e w5 ⟨rfl, b5⟩; have O5 := hide (O4.out.below b5); have HK5 := hide (HK4.out.grow b5); have HZ5 := hide (Nat.le_trans HZ4.out b5.size); clear b5) | fail)
  clear HNX HK4 O4
  have HBY := hide (Bytes_any HK5.out.sa (by simp))
  rw [ksrt, kwr] at HBY
  go_upto_region 10 with (first | (go_at_call 18; refine HBY.out.mono ?_; rintro e w6 ⟨bv, rfl, o6, b6⟩; have O6 := hide (O5.out.below b6); have HK6 := hide (HK5.out.grow b6); have HZ6 := hide (Nat.le_trans HZ5.out b6.size); have V6 := hide (o6.bys (by decide) (by decide)); clear o6 b6) | fail)
  clear HBY HK5 O5
  obtain ⟨bb, bc, rfl, v6⟩ := V6.out
  have HV6 := hide v6
  clear V6 v6
  obtain ⟨x0, x1, x2⟩ := HK6.out.bx.cells3
  have HOP := hide (kOpen (v := .slice (some ⟨bb, 0, none⟩) kB.length bc) ⟨_, _, rfl, .inr ⟨_, _, rfl, HV6.out⟩⟩)
  rw [show kB.length = 36 from rfl] at HOP
  rw [show kB.length = 36 from rfl]
  go_upto_region 11 with (first | (go_at_call 17; refine HOP.out.mono ?_; rintro e w7 ⟨t, fpt, rfl, s7, f7, b7⟩; have HFT : Hid (∀ i, fpt i → ¬ fp3 i) := fun i h1 h2 => by { have := f7 i h1; have := HFL.out i h2; have := HZ6.out; omega }; have O7 := hide (O6.out.below b7); have HK7 := hide (HK6.out.grow b7); have HV7 := hide ((HV6.out.below b7).mono b7.size); have ST7 := hide s7; clear s7 f7 b7) | fail)
  clear HOP HK6 O6 HV6 x0 x1 x2
  obtain ⟨x0, x1, x2⟩ := HK7.out.bx.cells3
  have HO2 : Hid (∀ W, Below w7.heap.size w7 W → Calls Tryz.prog 17 #[.agg #[.int .i64 1, .int .i64 10, .int .i64 0], .int .i64 1, .slice (some ⟨bb, 0, none⟩) 18 bc] W fun e w' => e = .returned (.tuple #[.pointer none, .int .i64 120]) ∧ Below W.heap.size W w') := fun W hb => kOpen2 (v := .slice (some ⟨bb, 0, none⟩) 18 bc) ⟨_, _, rfl, .inr ⟨_, _, rfl, (((HV7.out.below hb).mono hb.size).pre (n := 18) (by decide))⟩⟩
  have hcap : 36 ≤ bc := HV7.out.2.1
  have hc1 : (18 : Int) ≤ (bc : Int) := by omega
  have hc3 : 18 ≤ bc := by omega
  have hc4 : ¬ (bc < 18) := by omega
  have hc6 : ¬ (bc = 0) := by omega
  have hc5 : IntKind.i64.wrap ((36 : Int).tdiv 2) = 18 := by rw [IntKind.wrap_i64]; decide
  have hc7 : IntKind.i64.wrap 18 = 18 := by rw [IntKind.wrap_i64]; decide
  have hsl : ∀ W, (Instr.slice 58 (.slice (some ⟨bb, 0, none⟩) 36 bc) none (some (.int .i64 18)) none).run Tryz.prog W = .ok (.slice (some ⟨bb, 0, none⟩) 18 bc) W := by
    intro W
    go_simp
  have HOX := hide (HO2.out w7.drew ((Below.refl _ _).drew))
  have HKD := hide (HK7.out.grow ((Below.refl _ _).drew))
  have OD := hide (O7.out.below ((Below.refl _ _).drew))
  have SD := hide (ST7.out.below ((Below.refl _ _).drew))
  obtain ⟨y0, y1, y2⟩ := HKD.out.bx.cells3
  clear HO2 HK7 O7 ST7 HV7
  go_region_held3 (fun w' => w'.cell? ⟨w.heap.size, 0, none⟩ = some (.int .i64 1) ∧ w'.cell? ⟨w.heap.size, 1, none⟩ = some (.int .i64 10) ∧ w'.cell? ⟨w.heap.size, 2, none⟩ = some (.int .i64 0)) (first | go_keep | exact ⟨y0, y1, y2⟩ | exact ⟨z0, z1, z2⟩) (first | (go_at_call 17; refine HOX.out.mono ?_; rintro e w8 ⟨rfl, b8⟩; have HK8 := hide (HKD.out.grow b8); have O8 := hide (OD.out.below b8); have ST8 := hide (SD.out.below b8); obtain ⟨z0, z1, z2⟩ := HK8.out.bx.cells3; clear b8 HOX) | fail)
  have HFI := hide (kFire HK8.out)
  have HRW : Hid (∀ W fp', FT fp3 fp' w8 W → Row 70 4 Pn.cs w3.heap.size W (.slice pa 1 pc) [kP] ∧ SA W t 1 10 0 1 fpt [kP]) := fun W fp' hf => ⟨O8.out.back (fun g e => hf.block g (by obtain ⟨c, hc⟩ := O8.out.has g e; exact hc.lt) (fun h => by have := HFL.out g h; have := O8.out.at g e; omega)), ST8.out.beside hf HFT.out⟩
  clear HKD OD SD y0 y1 y2 z0 z1 z2 hc1 hc3 hc4 hc5 hc6 hc7 hsl hcap
  go_upto_region 13 with (first | (go_at_call 14; refine HFI.out.mono ?_; rintro e w9 ⟨ov, fp9, rfl, o9, k9, f9⟩; obtain ⟨oa, oc, rfl⟩ := o9.shape; have HO9 := hide o9; have HK9 := hide k9; have HR9 := hide (HRW.out w9 fp9 f9); clear o9 k9 f9) | fail)
  clear HFI HRW HK8 O8 ST8
  obtain ⟨pb, po, rfl, _, p0, p1, p2, p3⟩ := (HR9.out.1.seg Pn.cs_len (by simp)).pane (i := 0) (x := kP) rfl
  simp only [kP] at p0 p1 p2 p3
  simp only [Nat.zero_mul, Nat.add_zero] at p0 p1 p2 p3
  have HL1 := hide (kLen1 HR9.out.2)
  have HBX := hide (below_box w9 (.cells #[.int .i64 1, .int .i64 9, .int .i64 7] 39))
  have HRC := hide (hRecords_any (l := [⟨1, 9, 7⟩]) ((HO9.out.seg Rc.cs_len (by simp)).below HBX.out) (lit_seg (t := 39) (w := w9) (k := w9.heap.size) (cap := 1) [⟨1, 9, 7⟩] Rc.cs_len rfl rfl (by decide)) (by decide))
  clear HR9 HO9
  go_wp2_with (first | (go_at_call_of 21 (Value.pointer (some ⟨t, 0, none⟩)); refine HL1.out.mono ?_; rintro e w10 ⟨rfl, e10⟩; subst e10) | (go_at_call 13; refine HRC.out.mono ?_; rintro e w11 ⟨rfl, b11⟩; have HK11 := hide ((HK9.out.grow HBX.out).grow b11); have HL0 := hide (kLen0 HK11.out.sa); clear b11) | (go_at_call_of 21 (Value.pointer (some ⟨s, 0, none⟩)); refine HL0.out.mono ?_; rintro e w12 ⟨rfl, e12⟩; subst e12) | fail)
  go_ret
  exact ⟨rfl, HK11.out.bl⟩
end Go.Proofs.YtdoldohcimbdaaaGreat
