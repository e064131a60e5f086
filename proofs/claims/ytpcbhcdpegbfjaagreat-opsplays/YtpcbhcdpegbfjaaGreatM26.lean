/-
  Texts in build order: OStl, OStw, ONevP.
-/
import Derived.Test.YtpcbhcdpegbfjaaGreatM25
import Derived.Test.YtpcbhcdpegbfjaaGreatM23
/-
 Operators without a state: what they tell of a record, for any expression.
-/
namespace Go.Proofs.YtpcbhcdpegbfjaaGreat
set_option maxHeartbeats 16000000
set_option maxRecDepth 100000
open Go.RowKit
def wth (e : J.Ex) (rk rt rv : Int) : Int := if J.chk e = 0 then J.evl ⟨rk, rt, rv⟩ e else 0
theorem wth_sim {e e' : J.Ex} (h : J.Sim e e') (rk rt rv : Int) : wth e rk rt rv = wth e' rk rt rv := by
 unfold wth
 rw [h.chk, h.evl]
theorem evalE_any {w : World} {e : J.Ex} (hin : J.In w e) (hn : (J.cnt e 1 0).2 ≠ 71) (rk rt rv : Int) : Calls Tryz.prog 82 #[e.val, .agg #[.int .i64 rk, .int .i64 rt, .int .i64 rv]] w fun v w' => v = .returned (.int .i64 (wth e rk rt rv)) ∧ Below w.heap.size w w' :=
 J.eval_of e ⟨rk, rt, rv⟩ hin (fun _ h => J.check_few e h hn)
theorem fltE_any {w : World} {e : J.Ex} (hin : J.In w e) (hn : (J.cnt e 1 0).2 ≠ 71) (rk rt rv : Int) : Calls Tryz.prog 85 #[e.val, .agg #[.int .i64 rk, .int .i64 rt, .int .i64 rv]] w fun r w' => ∃ u, r = .returned u ∧ LSeg 3 Rc.cs w'.heap.size w' u (if wth e rk rt rv = 0 then [] else [⟨rk, rt, rv⟩]) ∧ Below w.heap.size w w' := by
 obtain ⟨op, n, a, c, l⟩ := e
 have HB := hide (below_box2 w (.cells #[.int .i64 op, .int .i64 n, .slice a l.length c] 88) (.cells #[.int .i64 rk, .int .i64 rt, .int .i64 rv] 38))
 have HR : Hid (BoxT 38 ((w.alloc (.cells #[.int .i64 op, .int .i64 n, .slice a l.length c] 88)).alloc (.cells #[.int .i64 rk, .int .i64 rt, .int .i64 rv] 38)) (w.heap.size + 1) #[.int .i64 rk, .int .i64 rt, .int .i64 rv]) := BoxT.new_at (by simp)
 have HE := hide (evalE_any (hin.below HB.out) hn rk rt rv)
 clear hin hn
 unfold J.Ex.val at HE ⊢
 simp only at HE ⊢
 generalize wth ⟨op, n, a, c, l⟩ rk rt rv = q at *
 generalize l.length = ln at *
 by_cases hq : q = 0
 ·have b1 : (q == 0) = true := by simp [hq]
  rw [if_pos hq]
  clear hq
  go_enter Tryz.func85, Tryz.ntmps85
  go_wp2_with (go_at_call 82; refine HE.out.mono ?_; rintro e w2 ⟨rfl, b2⟩; have HB2 := hide (HB.out.trans (b2.mono HB.out.size)); clear b2)
  go_ret
  exact ⟨_, rfl, LSeg.nil' _ _ _ _, HB2.out⟩
 ·have b1 : (q == 0) = false := by simp [hq]
  rw [if_neg hq]
  go_enter Tryz.func85, Tryz.ntmps85
  go_wp2_with (go_at_call 82; refine HE.out.mono ?_; rintro e w2 ⟨rfl, b2⟩; obtain ⟨z0, z1, z2⟩ := (HR.out.below b2).cells3; have HB2 := hide (HB.out.trans (b2.mono HB.out.size)); clear b2)
  go_ret
  have hb := BoxT.new 38 w2 #[.int .i64 rk, .int .i64 rt, .int .i64 rv]
  refine ⟨_, rfl, ⟨_, _, rfl, by simp, .inr ⟨w2.heap.size, 0, rfl, by simp, fun i x hi j u hu => ?_⟩⟩, HB2.out.trans ((below_box w2 _).mono HB2.out.size)⟩
  match i, hi with
  | 0, hi =>
   obtain rfl : (⟨rk, rt, rv⟩ : Rc) = x := by simpa using hi
   rw [hb.cellAt]
   simpa [Rc.cs] using hu
  | i + 1, hi => simp at hi
theorem mapE_any {w : World} {e : J.Ex} (hin : J.In w e) (hn : (J.cnt e 1 0).2 ≠ 71) (rk rt rv : Int) : Calls Tryz.prog 81 #[e.val, .agg #[.int .i64 rk, .int .i64 rt, .int .i64 rv]] w fun r w' => ∃ u, r = .returned u ∧ LSeg 3 Rc.cs w'.heap.size w' u [⟨rk, rt, wth e rk rt rv⟩] ∧ Below w.heap.size w w' := by
 obtain ⟨op, n, a, c, l⟩ := e
 have HB := hide ((below_box2 w (.cells #[.int .i64 op, .int .i64 n, .slice a l.length c] 87) (.cells #[.int .i64 rk, .int .i64 rt, .int .i64 rv] 38)).drew)
 have hX : BoxT 87 ((w.alloc (.cells #[.int .i64 op, .int .i64 n, .slice a l.length c] 87)).alloc (.cells #[.int .i64 rk, .int .i64 rt, .int .i64 rv] 38)) w.heap.size #[.int .i64 op, .int .i64 n, .slice a l.length c] := (BoxT.new 87 w _).alloc _
 have hR : BoxT 38 ((w.alloc (.cells #[.int .i64 op, .int .i64 n, .slice a l.length c] 87)).alloc (.cells #[.int .i64 rk, .int .i64 rt, .int .i64 rv] 38)) (w.heap.size + 1) #[.int .i64 rk, .int .i64 rt, .int .i64 rv] := BoxT.new_at (by simp)
 have HE := hide (evalE_any (hin.below HB.out) hn rk rt rv)
 clear hin hn
 unfold J.Ex.val at HE ⊢
 simp only at HE ⊢
 generalize wth ⟨op, n, a, c, l⟩ rk rt rv = q at *
 generalize l.length = ln at *
 obtain ⟨V, hV⟩ : ∃ V, V = (w.alloc (.cells #[.int .i64 op, .int .i64 n, .slice a ln c] 87)).alloc (.cells #[.int .i64 rk, .int .i64 rt, .int .i64 rv] 38) := ⟨_, rfl⟩
 rw [← hV] at HB HE hX hR
 have HX := hide (hX.below (show Below V.heap.size V V.drew from (Below.refl _ _).drew))
 have HR := hide (hR.below (show Below V.heap.size V V.drew from (Below.refl _ _).drew))
 have HV := hide hV
 clear hX hR hV
 obtain ⟨x0, x1, x2⟩ := BoxT.cells3 (t := 87) HX.out
 obtain ⟨r0, r1, r2⟩ := HR.out.cells3
 go_enter Tryz.func81, Tryz.ntmps81
 go_upto_region 1 with fail
 refine wp_at (fun V' => V' = V) HV.out.symm ?_
 rintro V' rfl
 clear HV
 go_region_held3 (fun w' => w'.cell? ⟨w.heap.size, 0, none⟩ = some (.int .i64 op) ∧ w'.cell? ⟨w.heap.size, 1, none⟩ = some (.int .i64 n) ∧ w'.cell? ⟨w.heap.size, 2, none⟩ = some (.slice a ln c) ∧ w'.cell? ⟨w.heap.size + 1, 0, none⟩ = some (.int .i64 rk) ∧ w'.cell? ⟨w.heap.size + 1, 1, none⟩ = some (.int .i64 rt) ∧ w'.cell? ⟨w.heap.size + 1, 2, none⟩ = some (.int .i64 rv)) (first | go_keep | exact ⟨x0, x1, x2, r0, r1, r2⟩ | exact ⟨z0, z1, z2, s0, s1, s2⟩)
  (first | (go_at_call 82; refine HE.out.mono ?_; rintro e w2 ⟨rfl, b2⟩; have B2 := hide (HB.out.trans (b2.mono HB.out.size)); obtain ⟨z0, z1, z2⟩ := BoxT.cells3 (t := 87) (HX.out.below b2); obtain ⟨s0, s1, s2⟩ := (HR.out.below b2).cells3; clear b2) | fail)
 go_wp2_with fail
 go_ret
 have hb := BoxT.new 38 w2 #[.int .i64 rk, .int .i64 rt, .int .i64 q]
 refine ⟨_, rfl, ⟨_, _, rfl, by simp, .inr ⟨w2.heap.size, 0, rfl, by simp, fun i x hi j u hu => ?_⟩⟩, B2.out.trans ((below_box w2 _).mono B2.out.size)⟩
 match i, hi with
 | 0, hi =>
  obtain rfl : (⟨rk, rt, q⟩ : Rc) = x := by simpa using hi
  rw [hb.cellAt]
  simpa [Rc.cs] using hu
 | i + 1, hi => simp at hi
theorem keyE_any {w : World} {e : J.Ex} (hin : J.In w e) (hn : (J.cnt e 1 0).2 ≠ 71) (rk rt rv : Int) : Calls Tryz.prog 86 #[e.val, .agg #[.int .i64 rk, .int .i64 rt, .int .i64 rv]] w fun r w' => ∃ u, r = .returned u ∧ LSeg 3 Rc.cs w'.heap.size w' u [⟨wth e rk rt rv, rt, rv⟩] ∧ Below w.heap.size w w' := by
 obtain ⟨op, n, a, c, l⟩ := e
 have HB := hide ((below_box2 w (.cells #[.int .i64 op, .int .i64 n, .slice a l.length c] 89) (.cells #[.int .i64 rk, .int .i64 rt, .int .i64 rv] 38)).drew)
 have hX : BoxT 89 ((w.alloc (.cells #[.int .i64 op, .int .i64 n, .slice a l.length c] 89)).alloc (.cells #[.int .i64 rk, .int .i64 rt, .int .i64 rv] 38)) w.heap.size #[.int .i64 op, .int .i64 n, .slice a l.length c] := (BoxT.new 89 w _).alloc _
 have hR : BoxT 38 ((w.alloc (.cells #[.int .i64 op, .int .i64 n, .slice a l.length c] 89)).alloc (.cells #[.int .i64 rk, .int .i64 rt, .int .i64 rv] 38)) (w.heap.size + 1) #[.int .i64 rk, .int .i64 rt, .int .i64 rv] := BoxT.new_at (by simp)
 have HE := hide (evalE_any (hin.below HB.out) hn rk rt rv)
 clear hin hn
 unfold J.Ex.val at HE ⊢
 simp only at HE ⊢
 generalize wth ⟨op, n, a, c, l⟩ rk rt rv = q at *
 generalize l.length = ln at *
 obtain ⟨V, hV⟩ : ∃ V, V = (w.alloc (.cells #[.int .i64 op, .int .i64 n, .slice a ln c] 89)).alloc (.cells #[.int .i64 rk, .int .i64 rt, .int .i64 rv] 38) := ⟨_, rfl⟩
 rw [← hV] at HB HE hX hR
 have HX := hide (hX.below (show Below V.heap.size V V.drew from (Below.refl _ _).drew))
 have HR := hide (hR.below (show Below V.heap.size V V.drew from (Below.refl _ _).drew))
 have HV := hide hV
 clear hX hR hV
 obtain ⟨x0, x1, x2⟩ := BoxT.cells3 (t := 89) HX.out
 obtain ⟨r0, r1, r2⟩ := HR.out.cells3
 go_enter Tryz.func86, Tryz.ntmps86
 go_upto_region 1 with fail
 refine wp_at (fun V' => V' = V) HV.out.symm ?_
 rintro V' rfl
 clear HV
 go_region_held3 (fun w' => w'.cell? ⟨w.heap.size, 0, none⟩ = some (.int .i64 op) ∧ w'.cell? ⟨w.heap.size, 1, none⟩ = some (.int .i64 n) ∧ w'.cell? ⟨w.heap.size, 2, none⟩ = some (.slice a ln c) ∧ w'.cell? ⟨w.heap.size + 1, 0, none⟩ = some (.int .i64 rk) ∧ w'.cell? ⟨w.heap.size + 1, 1, none⟩ = some (.int .i64 rt) ∧ w'.cell? ⟨w.heap.size + 1, 2, none⟩ = some (.int .i64 rv)) (first | go_keep | exact ⟨x0, x1, x2, r0, r1, r2⟩ | exact ⟨z0, z1, z2, s0, s1, s2⟩)
  (first | (go_at_call 82; refine HE.out.mono ?_; rintro e w2 ⟨rfl, b2⟩; have B2 := hide (HB.out.trans (b2.mono HB.out.size)); obtain ⟨z0, z1, z2⟩ := BoxT.cells3 (t := 89) (HX.out.below b2); obtain ⟨s0, s1, s2⟩ := (HR.out.below b2).cells3; clear b2) | fail)
 go_wp2_with fail
 go_ret
 have hb := BoxT.new 38 w2 #[.int .i64 q, .int .i64 rt, .int .i64 rv]
 refine ⟨_, rfl, ⟨_, _, rfl, by simp, .inr ⟨w2.heap.size, 0, rfl, by simp, fun i x hi j u hu => ?_⟩⟩, B2.out.trans ((below_box w2 _).mono B2.out.size)⟩
 match i, hi with
 | 0, hi =>
  obtain rfl : (⟨q, rt, rv⟩ : Rc) = x := by simpa using hi
  rw [hb.cellAt]
  simpa [Rc.cs] using hu
 | i + 1, hi => simp at hi
theorem passE_any (w : World) (rk rt rv : Int) : Calls Tryz.prog 87 #[.agg #[], .agg #[.int .i64 rk, .int .i64 rt, .int .i64 rv]] w fun r w' => ∃ u, r = .returned u ∧ LSeg 3 Rc.cs w'.heap.size w' u [⟨rk, rt, rv⟩] ∧ Below w.heap.size w w' := by
 have HB := hide (below_box2 w (.cells #[] 91) (.cells #[.int .i64 rk, .int .i64 rt, .int .i64 rv] 38))
 go_enter Tryz.func87, Tryz.ntmps87
 go_wp2_with fail
 go_ret
 have hb : BoxT 38 (((w.alloc (.cells #[] 91)).alloc (.cells #[.int .i64 rk, .int .i64 rt, .int .i64 rv] 38)).alloc (.cells #[.int .i64 rk, .int .i64 rt, .int .i64 rv] 38)) (w.heap.size + 1 + 1) #[.int .i64 rk, .int .i64 rt, .int .i64 rv] := BoxT.new_at (by simp)
 refine ⟨_, rfl, ⟨_, _, rfl, by simp, .inr ⟨_, 0, rfl, by simp, fun i x hi j u hu => ?_⟩⟩, HB.out.trans ((below_box _ _).mono HB.out.size)⟩
 match i, hi with
 | 0, hi =>
  obtain rfl : (⟨rk, rt, rv⟩ : Rc) = x := by simpa using hi
  rw [hb.cellAt]
  simpa [Rc.cs] using hu
 | i + 1, hi => simp at hi
theorem noneE_any (w : World) (rk rt rv : Int) : Calls Tryz.prog 80 #[.agg #[], .agg #[.int .i64 rk, .int .i64 rt, .int .i64 rv]] w fun r w' => r = .returned (.slice none 0 0) ∧ Below w.heap.size w w' := by
 have HB := hide (below_box2 w (.cells #[] 85) (.cells #[.int .i64 rk, .int .i64 rt, .int .i64 rv] 38))
 go_enter Tryz.func80, Tryz.ntmps80
 go_wp2_with fail
 go_ret
 exact ⟨rfl, HB.out⟩
end Go.Proofs.YtpcbhcdpegbfjaaGreat
/-
 Operators without a state: New, Record, Mark, Panes, Late of them.
-/
namespace Go.Proofs.YtpcbhcdpegbfjaaGreat
set_option maxHeartbeats 16000000
set_option maxRecDepth 100000
open Go.RowKit
def eZ : J.Ex := ⟨0, 0, none, 0, []⟩
theorem eZ_in (w : World) : J.In w eZ := J.In.mk ⟨by simp [eZ], by simp [eZ], by simp [eZ], by simp [eZ], by simp [eZ], Nat.zero_le _, fun i x hx => by simp [eZ] at hx⟩ (fun x hx => by simp [eZ] at hx)
theorem eZ_far (B : Nat) : J.Far B eZ := by
 intro x hx b o e
 rw [J.Ex.sub_eq] at hx
 simp [eZ] at hx
 subst hx
 cases e
theorem eZ_formed : J.formed eZ = false := by
 unfold eZ
 rw [J.formed_mk]
 decide
theorem eZ_few : (J.cnt eZ 1 0).2 ≠ 71 := by
 unfold eZ
 rw [J.cnt_mk]
 decide
theorem eZ_chk : J.chk eZ ≠ 0 := by
 unfold J.chk
 rw [eZ_formed]
 decide
theorem eZ_wth (rk rt rv : Int) : wth eZ rk rt rv = 0 := by
 unfold wth
 rw [if_neg eZ_chk]
theorem chk_formed {e : J.Ex} (h : J.chk e = 0) : J.formed e = true := by
 cases hf : J.formed e
 ·exfalso
  unfold J.chk at h
  rw [hf] at h
  simp at h
 ·rfl
theorem own_any {w : World} {e : J.Ex} (hin : J.In w e) (hn : (J.cnt e 1 0).2 ≠ 71) : Calls Tryz.prog 37 #[e.val] w fun r w' => ∃ e', r = .returned e'.val ∧ J.In w' e' ∧ (J.cnt e' 1 0).2 ≠ 71 ∧ (∀ rk rt rv, wth e' rk rt rv = wth e rk rt rv) ∧ J.Far w.heap.size e' ∧ Below w.heap.size w w' := by
 have HB := hide (below_box2 w (.cells #[.int .i64 e.op, .int .i64 e.n, .slice e.a e.l.length e.c] 25) (.cells #[.int .i64 0, .int .i64 0, .slice none 0 0] 25))
 have HX := hide ((BoxT.new 25 w #[.int .i64 e.op, .int .i64 e.n, .slice e.a e.l.length e.c]).alloc (.cells #[.int .i64 0, .int .i64 0, .slice none 0 0] 25))
 have HR : Hid (BoxT 25 ((w.alloc (.cells #[.int .i64 e.op, .int .i64 e.n, .slice e.a e.l.length e.c] 25)).alloc (.cells #[.int .i64 0, .int .i64 0, .slice none 0 0] 25)) (w.heap.size + 1) #[.int .i64 0, .int .i64 0, .slice none 0 0]) := BoxT.new_at (by simp)
 have HCK := hide (J.check_few e (hin.below HB.out) hn)
 have HIN := hide hin
 by_cases hc : J.chk e = 0
 ·have HCP := hide (fun W (hW : J.In W e) => J.copied_any e W hW (chk_formed hc))
  have HF := hide hn
  rw [hc] at HCK
  clear hin hn hc
  obtain ⟨op, n, a, c, l⟩ := e
  unfold J.Ex.val at HCK HCP ⊢
  simp only at HCK HCP HB HX HR ⊢
  go_enter Tryz.func37, Tryz.ntmps37
  go_wp2_with (first
   | (go_at_call 49; refine HCK.out.mono ?_; rintro r w2 ⟨rfl, b2⟩; have HX2 := hide (HX.out.below b2); obtain ⟨y0, y1, y2⟩ := HX2.out.cells3; have HR2 := hide (HR.out.below b2); have HB2 := hide (HB.out.trans (b2.mono HB.out.size)); have HC := hide (HCP.out w2 (HIN.out.below HB2.out)); clear b2)
   | (go_at_call 50; refine HC.out.mono ?_; rintro r w3 ⟨y, rfl, hsim, hiny, hfar, b3⟩; have HSM := hide hsim; have HIY := hide hiny; have HFY := hide (hfar.mono (show w.heap.size + 2 ≤ _ from by have := HR2.out.lt; omega)); have HR3 := hide (HR2.out.below b3); have HB3 := hide (HB2.out.trans (b3.mono HB2.out.size)); obtain ⟨r0, r1, r2⟩ := HR3.out.cells3; have fr := HR3.out.free; clear b3 hsim hiny hfar; obtain ⟨yo, yn, ya, yc, yl⟩ := y; unfold J.Ex.val; simp only))
  have z := ((((HR3.out.set 0 (.int .i64 yo)).set 1 (.int .i64 yn)).set 2 (.slice ya yl.length yc) : BoxT 25 _ _ _)).cells3
  have hlt : w.heap.size + 1 < w.heap.size + 2 := by omega
  exact bodyPost_ret (v := .agg #[.int .i64 yo, .int .i64 yn, .slice ya yl.length yc]) (by simp [results, Tryz.results37, go_sem, z.1, z.2.1, z.2.2]) rfl ⟨⟨yo, yn, ya, yc, yl⟩, rfl, ((HIY.out.set HFY.out hlt 0 _).set HFY.out hlt 1 _).set HFY.out hlt 2 _, by rw [← HSM.out.cnt]; exact HF.out, fun rk rt rv => (wth_sim HSM.out rk rt rv).symm, HFY.out.mono (by omega), (((HB3.out.setCell (by show w.heap.size ≤ w.heap.size + 1; omega) _).setCell (by show w.heap.size ≤ w.heap.size + 1; omega) _).setCell (by show w.heap.size ≤ w.heap.size + 1; omega) _)⟩
 ·have hw : ∀ rk rt rv, wth eZ rk rt rv = wth e rk rt rv := fun rk rt rv => by rw [eZ_wth]; unfold wth; rw [if_neg hc]
  have hc1 : (J.chk e == 0) = false := by simp [hc]
  have hc2 : (J.chk e != 0) = true := by simp [hc]
  obtain ⟨op, n, a, c, l⟩ := e
  unfold J.Ex.val at HCK ⊢
  simp only at HCK HB HX HR ⊢
  have HW := hide hw
  generalize J.chk ⟨op, n, a, c, l⟩ = ck at *
  clear hin hn hw hc
  go_enter Tryz.func37, Tryz.ntmps37
  go_wp2_with (go_at_call 49; refine HCK.out.mono ?_; rintro r w2 ⟨rfl, b2⟩; have HX2 := hide (HX.out.below b2); obtain ⟨y0, y1, y2⟩ := HX2.out.cells3; have HR2 := hide (HR.out.below b2); have HB2 := hide (HB.out.trans (b2.mono HB.out.size)); obtain ⟨r0, r1, r2⟩ := HR2.out.cells3; have fr := HR2.out.free; clear b2)
  have z := ((((HR2.out.set 0 (.int .i64 0)).set 1 (.int .i64 0)).set 2 (.slice none 0 0) : BoxT 25 _ _ _)).cells3
  exact bodyPost_ret (v := .agg #[.int .i64 0, .int .i64 0, .slice none 0 0]) (by simp [results, Tryz.results37, go_sem, z.1, z.2.1, z.2.2]) rfl ⟨eZ, rfl, eZ_in _, eZ_few, HW.out, eZ_far _, (((HB2.out.setCell (by show w.heap.size ≤ w.heap.size + 1; omega) _).setCell (by show w.heap.size ≤ w.heap.size + 1; omega) _).setCell (by show w.heap.size ≤ w.heap.size + 1; omega) _)⟩
def svO (T : Nat) (e : J.Ex) : Value := if T = 91 ∨ T = 85 then .agg #[] else e.val
def rsO (T : Nat) (e : J.Ex) (rk rt rv : Int) : List Rc := if T = 87 then [⟨rk, rt, wth e rk rt rv⟩] else if T = 88 then (if wth e rk rt rv = 0 then [] else [⟨rk, rt, rv⟩]) else if T = 89 then [⟨wth e rk rt rv, rt, rv⟩] else if T = 91 then [⟨rk, rt, rv⟩] else []
theorem rsO_len (T : Nat) (e : J.Ex) (rk rt rv : Int) : (rsO T e rk rt rv).length ≤ 1 := by
 unfold rsO
 repeat' split
 all_goals simp
structure SO (W : World) (O T : Nat) (e : J.Ex) : Prop where
 ob : BoxT 68 W O #[.iface T (svO T e)]
 kd : T = 85 ∨ T = 87 ∨ T = 88 ∨ T = 89 ∨ T = 91
 inn : J.In W e
 few : (J.cnt e 1 0).2 ≠ 71
theorem SO.below {W W' : World} {O T : Nat} {e : J.Ex} (h : SO W O T e) (hb : Below W.heap.size W W') : SO W' O T e := ⟨h.ob.below hb, h.kd, h.inn.below hb, h.few⟩
def kdO (kind : Int) : Nat := if kind = 2 then 87 else if kind = 3 then 88 else if kind = 4 then 89 else if kind = 1 ∨ kind = 5 ∨ kind = 8 then 91 else 85
theorem kdO_cases (k : Int) : kdO k = 85 ∨ kdO k = 87 ∨ kdO k = 88 ∨ kdO k = 89 ∨ kdO k = 91 := by
 unfold kdO
 by_cases h2 : k = 2
 ·rw [if_pos h2]; simp
 rw [if_neg h2]
 by_cases h3 : k = 3
 ·rw [if_pos h3]; simp
 rw [if_neg h3]
 by_cases h4 : k = 4
 ·rw [if_pos h4]; simp
 rw [if_neg h4]
 by_cases h5 : k = 1 ∨ k = 5 ∨ k = 8
 ·rw [if_pos h5]; simp
 ·rw [if_neg h5]; simp
def Wth (kind : Int) (e e' : J.Ex) : Prop := kind = 2 ∨ kind = 3 ∨ kind = 4 → ∀ rk rt rv, wth e' rk rt rv = wth e rk rt rv
theorem opOf_st {w : World} {n : J.Nd} (hin : J.In w n.e) (hn : n.kind = 2 ∨ n.kind = 3 ∨ n.kind = 4 → (J.cnt n.e 1 0).2 ≠ 71) (hk : n.kind ≠ 6 ∧ n.kind ≠ 7) : Calls Tryz.prog 27 #[n.val] w fun r w' => ∃ e', r = .returned (.iface (kdO n.kind) (svO (kdO n.kind) e')) ∧ J.In w' e' ∧ (J.cnt e' 1 0).2 ≠ 71 ∧ Wth n.kind n.e e' ∧ J.Far w.heap.size e' ∧ Below w.heap.size w w' := by
 obtain ⟨kind, ia, ic, ins, par, ex, ag, k, size, slide⟩ := n
 obtain ⟨op, nn, ea, ec, el⟩ := ex
 simp only [J.Nd.val] at hin hn hk ⊢
 generalize ins.length = il at *
 have HB := hide (below_box w (.cells #[.int .i64 kind, .slice ia il ic, .int .i64 par, .int .i64 op, .int .i64 nn, .slice ea el.length ec, .int .i64 ag, .int .i64 k, .int .i64 size, .int .i64 slide] 29))
 by_cases h24 : kind = 2 ∨ kind = 3 ∨ kind = 4
 ·have HO := hide (own_any (hin.below HB.out) (hn h24))
  clear hin hn hk
  unfold J.Ex.val at HO
  simp only at HO
  generalize el.length = en at *
  rcases h24 with rfl | rfl | rfl
  ·go_enter Tryz.func27, Tryz.ntmps27
   go_wp2_with (go_at_call 37; refine HO.out.mono ?_; rintro r w2 ⟨e', rfl, i2, f2, q2, fa2, b2⟩; have I2 := hide i2; have F2 := hide f2; have Q2 := hide q2; have FA2 := hide (fa2.mono (B' := w.heap.size) HB.out.size); have B2 := hide (HB.out.trans (b2.mono HB.out.size)); clear i2 f2 q2 fa2 b2; obtain ⟨yo, yn, ya, yc, yl⟩ := e'; try unfold J.Ex.val; try simp only)
   go_ret
   exact ⟨⟨yo, yn, ya, yc, yl⟩, rfl, I2.out, F2.out, fun _ => Q2.out, FA2.out, B2.out⟩
  ·go_enter Tryz.func27, Tryz.ntmps27
   go_wp2_with (go_at_call 37; refine HO.out.mono ?_; rintro r w2 ⟨e', rfl, i2, f2, q2, fa2, b2⟩; have I2 := hide i2; have F2 := hide f2; have Q2 := hide q2; have FA2 := hide (fa2.mono (B' := w.heap.size) HB.out.size); have B2 := hide (HB.out.trans (b2.mono HB.out.size)); clear i2 f2 q2 fa2 b2; obtain ⟨yo, yn, ya, yc, yl⟩ := e'; try unfold J.Ex.val; try simp only)
   go_ret
   exact ⟨⟨yo, yn, ya, yc, yl⟩, rfl, I2.out, F2.out, fun _ => Q2.out, FA2.out, B2.out⟩
  ·go_enter Tryz.func27, Tryz.ntmps27
   go_wp2_with (go_at_call 37; refine HO.out.mono ?_; rintro r w2 ⟨e', rfl, i2, f2, q2, fa2, b2⟩; have I2 := hide i2; have F2 := hide f2; have Q2 := hide q2; have FA2 := hide (fa2.mono (B' := w.heap.size) HB.out.size); have B2 := hide (HB.out.trans (b2.mono HB.out.size)); clear i2 f2 q2 fa2 b2; obtain ⟨yo, yn, ya, yc, yl⟩ := e'; try unfold J.Ex.val; try simp only)
   go_ret
   exact ⟨⟨yo, yn, ya, yc, yl⟩, rfl, I2.out, F2.out, fun _ => Q2.out, FA2.out, B2.out⟩
 ·have g2 : ¬ kind = 2 := by omega
  have g3 : ¬ kind = 3 := by omega
  have g4 : ¬ kind = 4 := by omega
  obtain ⟨g6, g7⟩ := hk
  generalize el.length = en at *
  by_cases h1 : kind = 1
  ·subst h1
   clear hin hn h24 g2 g3 g4 g6 g7
   go_enter Tryz.func27, Tryz.ntmps27
   go_wp2_with fail
   go_ret
   exact ⟨eZ, rfl, eZ_in _, eZ_few, fun h => by omega, eZ_far _, HB.out⟩
  by_cases h5 : kind = 5
  ·subst h5
   clear hin hn h24 g2 g3 g4 g6 g7 h1
   go_enter Tryz.func27, Tryz.ntmps27
   go_wp2_with fail
   go_ret
   exact ⟨eZ, rfl, eZ_in _, eZ_few, fun h => by omega, eZ_far _, HB.out⟩
  by_cases h8 : kind = 8
  ·subst h8
   clear hin hn h24 g2 g3 g4 g6 g7 h1 h5
   go_enter Tryz.func27, Tryz.ntmps27
   go_wp2_with fail
   go_ret
   exact ⟨eZ, rfl, eZ_in _, eZ_few, fun h => by omega, eZ_far _, HB.out⟩
  have hq : kdO kind = 85 := by unfold kdO; rw [if_neg g2, if_neg g3, if_neg g4, if_neg (by omega)]
  rw [hq]
  have HW : Hid (Wth kind ⟨op, nn, ea, ec, el⟩ eZ) := (show Wth _ _ _ from fun h => absurd h h24)
  clear hin hn h24 hq
  go_enter Tryz.func27, Tryz.ntmps27
  go_wp2_with fail
  go_ret
  exact ⟨eZ, rfl, eZ_in _, eZ_few, HW.out, eZ_far _, HB.out⟩
theorem New_st {w : World} {n : J.Nd} (hin : J.In w n.e) (hn : n.kind = 2 ∨ n.kind = 3 ∨ n.kind = 4 → (J.cnt n.e 1 0).2 ≠ 71) (hk : n.kind ≠ 6 ∧ n.kind ≠ 7) : Calls Tryz.prog 10 #[n.val] w fun r w' => ∃ O e', r = .returned (.pointer (some ⟨O, 0, none⟩)) ∧ SO w' O (kdO n.kind) e' ∧ Wth n.kind n.e e' ∧ w.heap.size ≤ O ∧ J.Far w.heap.size e' ∧ Below w.heap.size w w' := by
 have HKD := hide (kdO_cases n.kind)
 obtain ⟨kind, ia, ic, ins, par, ex, ag, k, size, slide⟩ := n
 obtain ⟨op, nn, ea, ec, el⟩ := ex
 have HB' := hide (below_box w (.cells #[.int .i64 kind, .slice ia ins.length ic, .int .i64 par, .int .i64 op, .int .i64 nn, .slice ea el.length ec, .int .i64 ag, .int .i64 k, .int .i64 size, .int .i64 slide] 29))
 have HO := hide (opOf_st (n := ⟨kind, ia, ic, ins, par, ⟨op, nn, ea, ec, el⟩, ag, k, size, slide⟩) (hin.below HB'.out) hn hk)
 clear hin hn hk
 simp only [J.Nd.val] at HO ⊢
 simp only at HKD
 generalize hkd : kdO kind = T at *
 generalize ins.length = il at *
 go_enter Tryz.func10, Tryz.ntmps10
 go_wp2_with (go_at_call 27; refine HO.out.mono ?_; rintro r w2 ⟨e', rfl, i2, f2, q2, fa2, b2⟩; have I2 := hide i2; have F2 := hide f2; have Q2 := hide q2; have FA2 := hide (fa2.mono (B' := w.heap.size) HB'.out.size); have B2 := hide (HB'.out.trans (b2.mono HB'.out.size)); clear i2 f2 q2 fa2 b2)
 go_ret
 have hb4 := below_box w2 (.cells #[.iface T (svO T e')] 68)
 exact ⟨w2.heap.size, e', rfl, ⟨BoxT.new 68 w2 _, HKD.out, I2.out.below hb4, F2.out⟩, Q2.out, B2.out.size, FA2.out, B2.out.trans (hb4.mono B2.out.size)⟩
theorem m_recMap (W : World) (op n : Int) (a : Option Addr) (en c : Nat) : (method 317 87 (.agg #[.int .i64 op, .int .i64 n, .slice a en c]) "leat/ops.record").run Tryz.prog W = .ok (81, .agg #[.int .i64 op, .int .i64 n, .slice a en c]) W := by kernel_rfl
theorem recMap {W : World} {O : Nat} {e_ : J.Ex} (hb : BoxT 68 W O #[.iface 87 (e_.val)]) (h0 : J.In W e_) (hf : (J.cnt e_ 1 0).2 ≠ 71) (rk rt rv : Int) : Calls Tryz.prog 14 #[.pointer (some ⟨O, 0, none⟩), .agg #[.int .i64 rk, .int .i64 rt, .int .i64 rv]] W fun e w' => ∃ u, e = .returned u ∧ LSeg 3 Rc.cs w'.heap.size w' u [⟨rk, rt, wth e_ rk rt rv⟩] ∧ Below W.heap.size W w' := by
 have hb1 := below_box W (.cells #[.int .i64 rk, .int .i64 rt, .int .i64 rv] 38)
 obtain ⟨V, hV⟩ : ∃ V, V = W.alloc (.cells #[.int .i64 rk, .int .i64 rt, .int .i64 rv] 38) := ⟨_, rfl⟩
 have hx : BoxT 38 V W.heap.size #[.int .i64 rk, .int .i64 rt, .int .i64 rv] := by rw [hV]; exact BoxT.new 38 W _
 rw [← hV] at hb1
 have hd : Below W.heap.size W V.drew := hb1.drew
 have HB := hide hd
 have h2 := h0.below hd
 have HR := hide (mapE_any h2 hf rk rt rv)
 obtain ⟨op, n, a, c, l⟩ := e_
 unfold J.Ex.val at hb HR
 simp only at hb HR
 generalize l.length = en at *
 have y0 := (hb.below hd).cellAt 0
 simp only [List.getElem?_toArray, List.getElem?_cons_zero] at y0
 obtain ⟨y1, y2, y3⟩ := (hx.below (show Below V.heap.size V V.drew from (Below.refl _ _).drew)).cells3
 have HXD := hide (hx.below (show Below V.heap.size V V.drew from (Below.refl _ _).drew))
 have HOD := hide (hb.below hd)
 have hm := m_recMap V.drew op n a en c
 have HV := hide hV
 clear h0 h2 hb1 hx hd hV hb hf
 generalize ([⟨rk, rt, wth ⟨op, n, a, c, l⟩ rk rt rv⟩] : List Rc) = RL at *
 go_enter Tryz.func14, Tryz.ntmps14
 go_upto_region 1 with fail
 refine wp_at (fun V' => V' = V) HV.out.symm ?_
 rintro V' rfl
 clear HV
 go_region_held3 (fun w' => w'.cell? ⟨O, 0, none⟩ = some (.iface 87 (.agg #[.int .i64 op, .int .i64 n, .slice a en c])) ∧ w'.cell? ⟨W.heap.size, 0, none⟩ = some (.int .i64 rk) ∧ w'.cell? ⟨W.heap.size, 1, none⟩ = some (.int .i64 rt) ∧ w'.cell? ⟨W.heap.size, 2, none⟩ = some (.int .i64 rv)) (first | go_keep | exact ⟨y0, y1, y2, y3⟩ | exact ⟨z0, z1, z2, z3⟩)
  (first | (go_at_call 81; refine HR.out.mono ?_; rintro e w2 ⟨u2, rfl, l2, b2⟩; have L2 := hide l2; have B2 := hide (HB.out.trans (b2.mono HB.out.size)); have z0 : w2.cell? ⟨O, 0, none⟩ = some (.iface 87 (.agg #[.int .i64 op, .int .i64 n, .slice a en c])) := (HOD.out.below b2).cellAt 0; obtain ⟨z1, z2, z3⟩ := BoxT.cells3 (t := 38) (HXD.out.below b2); clear l2 b2) | fail)
 go_wp2_with fail
 go_ret
 exact ⟨u2, rfl, L2.out, B2.out⟩
theorem m_recFlt (W : World) (op n : Int) (a : Option Addr) (en c : Nat) : (method 317 88 (.agg #[.int .i64 op, .int .i64 n, .slice a en c]) "leat/ops.record").run Tryz.prog W = .ok (85, .agg #[.int .i64 op, .int .i64 n, .slice a en c]) W := by kernel_rfl
theorem recFlt {W : World} {O : Nat} {e_ : J.Ex} (hb : BoxT 68 W O #[.iface 88 (e_.val)]) (h0 : J.In W e_) (hf : (J.cnt e_ 1 0).2 ≠ 71) (rk rt rv : Int) : Calls Tryz.prog 14 #[.pointer (some ⟨O, 0, none⟩), .agg #[.int .i64 rk, .int .i64 rt, .int .i64 rv]] W fun e w' => ∃ u, e = .returned u ∧ LSeg 3 Rc.cs w'.heap.size w' u (if wth e_ rk rt rv = 0 then [] else [⟨rk, rt, rv⟩]) ∧ Below W.heap.size W w' := by
 have hb1 := below_box W (.cells #[.int .i64 rk, .int .i64 rt, .int .i64 rv] 38)
 obtain ⟨V, hV⟩ : ∃ V, V = W.alloc (.cells #[.int .i64 rk, .int .i64 rt, .int .i64 rv] 38) := ⟨_, rfl⟩
 have hx : BoxT 38 V W.heap.size #[.int .i64 rk, .int .i64 rt, .int .i64 rv] := by rw [hV]; exact BoxT.new 38 W _
 rw [← hV] at hb1
 have hd : Below W.heap.size W V.drew := hb1.drew
 have HB := hide hd
 have h2 := h0.below hd
 have HR := hide (fltE_any h2 hf rk rt rv)
 obtain ⟨op, n, a, c, l⟩ := e_
 unfold J.Ex.val at hb HR
 simp only at hb HR
 generalize l.length = en at *
 have y0 := (hb.below hd).cellAt 0
 simp only [List.getElem?_toArray, List.getElem?_cons_zero] at y0
 obtain ⟨y1, y2, y3⟩ := (hx.below (show Below V.heap.size V V.drew from (Below.refl _ _).drew)).cells3
 have HXD := hide (hx.below (show Below V.heap.size V V.drew from (Below.refl _ _).drew))
 have HOD := hide (hb.below hd)
 have hm := m_recFlt V.drew op n a en c
 have HV := hide hV
 clear h0 h2 hb1 hx hd hV hb hf
 generalize ((if wth ⟨op, n, a, c, l⟩ rk rt rv = 0 then [] else [⟨rk, rt, rv⟩]) : List Rc) = RL at *
 go_enter Tryz.func14, Tryz.ntmps14
 go_upto_region 1 with fail
 refine wp_at (fun V' => V' = V) HV.out.symm ?_
 rintro V' rfl
 clear HV
 go_region_held3 (fun w' => w'.cell? ⟨O, 0, none⟩ = some (.iface 88 (.agg #[.int .i64 op, .int .i64 n, .slice a en c])) ∧ w'.cell? ⟨W.heap.size, 0, none⟩ = some (.int .i64 rk) ∧ w'.cell? ⟨W.heap.size, 1, none⟩ = some (.int .i64 rt) ∧ w'.cell? ⟨W.heap.size, 2, none⟩ = some (.int .i64 rv)) (first | go_keep | exact ⟨y0, y1, y2, y3⟩ | exact ⟨z0, z1, z2, z3⟩)
  (first | (go_at_call 85; refine HR.out.mono ?_; rintro e w2 ⟨u2, rfl, l2, b2⟩; have L2 := hide l2; have B2 := hide (HB.out.trans (b2.mono HB.out.size)); have z0 : w2.cell? ⟨O, 0, none⟩ = some (.iface 88 (.agg #[.int .i64 op, .int .i64 n, .slice a en c])) := (HOD.out.below b2).cellAt 0; obtain ⟨z1, z2, z3⟩ := BoxT.cells3 (t := 38) (HXD.out.below b2); clear l2 b2) | fail)
 go_wp2_with fail
 go_ret
 exact ⟨u2, rfl, L2.out, B2.out⟩
theorem m_recKey (W : World) (op n : Int) (a : Option Addr) (en c : Nat) : (method 317 89 (.agg #[.int .i64 op, .int .i64 n, .slice a en c]) "leat/ops.record").run Tryz.prog W = .ok (86, .agg #[.int .i64 op, .int .i64 n, .slice a en c]) W := by kernel_rfl
theorem recKey {W : World} {O : Nat} {e_ : J.Ex} (hb : BoxT 68 W O #[.iface 89 (e_.val)]) (h0 : J.In W e_) (hf : (J.cnt e_ 1 0).2 ≠ 71) (rk rt rv : Int) : Calls Tryz.prog 14 #[.pointer (some ⟨O, 0, none⟩), .agg #[.int .i64 rk, .int .i64 rt, .int .i64 rv]] W fun e w' => ∃ u, e = .returned u ∧ LSeg 3 Rc.cs w'.heap.size w' u [⟨wth e_ rk rt rv, rt, rv⟩] ∧ Below W.heap.size W w' := by
 have hb1 := below_box W (.cells #[.int .i64 rk, .int .i64 rt, .int .i64 rv] 38)
 obtain ⟨V, hV⟩ : ∃ V, V = W.alloc (.cells #[.int .i64 rk, .int .i64 rt, .int .i64 rv] 38) := ⟨_, rfl⟩
 have hx : BoxT 38 V W.heap.size #[.int .i64 rk, .int .i64 rt, .int .i64 rv] := by rw [hV]; exact BoxT.new 38 W _
 rw [← hV] at hb1
 have hd : Below W.heap.size W V.drew := hb1.drew
 have HB := hide hd
 have h2 := h0.below hd
 have HR := hide (keyE_any h2 hf rk rt rv)
 obtain ⟨op, n, a, c, l⟩ := e_
 unfold J.Ex.val at hb HR
 simp only at hb HR
 generalize l.length = en at *
 have y0 := (hb.below hd).cellAt 0
 simp only [List.getElem?_toArray, List.getElem?_cons_zero] at y0
 obtain ⟨y1, y2, y3⟩ := (hx.below (show Below V.heap.size V V.drew from (Below.refl _ _).drew)).cells3
 have HXD := hide (hx.below (show Below V.heap.size V V.drew from (Below.refl _ _).drew))
 have HOD := hide (hb.below hd)
 have hm := m_recKey V.drew op n a en c
 have HV := hide hV
 clear h0 h2 hb1 hx hd hV hb hf
 generalize ([⟨wth ⟨op, n, a, c, l⟩ rk rt rv, rt, rv⟩] : List Rc) = RL at *
 go_enter Tryz.func14, Tryz.ntmps14
 go_upto_region 1 with fail
 refine wp_at (fun V' => V' = V) HV.out.symm ?_
 rintro V' rfl
 clear HV
 go_region_held3 (fun w' => w'.cell? ⟨O, 0, none⟩ = some (.iface 89 (.agg #[.int .i64 op, .int .i64 n, .slice a en c])) ∧ w'.cell? ⟨W.heap.size, 0, none⟩ = some (.int .i64 rk) ∧ w'.cell? ⟨W.heap.size, 1, none⟩ = some (.int .i64 rt) ∧ w'.cell? ⟨W.heap.size, 2, none⟩ = some (.int .i64 rv)) (first | go_keep | exact ⟨y0, y1, y2, y3⟩ | exact ⟨z0, z1, z2, z3⟩)
  (first | (go_at_call 86; refine HR.out.mono ?_; rintro e w2 ⟨u2, rfl, l2, b2⟩; have L2 := hide l2; have B2 := hide (HB.out.trans (b2.mono HB.out.size)); have z0 : w2.cell? ⟨O, 0, none⟩ = some (.iface 89 (.agg #[.int .i64 op, .int .i64 n, .slice a en c])) := (HOD.out.below b2).cellAt 0; obtain ⟨z1, z2, z3⟩ := BoxT.cells3 (t := 38) (HXD.out.below b2); clear l2 b2) | fail)
 go_wp2_with fail
 go_ret
 exact ⟨u2, rfl, L2.out, B2.out⟩
theorem m_recPas (W : World)  : (method 317 91 (.agg #[]) "leat/ops.record").run Tryz.prog W = .ok (87, .agg #[]) W := by kernel_rfl
theorem recPas {W : World} {O : Nat} {e_ : J.Ex} (hb : BoxT 68 W O #[.iface 91 (.agg #[])]) (h0 : J.In W e_) (_hf : (J.cnt e_ 1 0).2 ≠ 71) (rk rt rv : Int) : Calls Tryz.prog 14 #[.pointer (some ⟨O, 0, none⟩), .agg #[.int .i64 rk, .int .i64 rt, .int .i64 rv]] W fun e w' => ∃ u, e = .returned u ∧ LSeg 3 Rc.cs w'.heap.size w' u [⟨rk, rt, rv⟩] ∧ Below W.heap.size W w' := by
 have hb1 := below_box W (.cells #[.int .i64 rk, .int .i64 rt, .int .i64 rv] 38)
 obtain ⟨V, hV⟩ : ∃ V, V = W.alloc (.cells #[.int .i64 rk, .int .i64 rt, .int .i64 rv] 38) := ⟨_, rfl⟩
 have hx : BoxT 38 V W.heap.size #[.int .i64 rk, .int .i64 rt, .int .i64 rv] := by rw [hV]; exact BoxT.new 38 W _
 rw [← hV] at hb1
 have hd : Below W.heap.size W V.drew := hb1.drew
 have HB := hide hd
 have h2 := h0.below hd
 have HR := hide (passE_any V.drew rk rt rv)
 have y0 := (hb.below hd).cellAt 0
 simp only [List.getElem?_toArray, List.getElem?_cons_zero] at y0
 obtain ⟨y1, y2, y3⟩ := (hx.below (show Below V.heap.size V V.drew from (Below.refl _ _).drew)).cells3
 have HXD := hide (hx.below (show Below V.heap.size V V.drew from (Below.refl _ _).drew))
 have HOD := hide (hb.below hd)
 have hm := m_recPas V.drew
 have HV := hide hV
 clear h0 h2 hb1 hx hd hV hb _hf
 generalize ([⟨rk, rt, rv⟩] : List Rc) = RL at *
 go_enter Tryz.func14, Tryz.ntmps14
 go_upto_region 1 with fail
 refine wp_at (fun V' => V' = V) HV.out.symm ?_
 rintro V' rfl
 clear HV
 go_region_held3 (fun w' => w'.cell? ⟨O, 0, none⟩ = some (.iface 91 (.agg #[])) ∧ w'.cell? ⟨W.heap.size, 0, none⟩ = some (.int .i64 rk) ∧ w'.cell? ⟨W.heap.size, 1, none⟩ = some (.int .i64 rt) ∧ w'.cell? ⟨W.heap.size, 2, none⟩ = some (.int .i64 rv)) (first | go_keep | exact ⟨y0, y1, y2, y3⟩ | exact ⟨z0, z1, z2, z3⟩)
  (first | (go_at_call 87; refine HR.out.mono ?_; rintro e w2 ⟨u2, rfl, l2, b2⟩; have L2 := hide l2; have B2 := hide (HB.out.trans (b2.mono HB.out.size)); have z0 : w2.cell? ⟨O, 0, none⟩ = some (.iface 91 (.agg #[])) := (HOD.out.below b2).cellAt 0; obtain ⟨z1, z2, z3⟩ := BoxT.cells3 (t := 38) (HXD.out.below b2); clear l2 b2) | fail)
 go_wp2_with fail
 go_ret
 exact ⟨u2, rfl, L2.out, B2.out⟩
theorem m_recNon (W : World)  : (method 317 85 (.agg #[]) "leat/ops.record").run Tryz.prog W = .ok (80, .agg #[]) W := by kernel_rfl
theorem recNon {W : World} {O : Nat} {e_ : J.Ex} (hb : BoxT 68 W O #[.iface 85 (.agg #[])]) (h0 : J.In W e_) (_hf : (J.cnt e_ 1 0).2 ≠ 71) (rk rt rv : Int) : Calls Tryz.prog 14 #[.pointer (some ⟨O, 0, none⟩), .agg #[.int .i64 rk, .int .i64 rt, .int .i64 rv]] W fun e w' => ∃ u, e = .returned u ∧ LSeg 3 Rc.cs w'.heap.size w' u [] ∧ Below W.heap.size W w' := by
 have hb1 := below_box W (.cells #[.int .i64 rk, .int .i64 rt, .int .i64 rv] 38)
 obtain ⟨V, hV⟩ : ∃ V, V = W.alloc (.cells #[.int .i64 rk, .int .i64 rt, .int .i64 rv] 38) := ⟨_, rfl⟩
 have hx : BoxT 38 V W.heap.size #[.int .i64 rk, .int .i64 rt, .int .i64 rv] := by rw [hV]; exact BoxT.new 38 W _
 rw [← hV] at hb1
 have hd : Below W.heap.size W V.drew := hb1.drew
 have HB := hide hd
 have h2 := h0.below hd
 have HR := hide (noneE_any V.drew rk rt rv)
 have y0 := (hb.below hd).cellAt 0
 simp only [List.getElem?_toArray, List.getElem?_cons_zero] at y0
 obtain ⟨y1, y2, y3⟩ := (hx.below (show Below V.heap.size V V.drew from (Below.refl _ _).drew)).cells3
 have HXD := hide (hx.below (show Below V.heap.size V V.drew from (Below.refl _ _).drew))
 have HOD := hide (hb.below hd)
 have hm := m_recNon V.drew
 have HV := hide hV
 clear h0 h2 hb1 hx hd hV hb _hf
 go_enter Tryz.func14, Tryz.ntmps14
 go_upto_region 1 with fail
 refine wp_at (fun V' => V' = V) HV.out.symm ?_
 rintro V' rfl
 clear HV
 go_region_held3 (fun w' => w'.cell? ⟨O, 0, none⟩ = some (.iface 85 (.agg #[])) ∧ w'.cell? ⟨W.heap.size, 0, none⟩ = some (.int .i64 rk) ∧ w'.cell? ⟨W.heap.size, 1, none⟩ = some (.int .i64 rt) ∧ w'.cell? ⟨W.heap.size, 2, none⟩ = some (.int .i64 rv)) (first | go_keep | exact ⟨y0, y1, y2, y3⟩ | exact ⟨z0, z1, z2, z3⟩)
  (first | (go_at_call 80; refine HR.out.mono ?_; rintro e w2 ⟨rfl, b2⟩; have L2 := hide (LSeg.nil' 3 Rc.cs w2.heap.size w2); have B2 := hide (HB.out.trans (b2.mono HB.out.size)); have z0 : w2.cell? ⟨O, 0, none⟩ = some (.iface 85 (.agg #[])) := (HOD.out.below b2).cellAt 0; obtain ⟨z1, z2, z3⟩ := BoxT.cells3 (t := 38) (HXD.out.below b2); clear b2) | fail)
 go_wp2_with fail
 go_ret
 exact ⟨_, rfl, L2.out, B2.out⟩
theorem SO.record {W : World} {O T : Nat} {e : J.Ex} (h : SO W O T e) (rk rt rv : Int) : Calls Tryz.prog 14 #[.pointer (some ⟨O, 0, none⟩), .agg #[.int .i64 rk, .int .i64 rt, .int .i64 rv]] W fun r w' => ∃ u, r = .returned u ∧ LSeg 3 Rc.cs w'.heap.size w' u (rsO T e rk rt rv) ∧ Below W.heap.size W w' := by
 obtain ⟨hb, hk, hi, hf⟩ := h
 rcases hk with rfl | rfl | rfl | rfl | rfl
 ·exact recNon hb hi hf rk rt rv
 ·exact recMap hb hi hf rk rt rv
 ·exact recFlt hb hi hf rk rt rv
 ·exact recKey hb hi hf rk rt rv
 ·exact recPas hb hi hf rk rt rv
theorem st_mark (w : World) (m : Int) : Calls Tryz.prog 78 #[.agg #[], .int .i64 m] w fun r w' => r = .returned (.slice none 0 0) ∧ Below w.heap.size w w' := by
 have HB := hide (below_box w (.cells #[] 85))
 go_enter Tryz.func78, Tryz.ntmps78
 go_wp2_with fail
 go_ret
 exact ⟨rfl, HB.out⟩
theorem m_mark85 (W : World)  : (method 317 85 (.agg #[]) "leat/ops.mark").run Tryz.prog W = .ok (78, .agg #[]) W := by kernel_rfl
theorem m_mark87 (W : World) (op n : Int) (a : Option Addr) (en c : Nat) : (method 317 87 (.agg #[.int .i64 op, .int .i64 n, .slice a en c]) "leat/ops.mark").run Tryz.prog W = .ok (78, .agg #[]) W := by kernel_rfl
theorem m_mark88 (W : World) (op n : Int) (a : Option Addr) (en c : Nat) : (method 317 88 (.agg #[.int .i64 op, .int .i64 n, .slice a en c]) "leat/ops.mark").run Tryz.prog W = .ok (78, .agg #[]) W := by kernel_rfl
theorem m_mark89 (W : World) (op n : Int) (a : Option Addr) (en c : Nat) : (method 317 89 (.agg #[.int .i64 op, .int .i64 n, .slice a en c]) "leat/ops.mark").run Tryz.prog W = .ok (78, .agg #[]) W := by kernel_rfl
theorem m_mark91 (W : World)  : (method 317 91 (.agg #[]) "leat/ops.mark").run Tryz.prog W = .ok (78, .agg #[]) W := by kernel_rfl
theorem SO.mark {W : World} {O T : Nat} {e : J.Ex} (h : SO W O T e) (m : Int) : Calls Tryz.prog 16 #[.pointer (some ⟨O, 0, none⟩), .int .i64 m] W fun r w' => r = .returned (.slice none 0 0) ∧ Below W.heap.size W w' := by
 have HS := hide (st_mark W m)
 obtain ⟨hb, hk, hi, hf⟩ := h
 have y0 := hb.cellAt 0
 clear hb hi hf
 obtain ⟨op, n, a, c, l⟩ := e
 rcases hk with rfl | rfl | rfl | rfl | rfl
 ·have y : W.cell? ⟨O, 0, none⟩ = some (.iface 85 (.agg #[])) := y0
  have hm := m_mark85 W
  clear y0
  generalize l.length = en at *
  go_enter Tryz.func16, Tryz.ntmps16
  go_wp2_with (go_at_call 78; refine HS.out.mono ?_; rintro r w2 ⟨rfl, b2⟩; have B2 := hide b2; clear b2)
  go_ret
  exact ⟨rfl, B2.out⟩
 ·have y : W.cell? ⟨O, 0, none⟩ = some (.iface 87 (.agg #[.int .i64 op, .int .i64 n, .slice a l.length c])) := y0
  have hm := m_mark87 W op n a l.length c
  clear y0
  generalize l.length = en at *
  go_enter Tryz.func16, Tryz.ntmps16
  go_wp2_with (go_at_call 78; refine HS.out.mono ?_; rintro r w2 ⟨rfl, b2⟩; have B2 := hide b2; clear b2)
  go_ret
  exact ⟨rfl, B2.out⟩
 ·have y : W.cell? ⟨O, 0, none⟩ = some (.iface 88 (.agg #[.int .i64 op, .int .i64 n, .slice a l.length c])) := y0
  have hm := m_mark88 W op n a l.length c
  clear y0
  generalize l.length = en at *
  go_enter Tryz.func16, Tryz.ntmps16
  go_wp2_with (go_at_call 78; refine HS.out.mono ?_; rintro r w2 ⟨rfl, b2⟩; have B2 := hide b2; clear b2)
  go_ret
  exact ⟨rfl, B2.out⟩
 ·have y : W.cell? ⟨O, 0, none⟩ = some (.iface 89 (.agg #[.int .i64 op, .int .i64 n, .slice a l.length c])) := y0
  have hm := m_mark89 W op n a l.length c
  clear y0
  generalize l.length = en at *
  go_enter Tryz.func16, Tryz.ntmps16
  go_wp2_with (go_at_call 78; refine HS.out.mono ?_; rintro r w2 ⟨rfl, b2⟩; have B2 := hide b2; clear b2)
  go_ret
  exact ⟨rfl, B2.out⟩
 ·have y : W.cell? ⟨O, 0, none⟩ = some (.iface 91 (.agg #[])) := y0
  have hm := m_mark91 W
  clear y0
  generalize l.length = en at *
  go_enter Tryz.func16, Tryz.ntmps16
  go_wp2_with (go_at_call 78; refine HS.out.mono ?_; rintro r w2 ⟨rfl, b2⟩; have B2 := hide b2; clear b2)
  go_ret
  exact ⟨rfl, B2.out⟩
theorem st_panes (w : World) : Calls Tryz.prog 79 #[.agg #[]] w fun r w' => r = .returned (.slice none 0 0) ∧ Below w.heap.size w w' := by
 have HB := hide (below_box w (.cells #[] 85))
 go_enter Tryz.func79, Tryz.ntmps79
 go_wp2_with fail
 go_ret
 exact ⟨rfl, HB.out⟩
theorem m_panes85 (W : World)  : (method 317 85 (.agg #[]) "leat/ops.panes").run Tryz.prog W = .ok (79, .agg #[]) W := by kernel_rfl
theorem m_panes87 (W : World) (op n : Int) (a : Option Addr) (en c : Nat) : (method 317 87 (.agg #[.int .i64 op, .int .i64 n, .slice a en c]) "leat/ops.panes").run Tryz.prog W = .ok (79, .agg #[]) W := by kernel_rfl
theorem m_panes88 (W : World) (op n : Int) (a : Option Addr) (en c : Nat) : (method 317 88 (.agg #[.int .i64 op, .int .i64 n, .slice a en c]) "leat/ops.panes").run Tryz.prog W = .ok (79, .agg #[]) W := by kernel_rfl
theorem m_panes89 (W : World) (op n : Int) (a : Option Addr) (en c : Nat) : (method 317 89 (.agg #[.int .i64 op, .int .i64 n, .slice a en c]) "leat/ops.panes").run Tryz.prog W = .ok (79, .agg #[]) W := by kernel_rfl
theorem m_panes91 (W : World)  : (method 317 91 (.agg #[]) "leat/ops.panes").run Tryz.prog W = .ok (79, .agg #[]) W := by kernel_rfl
theorem SO.panes {W : World} {O T : Nat} {e : J.Ex} (h : SO W O T e) : Calls Tryz.prog 19 #[.pointer (some ⟨O, 0, none⟩)] W fun r w' => r = .returned (.slice none 0 0) ∧ Below W.heap.size W w' := by
 have HS := hide (st_panes W)
 obtain ⟨hb, hk, hi, hf⟩ := h
 have y0 := hb.cellAt 0
 clear hb hi hf
 obtain ⟨op, n, a, c, l⟩ := e
 rcases hk with rfl | rfl | rfl | rfl | rfl
 ·have y : W.cell? ⟨O, 0, none⟩ = some (.iface 85 (.agg #[])) := y0
  have hm := m_panes85 W
  clear y0
  generalize l.length = en at *
  go_enter Tryz.func19, Tryz.ntmps19
  go_wp2_with (go_at_call 79; refine HS.out.mono ?_; rintro r w2 ⟨rfl, b2⟩; have B2 := hide b2; clear b2)
  go_ret
  exact ⟨rfl, B2.out⟩
 ·have y : W.cell? ⟨O, 0, none⟩ = some (.iface 87 (.agg #[.int .i64 op, .int .i64 n, .slice a l.length c])) := y0
  have hm := m_panes87 W op n a l.length c
  clear y0
  generalize l.length = en at *
  go_enter Tryz.func19, Tryz.ntmps19
  go_wp2_with (go_at_call 79; refine HS.out.mono ?_; rintro r w2 ⟨rfl, b2⟩; have B2 := hide b2; clear b2)
  go_ret
  exact ⟨rfl, B2.out⟩
 ·have y : W.cell? ⟨O, 0, none⟩ = some (.iface 88 (.agg #[.int .i64 op, .int .i64 n, .slice a l.length c])) := y0
  have hm := m_panes88 W op n a l.length c
  clear y0
  generalize l.length = en at *
  go_enter Tryz.func19, Tryz.ntmps19
  go_wp2_with (go_at_call 79; refine HS.out.mono ?_; rintro r w2 ⟨rfl, b2⟩; have B2 := hide b2; clear b2)
  go_ret
  exact ⟨rfl, B2.out⟩
 ·have y : W.cell? ⟨O, 0, none⟩ = some (.iface 89 (.agg #[.int .i64 op, .int .i64 n, .slice a l.length c])) := y0
  have hm := m_panes89 W op n a l.length c
  clear y0
  generalize l.length = en at *
  go_enter Tryz.func19, Tryz.ntmps19
  go_wp2_with (go_at_call 79; refine HS.out.mono ?_; rintro r w2 ⟨rfl, b2⟩; have B2 := hide b2; clear b2)
  go_ret
  exact ⟨rfl, B2.out⟩
 ·have y : W.cell? ⟨O, 0, none⟩ = some (.iface 91 (.agg #[])) := y0
  have hm := m_panes91 W
  clear y0
  generalize l.length = en at *
  go_enter Tryz.func19, Tryz.ntmps19
  go_wp2_with (go_at_call 79; refine HS.out.mono ?_; rintro r w2 ⟨rfl, b2⟩; have B2 := hide b2; clear b2)
  go_ret
  exact ⟨rfl, B2.out⟩
theorem st_late (w : World) : Calls Tryz.prog 76 #[.agg #[]] w fun r w' => r = .returned (.int .i64 0) ∧ Below w.heap.size w w' := by
 have HB := hide (below_box w (.cells #[] 85))
 go_enter Tryz.func76, Tryz.ntmps76
 go_wp2_with fail
 go_ret
 exact ⟨rfl, HB.out⟩
theorem m_late85 (W : World)  : (method 317 85 (.agg #[]) "leat/ops.late").run Tryz.prog W = .ok (76, .agg #[]) W := by kernel_rfl
theorem m_late87 (W : World) (op n : Int) (a : Option Addr) (en c : Nat) : (method 317 87 (.agg #[.int .i64 op, .int .i64 n, .slice a en c]) "leat/ops.late").run Tryz.prog W = .ok (76, .agg #[]) W := by kernel_rfl
theorem m_late88 (W : World) (op n : Int) (a : Option Addr) (en c : Nat) : (method 317 88 (.agg #[.int .i64 op, .int .i64 n, .slice a en c]) "leat/ops.late").run Tryz.prog W = .ok (76, .agg #[]) W := by kernel_rfl
theorem m_late89 (W : World) (op n : Int) (a : Option Addr) (en c : Nat) : (method 317 89 (.agg #[.int .i64 op, .int .i64 n, .slice a en c]) "leat/ops.late").run Tryz.prog W = .ok (76, .agg #[]) W := by kernel_rfl
theorem m_late91 (W : World)  : (method 317 91 (.agg #[]) "leat/ops.late").run Tryz.prog W = .ok (76, .agg #[]) W := by kernel_rfl
theorem SO.late {W : World} {O T : Nat} {e : J.Ex} (h : SO W O T e) : Calls Tryz.prog 20 #[.pointer (some ⟨O, 0, none⟩)] W fun r w' => r = .returned (.int .i64 0) ∧ Below W.heap.size W w' := by
 have HS := hide (st_late W)
 obtain ⟨hb, hk, hi, hf⟩ := h
 have y0 := hb.cellAt 0
 clear hb hi hf
 obtain ⟨op, n, a, c, l⟩ := e
 rcases hk with rfl | rfl | rfl | rfl | rfl
 ·have y : W.cell? ⟨O, 0, none⟩ = some (.iface 85 (.agg #[])) := y0
  have hm := m_late85 W
  clear y0
  generalize l.length = en at *
  go_enter Tryz.func20, Tryz.ntmps20
  go_wp2_with (go_at_call 76; refine HS.out.mono ?_; rintro r w2 ⟨rfl, b2⟩; have B2 := hide b2; clear b2)
  go_ret
  exact ⟨rfl, B2.out⟩
 ·have y : W.cell? ⟨O, 0, none⟩ = some (.iface 87 (.agg #[.int .i64 op, .int .i64 n, .slice a l.length c])) := y0
  have hm := m_late87 W op n a l.length c
  clear y0
  generalize l.length = en at *
  go_enter Tryz.func20, Tryz.ntmps20
  go_wp2_with (go_at_call 76; refine HS.out.mono ?_; rintro r w2 ⟨rfl, b2⟩; have B2 := hide b2; clear b2)
  go_ret
  exact ⟨rfl, B2.out⟩
 ·have y : W.cell? ⟨O, 0, none⟩ = some (.iface 88 (.agg #[.int .i64 op, .int .i64 n, .slice a l.length c])) := y0
  have hm := m_late88 W op n a l.length c
  clear y0
  generalize l.length = en at *
  go_enter Tryz.func20, Tryz.ntmps20
  go_wp2_with (go_at_call 76; refine HS.out.mono ?_; rintro r w2 ⟨rfl, b2⟩; have B2 := hide b2; clear b2)
  go_ret
  exact ⟨rfl, B2.out⟩
 ·have y : W.cell? ⟨O, 0, none⟩ = some (.iface 89 (.agg #[.int .i64 op, .int .i64 n, .slice a l.length c])) := y0
  have hm := m_late89 W op n a l.length c
  clear y0
  generalize l.length = en at *
  go_enter Tryz.func20, Tryz.ntmps20
  go_wp2_with (go_at_call 76; refine HS.out.mono ?_; rintro r w2 ⟨rfl, b2⟩; have B2 := hide b2; clear b2)
  go_ret
  exact ⟨rfl, B2.out⟩
 ·have y : W.cell? ⟨O, 0, none⟩ = some (.iface 91 (.agg #[])) := y0
  have hm := m_late91 W
  clear y0
  generalize l.length = en at *
  go_enter Tryz.func20, Tryz.ntmps20
  go_wp2_with (go_at_call 76; refine HS.out.mono ?_; rintro r w2 ⟨rfl, b2⟩; have B2 := hide b2; clear b2)
  go_ret
  exact ⟨rfl, B2.out⟩
end Go.Proofs.YtpcbhcdpegbfjaaGreat
/-
 What OpsNever asks, pure.
-/
namespace Go.Proofs.YtpcbhcdpegbfjaaGreat
open Go.RowKit
theorem spans_over {k size slide t : Int} (hw : FitW k size slide) (ht : TimeOk t) : ∀ s ∈ pSpans k size slide t, t < s.t := by
 have hs := fit_size hw
 have hk : k = 1 ∨ k = 2 ∨ k = 3 := by obtain ⟨h1, h2, _⟩ := hw; omega
 rcases hk with rfl | rfl | rfl
 ·rw [spans_one hw ht]
  obtain ⟨h1, h2⟩ := since_in (t := t) hs.1
  intro s h
  obtain rfl := List.mem_singleton.1 h
  dsimp only
  omega
 ·rw [spans_two hw ht]
  have h2 : 1 ≤ slide ∧ slide ≤ 68719476736 := by obtain ⟨_, _, _, _, ⟨_, h2, h3, _⟩ | ⟨h2, _⟩⟩ := hw; exact ⟨h2, h3⟩; exact absurd rfl h2
  obtain ⟨h3, h4⟩ := since_in (t := t) h2.1
  intro s h
  rw [List.mem_reverse] at h
  unfold bkS at h
  obtain ⟨i, hi, rfl⟩ := List.mem_map.1 h
  have h5 := (cnt_iff (size := size) (since := sinceOf slide t) h2.1 i).1 (List.mem_range.1 hi)
  dsimp only
  generalize (i : Int) * slide = z at *
  omega
 ·rw [spans_three hw ht]
  intro s h
  obtain rfl := List.mem_singleton.1 h
  dsimp only
  omega
theorem late_none {k size slide t g : Int} (hw : FitW k size slide) (ht : TimeOk t) (hg : g < t) : ∀ sp ∈ pSpans k size slide t, lateB g sp = false := by
 intro sp h
 have h1 := spans_over hw ht sp h
 have h2 := spans_bd hw ht sp h
 unfold lateB
 have e : wrap64 (sp.t - 1) = sp.t - 1 := by unfold wrap64; omega
 rw [e]
 exact decide_eq_false (by omega)
def Up (k g : Int) (p : Pn) : Prop := Fn k p ∧ g < p.t - 1
theorem Up.last {k g : Int} {p : Pn} (h : Up k g p) : wrap64 (p.t - 1) = p.t - 1 := by
 obtain ⟨⟨h1, _⟩, _⟩ := h
 unfold Bd at h1
 unfold wrap64; omega
theorem frS_up {k size slide a g : Int} (hw : FitW k size slide) {r : Rc} (ht : TimeOk r.t) (hg : g < r.t) : ∀ p ∈ frS k size slide a r, Up k g p := by
 intro p hp
 refine ⟨frS_fn hw ht p hp, ?_⟩
 unfold frS at hp
 obtain ⟨sp, hsp, rfl⟩ := List.mem_map.1 hp
 have hk0 : k ≠ 0 := by obtain ⟨h1, _⟩ := hw; omega
 unfold sps at hsp
 rw [if_neg hk0] at hsp
 have := spans_over hw ht sp hsp
 show g < sp.t - 1
 omega
theorem Reds.up {k g : Int} {J : Int → Int → Int} {l m : List Pn} (h : Reds (sess k) J l m) (hl : ∀ p ∈ l, Up k g p) : ∀ p ∈ m, Up k g p :=
 Reds.keeps (P := Up k g) (fun x y _ hx hy => by
  unfold Up Fn Bd jp at *
  dsimp only at *
  refine ⟨⟨by omega, fun e => ?_⟩, by omega⟩
  have h1 := hx.1.2 e
  omega) h hl
theorem left_up {k g m : Int} {M : List Pn} (h : ∀ p ∈ M, Up k g p) : ∀ p ∈ leftM g m M, Up k (max g m) p := by
 intro p hp
 unfold leftM at hp
 split at hp
 ·rename_i hm
  rw [show max g m = g by omega]
  exact h p hp
 ·rename_i hm
  rw [show max g m = m by omega]
  have hq := List.mem_filter.1 hp
  have hu := h p hq.1
  refine ⟨hu.1, ?_⟩
  have h1 : ovr m p = false := by simpa using hq.2
  have h2 := of_decide_eq_false h1
  rw [hu.last] at h2
  omega
theorem out_in {k g m : Int} {M : List Pn} (h : ∀ p ∈ M, Up k g p) : ∀ r ∈ outM g m M, g < r.t ∧ r.t ≤ m := by
 intro r hr
 unfold outM at hr
 split at hr
 ·cases hr
 ·unfold outF at hr
  obtain ⟨p, hp, rfl⟩ := List.mem_map.1 hr
  obtain ⟨h1, h2⟩ := List.mem_filter.1 hp
  have h3 := (srt_perm _).mem_iff.1 h1
  have hu := h p (List.mem_filter.1 h3).1
  have h4 := of_decide_eq_true h2
  have h5 := hu.2
  show g < wrap64 (p.t - 1) ∧ wrap64 (p.t - 1) ≤ m
  rw [hu.last] at h4 ⊢
  exact ⟨h5, h4⟩
theorem outM_len (g m : Int) (M : List Pn) : (outM g m M).length ≤ M.length := by
 unfold outM
 split
 ·simp
 ·refine Nat.le_trans (out_len _ _) ?_
  rw [(srt_perm _).length_eq]
  exact List.length_filter_le ..
theorem leftM_len (g m : Int) (M : List Pn) : (leftM g m M).length ≤ M.length := by
 unfold leftM
 split
 ·exact Nat.le_refl _
 ·exact left_len _ _
theorem leftM_ap {s : Bool} {g m : Int} {M : List Pn} (h : Apart s M) : Apart s (leftM g m M) := by
 unfold leftM
 split
 ·exact h
 ·exact List.Pairwise.sublist (List.filter_sublist ..) h
end Go.Proofs.YtpcbhcdpegbfjaaGreat
