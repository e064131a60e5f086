/-
  Texts in build order: OFlt, OKnown, OOp.
-/
import Derived.Test.YtpcbhcdpegbfjaaGreatM17
import Derived.Test.YtpcbhcdpegbfjaaGreatM22
/-
 The filter of the law's example: lt(val, c3).
-/
namespace Go.Proofs.YtpcbhcdpegbfjaaGreat
set_option maxHeartbeats 16000000
set_option maxRecDepth 100000
open Go.RowKit
def Kids (w : World) (b : Nat) (a1 : Option Addr) (c1 : Nat) (a2 : Option Addr) (c2 : Nat) : Prop := BoxT 25 w b #[.int .i64 4, .int .i64 0, .slice a1 0 c1, .int .i64 1, .int .i64 3, .slice a2 0 c2]
theorem Kids.all6 {w : World} {b : Nat} {a1 : Option Addr} {c1 : Nat} {a2 : Option Addr} {c2 : Nat} (h : Kids w b a1 c1 a2 c2) : w.cell? ⟨b, 0, none⟩ = some (.int .i64 4) ∧ w.cell? ⟨b, 1, none⟩ = some (.int .i64 0) ∧ w.cell? ⟨b, 2, none⟩ = some (.slice a1 0 c1) ∧ w.cell? ⟨b, 3, none⟩ = some (.int .i64 1) ∧ w.cell? ⟨b, 4, none⟩ = some (.int .i64 3) ∧ w.cell? ⟨b, 5, none⟩ = some (.slice a2 0 c2) := by
 unfold Kids BoxT at h
 simp [World.cell?, h]
theorem Kids.below {w w' : World} {b : Nat} {a1 : Option Addr} {c1 : Nat} {a2 : Option Addr} {c2 : Nat} (h : Kids w b a1 c1 a2 c2) (hb : Below w.heap.size w w') : Kids w' b a1 c1 a2 c2 := BoxT.below (t := 25) h hb
theorem value_val (w : World) (a : Option Addr) (c : Nat) (rk rt rv : Int) : Calls Tryz.prog 83 #[.agg #[.int .i64 4, .int .i64 0, .slice a 0 c], .agg #[.int .i64 rk, .int .i64 rt, .int .i64 rv]] w fun e w' => e = .returned (.int .i64 rv) ∧ Below w.heap.size w w' := by
 go_enter Tryz.func83, Tryz.ntmps83
 go_wp2_with fail
 go_ret
 exact ⟨rfl, below_box2 w _ _⟩
theorem value_cst (w : World) (m : Int) (a : Option Addr) (c : Nat) (rk rt rv : Int) : Calls Tryz.prog 83 #[.agg #[.int .i64 1, .int .i64 m, .slice a 0 c], .agg #[.int .i64 rk, .int .i64 rt, .int .i64 rv]] w fun e w' => e = .returned (.int .i64 m) ∧ Below w.heap.size w w' := by
 go_enter Tryz.func83, Tryz.ntmps83
 go_wp2_with fail
 go_ret
 exact ⟨rfl, below_box2 w _ _⟩
theorem both_lt (w : World) (x y : Int) (q : Int) (hq : q = if x < y then 1 else 0) : Calls Tryz.prog 84 #[.int .i64 12, .int .i64 x, .int .i64 y] w fun e w' => e = .returned (.int .i64 q) ∧ Below w.heap.size w w' := by
 by_cases h : x < y
 ·rw [if_pos h] at hq
  subst hq
  go_enter Tryz.func84, Tryz.ntmps84
  go_wp2_with fail
  go_ret
  exact ⟨rfl, Below.refl _ _⟩
 ·rw [if_neg h] at hq
  subst hq
  go_enter Tryz.func84, Tryz.ntmps84
  go_wp2_with fail
  go_ret
  exact ⟨rfl, Below.refl _ _⟩
theorem value_lt {w : World} {b : Nat} {a1 : Option Addr} {c1 : Nat} {a2 : Option Addr} {c2 : Nat} (h : Kids w b a1 c1 a2 c2) (rk rt rv q : Int) (hq : q = if rv < 3 then 1 else 0) : Calls Tryz.prog 83 #[.agg #[.int .i64 12, .int .i64 0, .slice (some ⟨b, 0, none⟩) 2 2], .agg #[.int .i64 rk, .int .i64 rt, .int .i64 rv]] w fun e w' => e = .returned (.int .i64 q) ∧ Below w.heap.size w w' := by
 have HB := hide (below_box2 w (.cells #[.int .i64 12, .int .i64 0, .slice (some ⟨b, 0, none⟩) 2 2] 25) (.cells #[.int .i64 rk, .int .i64 rt, .int .i64 rv] 38))
 have HX := hide ((BoxT.new 25 w #[.int .i64 12, .int .i64 0, .slice (some ⟨b, 0, none⟩) 2 2]).alloc (.cells #[.int .i64 rk, .int .i64 rt, .int .i64 rv] 38))
 have HR : Hid (BoxT 38 ((w.alloc (.cells #[.int .i64 12, .int .i64 0, .slice (some ⟨b, 0, none⟩) 2 2] 25)).alloc (.cells #[.int .i64 rk, .int .i64 rt, .int .i64 rv] 38)) (w.heap.size + 1) #[.int .i64 rk, .int .i64 rt, .int .i64 rv]) := BoxT.new_at (by simp)
 have HK := hide (h.below HB.out)
 have HQ := hide hq
 clear h hq
 go_enter Tryz.func83, Tryz.ntmps83
 go_upto_region 14 with fail
 refine wp_at (fun V => BoxT 25 V w.heap.size _ ∧ BoxT 38 V (w.heap.size + 1) _ ∧ Kids V b a1 c1 a2 c2 ∧ Below w.heap.size w V) ⟨HX.out, HR.out, HK.out, HB.out⟩ ?_
 clear HX HR HK HB
 rintro V ⟨XV, RV, KV, BV⟩
 have HXD := hide (XV.below (show Below V.heap.size V V.drew from (Below.refl _ _).drew))
 have HRD := hide (RV.below (show Below V.heap.size V V.drew from (Below.refl _ _).drew))
 have HKD := hide (KV.below (show Below V.heap.size V V.drew from (Below.refl _ _).drew))
 have HBD := hide BV.drew
 obtain ⟨x0, x1, x2⟩ := HXD.out.cells3
 obtain ⟨r0, r1, r2⟩ := HRD.out.cells3
 obtain ⟨k0, k1, k2, k3, k4, k5⟩ := HKD.out.all6
 clear XV RV KV BV
 go_region_held3 (fun w' => (w'.cell? ⟨w.heap.size, 0, none⟩ = some (.int .i64 12) ∧ w'.cell? ⟨w.heap.size, 2, none⟩ = some (.slice (some ⟨b, 0, none⟩) 2 2)) ∧ (w'.cell? ⟨w.heap.size + 1, 0, none⟩ = some (.int .i64 rk) ∧ w'.cell? ⟨w.heap.size + 1, 1, none⟩ = some (.int .i64 rt) ∧ w'.cell? ⟨w.heap.size + 1, 2, none⟩ = some (.int .i64 rv)) ∧ w'.cell? ⟨b, 0, none⟩ = some (.int .i64 4) ∧ w'.cell? ⟨b, 1, none⟩ = some (.int .i64 0) ∧ w'.cell? ⟨b, 2, none⟩ = some (.slice a1 0 c1) ∧ w'.cell? ⟨b, 3, none⟩ = some (.int .i64 1) ∧ w'.cell? ⟨b, 4, none⟩ = some (.int .i64 3) ∧ w'.cell? ⟨b, 5, none⟩ = some (.slice a2 0 c2)) (first | go_keep | exact ⟨⟨x0, x2⟩, ⟨r0, r1, r2⟩, k0, k1, k2, k3, k4, k5⟩ | exact ⟨⟨y0, y2⟩, ⟨s0, s1, s2⟩, l0, l1, l2, l3, l4, l5⟩ | exact ⟨⟨z0, z2⟩, ⟨t0, t1, t2⟩, m0, m1, m2, m3, m4, m5⟩ | exact ⟨⟨pa, pc⟩, ⟨qa, qb, qc⟩, na, nb, nc, nd, ne, nf⟩)
  (first
  | (go_at_call 83; have chk := HX2; clear chk; refine (value_cst _ _ _ _ _ _ _).mono ?_; rintro e w3 ⟨rfl, b3⟩; have HB3 := hide (HB2.out.trans (b3.mono HB2.out.size)); have HX3 := hide (HX2.out.below b3); have HR3 := hide (HR2.out.below b3); have HK3 := hide (HK2.out.below b3); obtain ⟨z0, z1, z2⟩ := HX3.out.cells3; obtain ⟨t0, t1, t2⟩ := HR3.out.cells3; obtain ⟨m0, m1, m2, m3, m4, m5⟩ := HK3.out.all6; clear b3)
  | (go_at_call 83; refine (value_val _ _ _ _ _ _).mono ?_; rintro e w2 ⟨rfl, b2⟩; have HX2 := hide (HXD.out.below b2); have HR2 := hide (HRD.out.below b2); have HK2 := hide (HKD.out.below b2); have HB2 := hide (HBD.out.trans (b2.mono HBD.out.size)); obtain ⟨y0, y1, y2⟩ := HX2.out.cells3; obtain ⟨s0, s1, s2⟩ := HR2.out.cells3; obtain ⟨l0, l1, l2, l3, l4, l5⟩ := HK2.out.all6; clear b2)
  | (go_at_call 84; refine (both_lt _ _ _ q HQ.out).mono ?_; rintro e w4 ⟨rfl, b4⟩; have HB4 := hide (HB3.out.trans (b4.mono HB3.out.size)); obtain ⟨pa, pb, pc⟩ := (HX3.out.below b4).cells3; obtain ⟨qa, qb, qc⟩ := (HR3.out.below b4).cells3; obtain ⟨na, nb, nc, nd, ne, nf⟩ := (HK3.out.below b4).all6; clear b4)
  | fail)
 go_wp2_with fail
 go_ret
 exact ⟨rfl, HB4.out⟩
def eF (b : Nat) (a1 : Option Addr) (c1 : Nat) (a2 : Option Addr) (c2 : Nat) : J.Ex := ⟨12, 0, some ⟨b, 0, none⟩, 2, [⟨4, 0, a1, c1, []⟩, ⟨1, 3, a2, c2, []⟩]⟩
theorem Kids.in_ {w : World} {b : Nat} {a1 : Option Addr} {c1 : Nat} {a2 : Option Addr} {c2 : Nat} (h : Kids w b a1 c1 a2 c2) : J.In w (eF b a1 c1 a2 c2) := by
 obtain ⟨k0, k1, k2, k3, k4, k5⟩ := h.all6
 refine J.In.mk ⟨by simp [eF], by simp [eF], by simp [eF], by simp [eF], by simp [eF], by simp [eF], fun i x hx => ?_⟩ (fun x hx => ?_)
 ·match i, hx with
  | 0, hx =>
   obtain rfl : (⟨4, 0, a1, c1, []⟩ : J.Ex) = x := by simpa [eF] using hx
   exact ⟨b, 0, rfl, k0, k1, k2⟩
  | 1, hx =>
   obtain rfl : (⟨1, 3, a2, c2, []⟩ : J.Ex) = x := by simpa [eF] using hx
   exact ⟨b, 0, rfl, k3, k4, k5⟩
  | i + 2, hx => simp [eF] at hx
 ·simp only [eF, List.mem_cons, List.not_mem_nil, or_false] at hx
  rcases hx with rfl | rfl
  ·exact J.In.mk ⟨by simp, by simp, by simp, by simp, by simp, Nat.zero_le _, fun i x hx => by simp at hx⟩ (fun x hx => by simp at hx)
  ·exact J.In.mk ⟨by simp, by simp, by simp, by simp, by simp, Nat.zero_le _, fun i x hx => by simp at hx⟩ (fun x hx => by simp at hx)
theorem check_lt {w : World} {b : Nat} {a1 : Option Addr} {c1 : Nat} {a2 : Option Addr} {c2 : Nat} (h : Kids w b a1 c1 a2 c2) : Calls Tryz.prog 49 #[.agg #[.int .i64 12, .int .i64 0, .slice (some ⟨b, 0, none⟩) 2 2]] w fun e w' => e = .returned (.int .i64 0) ∧ Below w.heap.size w w' := by
 have hf : J.formed (eF b a1 c1 a2 c2) = true := by
  unfold eF
  rw [J.formed_mk]
  simp only [List.all_cons, List.all_nil, J.formed_mk, List.length_cons, List.length_nil]
  decide
 have hz : J.size (eF b a1 c1 a2 c2) = 3 := by
  unfold eF
  rw [J.size_mk]
  simp [J.size_mk]
 have hd : J.dep (eF b a1 c1 a2 c2) = 2 := by
  unfold eF
  rw [J.dep_mk]
  simp [J.dep_mk]
 have hc : J.chk (eF b a1 c1 a2 c2) = 0 := by
  unfold J.chk
  rw [hf, hz, hd]
  decide
 have hn : (J.cnt (eF b a1 c1 a2 c2) 1 0).2 ≠ 71 := by
  rcases J.chk_of (eF b a1 c1 a2 c2) with ⟨h1, _⟩ | ⟨h1, _⟩ | ⟨_, h2⟩
  ·rw [h1]; decide
  ·rw [h1]; decide
  ·rw [hf, hc] at h2
   simp at h2
 have := J.check_few (eF b a1 c1 a2 c2) h.in_ hn
 rw [hc] at this
 exact this
theorem eval_lt {w : World} {b : Nat} {a1 : Option Addr} {c1 : Nat} {a2 : Option Addr} {c2 : Nat} (h : Kids w b a1 c1 a2 c2) (rk rt rv q : Int) (hq : q = if rv < 3 then 1 else 0) : Calls Tryz.prog 82 #[.agg #[.int .i64 12, .int .i64 0, .slice (some ⟨b, 0, none⟩) 2 2], .agg #[.int .i64 rk, .int .i64 rt, .int .i64 rv]] w fun e w' => e = .returned (.int .i64 q) ∧ Below w.heap.size w w' := by
 have HB := hide (below_box2 w (.cells #[.int .i64 12, .int .i64 0, .slice (some ⟨b, 0, none⟩) 2 2] 25) (.cells #[.int .i64 rk, .int .i64 rt, .int .i64 rv] 38))
 have HX := hide ((BoxT.new 25 w #[.int .i64 12, .int .i64 0, .slice (some ⟨b, 0, none⟩) 2 2]).alloc (.cells #[.int .i64 rk, .int .i64 rt, .int .i64 rv] 38))
 have HR : Hid (BoxT 38 ((w.alloc (.cells #[.int .i64 12, .int .i64 0, .slice (some ⟨b, 0, none⟩) 2 2] 25)).alloc (.cells #[.int .i64 rk, .int .i64 rt, .int .i64 rv] 38)) (w.heap.size + 1) #[.int .i64 rk, .int .i64 rt, .int .i64 rv]) := BoxT.new_at (by simp)
 have HK := hide (h.below HB.out)
 have HCK := hide (check_lt HK.out)
 have HQ := hide hq
 clear h hq
 go_enter Tryz.func82, Tryz.ntmps82
 go_wp2_with (first
  | (go_at_call 49; refine HCK.out.mono ?_; rintro e w2 ⟨rfl, b2⟩; obtain ⟨y0, y1, y2⟩ := (HX.out.below b2).cells3; obtain ⟨z0, z1, z2⟩ := (HR.out.below b2).cells3; have HB2 := hide (HB.out.trans (b2.mono HB.out.size)); have HV := hide (value_lt (HK.out.below b2) rk rt rv q HQ.out); clear b2)
  | (go_at_call 83; refine HV.out.mono ?_; rintro e w3 ⟨rfl, b3⟩; have HB3 := hide (HB2.out.trans (b3.mono HB2.out.size)); clear b3))
 go_ret
 exact ⟨rfl, HB3.out⟩
theorem fltrec_any {w : World} {b : Nat} {a1 : Option Addr} {c1 : Nat} {a2 : Option Addr} {c2 : Nat} (h : Kids w b a1 c1 a2 c2) (rk rt rv : Int) : Calls Tryz.prog 85 #[.agg #[.int .i64 12, .int .i64 0, .slice (some ⟨b, 0, none⟩) 2 2], .agg #[.int .i64 rk, .int .i64 rt, .int .i64 rv]] w fun e w' => ∃ u, e = .returned u ∧ LSeg 3 Rc.cs w'.heap.size w' u (if rv < 3 then [⟨rk, rt, rv⟩] else []) ∧ Below w.heap.size w w' := by
 have HB := hide (below_box2 w (.cells #[.int .i64 12, .int .i64 0, .slice (some ⟨b, 0, none⟩) 2 2] 88) (.cells #[.int .i64 rk, .int .i64 rt, .int .i64 rv] 38))
 have HR : Hid (BoxT 38 ((w.alloc (.cells #[.int .i64 12, .int .i64 0, .slice (some ⟨b, 0, none⟩) 2 2] 88)).alloc (.cells #[.int .i64 rk, .int .i64 rt, .int .i64 rv] 38)) (w.heap.size + 1) #[.int .i64 rk, .int .i64 rt, .int .i64 rv]) := BoxT.new_at (by simp)
 have HK := hide (h.below HB.out)
 clear h
 by_cases hq : rv < 3
 ·have HE := hide (eval_lt HK.out rk rt rv 1 (by rw [if_pos hq]))
  rw [if_pos hq]
  go_enter Tryz.func85, Tryz.ntmps85
  go_wp2_with (go_at_call 82; refine HE.out.mono ?_; rintro e w2 ⟨rfl, b2⟩; obtain ⟨z0, z1, z2⟩ := (HR.out.below b2).cells3; have HB2 := hide (HB.out.trans (b2.mono HB.out.size)); clear b2)
  go_ret
  have hb := BoxT.new 38 w2 #[.int .i64 rk, .int .i64 rt, .int .i64 rv]
  refine ⟨_, rfl, ⟨_, _, rfl, by simp, .inr ⟨w2.heap.size, 0, rfl, by simp, fun i x hi j u hu => ?_⟩⟩, HB2.out.trans ((below_box w2 _).mono HB2.out.size)⟩
  match i, hi with
  | 0, hi =>
   obtain rfl : (⟨rk, rt, rv⟩ : Rc) = x := by simpa using hi
   rw [hb.cellAt]
   simpa [Rc.cs] using hu
  | i + 1, hi => simp at hi
 ·have HE := hide (eval_lt HK.out rk rt rv 0 (by rw [if_neg hq]))
  rw [if_neg hq]
  go_enter Tryz.func85, Tryz.ntmps85
  go_wp2_with (go_at_call 82; refine HE.out.mono ?_; rintro e w2 ⟨rfl, b2⟩; have HB2 := hide (HB.out.trans (b2.mono HB.out.size)); clear b2)
  go_ret
  exact ⟨_, rfl, LSeg.nil' _ _ _ _, HB2.out⟩
theorem made0 (w : World) : (Instr.makeSlice 23 (.int .i64 0) (.int .i64 0)).run Tryz.prog w = .ok (.slice (some ⟨w.heap.size, 0, none⟩) 0 0) (w.alloc (.cells #[] 25)) := by kernel_rfl
theorem made2 (w : World) : (Instr.makeSlice 23 (.int .i64 2) (.int .i64 2)).run Tryz.prog w = .ok (.slice (some ⟨w.heap.size, 0, none⟩) 2 2) (w.alloc (.cells #[.int .i64 0, .int .i64 0, .slice none 0 0, .int .i64 0, .int .i64 0, .slice none 0 0] 25)) := by kernel_rfl
theorem copy_leaf (w : World) (op m : Int) (a : Option Addr) (c : Nat) : Calls Tryz.prog 50 #[.agg #[.int .i64 op, .int .i64 m, .slice a 0 c]] w fun e w' => ∃ b, e = .returned (.agg #[.int .i64 op, .int .i64 m, .slice (some ⟨b, 0, none⟩) 0 0]) ∧ Below w.heap.size w w' := by
 have hm := made0
 go_enter Tryz.func50, Tryz.ntmps50
 go_wp2_with fail
 have HB0 : Hid (Below w.heap.size w (((w.alloc (.cells #[.int .i64 op, .int .i64 m, .slice a 0 c] 25)).alloc (.cells #[.int .i64 0, .int .i64 0, .slice none 0 0] 25)).alloc (.cells #[] 25))) := (below_box2 w _ _).alloc (by simp; omega) _
 have HX : Hid (BoxT 25 (((w.alloc (.cells #[.int .i64 op, .int .i64 m, .slice a 0 c] 25)).alloc (.cells #[.int .i64 0, .int .i64 0, .slice none 0 0] 25)).alloc (.cells #[] 25)) w.heap.size #[.int .i64 op, .int .i64 m, .slice a 0 c]) := ((BoxT.new 25 w _).alloc _).alloc _
 have HR : Hid (BoxT 25 (((w.alloc (.cells #[.int .i64 op, .int .i64 m, .slice a 0 c] 25)).alloc (.cells #[.int .i64 0, .int .i64 0, .slice none 0 0] 25)).alloc (.cells #[] 25)) (w.heap.size + 1) #[.int .i64 0, .int .i64 0, .slice none 0 0]) := BoxT.alloc (BoxT.new_at (by simp)) _
 go_loopg [4, 5, 13] 1 (fun gh _ _ iv wr => iv = .int .i64 0 ∧ 1 ≤ gh ∧ Hid (BoxT 25 wr w.heap.size #[.int .i64 op, .int .i64 m, .slice a 0 c]) ∧ Hid (BoxT 25 wr (w.heap.size + 1) #[.int .i64 0, .int .i64 0, .slice none 0 0]) ∧ Hid (Below w.heap.size w wr))
 case atStart => exact ⟨rfl, by omega, HX, HR, HB0⟩
 case round =>
  clear HX HR HB0
  obtain ⟨rfl, hg, HX, HR, HB⟩ := hrel
  obtain ⟨x0, x1, x2⟩ := HX.out.cells3
  obtain ⟨r0, r1, r2⟩ := HR.out.cells3
  have fr := HR.out.free
  go_wp2_with fail
  have z := ((((HR.out.set 0 (.int .i64 op)).set 1 (.int .i64 m)).set 2 (.slice (some ⟨w.heap.size + 1 + 1, 0, none⟩) 0 0) : BoxT 25 _ _ _)).cells3
  exact bodyPost_ret (v := .agg #[.int .i64 op, .int .i64 m, .slice (some ⟨w.heap.size + 1 + 1, 0, none⟩) 0 0]) (by simp [results, Tryz.results50, go_sem, z.1, z.2.1, z.2.2]) rfl ⟨_, rfl, (((HB.out.setCell (by show w.heap.size ≤ w.heap.size + 1; omega) _).setCell (by show w.heap.size ≤ w.heap.size + 1; omega) _).setCell (by show w.heap.size ≤ w.heap.size + 1; omega) _)⟩
theorem BoxT.all6 {t : TypeId} {w : World} {k : Nat} {c0 c1 c2 c3 c4 c5 : Value} (h : BoxT t w k #[c0, c1, c2, c3, c4, c5]) : w.cell? ⟨k, 0, none⟩ = some c0 ∧ w.cell? ⟨k, 1, none⟩ = some c1 ∧ w.cell? ⟨k, 2, none⟩ = some c2 ∧ w.cell? ⟨k, 3, none⟩ = some c3 ∧ w.cell? ⟨k, 4, none⟩ = some c4 ∧ w.cell? ⟨k, 5, none⟩ = some c5 := by
 unfold BoxT at h
 simp [World.cell?, h]
def cpC (i : Nat) (a1 : Option Addr) (a2 : Option Addr) : Array Value := if i = 0 then #[.int .i64 0, .int .i64 0, .slice none 0 0, .int .i64 0, .int .i64 0, .slice none 0 0] else if i = 1 then #[.int .i64 4, .int .i64 0, .slice a1 0 0, .int .i64 0, .int .i64 0, .slice none 0 0] else #[.int .i64 4, .int .i64 0, .slice a1 0 0, .int .i64 1, .int .i64 3, .slice a2 0 0]
theorem copy_lt {w : World} {b : Nat} {a1 : Option Addr} {c1 : Nat} {a2 : Option Addr} {c2 : Nat} (h : Kids w b a1 c1 a2 c2) : Calls Tryz.prog 50 #[.agg #[.int .i64 12, .int .i64 0, .slice (some ⟨b, 0, none⟩) 2 2]] w fun e w' => ∃ b' a1' a2', e = .returned (.agg #[.int .i64 12, .int .i64 0, .slice (some ⟨b', 0, none⟩) 2 2]) ∧ Kids w' b' a1' 0 a2' 0 ∧ w.heap.size ≤ b' ∧ Below w.heap.size w w' := by
 have hm := made2
 have HB0 : Hid (Below w.heap.size w (((w.alloc (.cells #[.int .i64 12, .int .i64 0, .slice (some ⟨b, 0, none⟩) 2 2] 25)).alloc (.cells #[.int .i64 0, .int .i64 0, .slice none 0 0] 25)).alloc (.cells (cpC 0 none none) 25))) := (below_box2 w _ _).alloc (by simp; omega) _
 have HX : Hid (BoxT 25 (((w.alloc (.cells #[.int .i64 12, .int .i64 0, .slice (some ⟨b, 0, none⟩) 2 2] 25)).alloc (.cells #[.int .i64 0, .int .i64 0, .slice none 0 0] 25)).alloc (.cells (cpC 0 none none) 25)) w.heap.size #[.int .i64 12, .int .i64 0, .slice (some ⟨b, 0, none⟩) 2 2]) := ((BoxT.new 25 w _).alloc _).alloc _
 have HR : Hid (BoxT 25 (((w.alloc (.cells #[.int .i64 12, .int .i64 0, .slice (some ⟨b, 0, none⟩) 2 2] 25)).alloc (.cells #[.int .i64 0, .int .i64 0, .slice none 0 0] 25)).alloc (.cells (cpC 0 none none) 25)) (w.heap.size + 1) #[.int .i64 0, .int .i64 0, .slice none 0 0]) := BoxT.alloc (BoxT.new_at (by simp)) _
 have HN : Hid (BoxT 25 (((w.alloc (.cells #[.int .i64 12, .int .i64 0, .slice (some ⟨b, 0, none⟩) 2 2] 25)).alloc (.cells #[.int .i64 0, .int .i64 0, .slice none 0 0] 25)).alloc (.cells (cpC 0 none none) 25)) (w.heap.size + 2) (cpC 0 none none)) := BoxT.new_at (by simp)
 have HKI := hide h
 clear h
 go_enter Tryz.func50, Tryz.ntmps50
 go_wp2_with fail
 go_loopg [4, 5, 13] 3 (fun gh _ _ iv wr => ∃ (i : Nat) (a1' a2' : Option Addr), iv = .int .i64 (i : Int) ∧ i ≤ 2 ∧ 3 ≤ gh + i ∧ Hid (BoxT 25 wr w.heap.size #[.int .i64 12, .int .i64 0, .slice (some ⟨b, 0, none⟩) 2 2]) ∧ Hid (BoxT 25 wr (w.heap.size + 1) #[.int .i64 0, .int .i64 0, .slice none 0 0]) ∧ Hid (BoxT 25 wr (w.heap.size + 2) (cpC i a1' a2')) ∧ Hid (Below w.heap.size w wr))
 case atStart => exact ⟨0, none, none, rfl, by omega, by omega, HX, HR, HN, HB0⟩
 case round =>
  clear HX HR HB0 HN
  obtain ⟨i, a1', a2', rfl, hi, hg, HX, HR, HN, HB⟩ := hrel
  obtain ⟨go, rfl⟩ : ∃ go, gk = go + 1 := ⟨gk - 1, by omega⟩
  obtain ⟨x0, x1, x2⟩ := HX.out.cells3
  obtain ⟨r0, r1, r2⟩ := HR.out.cells3
  obtain ⟨k0, k1, k2, k3, k4, k5⟩ := (HKI.out.below HB.out).all6
  have fr := HR.out.free
  match i, hi, hg, HN with
  | 0, hi, hg, HN =>
   have HB1 := hide (below_box wr (.cells #[.int .i64 4, .int .i64 0, .slice a1 0 c1] 25))
   go_wp2_with (go_at_call 50; refine (copy_leaf _ _ _ _ _).mono ?_; rintro e w2 ⟨b2, rfl, bb⟩; have HB2 := hide (HB1.out.trans (bb.mono HB1.out.size)); have HX2 := hide (HX.out.below HB2.out); have HR2 := hide (HR.out.below HB2.out); have HN2 : Hid (BoxT 25 w2 (w.heap.size + 2) #[.int .i64 0, .int .i64 0, .slice none 0 0, .int .i64 0, .int .i64 0, .slice none 0 0]) := HN.out.below HB2.out; have HW2 := hide (HB.out.trans (HB2.out.mono HB.out.size)); obtain ⟨n0, n1, n2, n3, n4, n5⟩ := HN2.out.all6; have nf := HN2.out.free; clear bb)
   go_roundg go
   case rel => exact ⟨1, some ⟨b2, 0, none⟩, none, rfl, by omega, by omega, (((HX2.out.other 0 _ (by omega)).other 1 _ (by omega)).other 2 _ (by omega)), (((HR2.out.other 0 _ (by omega)).other 1 _ (by omega)).other 2 _ (by omega)), ((HN2.out.set 0 (.int .i64 4)).set 1 (.int .i64 0)).set 2 (.slice (some ⟨b2, 0, none⟩) 0 0), ((HW2.out.setCell (by show w.heap.size ≤ w.heap.size + 2; omega) _).setCell (by show w.heap.size ≤ w.heap.size + 2; omega) _).setCell (by show w.heap.size ≤ w.heap.size + 2; omega) _⟩
   case measure => omega
  | 1, hi, hg, HN =>
   have HB1 := hide (below_box wr (.cells #[.int .i64 1, .int .i64 3, .slice a2 0 c2] 25))
   go_wp2_with (go_at_call 50; refine (copy_leaf _ _ _ _ _).mono ?_; rintro e w2 ⟨b2, rfl, bb⟩; have HB2 := hide (HB1.out.trans (bb.mono HB1.out.size)); have HX2 := hide (HX.out.below HB2.out); have HR2 := hide (HR.out.below HB2.out); have HN2 : Hid (BoxT 25 w2 (w.heap.size + 2) #[.int .i64 4, .int .i64 0, .slice a1' 0 0, .int .i64 0, .int .i64 0, .slice none 0 0]) := HN.out.below HB2.out; have HW2 := hide (HB.out.trans (HB2.out.mono HB.out.size)); obtain ⟨n0, n1, n2, n3, n4, n5⟩ := HN2.out.all6; have nf := HN2.out.free; clear bb)
   go_roundg go
   case rel => exact ⟨2, a1', some ⟨b2, 0, none⟩, rfl, by omega, by omega, (((HX2.out.other 3 _ (by omega)).other 4 _ (by omega)).other 5 _ (by omega)), (((HR2.out.other 3 _ (by omega)).other 4 _ (by omega)).other 5 _ (by omega)), ((HN2.out.set 3 (.int .i64 1)).set 4 (.int .i64 3)).set 5 (.slice (some ⟨b2, 0, none⟩) 0 0), ((HW2.out.setCell (by show w.heap.size ≤ w.heap.size + 2; omega) _).setCell (by show w.heap.size ≤ w.heap.size + 2; omega) _).setCell (by show w.heap.size ≤ w.heap.size + 2; omega) _⟩
   case measure => omega
  | 2, hi, hg, HN =>
   go_wp2_with fail
   have z := ((((HR.out.set 0 (.int .i64 12)).set 1 (.int .i64 0)).set 2 (.slice (some ⟨w.heap.size + 1 + 1, 0, none⟩) 2 2) : BoxT 25 _ _ _)).cells3
   exact bodyPost_ret (v := .agg #[.int .i64 12, .int .i64 0, .slice (some ⟨w.heap.size + 1 + 1, 0, none⟩) 2 2]) (by simp [results, Tryz.results50, go_sem, z.1, z.2.1, z.2.2]) rfl ⟨_, a1', a2', rfl, (((HN.out.other 0 _ (by omega)).other 1 _ (by omega)).other 2 _ (by omega)), (by show w.heap.size ≤ w.heap.size + 1 + 1; omega), (((HB.out.setCell (by show w.heap.size ≤ w.heap.size + 1; omega) _).setCell (by show w.heap.size ≤ w.heap.size + 1; omega) _).setCell (by show w.heap.size ≤ w.heap.size + 1; omega) _)⟩
end Go.Proofs.YtpcbhcdpegbfjaaGreat
/-
 known: a filter and a window by hand.
-/
namespace Go.Proofs.YtpcbhcdpegbfjaaGreat
set_option maxHeartbeats 16000000
set_option maxRecDepth 100000
open Go.RowKit
theorem own_lt {w : World} {b : Nat} {a1 : Option Addr} {c1 : Nat} {a2 : Option Addr} {c2 : Nat} (h : Kids w b a1 c1 a2 c2) : Calls Tryz.prog 37 #[.agg #[.int .i64 12, .int .i64 0, .slice (some ⟨b, 0, none⟩) 2 2]] w fun e w' => ∃ b' a1' a2', e = .returned (.agg #[.int .i64 12, .int .i64 0, .slice (some ⟨b', 0, none⟩) 2 2]) ∧ Kids w' b' a1' 0 a2' 0 ∧ Below w.heap.size w w' := by
 have HB := hide (below_box2 w (.cells #[.int .i64 12, .int .i64 0, .slice (some ⟨b, 0, none⟩) 2 2] 25) (.cells #[.int .i64 0, .int .i64 0, .slice none 0 0] 25))
 have HX := hide ((BoxT.new 25 w #[.int .i64 12, .int .i64 0, .slice (some ⟨b, 0, none⟩) 2 2]).alloc (.cells #[.int .i64 0, .int .i64 0, .slice none 0 0] 25))
 have HR : Hid (BoxT 25 ((w.alloc (.cells #[.int .i64 12, .int .i64 0, .slice (some ⟨b, 0, none⟩) 2 2] 25)).alloc (.cells #[.int .i64 0, .int .i64 0, .slice none 0 0] 25)) (w.heap.size + 1) #[.int .i64 0, .int .i64 0, .slice none 0 0]) := BoxT.new_at (by simp)
 have HK := hide (h.below HB.out)
 have HCK := hide (check_lt HK.out)
 clear h
 go_enter Tryz.func37, Tryz.ntmps37
 go_wp2_with (first
  | (go_at_call 49; refine HCK.out.mono ?_; rintro e w2 ⟨rfl, b2⟩; have HX2 := hide (HX.out.below b2); obtain ⟨y0, y1, y2⟩ := HX2.out.cells3; have HR2 := hide (HR.out.below b2); have HB2 := hide (HB.out.trans (b2.mono HB.out.size)); have HC := hide (copy_lt (HK.out.below b2)); clear b2)
  | (go_at_call 50; refine HC.out.mono ?_; rintro e w3 ⟨b', a1', a2', rfl, k3, g3, b3⟩; have K3 := hide k3; have G3 := hide (Nat.lt_of_lt_of_le HR2.out.lt g3); have HR3 := hide (HR2.out.below b3); have HB3 := hide (HB2.out.trans (b3.mono HB2.out.size)); obtain ⟨r0, r1, r2⟩ := HR3.out.cells3; have fr := HR3.out.free; clear k3 g3 b3))
 have z := ((((HR3.out.set 0 (.int .i64 12)).set 1 (.int .i64 0)).set 2 (.slice (some ⟨b', 0, none⟩) 2 2) : BoxT 25 _ _ _)).cells3
 have hg := G3.out
 exact bodyPost_ret (v := .agg #[.int .i64 12, .int .i64 0, .slice (some ⟨b', 0, none⟩) 2 2]) (by simp [results, Tryz.results37, go_sem, z.1, z.2.1, z.2.2]) rfl ⟨b', a1', a2', rfl, ((BoxT.other (t := 25) (BoxT.other (t := 25) (BoxT.other (t := 25) K3.out 0 _ (by omega)) 1 _ (by omega)) 2 _ (by omega))), (((HB3.out.setCell (by show w.heap.size ≤ w.heap.size + 1; omega) _).setCell (by show w.heap.size ≤ w.heap.size + 1; omega) _).setCell (by show w.heap.size ≤ w.heap.size + 1; omega) _)⟩
theorem opOf_flt {w : World} {b : Nat} {a1 : Option Addr} {c1 : Nat} {a2 : Option Addr} {c2 : Nat} (h : Kids w b a1 c1 a2 c2) : Calls Tryz.prog 27 #[.agg #[.int .i64 3, .slice none 0 0, .int .i64 0, .int .i64 12, .int .i64 0, .slice (some ⟨b, 0, none⟩) 2 2, .int .i64 0, .int .i64 0, .int .i64 0, .int .i64 0]] w fun e w' => ∃ b' a1' a2', e = .returned (.iface 88 (.agg #[.int .i64 12, .int .i64 0, .slice (some ⟨b', 0, none⟩) 2 2])) ∧ Kids w' b' a1' 0 a2' 0 ∧ Below w.heap.size w w' := by
 have HB := hide (below_box w (.cells #[.int .i64 3, .slice none 0 0, .int .i64 0, .int .i64 12, .int .i64 0, .slice (some ⟨b, 0, none⟩) 2 2, .int .i64 0, .int .i64 0, .int .i64 0, .int .i64 0] 29))
 have HO := hide (own_lt (h.below HB.out))
 clear h
 go_enter Tryz.func27, Tryz.ntmps27
 go_wp2_with (go_at_call 37; refine HO.out.mono ?_; rintro e w2 ⟨b', a1', a2', rfl, k2, b2⟩; have K2 := hide k2; have B2 := hide (HB.out.trans (b2.mono HB.out.size)); clear k2 b2)
 go_ret
 exact ⟨b', a1', a2', rfl, K2.out, B2.out⟩
def OF (W : World) (O b : Nat) (a1 a2 : Option Addr) : Prop := BoxT 68 W O #[.iface 88 (.agg #[.int .i64 12, .int .i64 0, .slice (some ⟨b, 0, none⟩) 2 2])] ∧ Kids W b a1 0 a2 0
theorem New_flt {w : World} {b : Nat} {a1 : Option Addr} {c1 : Nat} {a2 : Option Addr} {c2 : Nat} (h : Kids w b a1 c1 a2 c2) : Calls Tryz.prog 10 #[.agg #[.int .i64 3, .slice none 0 0, .int .i64 0, .int .i64 12, .int .i64 0, .slice (some ⟨b, 0, none⟩) 2 2, .int .i64 0, .int .i64 0, .int .i64 0, .int .i64 0]] w fun e w' => ∃ O b' a1' a2', e = .returned (.pointer (some ⟨O, 0, none⟩)) ∧ OF w' O b' a1' a2' ∧ Below w.heap.size w w' := by
 have HB := hide (below_box w (.cells #[.int .i64 3, .slice none 0 0, .int .i64 0, .int .i64 12, .int .i64 0, .slice (some ⟨b, 0, none⟩) 2 2, .int .i64 0, .int .i64 0, .int .i64 0, .int .i64 0] 29))
 have HX := hide (BoxT.new 29 w #[.int .i64 3, .slice none 0 0, .int .i64 0, .int .i64 12, .int .i64 0, .slice (some ⟨b, 0, none⟩) 2 2, .int .i64 0, .int .i64 0, .int .i64 0, .int .i64 0])
 have HO := hide (opOf_flt (h.below HB.out))
 clear h
 go_enter Tryz.func10, Tryz.ntmps10
 go_wp2_with (go_at_call 27; refine HO.out.mono ?_; rintro e w2 ⟨b', a1', a2', rfl, k2, b2⟩; have K2 := hide k2; have B2 := hide (HB.out.trans (b2.mono HB.out.size)); clear k2 b2)
 go_ret
 have hb4 := below_box w2 (.cells #[.iface 88 (.agg #[.int .i64 12, .int .i64 0, .slice (some ⟨b', 0, none⟩) 2 2])] 68)
 exact ⟨w2.heap.size, b', a1', a2', rfl, ⟨BoxT.new 68 w2 _, K2.out.below hb4⟩, B2.out.trans (hb4.mono B2.out.size)⟩
theorem m_recF (W : World) (b : Nat) : (method 317 88 (.agg #[.int .i64 12, .int .i64 0, .slice (some ⟨b, 0, none⟩) 2 2]) "leat/ops.record").run Tryz.prog W = .ok (85, .agg #[.int .i64 12, .int .i64 0, .slice (some ⟨b, 0, none⟩) 2 2]) W := by kernel_rfl
theorem frec_any {W : World} {O b : Nat} {a1 a2 : Option Addr} (h : OF W O b a1 a2) (rk rt rv : Int) : Calls Tryz.prog 14 #[.pointer (some ⟨O, 0, none⟩), .agg #[.int .i64 rk, .int .i64 rt, .int .i64 rv]] W fun e w' => ∃ u, e = .returned u ∧ LSeg 3 Rc.cs w'.heap.size w' u (if rv < 3 then [⟨rk, rt, rv⟩] else []) ∧ Below W.heap.size W w' := by
 have hb1 := below_box W (.cells #[.int .i64 rk, .int .i64 rt, .int .i64 rv] 38)
 obtain ⟨V, hV⟩ : ∃ V, V = W.alloc (.cells #[.int .i64 rk, .int .i64 rt, .int .i64 rv] 38) := ⟨_, rfl⟩
 have hx : BoxT 38 V W.heap.size #[.int .i64 rk, .int .i64 rt, .int .i64 rv] := by rw [hV]; exact BoxT.new 38 W _
 rw [← hV] at hb1
 have hd : Below W.heap.size W V.drew := hb1.drew
 have HB := hide hd
 have h2 := h.2.below hd
 have HR := hide (fltrec_any h2 rk rt rv)
 have y0 : V.drew.cell? ⟨O, 0, none⟩ = some (.iface 88 (.agg #[.int .i64 12, .int .i64 0, .slice (some ⟨b, 0, none⟩) 2 2])) := (h.1.below hd).cellAt 0
 obtain ⟨y1, y2, y3⟩ := (hx.below (show Below V.heap.size V V.drew from (Below.refl _ _).drew)).cells3
 have HXD := hide (hx.below (show Below V.heap.size V V.drew from (Below.refl _ _).drew))
 have HOD := hide (h.1.below hd)
 have hm := m_recF V.drew b
 have HV := hide hV
 clear h h2 hb1 hx hd hV
 generalize (if rv < 3 then [(⟨rk, rt, rv⟩ : Rc)] else []) = RL at *
 go_enter Tryz.func14, Tryz.ntmps14
 go_upto_region 1 with fail
 refine wp_at (fun V' => V' = V) HV.out.symm ?_
 rintro V' rfl
 clear HV
 go_region_held3 (fun w' => w'.cell? ⟨O, 0, none⟩ = some (.iface 88 (.agg #[.int .i64 12, .int .i64 0, .slice (some ⟨b, 0, none⟩) 2 2])) ∧ w'.cell? ⟨W.heap.size, 0, none⟩ = some (.int .i64 rk) ∧ w'.cell? ⟨W.heap.size, 1, none⟩ = some (.int .i64 rt) ∧ w'.cell? ⟨W.heap.size, 2, none⟩ = some (.int .i64 rv)) (first | go_keep | exact ⟨y0, y1, y2, y3⟩ | exact ⟨z0, z1, z2, z3⟩)
  (first | (go_at_call 85; refine HR.out.mono ?_; rintro e w2 ⟨u2, rfl, l2, b2⟩; have L2 := hide l2; have B2 := hide (HB.out.trans (b2.mono HB.out.size)); have z0 : w2.cell? ⟨O, 0, none⟩ = some (.iface 88 (.agg #[.int .i64 12, .int .i64 0, .slice (some ⟨b, 0, none⟩) 2 2])) := (HOD.out.below b2).cellAt 0; obtain ⟨z1, z2, z3⟩ := BoxT.cells3 (t := 38) (HXD.out.below b2); clear l2 b2) | fail)
 go_wp2_with fail
 go_ret
 exact ⟨u2, rfl, L2.out, B2.out⟩
theorem m_panes (W : World) (K : Nat) : (method 317 100 (.pointer (some ⟨K, 0, none⟩)) "leat/ops.panes").run Tryz.prog W = .ok (91, .pointer (some ⟨K, 0, none⟩)) W := by kernel_rfl
theorem opanes_any {W : World} {O K s : Nat} {k size slide a : Int} {fp : Nat → Prop} {M : List Pn} {g d : Int} (h : OW W O K s k size slide a fp M g d) (hM : M.length ≤ 90000) : Calls Tryz.prog 19 #[.pointer (some ⟨O, 0, none⟩)] W fun e w' => ∃ ua uc, e = .returned (.slice ua M.length uc) ∧ LSeg 4 Pn.cs w'.heap.size w' (.slice ua M.length uc) (srt M) ∧ Below W.heap.size W w' := by
 have c0 : W.cell? ⟨O, 0, none⟩ = some (.iface 100 (.pointer (some ⟨K, 0, none⟩))) := h.ob.cellAt 0
 have k0 : W.cell? ⟨K, 0, none⟩ = some (.pointer (some ⟨s, 0, none⟩)) := h.kb.cellAt 0
 have HS := hide (settle_nil (h.kb.cellAt 1))
 have HP := hide (Panes_any h.sa (by omega))
 have hm := m_panes W K
 have H91 : Hid (Calls Tryz.prog 91 #[.pointer (some ⟨K, 0, none⟩)] W fun e w' => ∃ u, e = .returned u ∧ Row 79 4 Pn.cs W.heap.size w' u (srt M) ∧ Below W.heap.size W w') := (show Calls _ _ _ _ _ by
  clear c0 hm
  go_enter Tryz.func91, Tryz.ntmps91
  go_wp2_with (first
   | (go_at_call 93; refine HS.out.mono ?_; rintro e w1 ⟨rfl, e1⟩; have e2 := e1.symm; subst e2)
   | (go_at_call 96; refine HP.out.mono ?_; rintro e w2 ⟨u, rfl, r2, b2⟩; have R2 := hide r2; have B2 := hide b2; clear r2 b2))
  go_ret
  exact ⟨u, rfl, R2.out, B2.out⟩)
 clear h k0 HS HP
 go_enter Tryz.func19, Tryz.ntmps19
 go_wp2_with (go_at_call 91; refine H91.out.mono ?_; rintro e w2 ⟨u, rfl, r2, b2⟩; have R2 := hide r2; have B2 := hide b2; clear r2 b2)
 go_ret
 have hl : (srt M).length = M.length := srt_len M
 obtain ⟨ua, uc, e⟩ := R2.out.shape
 rw [hl] at e
 subst e
 exact ⟨ua, uc, rfl, R2.out.seg Pn.cs_len (by rw [hl]; omega), B2.out⟩
def pK : Pn := ⟨1, 10, 20, 4⟩
theorem kfr : frS 1 10 0 1 ⟨1, 15, 4⟩ = [pK] := by kernel_rfl
theorem ksp1 : pSpans 1 10 0 15 = [⟨10, 20⟩] := by kernel_rfl
theorem ksp2 : pSpans 1 10 0 5 = [⟨0, 10⟩] := by kernel_rfl
theorem kl1 : lateB (-9223372036854775808) ⟨10, 20⟩ = false := by kernel_rfl
theorem kl2 : lateB 9 ⟨0, 10⟩ = true := by kernel_rfl
theorem ko1 : outM (-9223372036854775808) 9 [pK] = [] := by kernel_rfl
theorem kf1 : leftM (-9223372036854775808) 9 [pK] = [pK] := by kernel_rfl
theorem ko2 : outM 9 19 [pK] = [⟨1, 19, 4⟩] := by kernel_rfl
theorem kf2 : leftM 9 19 [pK] = [] := by kernel_rfl
theorem one_of {s : Bool} {p : Pn} {M : List Pn} (h : Comes s (jn 1) [p] M) : M = [p] := List.perm_singleton.1 (Comes.unique (jn_comm 1) (jn_assoc 1) h (Comes.refl (List.pairwise_singleton _ _)))
def KW (w W : World) (O K s : Nat) (M : List Pn) (g d : Int) : Prop := (∃ fp, OW W O K s 1 10 0 1 fp M g d ∧ ∀ i, FO O K fp i → w.heap.size ≤ i) ∧ Below w.heap.size w W
theorem kfit : FitW 1 10 0 := ⟨by decide, by decide, by decide, by decide, .inr ⟨by decide, rfl⟩⟩
theorem kgrow {w W W' : World} {O K : Nat} {fp fp' : Nat → Prop} (hf : ∀ i, FO O K fp i → w.heap.size ≤ i) (hb : Below w.heap.size w W) (t : FT (FO O K fp) (FO O K fp') W W') : (∀ i, FO O K fp' i → w.heap.size ≤ i) ∧ Below w.heap.size w W' :=
 ⟨fun i hi => (t.sub i hi).elim (hf i) fun h => by have := hb.size; omega, hb.trans (t.below hb.size hf)⟩
theorem apK : Apart (sess 1) [pK] := List.pairwise_singleton _ _
theorem kw_rec1 {w W : World} {O K s : Nat} (h : KW w W O K s [] (-9223372036854775808) 0) : Calls Tryz.prog 14 #[.pointer (some ⟨O, 0, none⟩), .agg #[.int .i64 1, .int .i64 15, .int .i64 4]] W fun e w' => e = .returned (.slice none 0 0) ∧ KW w w' O K s [pK] (-9223372036854775808) 0 := by
 obtain ⟨⟨fp, o, hf⟩, hb⟩ := h
 refine (Record_any o kfit (by omega) ⟨by decide, by decide⟩ ⟨by decide, by decide⟩ 1 15 4 ⟨by decide, by decide⟩ ⟨by decide, by decide⟩ ⟨by decide, by decide⟩ (by simp) List.Pairwise.nil (.inl fun sp h => ?_)).mono ?_
 ·rw [ksp1] at h
  rw [List.mem_singleton.1 h]; exact kl1
 ·rintro e w' ⟨rfl, fp', M', d', o', t', c'⟩
  obtain ⟨h1, h2⟩ := kgrow hf hb t'
  rcases c' with ⟨c, rfl, _⟩ | ⟨_, _, _, c⟩
  ·rw [kfr] at c
   have e := one_of c
   subst e
   exact ⟨rfl, ⟨fp', o', h1⟩, h2⟩
  ·have := c ⟨10, 20⟩ (by rw [ksp1]; exact List.mem_singleton.2 rfl)
   rw [kl1] at this; cases this
theorem kw_rec2 {w W : World} {O K s : Nat} (h : KW w W O K s [pK] 9 0) : Calls Tryz.prog 14 #[.pointer (some ⟨O, 0, none⟩), .agg #[.int .i64 1, .int .i64 5, .int .i64 1]] W fun e w' => e = .returned (.slice none 0 0) ∧ KW w w' O K s [pK] 9 1 := by
 obtain ⟨⟨fp, o, hf⟩, hb⟩ := h
 refine (Record_any o kfit (by omega) ⟨by decide, by decide⟩ ⟨by decide, by decide⟩ 1 5 1 ⟨by decide, by decide⟩ ⟨by decide, by decide⟩ ⟨by decide, by decide⟩ (by simp) apK (.inr fun sp h => ?_)).mono ?_
 ·rw [ksp2] at h
  rw [List.mem_singleton.1 h]; exact kl2
 ·rintro e w' ⟨rfl, fp', M', d', o', t', c'⟩
  obtain ⟨h1, h2⟩ := kgrow hf hb t'
  rcases c' with ⟨_, _, c⟩ | ⟨rfl, e, _, c⟩
  ·have := c ⟨0, 10⟩ (by rw [ksp2]; exact List.mem_singleton.2 rfl)
   rw [kl2] at this; cases this
  ·have e1 : d' = 1 := e.trans (by kernel_rfl)
   subst e1
   exact ⟨rfl, ⟨fp', o', h1⟩, h2⟩
theorem kw_mark1 {w W : World} {O K s : Nat} (h : KW w W O K s [pK] (-9223372036854775808) 0) : Calls Tryz.prog 16 #[.pointer (some ⟨O, 0, none⟩), .int .i64 9] W fun e w' => ∃ q c, e = .returned (.slice q 0 c) ∧ KW w w' O K s [pK] 9 0 := by
 obtain ⟨⟨fp, o, hf⟩, hb⟩ := h
 refine (Mark_any o 9 (by decide) (by simp)).mono ?_
 rintro e w' ⟨u, fp', rfl, r, o', t'⟩
 obtain ⟨h1, h2⟩ := kgrow hf hb t'
 rw [ko1] at r
 rw [kf1] at o'
 obtain ⟨q, c, rfl⟩ := r.shape
 exact ⟨q, c, rfl, ⟨fp', o', h1⟩, h2⟩
theorem kw_mark2 {w W : World} {O K s : Nat} (h : KW w W O K s [pK] 9 1) : Calls Tryz.prog 16 #[.pointer (some ⟨O, 0, none⟩), .int .i64 19] W fun e w' => ∃ q c, e = .returned (.slice q 1 c) ∧ LSeg 3 Rc.cs w'.heap.size w' (.slice q 1 c) [⟨1, 19, 4⟩] ∧ KW w w' O K s [] 19 1 := by
 obtain ⟨⟨fp, o, hf⟩, hb⟩ := h
 refine (Mark_any o 19 (by decide) (by simp)).mono ?_
 rintro e w' ⟨u, fp', rfl, r, o', t'⟩
 obtain ⟨h1, h2⟩ := kgrow hf hb t'
 rw [ko2] at r
 rw [kf2] at o'
 obtain ⟨q, c, rfl⟩ := r.shape
 exact ⟨q, c, rfl, r.seg (fun _ => rfl) (by simp), ⟨fp', o', h1⟩, h2⟩
theorem kw_late {w W : World} {O K s : Nat} {M : List Pn} {g d : Int} (h : KW w W O K s M g d) : Calls Tryz.prog 20 #[.pointer (some ⟨O, 0, none⟩)] W fun e w' => e = .returned (.int .i64 d) ∧ w' = W := by
 obtain ⟨⟨fp, o, hf⟩, hb⟩ := h
 exact Late_any o
theorem KW.below {w W W' : World} {O K s : Nat} {M : List Pn} {g d : Int} (h : KW w W O K s M g d) (hb : Below W.heap.size W W') : KW w W' O K s M g d := by
 obtain ⟨⟨fp, o, hf⟩, hb'⟩ := h
 exact ⟨⟨fp, o.below hb, hf⟩, hb'.trans (hb.mono hb'.size)⟩
theorem kw_panes {w W : World} {O K s : Nat} {g d : Int} (h : KW w W O K s [] g d) : Calls Tryz.prog 19 #[.pointer (some ⟨O, 0, none⟩)] W fun e w' => ∃ q c, e = .returned (.slice q 0 c) ∧ Below W.heap.size W w' := by
 obtain ⟨⟨fp, o, hf⟩, hb⟩ := h
 refine (opanes_any o (by simp)).mono ?_
 rintro e w' ⟨q, c, rfl, _, b⟩
 exact ⟨q, c, rfl, b⟩
theorem one_seg {W : World} {b : Nat} (h : BoxT 38 W b #[.int .i64 1, .int .i64 19, .int .i64 4]) : LSeg 3 Rc.cs (b + 1) W (.slice (some ⟨b, 0, none⟩) 1 1) [⟨1, 19, 4⟩] := by
 refine ⟨_, _, rfl, by simp, .inr ⟨b, 0, rfl, by omega, fun i x hi j u hu => ?_⟩⟩
 match i, hi with
 | 0, hi =>
  obtain rfl : (⟨1, 19, 4⟩ : Rc) = x := by simpa using hi
  rw [h.cellAt]
  simpa [Rc.cs] using hu
 | i + 1, hi => simp at hi
theorem known_any (w : World) : Calls Tryz.prog 8 #[] w fun e w' => e = .returned (.bool true) ∧ Below w.heap.size w w' := by
 have HFW : Hid (FitW 1 10 0) := ⟨by decide, by decide, by decide, by decide, .inr ⟨by decide, rfl⟩⟩
 have HB0 := hide (below_box w (.cells #[.int .i64 4, .int .i64 0, .slice none 0 0, .int .i64 1, .int .i64 3, .slice none 0 0] 25))
 have HK0 : Hid (Kids (w.alloc (.cells #[.int .i64 4, .int .i64 0, .slice none 0 0, .int .i64 1, .int .i64 3, .slice none 0 0] 25)) w.heap.size none 0 none 0) := BoxT.new 25 w _
 go_enter Tryz.func8, Tryz.ntmps8
 go_upto_region 2 with (go_at_call 10; refine (New_flt HK0.out).mono ?_; rintro e w1 ⟨O1, b1, a1, a2, rfl, f1, bb⟩; have F1 := hide f1; have B1 := hide (HB0.out.trans (bb.mono HB0.out.size)); clear f1 bb)
 clear HB0 HK0
 go_upto_region 3 with (go_at_call 10; refine (New_win _ _ _ _ _ _ _ _ _ _ _ _ _ _).mono ?_; rintro e w2 ⟨O, K, s, fp, rfl, o2, l2, bb⟩; have O2 := hide o2; have L2 := hide l2; have F2 : Hid (OF w2 O1 b1 a1 a2) := (show OF _ _ _ _ _ from ⟨F1.out.1.below bb, F1.out.2.below bb⟩); have HZ := hide bb.size; have B2 := hide (B1.out.trans (bb.mono B1.out.size)); clear o2 l2 bb)
 clear F1
 have HR1 := hide (frec_any F2.out 1 1 2)
 go_upto_region 6 with (first
  | (go_at_call 14; have chk := LA; clear chk; refine HR2.out.mono ?_; rintro e w4 ⟨u4, rfl, l4, bb⟩; obtain ⟨q4, c4, rfl⟩ := l4.shapeOf; have O4 := hide (O3.out.below bb); have B4 := hide (B3.out.trans (bb.mono B3.out.size)); clear l4 bb)
  | (go_at_call 14; refine HR1.out.mono ?_; rintro e w3 ⟨u3, rfl, l3, bb⟩; obtain ⟨q3, c3, rfl⟩ := l3.shapeOf; have LA := hide l3; have O3 := hide (O2.out.below bb); have B3 := hide (B2.out.trans (bb.mono B2.out.size)); have HR2 := hide (frec_any (show OF w3 O1 b1 a1 a2 from ⟨F2.out.1.below bb, F2.out.2.below bb⟩) 1 1 3); clear l3 bb))
 have HKW : Hid (KW w w4 O K s [] (-9223372036854775808) 0) := ⟨⟨fp, O4.out, fun i hi => by have := L2.out i hi; have := B1.out.size; omega⟩, B4.out⟩
 have HA := hide (kw_rec1 HKW.out)
 clear HKW O4 O3 O2 L2 F2 HR1 HR2 B1 B2 B3 B4 HZ HFW LA
 go_upto_region 7 with (go_at_call 14; refine HA.out.mono ?_; rintro e w5 ⟨rfl, k5⟩; have HB := hide (kw_mark1 k5); clear k5)
 go_upto_region 8 with (go_at_call 16; refine HB.out.mono ?_; rintro e w6 ⟨q6, c6, rfl, k6⟩; have HC := hide (kw_rec2 k6); clear k6)
 go_upto_region 9 with (go_at_call 14; refine HC.out.mono ?_; rintro e w7 ⟨rfl, k7⟩; have HD := hide (kw_mark2 k7); clear k7)
 go_upto_region 10 with (go_at_call 16; refine HD.out.mono ?_; rintro e w8 ⟨q8, c8, rfl, l8, k8⟩; have HE := hide (kw_late k8); have K8 := hide k8; have L8 := hide l8; clear k8 l8)
 have HB8 := hide (below_box w8 (.cells #[.int .i64 1, .int .i64 19, .int .i64 4] 38))
 have HX8 := hide (BoxT.new 38 w8 #[.int .i64 1, .int .i64 19, .int .i64 4])
 have HR8 := hide (hRecords_any (L8.out.below HB8.out) (one_seg HX8.out) (by simp))
 have HP8 := hide (K8.out.below HB8.out)
 go_wp2_with (first
  | (go_at_call 20; refine HE.out.mono ?_; rintro e w9 ⟨rfl, e9⟩; have e2 := e9.symm; subst e2)
  | (go_at_call 13; refine HR8.out.mono ?_; rintro e w10 ⟨rfl, b10⟩; have HPA := hide (kw_panes (HP8.out.below b10)); have B10 := hide (HP8.out.2.trans (b10.mono HP8.out.2.size)); clear b10)
  | (go_at_call 19; refine HPA.out.mono ?_; rintro e w11 ⟨q11, c11, rfl, b11⟩; have B11 := hide (B10.out.trans (b11.mono B10.out.size)); clear b11))
 go_ret
 exact ⟨rfl, B11.out⟩
end Go.Proofs.YtpcbhcdpegbfjaaGreat
/-
 The calls of a keyed operator, through its interface.
-/
namespace Go.Proofs.YtpcbhcdpegbfjaaGreat
set_option maxHeartbeats 16000000
set_option maxRecDepth 100000
open Go.RowKit
theorem FT.out' {fp fp' : Nat → Prop} {W W' : World} (h : FT fp fp' W W') {i : Nat} (hi : i < W.heap.size) (hn : ¬ fp i) : ¬ fp' i := fun e => by
 rcases h.sub i e with e2 | e2
 ·exact hn e2
 ·omega
theorem mm_recordW (W : World) (K : Nat) : (method 317 100 (.pointer (some ⟨K, 0, none⟩)) "leat/ops.record").run Tryz.prog W = .ok (163, .pointer (some ⟨K, 0, none⟩)) W := by kernel_rfl
theorem mm_markW (W : World) (K : Nat) : (method 317 100 (.pointer (some ⟨K, 0, none⟩)) "leat/ops.mark").run Tryz.prog W = .ok (90, .pointer (some ⟨K, 0, none⟩)) W := by kernel_rfl
theorem mm_panesW (W : World) (K : Nat) : (method 317 100 (.pointer (some ⟨K, 0, none⟩)) "leat/ops.panes").run Tryz.prog W = .ok (91, .pointer (some ⟨K, 0, none⟩)) W := by kernel_rfl
theorem mm_loadW (W : World) (K : Nat) : (method 317 100 (.pointer (some ⟨K, 0, none⟩)) "leat/ops.load").run Tryz.prog W = .ok (89, .pointer (some ⟨K, 0, none⟩)) W := by kernel_rfl
theorem mm_lateW (W : World) (K : Nat) : (method 317 100 (.pointer (some ⟨K, 0, none⟩)) "leat/ops.late").run Tryz.prog W = .ok (88, .pointer (some ⟨K, 0, none⟩)) W := by kernel_rfl
theorem orecW {W : World} {O K s n : Nat} {k size slide a : Int} {F : Nat → Prop} {X : List Pn} {g d : Int} (hb : BoxT 68 W O #[.iface 100 (.pointer (some ⟨K, 0, none⟩))]) (h : KX W K 102 (wRest k size slide a) s k size slide a n F X g d) (hno : ¬ F O) (hw : FitW k size slide) (ha : 1 ≤ a ∧ a ≤ 5) (rk rt rv : Int) (hrk : In64 rk) (hrv : In64 rv) (ht : TimeOk rt) (hn : n ≤ 70000) :
  Calls Tryz.prog 14 #[.pointer (some ⟨O, 0, none⟩), .agg #[.int .i64 rk, .int .i64 rt, .int .i64 rv]] W fun e w' => e = .returned (.slice none 0 0) ∧ BoxT 68 w' O #[.iface 100 (.pointer (some ⟨K, 0, none⟩))] ∧ ∃ F' X' d', KX w' K 102 (wRest k size slide a) s k size slide a (n + 64) F' X' g d' ∧ FT F F' W w' ∧ ¬ F' O ∧ Comes (sess k) (jn a) (FrK k size slide a g ⟨rk, rt, rv⟩ ++ X) X' ∧ DNext k size slide g rt d d' := by
 have hb1 := below_box W (.cells #[.int .i64 rk, .int .i64 rt, .int .i64 rv] 38)
 obtain ⟨V, hV⟩ : ∃ V, V = W.alloc (.cells #[.int .i64 rk, .int .i64 rt, .int .i64 rv] 38) := ⟨_, rfl⟩
 have hx : BoxT 38 V W.heap.size #[.int .i64 rk, .int .i64 rt, .int .i64 rv] := by rw [hV]; exact BoxT.new 38 W _
 rw [← hV] at hb1
 have hd : Below W.heap.size W V.drew := hb1.drew
 have HB := hide hd
 have h2 := h.below hd
 have HR := hide (xrecord h2 hw ha ⟨rk, rt, rv⟩ hrk hrv ht hn)
 have hob := hb.below hd
 have y0 : V.drew.cell? ⟨O, 0, none⟩ = some (.iface 100 (.pointer (some ⟨K, 0, none⟩))) := hob.cellAt 0
 have HOB := hide hob
 have HNO := hide hno
 have HOL := hide hb.lt
 obtain ⟨y1, y2, y3⟩ := (hx.below (show Below V.heap.size V V.drew from (Below.refl _ _).drew)).cells3
 have hm := mm_recordW V.drew K
 have HXD := hide (hx.below (show Below V.heap.size V V.drew from (Below.refl _ _).drew))
 have HN : Hid (¬ F W.heap.size) := (show ¬ _ from fun e => by have := h.flt _ e; omega)
 have HV := hide hV
 clear h h2 hb1 hx hd hV hb hob hno hw ht
 go_enter Tryz.func14, Tryz.ntmps14
 go_upto_region 1 with fail
 refine wp_at (fun V' => V' = V) HV.out.symm ?_
 rintro V' rfl
 clear HV
 go_region_held3 (fun w' => w'.cell? ⟨O, 0, none⟩ = some (.iface 100 (.pointer (some ⟨K, 0, none⟩))) ∧ w'.cell? ⟨W.heap.size, 0, none⟩ = some (.int .i64 rk) ∧ w'.cell? ⟨W.heap.size, 1, none⟩ = some (.int .i64 rt) ∧ w'.cell? ⟨W.heap.size, 2, none⟩ = some (.int .i64 rv)) (first | go_keep | exact ⟨y0, y1, y2, y3⟩ | exact ⟨z0, z1, z2, z3⟩)
  (first | (go_at_call 163; refine HR.out.mono ?_; rintro e w2 ⟨rfl, F2, X2, d2, o2, t2, c2⟩; have O2 := hide o2; have T2 := hide ((FT.of_below (fp := F) HB.out).trans t2); have N2 := hide (t2.out' HOB.out.lt HNO.out); have B3 := hide (HOB.out.back' (t2.block O HOB.out.lt HNO.out)); have C2 := hide c2; have z0 : w2.cell? ⟨O, 0, none⟩ = some (.iface 100 (.pointer (some ⟨K, 0, none⟩))) := B3.out.cellAt 0; obtain ⟨z1, z2, z3⟩ := BoxT.cells3 (t := 38) (HXD.out.back (t2.block _ HXD.out.lt HN.out)); clear o2 t2 c2) | fail)
 go_wp2_with fail
 go_ret
 exact ⟨rfl, B3.out, F2, X2, d2, O2.out, T2.out, N2.out, C2.out⟩
theorem omarkW {W : World} {O K s n : Nat} {k size slide a : Int} {F : Nat → Prop} {X : List Pn} {g d : Int} (hb : BoxT 68 W O #[.iface 100 (.pointer (some ⟨K, 0, none⟩))]) (h : KX W K 102 (wRest k size slide a) s k size slide a n F X g d) (hno : ¬ F O) (hn : n ≤ 70000) (m : Int) : Calls Tryz.prog 16 #[.pointer (some ⟨O, 0, none⟩), .int .i64 m] W fun e w' => ∃ u F', e = .returned u ∧ OwnL 38 3 Rc.cs W.heap.size w' u (outG k g m X) ∧ BoxT 68 w' O #[.iface 100 (.pointer (some ⟨K, 0, none⟩))] ∧ KX w' K 102 (wRest k size slide a) s k size slide a n F' (leftG k g m X) (max g m) d ∧ FT F F' W w' ∧ ¬ F' O := by
 have c0 : W.cell? ⟨O, 0, none⟩ = some (.iface 100 (.pointer (some ⟨K, 0, none⟩))) := hb.cellAt 0
 have hm := mm_markW W K
 have HM := hide (xmark h hn m)
 have HOB := hide hb
 have HNO := hide hno
 clear h hb hno
 go_enter Tryz.func16, Tryz.ntmps16
 go_wp2_with (go_at_call 90; refine HM.out.mono ?_; rintro e w1 ⟨u, F1, rfl, p1, p2, p3⟩; have P1 := hide p1; have P2 := hide p2; have P3 := hide p3; clear p1 p2 p3)
 go_ret
 exact ⟨u, F1, rfl, P1.out, HOB.out.back' (P3.out.block O HOB.out.lt HNO.out), P2.out, P3.out, P3.out.out' HOB.out.lt HNO.out⟩
theorem opanW {W : World} {O K s n : Nat} {k size slide a : Int} {F : Nat → Prop} {X : List Pn} {g d : Int} (hb : BoxT 68 W O #[.iface 100 (.pointer (some ⟨K, 0, none⟩))]) (h : KX W K 102 (wRest k size slide a) s k size slide a n F X g d) (hno : ¬ F O) (hn : n ≤ 70000) : Calls Tryz.prog 19 #[.pointer (some ⟨O, 0, none⟩)] W fun e w' => ∃ u F', e = .returned u ∧ Row 79 4 Pn.cs W.heap.size w' u (srt X) ∧ BoxT 68 w' O #[.iface 100 (.pointer (some ⟨K, 0, none⟩))] ∧ KX w' K 102 (wRest k size slide a) s k size slide a n F' X g d ∧ FT F F' W w' ∧ ¬ F' O ∧ ∀ q, u.ownBlock = some q → ¬ (q = O ∨ F' q) := by
 have c0 : W.cell? ⟨O, 0, none⟩ = some (.iface 100 (.pointer (some ⟨K, 0, none⟩))) := hb.cellAt 0
 have hm := mm_panesW W K
 have HM := hide (xpanes h hn)
 have HOB := hide hb
 have HNO := hide hno
 clear h hb hno
 go_enter Tryz.func19, Tryz.ntmps19
 go_wp2_with (go_at_call 91; refine HM.out.mono ?_; rintro e w1 ⟨u, F1, rfl, p1, p2, p3, p4⟩; have P1 := hide p1; have P2 := hide p2; have P3 := hide p3; have P4 := hide p4; clear p1 p2 p3 p4)
 go_ret
 exact ⟨u, F1, rfl, P1.out, HOB.out.back' (P3.out.block O HOB.out.lt HNO.out), P2.out, P3.out, P3.out.out' HOB.out.lt HNO.out, fun q e e2 => by
  rcases e2 with e2 | e2
  ·have := P1.out.at q e; have := HOB.out.lt; omega
  ·exact P4.out q e e2⟩
def OlWPost (W : World) (O K s n : Nat) (k size slide a : Int) (F : Nat → Prop) (g d : Int) (L : List Pn) (e : Ending) (w' : World) : Prop :=
 e = .returned (.tuple #[]) ∧ BoxT 68 w' O #[.iface 100 (.pointer (some ⟨K, 0, none⟩))] ∧ ∃ F' X', KX w' K 102 (wRest k size slide a) s k size slide a n F' X' g d ∧ FT F F' W w' ∧ ¬ F' O ∧ Comes (sess k) (jn a) L X'
theorem oloadW {W : World} {O K s n : Nat} {k size slide a : Int} {F : Nat → Prop} {X : List Pn} {g d : Int} (hb : BoxT 68 W O #[.iface 100 (.pointer (some ⟨K, 0, none⟩))]) (h : KX W K 102 (wRest k size slide a) s k size slide a n F X g d) (hno : ¬ F O) {v : Value} {L : List Pn} (hl : LSeg 4 Pn.cs W.heap.size W v L) (hv : ∀ q, v.ownBlock = some q → ¬ F q) (ho : ∀ x ∈ L, PnOk x ∧ (k = (3 : Int) → x.f < x.t)) (hn : L.length ≤ n) (hn2 : n ≤ 70000) : Calls Tryz.prog 18 #[.pointer (some ⟨O, 0, none⟩), v] W (OlWPost W O K s n k size slide a F g d L) := by
 have c0 : W.cell? ⟨O, 0, none⟩ = some (.iface 100 (.pointer (some ⟨K, 0, none⟩))) := hb.cellAt 0
 have hm := mm_loadW W K
 have HM := hide (xload h hl hv ho hn hn2)
 have HOB := hide hb
 have HNO := hide hno
 obtain ⟨va, vc, rfl⟩ := hl.shapeOf
 clear h hb hno hl hv ho
 go_enter Tryz.func18, Tryz.ntmps18
 go_wp2_with (go_at_call 89; refine HM.out.mono ?_; rintro e w1 ⟨rfl, F1, X1, p1, p2, p3⟩; have P1 := hide p1; have P2 := hide p2; have P3 := hide p3; clear p1 p2 p3)
 refine bodyPost_ret (v := .tuple #[]) (by simp [results, Tryz.results18, go_sem]) rfl ?_
 exact ⟨rfl, HOB.out.back' (P2.out.block O HOB.out.lt HNO.out), F1, X1, P1.out, P2.out, P2.out.out' HOB.out.lt HNO.out, P3.out⟩
theorem olateW {W : World} {O K s n : Nat} {k size slide a : Int} {F : Nat → Prop} {X : List Pn} {g d : Int} (hb : BoxT 68 W O #[.iface 100 (.pointer (some ⟨K, 0, none⟩))]) (h : KX W K 102 (wRest k size slide a) s k size slide a n F X g d) (_ : ¬ F O) : Calls Tryz.prog 20 #[.pointer (some ⟨O, 0, none⟩)] W fun e w' => e = .returned (.int .i64 d) ∧ w' = W := by
 have c0 : W.cell? ⟨O, 0, none⟩ = some (.iface 100 (.pointer (some ⟨K, 0, none⟩))) := hb.cellAt 0
 have hm := mm_lateW W K
 have HM := hide (xlate h)
 clear h hb
 go_enter Tryz.func20, Tryz.ntmps20
 go_wp2_with (go_at_call 88; refine HM.out.mono ?_; rintro e w1 ⟨rfl, e1⟩; subst e1)
 go_ret
 exact ⟨rfl, rfl⟩
theorem mm_recordR (W : World) (K : Nat) : (method 317 92 (.pointer (some ⟨K, 0, none⟩)) "leat/ops.record").run Tryz.prog W = .ok (92, .pointer (some ⟨K, 0, none⟩)) W := by kernel_rfl
theorem mm_markR (W : World) (K : Nat) : (method 317 92 (.pointer (some ⟨K, 0, none⟩)) "leat/ops.mark").run Tryz.prog W = .ok (90, .pointer (some ⟨K, 0, none⟩)) W := by kernel_rfl
theorem mm_panesR (W : World) (K : Nat) : (method 317 92 (.pointer (some ⟨K, 0, none⟩)) "leat/ops.panes").run Tryz.prog W = .ok (91, .pointer (some ⟨K, 0, none⟩)) W := by kernel_rfl
theorem mm_loadR (W : World) (K : Nat) : (method 317 92 (.pointer (some ⟨K, 0, none⟩)) "leat/ops.load").run Tryz.prog W = .ok (89, .pointer (some ⟨K, 0, none⟩)) W := by kernel_rfl
theorem mm_lateR (W : World) (K : Nat) : (method 317 92 (.pointer (some ⟨K, 0, none⟩)) "leat/ops.late").run Tryz.prog W = .ok (88, .pointer (some ⟨K, 0, none⟩)) W := by kernel_rfl
theorem orecR {W : World} {O K s n : Nat} {a : Int} {F : Nat → Prop} {X : List Pn} {g d : Int} (hb : BoxT 68 W O #[.iface 92 (.pointer (some ⟨K, 0, none⟩))]) (h : KX W K 99 [] s 0 0 0 a n F X g d) (hno : ¬ F O) (ha : 1 ≤ a ∧ a ≤ 5) (rk rt rv : Int) (hrk : In64 rk) (hrv : In64 rv) (ht : TimeOk rt) (hn : n ≤ 70000) :
  Calls Tryz.prog 14 #[.pointer (some ⟨O, 0, none⟩), .agg #[.int .i64 rk, .int .i64 rt, .int .i64 rv]] W fun e w' => e = .returned (.slice none 0 0) ∧ BoxT 68 w' O #[.iface 92 (.pointer (some ⟨K, 0, none⟩))] ∧ ∃ F' X', KX w' K 99 [] s 0 0 0 a (n + 64) F' X' g d ∧ FT F F' W w' ∧ ¬ F' O ∧ Comes false (jn a) (frS 0 0 0 a ⟨rk, rt, rv⟩ ++ X) X' := by
 have hb1 := below_box W (.cells #[.int .i64 rk, .int .i64 rt, .int .i64 rv] 38)
 obtain ⟨V, hV⟩ : ∃ V, V = W.alloc (.cells #[.int .i64 rk, .int .i64 rt, .int .i64 rv] 38) := ⟨_, rfl⟩
 have hx : BoxT 38 V W.heap.size #[.int .i64 rk, .int .i64 rt, .int .i64 rv] := by rw [hV]; exact BoxT.new 38 W _
 rw [← hV] at hb1
 have hd : Below W.heap.size W V.drew := hb1.drew
 have HB := hide hd
 have h2 := h.below hd
 have HR := hide (xrecordR h2 ha ⟨rk, rt, rv⟩ hrk hrv ht hn)
 have hob := hb.below hd
 have y0 : V.drew.cell? ⟨O, 0, none⟩ = some (.iface 92 (.pointer (some ⟨K, 0, none⟩))) := hob.cellAt 0
 have HOB := hide hob
 have HNO := hide hno
 have HOL := hide hb.lt
 obtain ⟨y1, y2, y3⟩ := (hx.below (show Below V.heap.size V V.drew from (Below.refl _ _).drew)).cells3
 have hm := mm_recordR V.drew K
 have HXD := hide (hx.below (show Below V.heap.size V V.drew from (Below.refl _ _).drew))
 have HN : Hid (¬ F W.heap.size) := (show ¬ _ from fun e => by have := h.flt _ e; omega)
 have HV := hide hV
 clear h h2 hb1 hx hd hV hb hob hno ht
 go_enter Tryz.func14, Tryz.ntmps14
 go_upto_region 1 with fail
 refine wp_at (fun V' => V' = V) HV.out.symm ?_
 rintro V' rfl
 clear HV
 go_region_held3 (fun w' => w'.cell? ⟨O, 0, none⟩ = some (.iface 92 (.pointer (some ⟨K, 0, none⟩))) ∧ w'.cell? ⟨W.heap.size, 0, none⟩ = some (.int .i64 rk) ∧ w'.cell? ⟨W.heap.size, 1, none⟩ = some (.int .i64 rt) ∧ w'.cell? ⟨W.heap.size, 2, none⟩ = some (.int .i64 rv)) (first | go_keep | exact ⟨y0, y1, y2, y3⟩ | exact ⟨z0, z1, z2, z3⟩)
  (first | (go_at_call 92; refine HR.out.mono ?_; rintro e w2 ⟨rfl, F2, X2, o2, t2, c2⟩; have O2 := hide o2; have T2 := hide ((FT.of_below (fp := F) HB.out).trans t2); have N2 := hide (t2.out' HOB.out.lt HNO.out); have B3 := hide (HOB.out.back' (t2.block O HOB.out.lt HNO.out)); have C2 := hide c2; have z0 : w2.cell? ⟨O, 0, none⟩ = some (.iface 92 (.pointer (some ⟨K, 0, none⟩))) := B3.out.cellAt 0; obtain ⟨z1, z2, z3⟩ := BoxT.cells3 (t := 38) (HXD.out.back (t2.block _ HXD.out.lt HN.out)); clear o2 t2 c2) | fail)
 go_wp2_with fail
 go_ret
 exact ⟨rfl, B3.out, F2, X2, O2.out, T2.out, N2.out, C2.out⟩
theorem omarkR {W : World} {O K s n : Nat} {a : Int} {F : Nat → Prop} {X : List Pn} {g d : Int} (hb : BoxT 68 W O #[.iface 92 (.pointer (some ⟨K, 0, none⟩))]) (h : KX W K 99 [] s 0 0 0 a n F X g d) (hno : ¬ F O) (hn : n ≤ 70000) (m : Int) : Calls Tryz.prog 16 #[.pointer (some ⟨O, 0, none⟩), .int .i64 m] W fun e w' => ∃ u F', e = .returned u ∧ OwnL 38 3 Rc.cs W.heap.size w' u (outG 0 g m X) ∧ BoxT 68 w' O #[.iface 92 (.pointer (some ⟨K, 0, none⟩))] ∧ KX w' K 99 [] s 0 0 0 a n F' (leftG 0 g m X) (max g m) d ∧ FT F F' W w' ∧ ¬ F' O := by
 have c0 : W.cell? ⟨O, 0, none⟩ = some (.iface 92 (.pointer (some ⟨K, 0, none⟩))) := hb.cellAt 0
 have hm := mm_markR W K
 have HM := hide (xmark h hn m)
 have HOB := hide hb
 have HNO := hide hno
 clear h hb hno
 go_enter Tryz.func16, Tryz.ntmps16
 go_wp2_with (go_at_call 90; refine HM.out.mono ?_; rintro e w1 ⟨u, F1, rfl, p1, p2, p3⟩; have P1 := hide p1; have P2 := hide p2; have P3 := hide p3; clear p1 p2 p3)
 go_ret
 exact ⟨u, F1, rfl, P1.out, HOB.out.back' (P3.out.block O HOB.out.lt HNO.out), P2.out, P3.out, P3.out.out' HOB.out.lt HNO.out⟩
theorem opanR {W : World} {O K s n : Nat} {a : Int} {F : Nat → Prop} {X : List Pn} {g d : Int} (hb : BoxT 68 W O #[.iface 92 (.pointer (some ⟨K, 0, none⟩))]) (h : KX W K 99 [] s 0 0 0 a n F X g d) (hno : ¬ F O) (hn : n ≤ 70000) : Calls Tryz.prog 19 #[.pointer (some ⟨O, 0, none⟩)] W fun e w' => ∃ u F', e = .returned u ∧ Row 79 4 Pn.cs W.heap.size w' u (srt X) ∧ BoxT 68 w' O #[.iface 92 (.pointer (some ⟨K, 0, none⟩))] ∧ KX w' K 99 [] s 0 0 0 a n F' X g d ∧ FT F F' W w' ∧ ¬ F' O ∧ ∀ q, u.ownBlock = some q → ¬ (q = O ∨ F' q) := by
 have c0 : W.cell? ⟨O, 0, none⟩ = some (.iface 92 (.pointer (some ⟨K, 0, none⟩))) := hb.cellAt 0
 have hm := mm_panesR W K
 have HM := hide (xpanes h hn)
 have HOB := hide hb
 have HNO := hide hno
 clear h hb hno
 go_enter Tryz.func19, Tryz.ntmps19
 go_wp2_with (go_at_call 91; refine HM.out.mono ?_; rintro e w1 ⟨u, F1, rfl, p1, p2, p3, p4⟩; have P1 := hide p1; have P2 := hide p2; have P3 := hide p3; have P4 := hide p4; clear p1 p2 p3 p4)
 go_ret
 exact ⟨u, F1, rfl, P1.out, HOB.out.back' (P3.out.block O HOB.out.lt HNO.out), P2.out, P3.out, P3.out.out' HOB.out.lt HNO.out, fun q e e2 => by
  rcases e2 with e2 | e2
  ·have := P1.out.at q e; have := HOB.out.lt; omega
  ·exact P4.out q e e2⟩
def OlRPost (W : World) (O K s n : Nat) (a : Int) (F : Nat → Prop) (g d : Int) (L : List Pn) (e : Ending) (w' : World) : Prop :=
 e = .returned (.tuple #[]) ∧ BoxT 68 w' O #[.iface 92 (.pointer (some ⟨K, 0, none⟩))] ∧ ∃ F' X', KX w' K 99 [] s 0 0 0 a n F' X' g d ∧ FT F F' W w' ∧ ¬ F' O ∧ Comes (sess 0) (jn a) L X'
theorem oloadR {W : World} {O K s n : Nat} {a : Int} {F : Nat → Prop} {X : List Pn} {g d : Int} (hb : BoxT 68 W O #[.iface 92 (.pointer (some ⟨K, 0, none⟩))]) (h : KX W K 99 [] s 0 0 0 a n F X g d) (hno : ¬ F O) {v : Value} {L : List Pn} (hl : LSeg 4 Pn.cs W.heap.size W v L) (hv : ∀ q, v.ownBlock = some q → ¬ F q) (ho : ∀ x ∈ L, PnOk x ∧ (0 = (3 : Int) → x.f < x.t)) (hn : L.length ≤ n) (hn2 : n ≤ 70000) : Calls Tryz.prog 18 #[.pointer (some ⟨O, 0, none⟩), v] W (OlRPost W O K s n a F g d L) := by
 have c0 : W.cell? ⟨O, 0, none⟩ = some (.iface 92 (.pointer (some ⟨K, 0, none⟩))) := hb.cellAt 0
 have hm := mm_loadR W K
 have HM := hide (xload h hl hv ho hn hn2)
 have HOB := hide hb
 have HNO := hide hno
 obtain ⟨va, vc, rfl⟩ := hl.shapeOf
 clear h hb hno hl hv ho
 go_enter Tryz.func18, Tryz.ntmps18
 go_wp2_with (go_at_call 89; refine HM.out.mono ?_; rintro e w1 ⟨rfl, F1, X1, p1, p2, p3⟩; have P1 := hide p1; have P2 := hide p2; have P3 := hide p3; clear p1 p2 p3)
 refine bodyPost_ret (v := .tuple #[]) (by simp [results, Tryz.results18, go_sem]) rfl ?_
 exact ⟨rfl, HOB.out.back' (P2.out.block O HOB.out.lt HNO.out), F1, X1, P1.out, P2.out, P2.out.out' HOB.out.lt HNO.out, P3.out⟩
theorem olateR {W : World} {O K s n : Nat} {a : Int} {F : Nat → Prop} {X : List Pn} {g d : Int} (hb : BoxT 68 W O #[.iface 92 (.pointer (some ⟨K, 0, none⟩))]) (h : KX W K 99 [] s 0 0 0 a n F X g d) (_ : ¬ F O) : Calls Tryz.prog 20 #[.pointer (some ⟨O, 0, none⟩)] W fun e w' => e = .returned (.int .i64 d) ∧ w' = W := by
 have c0 : W.cell? ⟨O, 0, none⟩ = some (.iface 92 (.pointer (some ⟨K, 0, none⟩))) := hb.cellAt 0
 have hm := mm_lateR W K
 have HM := hide (xlate h)
 clear h hb
 go_enter Tryz.func20, Tryz.ntmps20
 go_wp2_with (go_at_call 88; refine HM.out.mono ?_; rintro e w1 ⟨rfl, e1⟩; subst e1)
 go_ret
 exact ⟨rfl, rfl⟩
end Go.Proofs.YtpcbhcdpegbfjaaGreat
