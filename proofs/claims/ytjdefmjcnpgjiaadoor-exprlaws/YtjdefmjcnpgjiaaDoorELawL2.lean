/-
  The law ExprLaws, walked.
-/
import Derived.Test.YtjdefmjcnpgjiaaDoorELawL1
import Derived.Test.YtjdefmjcnpgjiaaDoorELawP
namespace Go.Proofs.YtjdefmjcnpgjiaaDoor
open Go.RowKit

/-- The boxes of the law's arguments, and what lies in them. -/
structure LW (w : World) (p q s u : Nat) (a b c : Ex) (r : Rc) : Prop where
  ta : Tri w p (.int .i64 a.op) (.int .i64 a.n) (.slice a.a a.l.length a.c)
  tb : Tri w q (.int .i64 b.op) (.int .i64 b.n) (.slice b.a b.l.length b.c)
  tc : Tri w s (.int .i64 c.op) (.int .i64 c.n) (.slice c.a c.l.length c.c)
  tr : Tri w u (.int .i64 r.k) (.int .i64 r.t) (.int .i64 r.v)
  ia : In w a
  ib : In w b
  ic : In w c
theorem LW.below {w w' : World} {p q s u : Nat} {a b c : Ex} {r : Rc} (h : LW w p q s u a b c r) (hb : Below w.heap.size w w') : LW w' p q s u a b c r :=
  ⟨h.ta.below hb, h.tb.below hb, h.tc.below hb, h.tr.below hb, h.ia.below hb, h.ib.below hb, h.ic.below hb⟩
/-- .. and the choice. -/
structure LX (w : World) (p q s u : Nat) (a b c : Ex) (r : Rc) (gch hch : Nat) : Prop extends LW w p q s u a b c r where
  th : Tri w hch (.int .i64 14) (.int .i64 0) (.slice (some ⟨gch, 0, none⟩) 3 3)
  ich : In w (mk3 14 gch c a a)
theorem LX.below {w w' : World} {p q s u : Nat} {a b c : Ex} {r : Rc} {gch hch : Nat} (h : LX w p q s u a b c r gch hch) (hb : Below w.heap.size w w') : LX w' p q s u a b c r gch hch :=
  ⟨h.toLW.below hb, h.th.below hb, h.ich.below hb⟩
theorem light7 {e : Ex} (h : lgt e 7 5 ≤ 7) : size e ≤ 7 ∧ dep e ≤ 5 := by
  obtain ⟨_, _, h3⟩ := lgt_ok e 7 5 (by decide)
  obtain ⟨h4, h5⟩ := h3 h
  omega

set_option maxHeartbeats 40000000 in
set_option maxRecDepth 100000 in
theorem ExprLaws_walk {w : World} (hg : Glob w) (a b c : Ex) (r : Rc) (hia : In w a) (hib : In w b) (hic : In w c) :
    Calls Tryd.prog 7 #[a.val, b.val, c.val, r.val] w fun e w' => e = .returned (.bool true) ∧ Below w.heap.size w w' := by
  have IA := hide hia
  have IB := hide hib
  have IC := hide hic
  have HG := hide hg
  clear hia hib hic hg
  obtain ⟨ao, an, aa, ac, al⟩ := a
  obtain ⟨bo, bn, ba, bc, bl⟩ := b
  obtain ⟨co, cn, ca, cc, cl⟩ := c
  obtain ⟨rk, rt, rv⟩ := r
  have hbb : Below w.heap.size w ((((w.alloc (.cells #[.int .i64 ao, .int .i64 an, .slice aa al.length ac] 24)).alloc (.cells #[.int .i64 bo, .int .i64 bn, .slice ba bl.length bc] 24)).alloc (.cells #[.int .i64 co, .int .i64 cn, .slice ca cl.length cc] 24)).alloc (.cells #[.int .i64 rk, .int .i64 rt, .int .i64 rv] 26)) :=
    ((((Below.refl _ _).alloc (Nat.le_refl _) _).alloc (by simp) _).alloc (by simp; omega) _).alloc (by simp; omega) _
  have t1 := Tri.new w (.int .i64 ao) (.int .i64 an) (.slice aa al.length ac) 24
  have t2 := Tri.new (w.alloc (.cells #[.int .i64 ao, .int .i64 an, .slice aa al.length ac] 24)) (.int .i64 bo) (.int .i64 bn) (.slice ba bl.length bc) 24
  have t3 := Tri.new ((w.alloc (.cells #[.int .i64 ao, .int .i64 an, .slice aa al.length ac] 24)).alloc (.cells #[.int .i64 bo, .int .i64 bn, .slice ba bl.length bc] 24)) (.int .i64 co) (.int .i64 cn) (.slice ca cl.length cc) 24
  have t4 := Tri.new (((w.alloc (.cells #[.int .i64 ao, .int .i64 an, .slice aa al.length ac] 24)).alloc (.cells #[.int .i64 bo, .int .i64 bn, .slice ba bl.length bc] 24)).alloc (.cells #[.int .i64 co, .int .i64 cn, .slice ca cl.length cc] 24)) (.int .i64 rk) (.int .i64 rt) (.int .i64 rv) 26
  simp only [World.size_alloc] at t2 t3 t4
  have K0 : Hid (LW ((((w.alloc (.cells #[.int .i64 ao, .int .i64 an, .slice aa al.length ac] 24)).alloc (.cells #[.int .i64 bo, .int .i64 bn, .slice ba bl.length bc] 24)).alloc (.cells #[.int .i64 co, .int .i64 cn, .slice ca cl.length cc] 24)).alloc (.cells #[.int .i64 rk, .int .i64 rt, .int .i64 rv] 26)) w.heap.size (w.heap.size + 1) (w.heap.size + 1 + 1) (w.heap.size + 1 + 1 + 1) ⟨ao, an, aa, ac, al⟩ ⟨bo, bn, ba, bc, bl⟩ ⟨co, cn, ca, cc, cl⟩ ⟨rk, rt, rv⟩) :=
    ⟨((t1.below (below1 _ _)).below (below1 _ _)).below (below1 _ _), (t2.below (below1 _ _)).below (below1 _ _), t3.below (below1 _ _), t4, IA.out.below hbb, IB.out.below hbb, IC.out.below hbb⟩
  have HB0 := hide hbb
  have hC8 := hide (known_any (HG.out.below hbb))
  clear hbb t1 t2 t3 t4 IA IB IC HG
  unfold Ex.val Rc.val
  simp only
  go_enter Tryd.func7, Tryd.ntmps7
  go_wp2_with fail
  go_at_call 8
  refine hC8.out.mono ?_
  rintro e w2 ⟨rfl, b2⟩
  have K1 := hide (K0.out.below b2)
  have B1 := hide (HB0.out.trans (b2.mono HB0.out.size))
  clear b2 K0 HB0 hC8
  obtain ⟨a0, a1, a2⟩ := K1.out.ta
  obtain ⟨b0, b1, b2⟩ := K1.out.tb
  obtain ⟨c0, c1, c2⟩ := K1.out.tc
  have hrow := heap_alloc_new w2 (.cells #[.int .i64 ao, .int .i64 an, .slice aa al.length ac, .int .i64 bo, .int .i64 bn, .slice ba bl.length bc, .int .i64 co, .int .i64 cn, .slice ca cl.length cc] 24)
  have KR : Hid (In (w2.alloc (.cells #[.int .i64 ao, .int .i64 an, .slice aa al.length ac, .int .i64 bo, .int .i64 bn, .slice ba bl.length bc, .int .i64 co, .int .i64 cn, .slice ca cl.length cc] 24)) (mk3 1 w2.heap.size ⟨ao, an, aa, ac, al⟩ ⟨bo, bn, ba, bc, bl⟩ ⟨co, cn, ca, cc, cl⟩)) := mk3_in (by decide) (by decide) (K1.out.ia.below (below1 _ _)) (K1.out.ib.below (below1 _ _)) (K1.out.ic.below (below1 _ _)) hrow
  have K2 := hide (K1.out.below (below1 w2 (.cells #[.int .i64 ao, .int .i64 an, .slice aa al.length ac, .int .i64 bo, .int .i64 bn, .slice ba bl.length bc, .int .i64 co, .int .i64 cn, .slice ca cl.length cc] 24)))
  have B2 := hide (B1.out.alloc B1.out.size (.cells #[.int .i64 ao, .int .i64 an, .slice aa al.length ac, .int .i64 bo, .int .i64 bn, .slice ba bl.length bc, .int .i64 co, .int .i64 cn, .slice ca cl.length cc] 24))
  clear hrow
  go_wp2_with fail
  go_loopw [23] (fun i wr => ∃ (j : Nat), j ≤ 3 ∧ i = .int .i64 j ∧ Hid (Below w.heap.size w wr) ∧ Hid (LW wr w.heap.size (w.heap.size + 1) (w.heap.size + 1 + 1) (w.heap.size + 1 + 1 + 1) ⟨ao, an, aa, ac, al⟩ ⟨bo, bn, ba, bc, bl⟩ ⟨co, cn, ca, cc, cl⟩ ⟨rk, rt, rv⟩) ∧ Hid (In wr (mk3 1 w2.heap.size ⟨ao, an, aa, ac, al⟩ ⟨bo, bn, ba, bc, bl⟩ ⟨co, cn, ca, cc, cl⟩)) ∧ Hid (∀ (k : Nat) (x : Ex), k < j → ([⟨ao, an, aa, ac, al⟩, ⟨bo, bn, ba, bc, bl⟩, ⟨co, cn, ca, cc, cl⟩] : List Ex)[k]? = some x → lgt x 7 5 ≤ 7 ∧ chk x = 0)) (fun i _ => 3 - (intOf i).toNat)
  case atStart => exact ⟨0, by omega, rfl, B2.out, K2.out, KR.out, fun k x h => by omega⟩
  case round =>
    clear a0 a1 a2 b0 b1 b2 c0 c1 c2 K1 B1 KR K2 B2
    obtain ⟨j, hj, rfl, HB, HK, HR, HD⟩ := hrel
    by_cases hlt : j < 3
    · obtain ⟨x, hx⟩ : ∃ x : Ex, ([⟨ao, an, aa, ac, al⟩, ⟨bo, bn, ba, bc, bl⟩, ⟨co, cn, ca, cc, cl⟩] : List Ex)[j]? = some x := ⟨_, List.getElem?_eq_getElem (by simpa using hlt)⟩
      obtain ⟨b, o, ha, e0, e1, e2⟩ := HR.out.self.at_ j x hx
      simp only [mk3, Option.some.injEq, Addr.mk.injEq] at ha
      obtain ⟨rfl, rfl, _⟩ := ha
      have HX := hide hx
      have ix := HR.out.kid (List.mem_of_getElem? hx)
      have hba := below1 wr (.cells #[.int .i64 x.op, .int .i64 x.n, .slice x.a x.l.length x.c] 24)
      have hL := hide (Light_any x _ 7 5 (ix.below hba) (by decide) (by decide) (by decide) (by decide))
      have hC : lgt x 7 5 ≤ 7 → Hid (∀ w', In w' x → Calls Tryd.prog 10 #[x.val] w' fun e w'' => e = .returned (.int .i64 (chk x)) ∧ Below w'.heap.size w' w'') := fun h w' h' => rCheck_any x h' (by have := light7 h; omega) (by have := light7 h; omega)
      have IX := hide (ix.below hba)
      have T := hide (Tri.new wr (.int .i64 x.op) (.int .i64 x.n) (.slice x.a x.l.length x.c) 24)
      have BA := hide hba
      simp only [Nat.zero_add] at e0 e1 e2
      have hgoal : Hid (lgt x 7 5 ≤ 7 → chk x = 0 → ∀ (k : Nat) (y : Ex), k < j + 1 → ([⟨ao, an, aa, ac, al⟩, ⟨bo, bn, ba, bc, bl⟩, ⟨co, cn, ca, cc, cl⟩] : List Ex)[k]? = some y → lgt y 7 5 ≤ 7 ∧ chk y = 0) := fun h1 h2 k y hk hy => by
        by_cases hkj : k < j
        · exact HD.out k y hkj hy
        · obtain rfl : k = j := by omega
          rw [HX.out] at hy
          cases hy
          exact ⟨h1, h2⟩
      clear hx ix hba HX
      obtain ⟨xo, xn, xa, xc, xl⟩ := x
      unfold Ex.val at *
      simp only at *
      generalize lgt ⟨xo, xn, xa, xc, xl⟩ 7 5 = lx at *
      generalize chk ⟨xo, xn, xa, xc, xl⟩ = cx at *
      by_cases h1 : lx ≤ 7
      rotate_left
      · have h1' : 7 < lx := by omega
        go_wp2_with (go_at_call 20; refine hL.out.mono ?_; rintro e w3 ⟨rfl, hb⟩)
        go_ret
        have hq := HB.out.trans (BA.out.mono HB.out.size)
        exact ⟨rfl, hq.trans (hb.mono hq.size)⟩
      have hC' := hC h1
      have h1' : ¬ 7 < lx := by omega
      by_cases h2 : cx = 0
      rotate_left
      · have g1 : (cx == 0) = false := by simp [h2]
        have g2 : (cx != 0) = true := by simp [h2]
        go_wp2_with (first
          | (go_at_call 20; refine hL.out.mono ?_; rintro e w3 ⟨rfl, hb⟩; have B3 := hide hb; obtain ⟨z0, z1, z2⟩ := T.out.below hb; have hC2 := hide (hC'.out _ (IX.out.below hb)); clear hb)
          | (go_at_call 10; refine hC2.out.mono ?_; rintro e w5 ⟨rfl, hb⟩))
        go_ret
        have hq := HB.out.trans (BA.out.mono HB.out.size)
        have hq2 := hq.trans (B3.out.mono hq.size)
        exact ⟨rfl, hq2.trans (hb.mono hq2.size)⟩
      have hnext := hide (hgoal.out h1 h2)
      have HH2 := hide h2
      clear hgoal hC
      subst h2
      go_wp2_with (first
        | (go_at_call 20; refine hL.out.mono ?_; rintro e w3 ⟨rfl, hb⟩; have B3 := hide hb; obtain ⟨z0, z1, z2⟩ := T.out.below hb; have hC2 := hide (hC'.out _ (IX.out.below hb)); clear hb)
        | (go_at_call 10; refine hC2.out.mono ?_; rintro e w5 ⟨rfl, hb⟩))
      have hq0 := BA.out.trans (B3.out.mono BA.out.size)
      have hq1 := hq0.trans (hb.mono hq0.size)
      have hq := HB.out.trans (hq1.mono HB.out.size)
      go_roundw
      case rel => exact ⟨j + 1, by omega, by go_num, hq, HK.out.below hq1, HR.out.below hq1, hnext.out⟩
      case measure => simp [intOf]; omega
    · obtain rfl : j = 3 := by omega
      have SA := hide (light7 (HD.out 0 ⟨ao, an, aa, ac, al⟩ (by omega) rfl).1)
      have SB := hide (light7 (HD.out 1 ⟨bo, bn, ba, bc, bl⟩ (by omega) rfl).1)
      have SC := hide (light7 (HD.out 2 ⟨co, cn, ca, cc, cl⟩ (by omega) rfl).1)
      clear HD HR
      obtain ⟨wc, hwc⟩ : ∃ wc, wr = wc := ⟨_, rfl⟩
      subst hwc
      have hq : Below wr.heap.size wr ((wr.alloc (.cells #[.int .i64 co, .int .i64 cn, .slice ca cl.length cc, .int .i64 ao, .int .i64 an, .slice aa al.length ac, .int .i64 ao, .int .i64 an, .slice aa al.length ac] 24)).alloc (.cells #[.int .i64 14, .int .i64 0, .slice (some ⟨wr.heap.size, 0, none⟩) 3 3] 24)) := ((Below.refl _ _).alloc (Nat.le_refl _) _).alloc (by simp) _
      have th := Tri.new (wr.alloc (.cells #[.int .i64 co, .int .i64 cn, .slice ca cl.length cc, .int .i64 ao, .int .i64 an, .slice aa al.length ac, .int .i64 ao, .int .i64 an, .slice aa al.length ac] 24)) (.int .i64 14) (.int .i64 0) (.slice (some ⟨wr.heap.size, 0, none⟩) 3 3) 24
      simp only [World.size_alloc] at th
      have KL0 : Hid (LX ((wr.alloc (.cells #[.int .i64 co, .int .i64 cn, .slice ca cl.length cc, .int .i64 ao, .int .i64 an, .slice aa al.length ac, .int .i64 ao, .int .i64 an, .slice aa al.length ac] 24)).alloc (.cells #[.int .i64 14, .int .i64 0, .slice (some ⟨wr.heap.size, 0, none⟩) 3 3] 24)) w.heap.size (w.heap.size + 1) (w.heap.size + 1 + 1) (w.heap.size + 1 + 1 + 1) ⟨ao, an, aa, ac, al⟩ ⟨bo, bn, ba, bc, bl⟩ ⟨co, cn, ca, cc, cl⟩ ⟨rk, rt, rv⟩ wr.heap.size (wr.heap.size + 1)) :=
        ⟨HK.out.below hq, th, mk3_in (by decide) (by decide) (HK.out.ic.below hq) (HK.out.ia.below hq) (HK.out.ia.below hq) (((below1 _ _).block wr.heap.size (by simp)).trans (heap_alloc_new wr _))⟩
      have BL0 := hide (HB.out.trans (hq.mono HB.out.size))
      obtain ⟨a0, a1, a2⟩ := HK.out.ta
      obtain ⟨b0, b1, b2⟩ := HK.out.tb
      obtain ⟨c0, c1, c2⟩ := HK.out.tc
      have l0 := cell_lt a0
      have l1 := cell_lt b0
      have l2 := cell_lt c0
      have h0 := KL0.out.th.c0
      have h1 := KL0.out.th.c1
      have h2 := KL0.out.th.c2
      clear hq th HK HB
      go_wp2_with fail
      generalize (wr.alloc (.cells #[.int .i64 co, .int .i64 cn, .slice ca cl.length cc, .int .i64 ao, .int .i64 an, .slice aa al.length ac, .int .i64 ao, .int .i64 an, .slice aa al.length ac] 24)).alloc (.cells #[.int .i64 14, .int .i64 0, .slice (some ⟨wr.heap.size, 0, none⟩) 3 3] 24) = v0 at *
      have KLd := hide (KL0.out.below ((Below.refl _ _).drew))
      have BLd : Hid (Below w.heap.size w v0.drew) := BL0.out.drew
      clear KL0 BL0
      have KL0 := hide KLd.out
      have BL0 := hide BLd.out
      clear KLd BLd
      have hHeld : v0.drew.cell? ⟨w.heap.size, 0, none⟩ = some (.int .i64 ao) ∧ v0.drew.cell? ⟨w.heap.size, 1, none⟩ = some (.int .i64 an) ∧ v0.drew.cell? ⟨w.heap.size, 2, none⟩ = some (.slice aa al.length ac) ∧ v0.drew.cell? ⟨w.heap.size + 1, 0, none⟩ = some (.int .i64 bo) ∧ v0.drew.cell? ⟨w.heap.size + 1, 1, none⟩ = some (.int .i64 bn) ∧ v0.drew.cell? ⟨w.heap.size + 1, 2, none⟩ = some (.slice ba bl.length bc) ∧ v0.drew.cell? ⟨w.heap.size + 1 + 1, 0, none⟩ = some (.int .i64 co) ∧ v0.drew.cell? ⟨w.heap.size + 1 + 1, 1, none⟩ = some (.int .i64 cn) ∧ v0.drew.cell? ⟨w.heap.size + 1 + 1, 2, none⟩ = some (.slice ca cl.length cc) ∧ v0.drew.cell? ⟨wr.heap.size + 1, 0, none⟩ = some (.int .i64 14) ∧ v0.drew.cell? ⟨wr.heap.size + 1, 1, none⟩ = some (.int .i64 0) ∧ v0.drew.cell? ⟨wr.heap.size + 1, 2, none⟩ = some (.slice (some ⟨wr.heap.size, 0, none⟩) 3 3) := ⟨KL0.out.ta.c0, KL0.out.ta.c1, KL0.out.ta.c2, KL0.out.tb.c0, KL0.out.tb.c1, KL0.out.tb.c2, KL0.out.tc.c0, KL0.out.tc.c1, KL0.out.tc.c2, KL0.out.th.c0, KL0.out.th.c1, KL0.out.th.c2⟩
      refine wp_region_M (S := fun w' => w'.cell? ⟨w.heap.size, 0, none⟩ = some (.int .i64 ao) ∧ w'.cell? ⟨w.heap.size, 1, none⟩ = some (.int .i64 an) ∧ w'.cell? ⟨w.heap.size, 2, none⟩ = some (.slice aa al.length ac) ∧ w'.cell? ⟨w.heap.size + 1, 0, none⟩ = some (.int .i64 bo) ∧ w'.cell? ⟨w.heap.size + 1, 1, none⟩ = some (.int .i64 bn) ∧ w'.cell? ⟨w.heap.size + 1, 2, none⟩ = some (.slice ba bl.length bc) ∧ w'.cell? ⟨w.heap.size + 1 + 1, 0, none⟩ = some (.int .i64 co) ∧ w'.cell? ⟨w.heap.size + 1 + 1, 1, none⟩ = some (.int .i64 cn) ∧ w'.cell? ⟨w.heap.size + 1 + 1, 2, none⟩ = some (.slice ca cl.length cc) ∧ w'.cell? ⟨wr.heap.size + 1, 0, none⟩ = some (.int .i64 14) ∧ w'.cell? ⟨wr.heap.size + 1, 1, none⟩ = some (.int .i64 0) ∧ w'.cell? ⟨wr.heap.size + 1, 2, none⟩ = some (.slice (some ⟨wr.heap.size, 0, none⟩) 3 3)) (late := []) (by kernel_rfl) hHeld (fun hHeld => ?_)
      (try simp only [List.size_toArray, List.length_cons, List.length_nil, Nat.zero_add, Nat.reduceAdd, Array.replicate, List.replicate])
      refine wpAnyM_take (i := 0) (oi := ⟨_, _, _, _, _, _⟩) (v := ?_) rfl (by kernel_rfl) (by kernel_rfl) (by kernel_rfl) (by kernel_rfl) (fun _ _ _ h => h) (Or.inl ⟨by rfl, ?_⟩) hHeld ?_
      rotate_left
      · (intro w' hSw; (try dsimp only at hSw); go_simp; try (with_reducible rfl))
      (try simp only [Act.put, List.setIfInBounds_toArray, List.set_cons_zero, List.set_cons_succ])
      refine wpAnyM_take (i := 1) (oi := ⟨_, _, _, _, _, _⟩) (v := ?_) rfl (by kernel_rfl) (by kernel_rfl) (by kernel_rfl) (by kernel_rfl) (fun _ _ _ h => h) (Or.inl ⟨by rfl, ?_⟩) hHeld ?_
      rotate_left
      · (intro w' hSw; (try dsimp only at hSw); go_simp; try (with_reducible rfl))
      (try simp only [Act.put, List.setIfInBounds_toArray, List.set_cons_zero, List.set_cons_succ])
      refine wpAnyM_take (i := 2) (oi := ⟨_, _, _, _, _, _⟩) (v := ?_) rfl (by kernel_rfl) (by kernel_rfl) (by kernel_rfl) (by kernel_rfl) (fun _ _ _ h => h) (Or.inl ⟨by rfl, ?_⟩) hHeld ?_
      rotate_left
      · (intro w' hSw; (try dsimp only at hSw); go_simp; try (with_reducible rfl))
      (try simp only [Act.put, List.setIfInBounds_toArray, List.set_cons_zero, List.set_cons_succ])
      refine wpAnyM_take (i := 3) (oi := ⟨_, _, _, _, _, _⟩) (v := ?_) rfl (by kernel_rfl) (by kernel_rfl) (by kernel_rfl) (by kernel_rfl) (fun _ _ _ h => h) (Or.inl ⟨by rfl, ?_⟩) hHeld ?_
      rotate_left
      · (intro w' hSw; (try dsimp only at hSw); go_simp; try (with_reducible rfl))
      (try simp only [Act.put, List.setIfInBounds_toArray, List.set_cons_zero, List.set_cons_succ])
      refine wpAnyM_take (i := 5) (oi := ⟨_, _, _, _, _, _⟩) (v := ?_) rfl (by kernel_rfl) (by kernel_rfl) (by kernel_rfl) (by kernel_rfl) (fun _ _ _ h => h) (Or.inl ⟨by rfl, ?_⟩) hHeld ?_
      rotate_left
      · (intro w' hSw; (try dsimp only at hSw); go_simp; try (with_reducible rfl))
      (try simp only [Act.put, List.setIfInBounds_toArray, List.set_cons_zero, List.set_cons_succ])
      refine wpAnyM_take (i := 6) (oi := ⟨_, _, _, _, _, _⟩) (v := ?_) rfl (by kernel_rfl) (by kernel_rfl) (by kernel_rfl) (by kernel_rfl) (fun _ _ _ h => h) (Or.inl ⟨by rfl, ?_⟩) hHeld ?_
      rotate_left
      · (intro w' hSw; (try dsimp only at hSw); go_simp; try (with_reducible rfl))
      (try simp only [Act.put, List.setIfInBounds_toArray, List.set_cons_zero, List.set_cons_succ])
      refine wpAnyM_take (i := 7) (oi := ⟨_, _, _, _, _, _⟩) (v := ?_) rfl (by kernel_rfl) (by kernel_rfl) (by kernel_rfl) (by kernel_rfl) (fun _ _ _ h => h) (Or.inl ⟨by rfl, ?_⟩) hHeld ?_
      rotate_left
      · (intro w' hSw; (try dsimp only at hSw); go_simp; try (with_reducible rfl))
      (try simp only [Act.put, List.setIfInBounds_toArray, List.set_cons_zero, List.set_cons_succ])
      refine wpAnyM_one (i := 4) (o := ⟨_, _, _, _, _, _⟩) (by kernel_rfl) rfl (fun K hK => ?_)
      go_simp
      go_at_call 17
      refine (two_any 5 ⟨ao, an, aa, ac, al⟩ ⟨bo, bn, ba, bc, bl⟩ (by decide) (by decide) (KL0.out.ia) (KL0.out.ib)).mono ?_
      rintro e v1 ⟨g_x1_0, rfl, hin, _, _, hb⟩
      have KL1 := hide (KL0.out.below hb)
      have BL1 := hide (BL0.out.trans (hb.mono BL0.out.size))
      have I_x1_1 := hide hin
      refine hK.out _ _ ⟨KL1.out.ta.c0, KL1.out.ta.c1, KL1.out.ta.c2, KL1.out.tb.c0, KL1.out.tb.c1, KL1.out.tb.c2, KL1.out.tc.c0, KL1.out.tc.c1, KL1.out.tc.c2, KL1.out.th.c0, KL1.out.th.c1, KL1.out.th.c2⟩ (fun hHeld => ?_)
      clear hK K hb hin KL0 BL0
      (try simp only [List.setIfInBounds_toArray, List.set_cons_zero, List.set_cons_succ])
      refine wpAnyM_one (i := 8) (o := ⟨_, _, _, _, _, _⟩) (by kernel_rfl) rfl (fun K hK => ?_)
      go_simp
      go_at_call 17
      refine (two_any 5 ⟨bo, bn, ba, bc, bl⟩ ⟨ao, an, aa, ac, al⟩ (by decide) (by decide) (KL1.out.ib) (KL1.out.ia)).mono ?_
      rintro e v2 ⟨g_x2_1, rfl, hin, _, _, hb⟩
      have KL2 := hide (KL1.out.below hb)
      have BL2 := hide (BL1.out.trans (hb.mono BL1.out.size))
      have I_x1_2 := hide (I_x1_1.out.below hb)
      have I_x2_2 := hide hin
      refine hK.out _ _ ⟨KL2.out.ta.c0, KL2.out.ta.c1, KL2.out.ta.c2, KL2.out.tb.c0, KL2.out.tb.c1, KL2.out.tb.c2, KL2.out.tc.c0, KL2.out.tc.c1, KL2.out.tc.c2, KL2.out.th.c0, KL2.out.th.c1, KL2.out.th.c2⟩ (fun hHeld => ?_)
      clear hK K hb hin KL1 BL1
      (try simp only [List.setIfInBounds_toArray, List.set_cons_zero, List.set_cons_succ])
      refine wpAnyM_one (i := 9) (o := ⟨_, _, _, _, _, _⟩) (by kernel_rfl) rfl (fun K hK => ?_)
      go_simp
      go_at_call 21
      refine (same21 ⟨rk, rt, rv⟩ (mk2 5 g_x1_0 ⟨ao, an, aa, ac, al⟩ ⟨bo, bn, ba, bc, bl⟩) (mk2 5 g_x2_1 ⟨bo, bn, ba, bc, bl⟩ ⟨ao, an, aa, ac, al⟩) (I_x1_2.out) (I_x2_2.out) KL2.out.tr (by simp only [size_mk2, dep_mk2]; have q1 := SA.out; have q2 := SB.out; have q3 := SC.out; omega) (by simp only [size_mk2, dep_mk2]; have q1 := SA.out; have q2 := SB.out; have q3 := SC.out; omega) (fun _ _ => by rw [evl_mk2 _ 5 (by decide), evl_mk2 _ 5 (by decide), b5, b5, Int.add_comm])).mono ?_
      rintro e v3 ⟨rfl, hb⟩
      have KL3 := hide (KL2.out.below hb)
      have BL3 := hide (BL2.out.trans (hb.mono BL2.out.size))
      have I_x1_3 := hide (I_x1_2.out.below hb)
      have I_x2_3 := hide (I_x2_2.out.below hb)
      refine hK.out _ _ ⟨KL3.out.ta.c0, KL3.out.ta.c1, KL3.out.ta.c2, KL3.out.tb.c0, KL3.out.tb.c1, KL3.out.tb.c2, KL3.out.tc.c0, KL3.out.tc.c1, KL3.out.tc.c2, KL3.out.th.c0, KL3.out.th.c1, KL3.out.th.c2⟩ (fun hHeld => ?_)
      clear hK K hb KL2 BL2
      (try simp only [List.setIfInBounds_toArray, List.set_cons_zero, List.set_cons_succ])
      clear I_x1_1 I_x1_2 I_x2_2 I_x1_3 I_x2_3
      as_aux_lemma =>
        refine wpAnyM_take (i := 10) (oi := ⟨_, _, _, _, _, _⟩) (v := ?_) rfl (by kernel_rfl) (by kernel_rfl) (by kernel_rfl) (by kernel_rfl) (fun _ _ _ h => h) (Or.inl ⟨by rfl, ?_⟩) hHeld ?_
        rotate_left
        · (intro w' hSw; (try dsimp only at hSw); go_simp; try (with_reducible rfl))
        (try simp only [Act.put, List.setIfInBounds_toArray, List.set_cons_zero, List.set_cons_succ])
        refine wpAnyM_take (i := 11) (oi := ⟨_, _, _, _, _, _⟩) (v := ?_) rfl (by kernel_rfl) (by kernel_rfl) (by kernel_rfl) (by kernel_rfl) (fun _ _ _ h => h) (Or.inl ⟨by rfl, ?_⟩) hHeld ?_
        rotate_left
        · (intro w' hSw; (try dsimp only at hSw); go_simp; try (with_reducible rfl))
        (try simp only [Act.put, List.setIfInBounds_toArray, List.set_cons_zero, List.set_cons_succ])
        refine wpAnyM_take (i := 12) (oi := ⟨_, _, _, _, _, _⟩) (v := ?_) rfl (by kernel_rfl) (by kernel_rfl) (by kernel_rfl) (by kernel_rfl) (fun _ _ _ h => h) (Or.inl ⟨by rfl, ?_⟩) hHeld ?_
        rotate_left
        · (intro w' hSw; (try dsimp only at hSw); go_simp; try (with_reducible rfl))
        (try simp only [Act.put, List.setIfInBounds_toArray, List.set_cons_zero, List.set_cons_succ])
        refine wpAnyM_take (i := 13) (oi := ⟨_, _, _, _, _, _⟩) (v := ?_) rfl (by kernel_rfl) (by kernel_rfl) (by kernel_rfl) (by kernel_rfl) (fun _ _ _ h => h) (Or.inl ⟨by rfl, ?_⟩) hHeld ?_
        rotate_left
        · (intro w' hSw; (try dsimp only at hSw); go_simp; try (with_reducible rfl))
        (try simp only [Act.put, List.setIfInBounds_toArray, List.set_cons_zero, List.set_cons_succ])
        refine wpAnyM_take (i := 14) (oi := ⟨_, _, _, _, _, _⟩) (v := ?_) rfl (by kernel_rfl) (by kernel_rfl) (by kernel_rfl) (by kernel_rfl) (fun _ _ _ h => h) (Or.inl ⟨by rfl, ?_⟩) hHeld ?_
        rotate_left
        · (intro w' hSw; (try dsimp only at hSw); go_simp; try (with_reducible rfl))
        (try simp only [Act.put, List.setIfInBounds_toArray, List.set_cons_zero, List.set_cons_succ])
        refine wpAnyM_take (i := 16) (oi := ⟨_, _, _, _, _, _⟩) (v := ?_) rfl (by kernel_rfl) (by kernel_rfl) (by kernel_rfl) (by kernel_rfl) (fun _ _ _ h => h) (Or.inl ⟨by rfl, ?_⟩) hHeld ?_
        rotate_left
        · (intro w' hSw; (try dsimp only at hSw); go_simp; try (with_reducible rfl))
        (try simp only [Act.put, List.setIfInBounds_toArray, List.set_cons_zero, List.set_cons_succ])
        refine wpAnyM_take (i := 17) (oi := ⟨_, _, _, _, _, _⟩) (v := ?_) rfl (by kernel_rfl) (by kernel_rfl) (by kernel_rfl) (by kernel_rfl) (fun _ _ _ h => h) (Or.inl ⟨by rfl, ?_⟩) hHeld ?_
        rotate_left
        · (intro w' hSw; (try dsimp only at hSw); go_simp; try (with_reducible rfl))
        (try simp only [Act.put, List.setIfInBounds_toArray, List.set_cons_zero, List.set_cons_succ])
        refine wpAnyM_take (i := 18) (oi := ⟨_, _, _, _, _, _⟩) (v := ?_) rfl (by kernel_rfl) (by kernel_rfl) (by kernel_rfl) (by kernel_rfl) (fun _ _ _ h => h) (Or.inl ⟨by rfl, ?_⟩) hHeld ?_
        rotate_left
        · (intro w' hSw; (try dsimp only at hSw); go_simp; try (with_reducible rfl))
        (try simp only [Act.put, List.setIfInBounds_toArray, List.set_cons_zero, List.set_cons_succ])
        refine wpAnyM_one (i := 15) (o := ⟨_, _, _, _, _, _⟩) (by kernel_rfl) rfl (fun K hK => ?_)
        go_simp
        go_at_call 17
        refine (two_any 7 ⟨ao, an, aa, ac, al⟩ ⟨bo, bn, ba, bc, bl⟩ (by decide) (by decide) (KL3.out.ia) (KL3.out.ib)).mono ?_
        rintro e v4 ⟨g_x1_3, rfl, hin, _, _, hb⟩
        have KL4 := hide (KL3.out.below hb)
        have BL4 := hide (BL3.out.trans (hb.mono BL3.out.size))
        have I_x1_4 := hide hin
        refine hK.out _ _ ⟨KL4.out.ta.c0, KL4.out.ta.c1, KL4.out.ta.c2, KL4.out.tb.c0, KL4.out.tb.c1, KL4.out.tb.c2, KL4.out.tc.c0, KL4.out.tc.c1, KL4.out.tc.c2, KL4.out.th.c0, KL4.out.th.c1, KL4.out.th.c2⟩ (fun hHeld => ?_)
        clear hK K hb hin KL3 BL3
        (try simp only [List.setIfInBounds_toArray, List.set_cons_zero, List.set_cons_succ])
        refine wpAnyM_one (i := 19) (o := ⟨_, _, _, _, _, _⟩) (by kernel_rfl) rfl (fun K hK => ?_)
        go_simp
        go_at_call 17
        refine (two_any 7 ⟨bo, bn, ba, bc, bl⟩ ⟨ao, an, aa, ac, al⟩ (by decide) (by decide) (KL4.out.ib) (KL4.out.ia)).mono ?_
        rintro e v5 ⟨g_x2_4, rfl, hin, _, _, hb⟩
        have KL5 := hide (KL4.out.below hb)
        have BL5 := hide (BL4.out.trans (hb.mono BL4.out.size))
        have I_x1_5 := hide (I_x1_4.out.below hb)
        have I_x2_5 := hide hin
        refine hK.out _ _ ⟨KL5.out.ta.c0, KL5.out.ta.c1, KL5.out.ta.c2, KL5.out.tb.c0, KL5.out.tb.c1, KL5.out.tb.c2, KL5.out.tc.c0, KL5.out.tc.c1, KL5.out.tc.c2, KL5.out.th.c0, KL5.out.th.c1, KL5.out.th.c2⟩ (fun hHeld => ?_)
        clear hK K hb hin KL4 BL4
        (try simp only [List.setIfInBounds_toArray, List.set_cons_zero, List.set_cons_succ])
        refine wpAnyM_one (i := 20) (o := ⟨_, _, _, _, _, _⟩) (by kernel_rfl) rfl (fun K hK => ?_)
        go_simp
        go_at_call 21
        refine (same21 ⟨rk, rt, rv⟩ (mk2 7 g_x1_3 ⟨ao, an, aa, ac, al⟩ ⟨bo, bn, ba, bc, bl⟩) (mk2 7 g_x2_4 ⟨bo, bn, ba, bc, bl⟩ ⟨ao, an, aa, ac, al⟩) (I_x1_5.out) (I_x2_5.out) KL5.out.tr (by simp only [size_mk2, dep_mk2]; have q1 := SA.out; have q2 := SB.out; have q3 := SC.out; omega) (by simp only [size_mk2, dep_mk2]; have q1 := SA.out; have q2 := SB.out; have q3 := SC.out; omega) (fun _ _ => by rw [evl_mk2 _ 7 (by decide), evl_mk2 _ 7 (by decide), b7, b7, Int.mul_comm])).mono ?_
        rintro e v6 ⟨rfl, hb⟩
        have KL6 := hide (KL5.out.below hb)
        have BL6 := hide (BL5.out.trans (hb.mono BL5.out.size))
        have I_x1_6 := hide (I_x1_5.out.below hb)
        have I_x2_6 := hide (I_x2_5.out.below hb)
        refine hK.out _ _ ⟨KL6.out.ta.c0, KL6.out.ta.c1, KL6.out.ta.c2, KL6.out.tb.c0, KL6.out.tb.c1, KL6.out.tb.c2, KL6.out.tc.c0, KL6.out.tc.c1, KL6.out.tc.c2, KL6.out.th.c0, KL6.out.th.c1, KL6.out.th.c2⟩ (fun hHeld => ?_)
        clear hK K hb KL5 BL5
        (try simp only [List.setIfInBounds_toArray, List.set_cons_zero, List.set_cons_succ])
        clear I_x1_4 I_x1_5 I_x2_5 I_x1_6 I_x2_6
        as_aux_lemma =>
          refine wpAnyM_take (i := 21) (oi := ⟨_, _, _, _, _, _⟩) (v := ?_) rfl (by kernel_rfl) (by kernel_rfl) (by kernel_rfl) (by kernel_rfl) (fun _ _ _ h => h) (Or.inl ⟨by rfl, ?_⟩) hHeld ?_
          rotate_left
          · (intro w' hSw; (try dsimp only at hSw); go_simp; try (with_reducible rfl))
          (try simp only [Act.put, List.setIfInBounds_toArray, List.set_cons_zero, List.set_cons_succ])
          refine wpAnyM_take (i := 22) (oi := ⟨_, _, _, _, _, _⟩) (v := ?_) rfl (by kernel_rfl) (by kernel_rfl) (by kernel_rfl) (by kernel_rfl) (fun _ _ _ h => h) (Or.inl ⟨by rfl, ?_⟩) hHeld ?_
          rotate_left
          · (intro w' hSw; (try dsimp only at hSw); go_simp; try (with_reducible rfl))
          (try simp only [Act.put, List.setIfInBounds_toArray, List.set_cons_zero, List.set_cons_succ])
          refine wpAnyM_take (i := 23) (oi := ⟨_, _, _, _, _, _⟩) (v := ?_) rfl (by kernel_rfl) (by kernel_rfl) (by kernel_rfl) (by kernel_rfl) (fun _ _ _ h => h) (Or.inl ⟨by rfl, ?_⟩) hHeld ?_
          rotate_left
          · (intro w' hSw; (try dsimp only at hSw); go_simp; try (with_reducible rfl))
          (try simp only [Act.put, List.setIfInBounds_toArray, List.set_cons_zero, List.set_cons_succ])
          refine wpAnyM_take (i := 24) (oi := ⟨_, _, _, _, _, _⟩) (v := ?_) rfl (by kernel_rfl) (by kernel_rfl) (by kernel_rfl) (by kernel_rfl) (fun _ _ _ h => h) (Or.inl ⟨by rfl, ?_⟩) hHeld ?_
          rotate_left
          · (intro w' hSw; (try dsimp only at hSw); go_simp; try (with_reducible rfl))
          (try simp only [Act.put, List.setIfInBounds_toArray, List.set_cons_zero, List.set_cons_succ])
          refine wpAnyM_take (i := 25) (oi := ⟨_, _, _, _, _, _⟩) (v := ?_) rfl (by kernel_rfl) (by kernel_rfl) (by kernel_rfl) (by kernel_rfl) (fun _ _ _ h => h) (Or.inl ⟨by rfl, ?_⟩) hHeld ?_
          rotate_left
          · (intro w' hSw; (try dsimp only at hSw); go_simp; try (with_reducible rfl))
          (try simp only [Act.put, List.setIfInBounds_toArray, List.set_cons_zero, List.set_cons_succ])
          refine wpAnyM_take (i := 26) (oi := ⟨_, _, _, _, _, _⟩) (v := ?_) rfl (by kernel_rfl) (by kernel_rfl) (by kernel_rfl) (by kernel_rfl) (fun _ _ _ h => h) (Or.inl ⟨by rfl, ?_⟩) hHeld ?_
          rotate_left
          · (intro w' hSw; (try dsimp only at hSw); go_simp; try (with_reducible rfl))
          (try simp only [Act.put, List.setIfInBounds_toArray, List.set_cons_zero, List.set_cons_succ])
          refine wpAnyM_take (i := 27) (oi := ⟨_, _, _, _, _, _⟩) (v := ?_) rfl (by kernel_rfl) (by kernel_rfl) (by kernel_rfl) (by kernel_rfl) (fun _ _ _ h => h) (Or.inl ⟨by rfl, ?_⟩) hHeld ?_
          rotate_left
          · (intro w' hSw; (try dsimp only at hSw); go_simp; try (with_reducible rfl))
          (try simp only [Act.put, List.setIfInBounds_toArray, List.set_cons_zero, List.set_cons_succ])
          refine wpAnyM_take (i := 28) (oi := ⟨_, _, _, _, _, _⟩) (v := ?_) rfl (by kernel_rfl) (by kernel_rfl) (by kernel_rfl) (by kernel_rfl) (fun _ _ _ h => h) (Or.inl ⟨by rfl, ?_⟩) hHeld ?_
          rotate_left
          · (intro w' hSw; (try dsimp only at hSw); go_simp; try (with_reducible rfl))
          (try simp only [Act.put, List.setIfInBounds_toArray, List.set_cons_zero, List.set_cons_succ])
          refine wpAnyM_take (i := 31) (oi := ⟨_, _, _, _, _, _⟩) (v := ?_) rfl (by kernel_rfl) (by kernel_rfl) (by kernel_rfl) (by kernel_rfl) (fun _ _ _ h => h) (Or.inl ⟨by rfl, ?_⟩) hHeld ?_
          rotate_left
          · (intro w' hSw; (try dsimp only at hSw); go_simp; try (with_reducible rfl))
          (try simp only [Act.put, List.setIfInBounds_toArray, List.set_cons_zero, List.set_cons_succ])
          refine wpAnyM_take (i := 32) (oi := ⟨_, _, _, _, _, _⟩) (v := ?_) rfl (by kernel_rfl) (by kernel_rfl) (by kernel_rfl) (by kernel_rfl) (fun _ _ _ h => h) (Or.inl ⟨by rfl, ?_⟩) hHeld ?_
          rotate_left
          · (intro w' hSw; (try dsimp only at hSw); go_simp; try (with_reducible rfl))
          (try simp only [Act.put, List.setIfInBounds_toArray, List.set_cons_zero, List.set_cons_succ])
          refine wpAnyM_take (i := 33) (oi := ⟨_, _, _, _, _, _⟩) (v := ?_) rfl (by kernel_rfl) (by kernel_rfl) (by kernel_rfl) (by kernel_rfl) (fun _ _ _ h => h) (Or.inl ⟨by rfl, ?_⟩) hHeld ?_
          rotate_left
          · (intro w' hSw; (try dsimp only at hSw); go_simp; try (with_reducible rfl))
          (try simp only [Act.put, List.setIfInBounds_toArray, List.set_cons_zero, List.set_cons_succ])
          refine wpAnyM_take (i := 34) (oi := ⟨_, _, _, _, _, _⟩) (v := ?_) rfl (by kernel_rfl) (by kernel_rfl) (by kernel_rfl) (by kernel_rfl) (fun _ _ _ h => h) (Or.inl ⟨by rfl, ?_⟩) hHeld ?_
          rotate_left
          · (intro w' hSw; (try dsimp only at hSw); go_simp; try (with_reducible rfl))
          (try simp only [Act.put, List.setIfInBounds_toArray, List.set_cons_zero, List.set_cons_succ])
          refine wpAnyM_take (i := 36) (oi := ⟨_, _, _, _, _, _⟩) (v := ?_) rfl (by kernel_rfl) (by kernel_rfl) (by kernel_rfl) (by kernel_rfl) (fun _ _ _ h => h) (Or.inl ⟨by rfl, ?_⟩) hHeld ?_
          rotate_left
          · (intro w' hSw; (try dsimp only at hSw); go_simp; try (with_reducible rfl))
          (try simp only [Act.put, List.setIfInBounds_toArray, List.set_cons_zero, List.set_cons_succ])
          refine wpAnyM_one (i := 29) (o := ⟨_, _, _, _, _, _⟩) (by kernel_rfl) rfl (fun K hK => ?_)
          go_simp
          go_at_call 17
          refine (two_any 5 ⟨bo, bn, ba, bc, bl⟩ ⟨co, cn, ca, cc, cl⟩ (by decide) (by decide) (KL6.out.ib) (KL6.out.ic)).mono ?_
          rintro e v7 ⟨g_x1_6, rfl, hin, _, _, hb⟩
          have KL7 := hide (KL6.out.below hb)
          have BL7 := hide (BL6.out.trans (hb.mono BL6.out.size))
          have I_x1_7 := hide hin
          refine hK.out _ _ ⟨KL7.out.ta.c0, KL7.out.ta.c1, KL7.out.ta.c2, KL7.out.tb.c0, KL7.out.tb.c1, KL7.out.tb.c2, KL7.out.tc.c0, KL7.out.tc.c1, KL7.out.tc.c2, KL7.out.th.c0, KL7.out.th.c1, KL7.out.th.c2⟩ (fun hHeld => ?_)
          clear hK K hb hin KL6 BL6
          (try simp only [List.setIfInBounds_toArray, List.set_cons_zero, List.set_cons_succ])
          refine wpAnyM_one (i := 30) (o := ⟨_, _, _, _, _, _⟩) (by kernel_rfl) rfl (fun K hK => ?_)
          go_simp
          go_at_call 17
          refine (two_any 5 ⟨ao, an, aa, ac, al⟩ (mk2 5 g_x1_6 ⟨bo, bn, ba, bc, bl⟩ ⟨co, cn, ca, cc, cl⟩) (by decide) (by decide) (KL7.out.ia) (I_x1_7.out)).mono ?_
          rintro e v8 ⟨g_x2_7, rfl, hin, _, _, hb⟩
          have KL8 := hide (KL7.out.below hb)
          have BL8 := hide (BL7.out.trans (hb.mono BL7.out.size))
          have I_x1_8 := hide (I_x1_7.out.below hb)
          have I_x2_8 := hide hin
          refine hK.out _ _ ⟨KL8.out.ta.c0, KL8.out.ta.c1, KL8.out.ta.c2, KL8.out.tb.c0, KL8.out.tb.c1, KL8.out.tb.c2, KL8.out.tc.c0, KL8.out.tc.c1, KL8.out.tc.c2, KL8.out.th.c0, KL8.out.th.c1, KL8.out.th.c2⟩ (fun hHeld => ?_)
          clear hK K hb hin KL7 BL7
          (try simp only [List.setIfInBounds_toArray, List.set_cons_zero, List.set_cons_succ])
          refine wpAnyM_one (i := 35) (o := ⟨_, _, _, _, _, _⟩) (by kernel_rfl) rfl (fun K hK => ?_)
          go_simp
          go_at_call 17
          refine (two_any 5 ⟨ao, an, aa, ac, al⟩ ⟨bo, bn, ba, bc, bl⟩ (by decide) (by decide) (KL8.out.ia) (KL8.out.ib)).mono ?_
          rintro e v9 ⟨g_x3_8, rfl, hin, _, _, hb⟩
          have KL9 := hide (KL8.out.below hb)
          have BL9 := hide (BL8.out.trans (hb.mono BL8.out.size))
          have I_x1_9 := hide (I_x1_8.out.below hb)
          have I_x2_9 := hide (I_x2_8.out.below hb)
          have I_x3_9 := hide hin
          refine hK.out _ _ ⟨KL9.out.ta.c0, KL9.out.ta.c1, KL9.out.ta.c2, KL9.out.tb.c0, KL9.out.tb.c1, KL9.out.tb.c2, KL9.out.tc.c0, KL9.out.tc.c1, KL9.out.tc.c2, KL9.out.th.c0, KL9.out.th.c1, KL9.out.th.c2⟩ (fun hHeld => ?_)
          clear hK K hb hin KL8 BL8
          (try simp only [List.setIfInBounds_toArray, List.set_cons_zero, List.set_cons_succ])
          refine wpAnyM_one (i := 37) (o := ⟨_, _, _, _, _, _⟩) (by kernel_rfl) rfl (fun K hK => ?_)
          go_simp
          go_at_call 17
          refine (two_any 5 (mk2 5 g_x3_8 ⟨ao, an, aa, ac, al⟩ ⟨bo, bn, ba, bc, bl⟩) ⟨co, cn, ca, cc, cl⟩ (by decide) (by decide) (I_x3_9.out) (KL9.out.ic)).mono ?_
          rintro e v10 ⟨g_x4_9, rfl, hin, _, _, hb⟩
          have KL10 := hide (KL9.out.below hb)
          have BL10 := hide (BL9.out.trans (hb.mono BL9.out.size))
          have I_x1_10 := hide (I_x1_9.out.below hb)
          have I_x2_10 := hide (I_x2_9.out.below hb)
          have I_x3_10 := hide (I_x3_9.out.below hb)
          have I_x4_10 := hide hin
          refine hK.out _ _ ⟨KL10.out.ta.c0, KL10.out.ta.c1, KL10.out.ta.c2, KL10.out.tb.c0, KL10.out.tb.c1, KL10.out.tb.c2, KL10.out.tc.c0, KL10.out.tc.c1, KL10.out.tc.c2, KL10.out.th.c0, KL10.out.th.c1, KL10.out.th.c2⟩ (fun hHeld => ?_)
          clear hK K hb hin KL9 BL9
          (try simp only [List.setIfInBounds_toArray, List.set_cons_zero, List.set_cons_succ])
          refine wpAnyM_one (i := 38) (o := ⟨_, _, _, _, _, _⟩) (by kernel_rfl) rfl (fun K hK => ?_)
          go_simp
          go_at_call 21
          refine (same21 ⟨rk, rt, rv⟩ (mk2 5 g_x2_7 ⟨ao, an, aa, ac, al⟩ (mk2 5 g_x1_6 ⟨bo, bn, ba, bc, bl⟩ ⟨co, cn, ca, cc, cl⟩)) (mk2 5 g_x4_9 (mk2 5 g_x3_8 ⟨ao, an, aa, ac, al⟩ ⟨bo, bn, ba, bc, bl⟩) ⟨co, cn, ca, cc, cl⟩) (I_x2_10.out) (I_x4_10.out) KL10.out.tr (by simp only [size_mk2, dep_mk2]; have q1 := SA.out; have q2 := SB.out; have q3 := SC.out; omega) (by simp only [size_mk2, dep_mk2]; have q1 := SA.out; have q2 := SB.out; have q3 := SC.out; omega) (fun _ _ => by simp only [evl_mk2 _ 5 (by decide), b5]; exact law3 _ _ _)).mono ?_
          rintro e v11 ⟨rfl, hb⟩
          have KL11 := hide (KL10.out.below hb)
          have BL11 := hide (BL10.out.trans (hb.mono BL10.out.size))
          have I_x1_11 := hide (I_x1_10.out.below hb)
          have I_x2_11 := hide (I_x2_10.out.below hb)
          have I_x3_11 := hide (I_x3_10.out.below hb)
          have I_x4_11 := hide (I_x4_10.out.below hb)
          refine hK.out _ _ ⟨KL11.out.ta.c0, KL11.out.ta.c1, KL11.out.ta.c2, KL11.out.tb.c0, KL11.out.tb.c1, KL11.out.tb.c2, KL11.out.tc.c0, KL11.out.tc.c1, KL11.out.tc.c2, KL11.out.th.c0, KL11.out.th.c1, KL11.out.th.c2⟩ (fun hHeld => ?_)
          clear hK K hb KL10 BL10
          (try simp only [List.setIfInBounds_toArray, List.set_cons_zero, List.set_cons_succ])
          clear I_x1_7 I_x1_8 I_x2_8 I_x1_9 I_x2_9 I_x3_9 I_x1_10 I_x2_10 I_x3_10 I_x4_10 I_x1_11 I_x2_11 I_x3_11 I_x4_11
          as_aux_lemma =>
            refine wpAnyM_take (i := 39) (oi := ⟨_, _, _, _, _, _⟩) (v := ?_) rfl (by kernel_rfl) (by kernel_rfl) (by kernel_rfl) (by kernel_rfl) (fun _ _ _ h => h) (Or.inl ⟨by rfl, ?_⟩) hHeld ?_
            rotate_left
            · (intro w' hSw; (try dsimp only at hSw); go_simp; try (with_reducible rfl))
            (try simp only [Act.put, List.setIfInBounds_toArray, List.set_cons_zero, List.set_cons_succ])
            refine wpAnyM_take (i := 40) (oi := ⟨_, _, _, _, _, _⟩) (v := ?_) rfl (by kernel_rfl) (by kernel_rfl) (by kernel_rfl) (by kernel_rfl) (fun _ _ _ h => h) (Or.inl ⟨by rfl, ?_⟩) hHeld ?_
            rotate_left
            · (intro w' hSw; (try dsimp only at hSw); go_simp; try (with_reducible rfl))
            (try simp only [Act.put, List.setIfInBounds_toArray, List.set_cons_zero, List.set_cons_succ])
            refine wpAnyM_take (i := 41) (oi := ⟨_, _, _, _, _, _⟩) (v := ?_) rfl (by kernel_rfl) (by kernel_rfl) (by kernel_rfl) (by kernel_rfl) (fun _ _ _ h => h) (Or.inl ⟨by rfl, ?_⟩) hHeld ?_
            rotate_left
            · (intro w' hSw; (try dsimp only at hSw); go_simp; try (with_reducible rfl))
            (try simp only [Act.put, List.setIfInBounds_toArray, List.set_cons_zero, List.set_cons_succ])
            refine wpAnyM_take (i := 42) (oi := ⟨_, _, _, _, _, _⟩) (v := ?_) rfl (by kernel_rfl) (by kernel_rfl) (by kernel_rfl) (by kernel_rfl) (fun _ _ _ h => h) (Or.inl ⟨by rfl, ?_⟩) hHeld ?_
            rotate_left
            · (intro w' hSw; (try dsimp only at hSw); go_simp; try (with_reducible rfl))
            (try simp only [Act.put, List.setIfInBounds_toArray, List.set_cons_zero, List.set_cons_succ])
            refine wpAnyM_take (i := 43) (oi := ⟨_, _, _, _, _, _⟩) (v := ?_) rfl (by kernel_rfl) (by kernel_rfl) (by kernel_rfl) (by kernel_rfl) (fun _ _ _ h => h) (Or.inl ⟨by rfl, ?_⟩) hHeld ?_
            rotate_left
            · (intro w' hSw; (try dsimp only at hSw); go_simp; try (with_reducible rfl))
            (try simp only [Act.put, List.setIfInBounds_toArray, List.set_cons_zero, List.set_cons_succ])
            refine wpAnyM_take (i := 44) (oi := ⟨_, _, _, _, _, _⟩) (v := ?_) rfl (by kernel_rfl) (by kernel_rfl) (by kernel_rfl) (by kernel_rfl) (fun _ _ _ h => h) (Or.inl ⟨by rfl, ?_⟩) hHeld ?_
            rotate_left
            · (intro w' hSw; (try dsimp only at hSw); go_simp; try (with_reducible rfl))
            (try simp only [Act.put, List.setIfInBounds_toArray, List.set_cons_zero, List.set_cons_succ])
            refine wpAnyM_take (i := 45) (oi := ⟨_, _, _, _, _, _⟩) (v := ?_) rfl (by kernel_rfl) (by kernel_rfl) (by kernel_rfl) (by kernel_rfl) (fun _ _ _ h => h) (Or.inl ⟨by rfl, ?_⟩) hHeld ?_
            rotate_left
            · (intro w' hSw; (try dsimp only at hSw); go_simp; try (with_reducible rfl))
            (try simp only [Act.put, List.setIfInBounds_toArray, List.set_cons_zero, List.set_cons_succ])
            refine wpAnyM_take (i := 46) (oi := ⟨_, _, _, _, _, _⟩) (v := ?_) rfl (by kernel_rfl) (by kernel_rfl) (by kernel_rfl) (by kernel_rfl) (fun _ _ _ h => h) (Or.inl ⟨by rfl, ?_⟩) hHeld ?_
            rotate_left
            · (intro w' hSw; (try dsimp only at hSw); go_simp; try (with_reducible rfl))
            (try simp only [Act.put, List.setIfInBounds_toArray, List.set_cons_zero, List.set_cons_succ])
            refine wpAnyM_take (i := 49) (oi := ⟨_, _, _, _, _, _⟩) (v := ?_) rfl (by kernel_rfl) (by kernel_rfl) (by kernel_rfl) (by kernel_rfl) (fun _ _ _ h => h) (Or.inl ⟨by rfl, ?_⟩) hHeld ?_
            rotate_left
            · (intro w' hSw; (try dsimp only at hSw); go_simp; try (with_reducible rfl))
            (try simp only [Act.put, List.setIfInBounds_toArray, List.set_cons_zero, List.set_cons_succ])
            refine wpAnyM_take (i := 50) (oi := ⟨_, _, _, _, _, _⟩) (v := ?_) rfl (by kernel_rfl) (by kernel_rfl) (by kernel_rfl) (by kernel_rfl) (fun _ _ _ h => h) (Or.inl ⟨by rfl, ?_⟩) hHeld ?_
            rotate_left
            · (intro w' hSw; (try dsimp only at hSw); go_simp; try (with_reducible rfl))
            (try simp only [Act.put, List.setIfInBounds_toArray, List.set_cons_zero, List.set_cons_succ])
            refine wpAnyM_take (i := 51) (oi := ⟨_, _, _, _, _, _⟩) (v := ?_) rfl (by kernel_rfl) (by kernel_rfl) (by kernel_rfl) (by kernel_rfl) (fun _ _ _ h => h) (Or.inl ⟨by rfl, ?_⟩) hHeld ?_
            rotate_left
            · (intro w' hSw; (try dsimp only at hSw); go_simp; try (with_reducible rfl))
            (try simp only [Act.put, List.setIfInBounds_toArray, List.set_cons_zero, List.set_cons_succ])
            refine wpAnyM_take (i := 52) (oi := ⟨_, _, _, _, _, _⟩) (v := ?_) rfl (by kernel_rfl) (by kernel_rfl) (by kernel_rfl) (by kernel_rfl) (fun _ _ _ h => h) (Or.inl ⟨by rfl, ?_⟩) hHeld ?_
            rotate_left
            · (intro w' hSw; (try dsimp only at hSw); go_simp; try (with_reducible rfl))
            (try simp only [Act.put, List.setIfInBounds_toArray, List.set_cons_zero, List.set_cons_succ])
            refine wpAnyM_take (i := 54) (oi := ⟨_, _, _, _, _, _⟩) (v := ?_) rfl (by kernel_rfl) (by kernel_rfl) (by kernel_rfl) (by kernel_rfl) (fun _ _ _ h => h) (Or.inl ⟨by rfl, ?_⟩) hHeld ?_
            rotate_left
            · (intro w' hSw; (try dsimp only at hSw); go_simp; try (with_reducible rfl))
            (try simp only [Act.put, List.setIfInBounds_toArray, List.set_cons_zero, List.set_cons_succ])
            refine wpAnyM_take (i := 55) (oi := ⟨_, _, _, _, _, _⟩) (v := ?_) rfl (by kernel_rfl) (by kernel_rfl) (by kernel_rfl) (by kernel_rfl) (fun _ _ _ h => h) (Or.inl ⟨by rfl, ?_⟩) hHeld ?_
            rotate_left
            · (intro w' hSw; (try dsimp only at hSw); go_simp; try (with_reducible rfl))
            (try simp only [Act.put, List.setIfInBounds_toArray, List.set_cons_zero, List.set_cons_succ])
            refine wpAnyM_take (i := 56) (oi := ⟨_, _, _, _, _, _⟩) (v := ?_) rfl (by kernel_rfl) (by kernel_rfl) (by kernel_rfl) (by kernel_rfl) (fun _ _ _ h => h) (Or.inl ⟨by rfl, ?_⟩) hHeld ?_
            rotate_left
            · (intro w' hSw; (try dsimp only at hSw); go_simp; try (with_reducible rfl))
            (try simp only [Act.put, List.setIfInBounds_toArray, List.set_cons_zero, List.set_cons_succ])
            refine wpAnyM_one (i := 47) (o := ⟨_, _, _, _, _, _⟩) (by kernel_rfl) rfl (fun K hK => ?_)
            go_simp
            go_at_call 17
            refine (two_any 5 ⟨bo, bn, ba, bc, bl⟩ ⟨co, cn, ca, cc, cl⟩ (by decide) (by decide) (KL11.out.ib) (KL11.out.ic)).mono ?_
            rintro e v12 ⟨g_x1_11, rfl, hin, _, _, hb⟩
            have KL12 := hide (KL11.out.below hb)
            have BL12 := hide (BL11.out.trans (hb.mono BL11.out.size))
            have I_x1_12 := hide hin
            refine hK.out _ _ ⟨KL12.out.ta.c0, KL12.out.ta.c1, KL12.out.ta.c2, KL12.out.tb.c0, KL12.out.tb.c1, KL12.out.tb.c2, KL12.out.tc.c0, KL12.out.tc.c1, KL12.out.tc.c2, KL12.out.th.c0, KL12.out.th.c1, KL12.out.th.c2⟩ (fun hHeld => ?_)
            clear hK K hb hin KL11 BL11
            (try simp only [List.setIfInBounds_toArray, List.set_cons_zero, List.set_cons_succ])
            refine wpAnyM_one (i := 48) (o := ⟨_, _, _, _, _, _⟩) (by kernel_rfl) rfl (fun K hK => ?_)
            go_simp
            go_at_call 17
            refine (two_any 7 ⟨ao, an, aa, ac, al⟩ (mk2 5 g_x1_11 ⟨bo, bn, ba, bc, bl⟩ ⟨co, cn, ca, cc, cl⟩) (by decide) (by decide) (KL12.out.ia) (I_x1_12.out)).mono ?_
            rintro e v13 ⟨g_x2_12, rfl, hin, _, _, hb⟩
            have KL13 := hide (KL12.out.below hb)
            have BL13 := hide (BL12.out.trans (hb.mono BL12.out.size))
            have I_x1_13 := hide (I_x1_12.out.below hb)
            have I_x2_13 := hide hin
            refine hK.out _ _ ⟨KL13.out.ta.c0, KL13.out.ta.c1, KL13.out.ta.c2, KL13.out.tb.c0, KL13.out.tb.c1, KL13.out.tb.c2, KL13.out.tc.c0, KL13.out.tc.c1, KL13.out.tc.c2, KL13.out.th.c0, KL13.out.th.c1, KL13.out.th.c2⟩ (fun hHeld => ?_)
            clear hK K hb hin KL12 BL12
            (try simp only [List.setIfInBounds_toArray, List.set_cons_zero, List.set_cons_succ])
            refine wpAnyM_one (i := 53) (o := ⟨_, _, _, _, _, _⟩) (by kernel_rfl) rfl (fun K hK => ?_)
            go_simp
            go_at_call 17
            refine (two_any 7 ⟨ao, an, aa, ac, al⟩ ⟨bo, bn, ba, bc, bl⟩ (by decide) (by decide) (KL13.out.ia) (KL13.out.ib)).mono ?_
            rintro e v14 ⟨g_x3_13, rfl, hin, _, _, hb⟩
            have KL14 := hide (KL13.out.below hb)
            have BL14 := hide (BL13.out.trans (hb.mono BL13.out.size))
            have I_x1_14 := hide (I_x1_13.out.below hb)
            have I_x2_14 := hide (I_x2_13.out.below hb)
            have I_x3_14 := hide hin
            refine hK.out _ _ ⟨KL14.out.ta.c0, KL14.out.ta.c1, KL14.out.ta.c2, KL14.out.tb.c0, KL14.out.tb.c1, KL14.out.tb.c2, KL14.out.tc.c0, KL14.out.tc.c1, KL14.out.tc.c2, KL14.out.th.c0, KL14.out.th.c1, KL14.out.th.c2⟩ (fun hHeld => ?_)
            clear hK K hb hin KL13 BL13
            (try simp only [List.setIfInBounds_toArray, List.set_cons_zero, List.set_cons_succ])
            refine wpAnyM_one (i := 57) (o := ⟨_, _, _, _, _, _⟩) (by kernel_rfl) rfl (fun K hK => ?_)
            go_simp
            go_at_call 17
            refine (two_any 7 ⟨ao, an, aa, ac, al⟩ ⟨co, cn, ca, cc, cl⟩ (by decide) (by decide) (KL14.out.ia) (KL14.out.ic)).mono ?_
            rintro e v15 ⟨g_x4_14, rfl, hin, _, _, hb⟩
            have KL15 := hide (KL14.out.below hb)
            have BL15 := hide (BL14.out.trans (hb.mono BL14.out.size))
            have I_x1_15 := hide (I_x1_14.out.below hb)
            have I_x2_15 := hide (I_x2_14.out.below hb)
            have I_x3_15 := hide (I_x3_14.out.below hb)
            have I_x4_15 := hide hin
            refine hK.out _ _ ⟨KL15.out.ta.c0, KL15.out.ta.c1, KL15.out.ta.c2, KL15.out.tb.c0, KL15.out.tb.c1, KL15.out.tb.c2, KL15.out.tc.c0, KL15.out.tc.c1, KL15.out.tc.c2, KL15.out.th.c0, KL15.out.th.c1, KL15.out.th.c2⟩ (fun hHeld => ?_)
            clear hK K hb hin KL14 BL14
            (try simp only [List.setIfInBounds_toArray, List.set_cons_zero, List.set_cons_succ])
            refine wpAnyM_one (i := 58) (o := ⟨_, _, _, _, _, _⟩) (by kernel_rfl) rfl (fun K hK => ?_)
            go_simp
            go_at_call 17
            refine (two_any 5 (mk2 7 g_x3_13 ⟨ao, an, aa, ac, al⟩ ⟨bo, bn, ba, bc, bl⟩) (mk2 7 g_x4_14 ⟨ao, an, aa, ac, al⟩ ⟨co, cn, ca, cc, cl⟩) (by decide) (by decide) (I_x3_15.out) (I_x4_15.out)).mono ?_
            rintro e v16 ⟨g_x5_15, rfl, hin, _, _, hb⟩
            have KL16 := hide (KL15.out.below hb)
            have BL16 := hide (BL15.out.trans (hb.mono BL15.out.size))
            have I_x1_16 := hide (I_x1_15.out.below hb)
            have I_x2_16 := hide (I_x2_15.out.below hb)
            have I_x3_16 := hide (I_x3_15.out.below hb)
            have I_x4_16 := hide (I_x4_15.out.below hb)
            have I_x5_16 := hide hin
            refine hK.out _ _ ⟨KL16.out.ta.c0, KL16.out.ta.c1, KL16.out.ta.c2, KL16.out.tb.c0, KL16.out.tb.c1, KL16.out.tb.c2, KL16.out.tc.c0, KL16.out.tc.c1, KL16.out.tc.c2, KL16.out.th.c0, KL16.out.th.c1, KL16.out.th.c2⟩ (fun hHeld => ?_)
            clear hK K hb hin KL15 BL15
            (try simp only [List.setIfInBounds_toArray, List.set_cons_zero, List.set_cons_succ])
            refine wpAnyM_one (i := 59) (o := ⟨_, _, _, _, _, _⟩) (by kernel_rfl) rfl (fun K hK => ?_)
            go_simp
            go_at_call 21
            refine (same21 ⟨rk, rt, rv⟩ (mk2 7 g_x2_12 ⟨ao, an, aa, ac, al⟩ (mk2 5 g_x1_11 ⟨bo, bn, ba, bc, bl⟩ ⟨co, cn, ca, cc, cl⟩)) (mk2 5 g_x5_15 (mk2 7 g_x3_13 ⟨ao, an, aa, ac, al⟩ ⟨bo, bn, ba, bc, bl⟩) (mk2 7 g_x4_14 ⟨ao, an, aa, ac, al⟩ ⟨co, cn, ca, cc, cl⟩)) (I_x2_16.out) (I_x5_16.out) KL16.out.tr (by simp only [size_mk2, dep_mk2]; have q1 := SA.out; have q2 := SB.out; have q3 := SC.out; omega) (by simp only [size_mk2, dep_mk2]; have q1 := SA.out; have q2 := SB.out; have q3 := SC.out; omega) (fun _ _ => by simp only [evl_mk2 _ 5 (by decide), evl_mk2 _ 7 (by decide), b5, b7]; exact law4 _ _ _)).mono ?_
            rintro e v17 ⟨rfl, hb⟩
            have KL17 := hide (KL16.out.below hb)
            have BL17 := hide (BL16.out.trans (hb.mono BL16.out.size))
            have I_x1_17 := hide (I_x1_16.out.below hb)
            have I_x2_17 := hide (I_x2_16.out.below hb)
            have I_x3_17 := hide (I_x3_16.out.below hb)
            have I_x4_17 := hide (I_x4_16.out.below hb)
            have I_x5_17 := hide (I_x5_16.out.below hb)
            refine hK.out _ _ ⟨KL17.out.ta.c0, KL17.out.ta.c1, KL17.out.ta.c2, KL17.out.tb.c0, KL17.out.tb.c1, KL17.out.tb.c2, KL17.out.tc.c0, KL17.out.tc.c1, KL17.out.tc.c2, KL17.out.th.c0, KL17.out.th.c1, KL17.out.th.c2⟩ (fun hHeld => ?_)
            clear hK K hb KL16 BL16
            (try simp only [List.setIfInBounds_toArray, List.set_cons_zero, List.set_cons_succ])
            clear I_x1_12 I_x1_13 I_x2_13 I_x1_14 I_x2_14 I_x3_14 I_x1_15 I_x2_15 I_x3_15 I_x4_15 I_x1_16 I_x2_16 I_x3_16 I_x4_16 I_x5_16 I_x1_17 I_x2_17 I_x3_17 I_x4_17 I_x5_17
            as_aux_lemma =>
              refine wpAnyM_take (i := 60) (oi := ⟨_, _, _, _, _, _⟩) (v := ?_) rfl (by kernel_rfl) (by kernel_rfl) (by kernel_rfl) (by kernel_rfl) (fun _ _ _ h => h) (Or.inl ⟨by rfl, ?_⟩) hHeld ?_
              rotate_left
              · (intro w' hSw; (try dsimp only at hSw); go_simp; try (with_reducible rfl))
              (try simp only [Act.put, List.setIfInBounds_toArray, List.set_cons_zero, List.set_cons_succ])
              refine wpAnyM_take (i := 61) (oi := ⟨_, _, _, _, _, _⟩) (v := ?_) rfl (by kernel_rfl) (by kernel_rfl) (by kernel_rfl) (by kernel_rfl) (fun _ _ _ h => h) (Or.inl ⟨by rfl, ?_⟩) hHeld ?_
              rotate_left
              · (intro w' hSw; (try dsimp only at hSw); go_simp; try (with_reducible rfl))
              (try simp only [Act.put, List.setIfInBounds_toArray, List.set_cons_zero, List.set_cons_succ])
              refine wpAnyM_take (i := 62) (oi := ⟨_, _, _, _, _, _⟩) (v := ?_) rfl (by kernel_rfl) (by kernel_rfl) (by kernel_rfl) (by kernel_rfl) (fun _ _ _ h => h) (Or.inl ⟨by rfl, ?_⟩) hHeld ?_
              rotate_left
              · (intro w' hSw; (try dsimp only at hSw); go_simp; try (with_reducible rfl))
              (try simp only [Act.put, List.setIfInBounds_toArray, List.set_cons_zero, List.set_cons_succ])
              refine wpAnyM_take (i := 63) (oi := ⟨_, _, _, _, _, _⟩) (v := ?_) rfl (by kernel_rfl) (by kernel_rfl) (by kernel_rfl) (by kernel_rfl) (fun _ _ _ h => h) (Or.inl ⟨by rfl, ?_⟩) hHeld ?_
              rotate_left
              · (intro w' hSw; (try dsimp only at hSw); go_simp; try (with_reducible rfl))
              (try simp only [Act.put, List.setIfInBounds_toArray, List.set_cons_zero, List.set_cons_succ])
              refine wpAnyM_take (i := 64) (oi := ⟨_, _, _, _, _, _⟩) (v := ?_) rfl (by kernel_rfl) (by kernel_rfl) (by kernel_rfl) (by kernel_rfl) (fun _ _ _ h => h) (Or.inl ⟨by rfl, ?_⟩) hHeld ?_
              rotate_left
              · (intro w' hSw; (try dsimp only at hSw); go_simp; try (with_reducible rfl))
              (try simp only [Act.put, List.setIfInBounds_toArray, List.set_cons_zero, List.set_cons_succ])
              refine wpAnyM_take (i := 65) (oi := ⟨_, _, _, _, _, _⟩) (v := ?_) rfl (by kernel_rfl) (by kernel_rfl) (by kernel_rfl) (by kernel_rfl) (fun _ _ _ h => h) (Or.inl ⟨by rfl, ?_⟩) hHeld ?_
              rotate_left
              · (intro w' hSw; (try dsimp only at hSw); go_simp; try (with_reducible rfl))
              (try simp only [Act.put, List.setIfInBounds_toArray, List.set_cons_zero, List.set_cons_succ])
              refine wpAnyM_take (i := 67) (oi := ⟨_, _, _, _, _, _⟩) (v := ?_) rfl (by kernel_rfl) (by kernel_rfl) (by kernel_rfl) (by kernel_rfl) (fun _ _ _ h => h) (Or.inl ⟨by rfl, ?_⟩) hHeld ?_
              rotate_left
              · (intro w' hSw; (try dsimp only at hSw); go_simp; try (with_reducible rfl))
              (try simp only [Act.put, List.setIfInBounds_toArray, List.set_cons_zero, List.set_cons_succ])
              refine wpAnyM_take (i := 68) (oi := ⟨_, _, _, _, _, _⟩) (v := ?_) rfl (by kernel_rfl) (by kernel_rfl) (by kernel_rfl) (by kernel_rfl) (fun _ _ _ h => h) (Or.inl ⟨by rfl, ?_⟩) hHeld ?_
              rotate_left
              · (intro w' hSw; (try dsimp only at hSw); go_simp; try (with_reducible rfl))
              (try simp only [Act.put, List.setIfInBounds_toArray, List.set_cons_zero, List.set_cons_succ])
              refine wpAnyM_take (i := 69) (oi := ⟨_, _, _, _, _, _⟩) (v := ?_) rfl (by kernel_rfl) (by kernel_rfl) (by kernel_rfl) (by kernel_rfl) (fun _ _ _ h => h) (Or.inl ⟨by rfl, ?_⟩) hHeld ?_
              rotate_left
              · (intro w' hSw; (try dsimp only at hSw); go_simp; try (with_reducible rfl))
              (try simp only [Act.put, List.setIfInBounds_toArray, List.set_cons_zero, List.set_cons_succ])
              refine wpAnyM_take (i := 70) (oi := ⟨_, _, _, _, _, _⟩) (v := ?_) rfl (by kernel_rfl) (by kernel_rfl) (by kernel_rfl) (by kernel_rfl) (fun _ _ _ h => h) (Or.inl ⟨by rfl, ?_⟩) hHeld ?_
              rotate_left
              · (intro w' hSw; (try dsimp only at hSw); go_simp; try (with_reducible rfl))
              (try simp only [Act.put, List.setIfInBounds_toArray, List.set_cons_zero, List.set_cons_succ])
              refine wpAnyM_one (i := 66) (o := ⟨_, _, _, _, _, _⟩) (by kernel_rfl) rfl (fun K hK => ?_)
              go_simp
              go_at_call 17
              refine (two_any 6 ⟨ao, an, aa, ac, al⟩ ⟨bo, bn, ba, bc, bl⟩ (by decide) (by decide) (KL17.out.ia) (KL17.out.ib)).mono ?_
              rintro e v18 ⟨g_x1_17, rfl, hin, _, _, hb⟩
              have KL18 := hide (KL17.out.below hb)
              have BL18 := hide (BL17.out.trans (hb.mono BL17.out.size))
              have I_x1_18 := hide hin
              refine hK.out _ _ ⟨KL18.out.ta.c0, KL18.out.ta.c1, KL18.out.ta.c2, KL18.out.tb.c0, KL18.out.tb.c1, KL18.out.tb.c2, KL18.out.tc.c0, KL18.out.tc.c1, KL18.out.tc.c2, KL18.out.th.c0, KL18.out.th.c1, KL18.out.th.c2⟩ (fun hHeld => ?_)
              clear hK K hb hin KL17 BL17
              (try simp only [List.setIfInBounds_toArray, List.set_cons_zero, List.set_cons_succ])
              refine wpAnyM_one (i := 71) (o := ⟨_, _, _, _, _, _⟩) (by kernel_rfl) rfl (fun K hK => ?_)
              go_simp
              go_at_call 19
              refine (konst_any (-1) _).mono ?_
              rintro e v19 ⟨rfl, hb⟩
              have KL19 := hide (KL18.out.below hb)
              have BL19 := hide (BL18.out.trans (hb.mono BL18.out.size))
              have I_x1_19 := hide (I_x1_18.out.below hb)
              have I_x2_19 : Hid (In v19 (leaf 1 (-1))) := leaf_in (by decide) (by decide) (by decide) (by decide)
              refine hK.out _ _ ⟨KL19.out.ta.c0, KL19.out.ta.c1, KL19.out.ta.c2, KL19.out.tb.c0, KL19.out.tb.c1, KL19.out.tb.c2, KL19.out.tc.c0, KL19.out.tc.c1, KL19.out.tc.c2, KL19.out.th.c0, KL19.out.th.c1, KL19.out.th.c2⟩ (fun hHeld => ?_)
              clear hK K hb KL18 BL18
              (try simp only [List.setIfInBounds_toArray, List.set_cons_zero, List.set_cons_succ])
              refine wpAnyM_one (i := 72) (o := ⟨_, _, _, _, _, _⟩) (by kernel_rfl) rfl (fun K hK => ?_)
              go_simp
              go_at_call 17
              refine (two_any 7 ⟨bo, bn, ba, bc, bl⟩ (leaf 1 (-1)) (by decide) (by decide) (KL19.out.ib) (I_x2_19.out)).mono ?_
              rintro e v20 ⟨g_x3_19, rfl, hin, _, _, hb⟩
              have KL20 := hide (KL19.out.below hb)
              have BL20 := hide (BL19.out.trans (hb.mono BL19.out.size))
              have I_x1_20 := hide (I_x1_19.out.below hb)
              have I_x2_20 := hide (I_x2_19.out.below hb)
              have I_x3_20 := hide hin
              refine hK.out _ _ ⟨KL20.out.ta.c0, KL20.out.ta.c1, KL20.out.ta.c2, KL20.out.tb.c0, KL20.out.tb.c1, KL20.out.tb.c2, KL20.out.tc.c0, KL20.out.tc.c1, KL20.out.tc.c2, KL20.out.th.c0, KL20.out.th.c1, KL20.out.th.c2⟩ (fun hHeld => ?_)
              clear hK K hb hin KL19 BL19
              (try simp only [List.setIfInBounds_toArray, List.set_cons_zero, List.set_cons_succ])
              refine wpAnyM_one (i := 73) (o := ⟨_, _, _, _, _, _⟩) (by kernel_rfl) rfl (fun K hK => ?_)
              go_simp
              go_at_call 17
              refine (two_any 5 ⟨ao, an, aa, ac, al⟩ (mk2 7 g_x3_19 ⟨bo, bn, ba, bc, bl⟩ (leaf 1 (-1))) (by decide) (by decide) (KL20.out.ia) (I_x3_20.out)).mono ?_
              rintro e v21 ⟨g_x4_20, rfl, hin, _, _, hb⟩
              have KL21 := hide (KL20.out.below hb)
              have BL21 := hide (BL20.out.trans (hb.mono BL20.out.size))
              have I_x1_21 := hide (I_x1_20.out.below hb)
              have I_x2_21 := hide (I_x2_20.out.below hb)
              have I_x3_21 := hide (I_x3_20.out.below hb)
              have I_x4_21 := hide hin
              refine hK.out _ _ ⟨KL21.out.ta.c0, KL21.out.ta.c1, KL21.out.ta.c2, KL21.out.tb.c0, KL21.out.tb.c1, KL21.out.tb.c2, KL21.out.tc.c0, KL21.out.tc.c1, KL21.out.tc.c2, KL21.out.th.c0, KL21.out.th.c1, KL21.out.th.c2⟩ (fun hHeld => ?_)
              clear hK K hb hin KL20 BL20
              (try simp only [List.setIfInBounds_toArray, List.set_cons_zero, List.set_cons_succ])
              refine wpAnyM_one (i := 74) (o := ⟨_, _, _, _, _, _⟩) (by kernel_rfl) rfl (fun K hK => ?_)
              go_simp
              go_at_call 21
              refine (same21 ⟨rk, rt, rv⟩ (mk2 6 g_x1_17 ⟨ao, an, aa, ac, al⟩ ⟨bo, bn, ba, bc, bl⟩) (mk2 5 g_x4_20 ⟨ao, an, aa, ac, al⟩ (mk2 7 g_x3_19 ⟨bo, bn, ba, bc, bl⟩ (leaf 1 (-1)))) (I_x1_21.out) (I_x4_21.out) KL21.out.tr (by simp only [size_mk2, dep_mk2]; have q1 := SA.out; have q2 := SB.out; have q3 := SC.out; omega) (by simp only [size_mk2, dep_mk2, size_leaf, dep_leaf]; have q1 := SA.out; have q2 := SB.out; have q3 := SC.out; omega) (fun _ _ => by simp only [evl_mk2 _ 5 (by decide), evl_mk2 _ 6 (by decide), evl_mk2 _ 7 (by decide), b5, b6, b7, evl_c]; exact law5 _ _)).mono ?_
              rintro e v22 ⟨rfl, hb⟩
              have KL22 := hide (KL21.out.below hb)
              have BL22 := hide (BL21.out.trans (hb.mono BL21.out.size))
              have I_x1_22 := hide (I_x1_21.out.below hb)
              have I_x2_22 := hide (I_x2_21.out.below hb)
              have I_x3_22 := hide (I_x3_21.out.below hb)
              have I_x4_22 := hide (I_x4_21.out.below hb)
              refine hK.out _ _ ⟨KL22.out.ta.c0, KL22.out.ta.c1, KL22.out.ta.c2, KL22.out.tb.c0, KL22.out.tb.c1, KL22.out.tb.c2, KL22.out.tc.c0, KL22.out.tc.c1, KL22.out.tc.c2, KL22.out.th.c0, KL22.out.th.c1, KL22.out.th.c2⟩ (fun hHeld => ?_)
              clear hK K hb KL21 BL21
              (try simp only [List.setIfInBounds_toArray, List.set_cons_zero, List.set_cons_succ])
              clear I_x1_18 I_x1_19 I_x2_19 I_x1_20 I_x2_20 I_x3_20 I_x1_21 I_x2_21 I_x3_21 I_x4_21 I_x1_22 I_x2_22 I_x3_22 I_x4_22
              as_aux_lemma =>
                refine wpAnyM_take (i := 75) (oi := ⟨_, _, _, _, _, _⟩) (v := ?_) rfl (by kernel_rfl) (by kernel_rfl) (by kernel_rfl) (by kernel_rfl) (fun _ _ _ h => h) (Or.inl ⟨by rfl, ?_⟩) hHeld ?_
                rotate_left
                · (intro w' hSw; (try dsimp only at hSw); go_simp; try (with_reducible rfl))
                (try simp only [Act.put, List.setIfInBounds_toArray, List.set_cons_zero, List.set_cons_succ])
                refine wpAnyM_take (i := 76) (oi := ⟨_, _, _, _, _, _⟩) (v := ?_) rfl (by kernel_rfl) (by kernel_rfl) (by kernel_rfl) (by kernel_rfl) (fun _ _ _ h => h) (Or.inl ⟨by rfl, ?_⟩) hHeld ?_
                rotate_left
                · (intro w' hSw; (try dsimp only at hSw); go_simp; try (with_reducible rfl))
                (try simp only [Act.put, List.setIfInBounds_toArray, List.set_cons_zero, List.set_cons_succ])
                refine wpAnyM_take (i := 77) (oi := ⟨_, _, _, _, _, _⟩) (v := ?_) rfl (by kernel_rfl) (by kernel_rfl) (by kernel_rfl) (by kernel_rfl) (fun _ _ _ h => h) (Or.inl ⟨by rfl, ?_⟩) hHeld ?_
                rotate_left
                · (intro w' hSw; (try dsimp only at hSw); go_simp; try (with_reducible rfl))
                (try simp only [Act.put, List.setIfInBounds_toArray, List.set_cons_zero, List.set_cons_succ])
                refine wpAnyM_take (i := 78) (oi := ⟨_, _, _, _, _, _⟩) (v := ?_) rfl (by kernel_rfl) (by kernel_rfl) (by kernel_rfl) (by kernel_rfl) (fun _ _ _ h => h) (Or.inl ⟨by rfl, ?_⟩) hHeld ?_
                rotate_left
                · (intro w' hSw; (try dsimp only at hSw); go_simp; try (with_reducible rfl))
                (try simp only [Act.put, List.setIfInBounds_toArray, List.set_cons_zero, List.set_cons_succ])
                refine wpAnyM_take (i := 79) (oi := ⟨_, _, _, _, _, _⟩) (v := ?_) rfl (by kernel_rfl) (by kernel_rfl) (by kernel_rfl) (by kernel_rfl) (fun _ _ _ h => h) (Or.inl ⟨by rfl, ?_⟩) hHeld ?_
                rotate_left
                · (intro w' hSw; (try dsimp only at hSw); go_simp; try (with_reducible rfl))
                (try simp only [Act.put, List.setIfInBounds_toArray, List.set_cons_zero, List.set_cons_succ])
                refine wpAnyM_one (i := 80) (o := ⟨_, _, _, _, _, _⟩) (by kernel_rfl) rfl (fun K hK => ?_)
                go_simp
                go_at_call 21
                refine (same21 ⟨rk, rt, rv⟩ (mk3 14 wr.heap.size ⟨co, cn, ca, cc, cl⟩ ⟨ao, an, aa, ac, al⟩ ⟨ao, an, aa, ac, al⟩) ⟨ao, an, aa, ac, al⟩ (KL22.out.ich) (KL22.out.ia) KL22.out.tr (by simp only [size_mk3, dep_mk3]; have q1 := SA.out; have q2 := SB.out; have q3 := SC.out; omega) (by have q1 := SA.out; have q2 := SB.out; have q3 := SC.out; omega) (fun _ _ => by rw [evl_mk3]; split <;> rfl)).mono ?_
                rintro e v23 ⟨rfl, hb⟩
                have KL23 := hide (KL22.out.below hb)
                have BL23 := hide (BL22.out.trans (hb.mono BL22.out.size))
                refine hK.out _ _ ⟨KL23.out.ta.c0, KL23.out.ta.c1, KL23.out.ta.c2, KL23.out.tb.c0, KL23.out.tb.c1, KL23.out.tb.c2, KL23.out.tc.c0, KL23.out.tc.c1, KL23.out.tc.c2, KL23.out.th.c0, KL23.out.th.c1, KL23.out.th.c2⟩ (fun hHeld => ?_)
                clear hK K hb KL22 BL22
                (try simp only [List.setIfInBounds_toArray, List.set_cons_zero, List.set_cons_succ])
                as_aux_lemma =>
                  refine wpAnyM_take (i := 81) (oi := ⟨_, _, _, _, _, _⟩) (v := ?_) rfl (by kernel_rfl) (by kernel_rfl) (by kernel_rfl) (by kernel_rfl) (fun _ _ _ h => h) (Or.inl ⟨by rfl, ?_⟩) hHeld ?_
                  rotate_left
                  · (intro w' hSw; (try dsimp only at hSw); go_simp; try (with_reducible rfl))
                  (try simp only [Act.put, List.setIfInBounds_toArray, List.set_cons_zero, List.set_cons_succ])
                  refine wpAnyM_take (i := 82) (oi := ⟨_, _, _, _, _, _⟩) (v := ?_) rfl (by kernel_rfl) (by kernel_rfl) (by kernel_rfl) (by kernel_rfl) (fun _ _ _ h => h) (Or.inl ⟨by rfl, ?_⟩) hHeld ?_
                  rotate_left
                  · (intro w' hSw; (try dsimp only at hSw); go_simp; try (with_reducible rfl))
                  (try simp only [Act.put, List.setIfInBounds_toArray, List.set_cons_zero, List.set_cons_succ])
                  refine wpAnyM_take (i := 83) (oi := ⟨_, _, _, _, _, _⟩) (v := ?_) rfl (by kernel_rfl) (by kernel_rfl) (by kernel_rfl) (by kernel_rfl) (fun _ _ _ h => h) (Or.inl ⟨by rfl, ?_⟩) hHeld ?_
                  rotate_left
                  · (intro w' hSw; (try dsimp only at hSw); go_simp; try (with_reducible rfl))
                  (try simp only [Act.put, List.setIfInBounds_toArray, List.set_cons_zero, List.set_cons_succ])
                  refine wpAnyM_take (i := 84) (oi := ⟨_, _, _, _, _, _⟩) (v := ?_) rfl (by kernel_rfl) (by kernel_rfl) (by kernel_rfl) (by kernel_rfl) (fun _ _ _ h => h) (Or.inl ⟨by rfl, ?_⟩) hHeld ?_
                  rotate_left
                  · (intro w' hSw; (try dsimp only at hSw); go_simp; try (with_reducible rfl))
                  (try simp only [Act.put, List.setIfInBounds_toArray, List.set_cons_zero, List.set_cons_succ])
                  refine wpAnyM_take (i := 85) (oi := ⟨_, _, _, _, _, _⟩) (v := ?_) rfl (by kernel_rfl) (by kernel_rfl) (by kernel_rfl) (by kernel_rfl) (fun _ _ _ h => h) (Or.inl ⟨by rfl, ?_⟩) hHeld ?_
                  rotate_left
                  · (intro w' hSw; (try dsimp only at hSw); go_simp; try (with_reducible rfl))
                  (try simp only [Act.put, List.setIfInBounds_toArray, List.set_cons_zero, List.set_cons_succ])
                  refine wpAnyM_one (i := 86) (o := ⟨_, _, _, _, _, _⟩) (by kernel_rfl) rfl (fun K hK => ?_)
                  go_simp
                  go_at_call 17
                  refine (two_any 10 ⟨ao, an, aa, ac, al⟩ ⟨ao, an, aa, ac, al⟩ (by decide) (by decide) (KL23.out.ia) (KL23.out.ia)).mono ?_
                  rintro e v24 ⟨g_x1_23, rfl, hin, _, _, hb⟩
                  have KL24 := hide (KL23.out.below hb)
                  have BL24 := hide (BL23.out.trans (hb.mono BL23.out.size))
                  have I_x1_24 := hide hin
                  refine hK.out _ _ ⟨KL24.out.ta.c0, KL24.out.ta.c1, KL24.out.ta.c2, KL24.out.tb.c0, KL24.out.tb.c1, KL24.out.tb.c2, KL24.out.tc.c0, KL24.out.tc.c1, KL24.out.tc.c2, KL24.out.th.c0, KL24.out.th.c1, KL24.out.th.c2⟩ (fun hHeld => ?_)
                  clear hK K hb hin KL23 BL23
                  (try simp only [List.setIfInBounds_toArray, List.set_cons_zero, List.set_cons_succ])
                  refine wpAnyM_one (i := 87) (o := ⟨_, _, _, _, _, _⟩) (by kernel_rfl) rfl (fun K hK => ?_)
                  go_simp
                  go_at_call 19
                  refine (konst_any (0) _).mono ?_
                  rintro e v25 ⟨rfl, hb⟩
                  have KL25 := hide (KL24.out.below hb)
                  have BL25 := hide (BL24.out.trans (hb.mono BL24.out.size))
                  have I_x1_25 := hide (I_x1_24.out.below hb)
                  have I_x2_25 : Hid (In v25 (leaf 1 (0))) := leaf_in (by decide) (by decide) (by decide) (by decide)
                  refine hK.out _ _ ⟨KL25.out.ta.c0, KL25.out.ta.c1, KL25.out.ta.c2, KL25.out.tb.c0, KL25.out.tb.c1, KL25.out.tb.c2, KL25.out.tc.c0, KL25.out.tc.c1, KL25.out.tc.c2, KL25.out.th.c0, KL25.out.th.c1, KL25.out.th.c2⟩ (fun hHeld => ?_)
                  clear hK K hb KL24 BL24
                  (try simp only [List.setIfInBounds_toArray, List.set_cons_zero, List.set_cons_succ])
                  refine wpAnyM_one (i := 88) (o := ⟨_, _, _, _, _, _⟩) (by kernel_rfl) rfl (fun K hK => ?_)
                  go_simp
                  go_at_call 21
                  refine (same21 ⟨rk, rt, rv⟩ (mk2 10 g_x1_23 ⟨ao, an, aa, ac, al⟩ ⟨ao, an, aa, ac, al⟩) (leaf 1 (0)) (I_x1_25.out) (I_x2_25.out) KL25.out.tr (by simp only [size_mk2, dep_mk2]; have q1 := SA.out; have q2 := SB.out; have q3 := SC.out; omega) (by simp only [size_leaf, dep_leaf]; have q1 := SA.out; have q2 := SB.out; have q3 := SC.out; omega) (fun _ _ => by rw [evl_mk2 _ 10 (by decide), evl_c, b10]; exact law7 _)).mono ?_
                  rintro e v26 ⟨rfl, hb⟩
                  have KL26 := hide (KL25.out.below hb)
                  have BL26 := hide (BL25.out.trans (hb.mono BL25.out.size))
                  have I_x1_26 := hide (I_x1_25.out.below hb)
                  have I_x2_26 := hide (I_x2_25.out.below hb)
                  refine hK.out _ _ ⟨KL26.out.ta.c0, KL26.out.ta.c1, KL26.out.ta.c2, KL26.out.tb.c0, KL26.out.tb.c1, KL26.out.tb.c2, KL26.out.tc.c0, KL26.out.tc.c1, KL26.out.tc.c2, KL26.out.th.c0, KL26.out.th.c1, KL26.out.th.c2⟩ (fun hHeld => ?_)
                  clear hK K hb KL25 BL25
                  (try simp only [List.setIfInBounds_toArray, List.set_cons_zero, List.set_cons_succ])
                  clear I_x1_24 I_x1_25 I_x2_25 I_x1_26 I_x2_26
                  as_aux_lemma =>
                    refine wpAnyM_take (i := 89) (oi := ⟨_, _, _, _, _, _⟩) (v := ?_) rfl (by kernel_rfl) (by kernel_rfl) (by kernel_rfl) (by kernel_rfl) (fun _ _ _ h => h) (Or.inl ⟨by rfl, ?_⟩) hHeld ?_
                    rotate_left
                    · (intro w' hSw; (try dsimp only at hSw); go_simp; try (with_reducible rfl))
                    (try simp only [Act.put, List.setIfInBounds_toArray, List.set_cons_zero, List.set_cons_succ])
                    refine wpAnyM_take (i := 90) (oi := ⟨_, _, _, _, _, _⟩) (v := ?_) rfl (by kernel_rfl) (by kernel_rfl) (by kernel_rfl) (by kernel_rfl) (fun _ _ _ h => h) (Or.inl ⟨by rfl, ?_⟩) hHeld ?_
                    rotate_left
                    · (intro w' hSw; (try dsimp only at hSw); go_simp; try (with_reducible rfl))
                    (try simp only [Act.put, List.setIfInBounds_toArray, List.set_cons_zero, List.set_cons_succ])
                    refine wpAnyM_take (i := 91) (oi := ⟨_, _, _, _, _, _⟩) (v := ?_) rfl (by kernel_rfl) (by kernel_rfl) (by kernel_rfl) (by kernel_rfl) (fun _ _ _ h => h) (Or.inl ⟨by rfl, ?_⟩) hHeld ?_
                    rotate_left
                    · (intro w' hSw; (try dsimp only at hSw); go_simp; try (with_reducible rfl))
                    (try simp only [Act.put, List.setIfInBounds_toArray, List.set_cons_zero, List.set_cons_succ])
                    refine wpAnyM_take (i := 92) (oi := ⟨_, _, _, _, _, _⟩) (v := ?_) rfl (by kernel_rfl) (by kernel_rfl) (by kernel_rfl) (by kernel_rfl) (fun _ _ _ h => h) (Or.inl ⟨by rfl, ?_⟩) hHeld ?_
                    rotate_left
                    · (intro w' hSw; (try dsimp only at hSw); go_simp; try (with_reducible rfl))
                    (try simp only [Act.put, List.setIfInBounds_toArray, List.set_cons_zero, List.set_cons_succ])
                    refine wpAnyM_take (i := 93) (oi := ⟨_, _, _, _, _, _⟩) (v := ?_) rfl (by kernel_rfl) (by kernel_rfl) (by kernel_rfl) (by kernel_rfl) (fun _ _ _ h => h) (Or.inl ⟨by rfl, ?_⟩) hHeld ?_
                    rotate_left
                    · (intro w' hSw; (try dsimp only at hSw); go_simp; try (with_reducible rfl))
                    (try simp only [Act.put, List.setIfInBounds_toArray, List.set_cons_zero, List.set_cons_succ])
                    refine wpAnyM_one (i := 94) (o := ⟨_, _, _, _, _, _⟩) (by kernel_rfl) rfl (fun K hK => ?_)
                    go_simp
                    go_at_call 17
                    refine (two_any 13 ⟨ao, an, aa, ac, al⟩ ⟨ao, an, aa, ac, al⟩ (by decide) (by decide) (KL26.out.ia) (KL26.out.ia)).mono ?_
                    rintro e v27 ⟨g_x1_26, rfl, hin, _, _, hb⟩
                    have KL27 := hide (KL26.out.below hb)
                    have BL27 := hide (BL26.out.trans (hb.mono BL26.out.size))
                    have I_x1_27 := hide hin
                    refine hK.out _ _ ⟨KL27.out.ta.c0, KL27.out.ta.c1, KL27.out.ta.c2, KL27.out.tb.c0, KL27.out.tb.c1, KL27.out.tb.c2, KL27.out.tc.c0, KL27.out.tc.c1, KL27.out.tc.c2, KL27.out.th.c0, KL27.out.th.c1, KL27.out.th.c2⟩ (fun hHeld => ?_)
                    clear hK K hb hin KL26 BL26
                    (try simp only [List.setIfInBounds_toArray, List.set_cons_zero, List.set_cons_succ])
                    refine wpAnyM_one (i := 95) (o := ⟨_, _, _, _, _, _⟩) (by kernel_rfl) rfl (fun K hK => ?_)
                    go_simp
                    go_at_call 19
                    refine (konst_any (1) _).mono ?_
                    rintro e v28 ⟨rfl, hb⟩
                    have KL28 := hide (KL27.out.below hb)
                    have BL28 := hide (BL27.out.trans (hb.mono BL27.out.size))
                    have I_x1_28 := hide (I_x1_27.out.below hb)
                    have I_x2_28 : Hid (In v28 (leaf 1 (1))) := leaf_in (by decide) (by decide) (by decide) (by decide)
                    refine hK.out _ _ ⟨KL28.out.ta.c0, KL28.out.ta.c1, KL28.out.ta.c2, KL28.out.tb.c0, KL28.out.tb.c1, KL28.out.tb.c2, KL28.out.tc.c0, KL28.out.tc.c1, KL28.out.tc.c2, KL28.out.th.c0, KL28.out.th.c1, KL28.out.th.c2⟩ (fun hHeld => ?_)
                    clear hK K hb KL27 BL27
                    (try simp only [List.setIfInBounds_toArray, List.set_cons_zero, List.set_cons_succ])
                    refine wpAnyM_one (i := 96) (o := ⟨_, _, _, _, _, _⟩) (by kernel_rfl) rfl (fun K hK => ?_)
                    go_simp
                    go_at_call 21
                    refine (same21 ⟨rk, rt, rv⟩ (mk2 13 g_x1_26 ⟨ao, an, aa, ac, al⟩ ⟨ao, an, aa, ac, al⟩) (leaf 1 (1)) (I_x1_28.out) (I_x2_28.out) KL28.out.tr (by simp only [size_mk2, dep_mk2]; have q1 := SA.out; have q2 := SB.out; have q3 := SC.out; omega) (by simp only [size_leaf, dep_leaf]; have q1 := SA.out; have q2 := SB.out; have q3 := SC.out; omega) (fun _ _ => by rw [evl_mk2 _ 13 (by decide), evl_c, b13, if_pos rfl])).mono ?_
                    rintro e v29 ⟨rfl, hb⟩
                    have KL29 := hide (KL28.out.below hb)
                    have BL29 := hide (BL28.out.trans (hb.mono BL28.out.size))
                    have I_x1_29 := hide (I_x1_28.out.below hb)
                    have I_x2_29 := hide (I_x2_28.out.below hb)
                    refine hK.out _ _ ⟨KL29.out.ta.c0, KL29.out.ta.c1, KL29.out.ta.c2, KL29.out.tb.c0, KL29.out.tb.c1, KL29.out.tb.c2, KL29.out.tc.c0, KL29.out.tc.c1, KL29.out.tc.c2, KL29.out.th.c0, KL29.out.th.c1, KL29.out.th.c2⟩ (fun hHeld => ?_)
                    clear hK K hb KL28 BL28
                    (try simp only [List.setIfInBounds_toArray, List.set_cons_zero, List.set_cons_succ])
                    clear I_x1_27 I_x1_28 I_x2_28 I_x1_29 I_x2_29
                    as_aux_lemma =>
                      refine wpAnyM_take (i := 97) (oi := ⟨_, _, _, _, _, _⟩) (v := ?_) rfl (by kernel_rfl) (by kernel_rfl) (by kernel_rfl) (by kernel_rfl) (fun _ _ _ h => h) (Or.inl ⟨by rfl, ?_⟩) hHeld ?_
                      rotate_left
                      · (intro w' hSw; (try dsimp only at hSw); go_simp; try (with_reducible rfl))
                      (try simp only [Act.put, List.setIfInBounds_toArray, List.set_cons_zero, List.set_cons_succ])
                      refine wpAnyM_take (i := 98) (oi := ⟨_, _, _, _, _, _⟩) (v := ?_) rfl (by kernel_rfl) (by kernel_rfl) (by kernel_rfl) (by kernel_rfl) (fun _ _ _ h => h) (Or.inl ⟨by rfl, ?_⟩) hHeld ?_
                      rotate_left
                      · (intro w' hSw; (try dsimp only at hSw); go_simp; try (with_reducible rfl))
                      (try simp only [Act.put, List.setIfInBounds_toArray, List.set_cons_zero, List.set_cons_succ])
                      refine wpAnyM_take (i := 99) (oi := ⟨_, _, _, _, _, _⟩) (v := ?_) rfl (by kernel_rfl) (by kernel_rfl) (by kernel_rfl) (by kernel_rfl) (fun _ _ _ h => h) (Or.inl ⟨by rfl, ?_⟩) hHeld ?_
                      rotate_left
                      · (intro w' hSw; (try dsimp only at hSw); go_simp; try (with_reducible rfl))
                      (try simp only [Act.put, List.setIfInBounds_toArray, List.set_cons_zero, List.set_cons_succ])
                      refine wpAnyM_take (i := 100) (oi := ⟨_, _, _, _, _, _⟩) (v := ?_) rfl (by kernel_rfl) (by kernel_rfl) (by kernel_rfl) (by kernel_rfl) (fun _ _ _ h => h) (Or.inl ⟨by rfl, ?_⟩) hHeld ?_
                      rotate_left
                      · (intro w' hSw; (try dsimp only at hSw); go_simp; try (with_reducible rfl))
                      (try simp only [Act.put, List.setIfInBounds_toArray, List.set_cons_zero, List.set_cons_succ])
                      refine wpAnyM_take (i := 101) (oi := ⟨_, _, _, _, _, _⟩) (v := ?_) rfl (by kernel_rfl) (by kernel_rfl) (by kernel_rfl) (by kernel_rfl) (fun _ _ _ h => h) (Or.inl ⟨by rfl, ?_⟩) hHeld ?_
                      rotate_left
                      · (intro w' hSw; (try dsimp only at hSw); go_simp; try (with_reducible rfl))
                      (try simp only [Act.put, List.setIfInBounds_toArray, List.set_cons_zero, List.set_cons_succ])
                      refine wpAnyM_take (i := 102) (oi := ⟨_, _, _, _, _, _⟩) (v := ?_) rfl (by kernel_rfl) (by kernel_rfl) (by kernel_rfl) (by kernel_rfl) (fun _ _ _ h => h) (Or.inl ⟨by rfl, ?_⟩) hHeld ?_
                      rotate_left
                      · (intro w' hSw; (try dsimp only at hSw); go_simp; try (with_reducible rfl))
                      (try simp only [Act.put, List.setIfInBounds_toArray, List.set_cons_zero, List.set_cons_succ])
                      refine wpAnyM_take (i := 104) (oi := ⟨_, _, _, _, _, _⟩) (v := ?_) rfl (by kernel_rfl) (by kernel_rfl) (by kernel_rfl) (by kernel_rfl) (fun _ _ _ h => h) (Or.inl ⟨by rfl, ?_⟩) hHeld ?_
                      rotate_left
                      · (intro w' hSw; (try dsimp only at hSw); go_simp; try (with_reducible rfl))
                      (try simp only [Act.put, List.setIfInBounds_toArray, List.set_cons_zero, List.set_cons_succ])
                      refine wpAnyM_take (i := 105) (oi := ⟨_, _, _, _, _, _⟩) (v := ?_) rfl (by kernel_rfl) (by kernel_rfl) (by kernel_rfl) (by kernel_rfl) (fun _ _ _ h => h) (Or.inl ⟨by rfl, ?_⟩) hHeld ?_
                      rotate_left
                      · (intro w' hSw; (try dsimp only at hSw); go_simp; try (with_reducible rfl))
                      (try simp only [Act.put, List.setIfInBounds_toArray, List.set_cons_zero, List.set_cons_succ])
                      refine wpAnyM_take (i := 108) (oi := ⟨_, _, _, _, _, _⟩) (v := ?_) rfl (by kernel_rfl) (by kernel_rfl) (by kernel_rfl) (by kernel_rfl) (fun _ _ _ h => h) (Or.inl ⟨by rfl, ?_⟩) hHeld ?_
                      rotate_left
                      · (intro w' hSw; (try dsimp only at hSw); go_simp; try (with_reducible rfl))
                      (try simp only [Act.put, List.setIfInBounds_toArray, List.set_cons_zero, List.set_cons_succ])
                      refine wpAnyM_take (i := 109) (oi := ⟨_, _, _, _, _, _⟩) (v := ?_) rfl (by kernel_rfl) (by kernel_rfl) (by kernel_rfl) (by kernel_rfl) (fun _ _ _ h => h) (Or.inl ⟨by rfl, ?_⟩) hHeld ?_
                      rotate_left
                      · (intro w' hSw; (try dsimp only at hSw); go_simp; try (with_reducible rfl))
                      (try simp only [Act.put, List.setIfInBounds_toArray, List.set_cons_zero, List.set_cons_succ])
                      refine wpAnyM_take (i := 110) (oi := ⟨_, _, _, _, _, _⟩) (v := ?_) rfl (by kernel_rfl) (by kernel_rfl) (by kernel_rfl) (by kernel_rfl) (fun _ _ _ h => h) (Or.inl ⟨by rfl, ?_⟩) hHeld ?_
                      rotate_left
                      · (intro w' hSw; (try dsimp only at hSw); go_simp; try (with_reducible rfl))
                      (try simp only [Act.put, List.setIfInBounds_toArray, List.set_cons_zero, List.set_cons_succ])
                      refine wpAnyM_one (i := 103) (o := ⟨_, _, _, _, _, _⟩) (by kernel_rfl) rfl (fun K hK => ?_)
                      go_simp
                      go_at_call 17
                      refine (two_any 8 ⟨ao, an, aa, ac, al⟩ ⟨bo, bn, ba, bc, bl⟩ (by decide) (by decide) (KL29.out.ia) (KL29.out.ib)).mono ?_
                      rintro e v30 ⟨g_x1_29, rfl, hin, _, _, hb⟩
                      have KL30 := hide (KL29.out.below hb)
                      have BL30 := hide (BL29.out.trans (hb.mono BL29.out.size))
                      have I_x1_30 := hide hin
                      refine hK.out _ _ ⟨KL30.out.ta.c0, KL30.out.ta.c1, KL30.out.ta.c2, KL30.out.tb.c0, KL30.out.tb.c1, KL30.out.tb.c2, KL30.out.tc.c0, KL30.out.tc.c1, KL30.out.tc.c2, KL30.out.th.c0, KL30.out.th.c1, KL30.out.th.c2⟩ (fun hHeld => ?_)
                      clear hK K hb hin KL29 BL29
                      (try simp only [List.setIfInBounds_toArray, List.set_cons_zero, List.set_cons_succ])
                      refine wpAnyM_one (i := 106) (o := ⟨_, _, _, _, _, _⟩) (by kernel_rfl) rfl (fun K hK => ?_)
                      go_simp
                      go_at_call 17
                      refine (two_any 9 ⟨ao, an, aa, ac, al⟩ ⟨bo, bn, ba, bc, bl⟩ (by decide) (by decide) (KL30.out.ia) (KL30.out.ib)).mono ?_
                      rintro e v31 ⟨g_x2_30, rfl, hin, _, _, hb⟩
                      have KL31 := hide (KL30.out.below hb)
                      have BL31 := hide (BL30.out.trans (hb.mono BL30.out.size))
                      have I_x1_31 := hide (I_x1_30.out.below hb)
                      have I_x2_31 := hide hin
                      refine hK.out _ _ ⟨KL31.out.ta.c0, KL31.out.ta.c1, KL31.out.ta.c2, KL31.out.tb.c0, KL31.out.tb.c1, KL31.out.tb.c2, KL31.out.tc.c0, KL31.out.tc.c1, KL31.out.tc.c2, KL31.out.th.c0, KL31.out.th.c1, KL31.out.th.c2⟩ (fun hHeld => ?_)
                      clear hK K hb hin KL30 BL30
                      (try simp only [List.setIfInBounds_toArray, List.set_cons_zero, List.set_cons_succ])
                      refine wpAnyM_one (i := 107) (o := ⟨_, _, _, _, _, _⟩) (by kernel_rfl) rfl (fun K hK => ?_)
                      go_simp
                      go_at_call 17
                      refine (two_any 5 (mk2 8 g_x1_29 ⟨ao, an, aa, ac, al⟩ ⟨bo, bn, ba, bc, bl⟩) (mk2 9 g_x2_30 ⟨ao, an, aa, ac, al⟩ ⟨bo, bn, ba, bc, bl⟩) (by decide) (by decide) (I_x1_31.out) (I_x2_31.out)).mono ?_
                      rintro e v32 ⟨g_x3_31, rfl, hin, _, _, hb⟩
                      have KL32 := hide (KL31.out.below hb)
                      have BL32 := hide (BL31.out.trans (hb.mono BL31.out.size))
                      have I_x1_32 := hide (I_x1_31.out.below hb)
                      have I_x2_32 := hide (I_x2_31.out.below hb)
                      have I_x3_32 := hide hin
                      refine hK.out _ _ ⟨KL32.out.ta.c0, KL32.out.ta.c1, KL32.out.ta.c2, KL32.out.tb.c0, KL32.out.tb.c1, KL32.out.tb.c2, KL32.out.tc.c0, KL32.out.tc.c1, KL32.out.tc.c2, KL32.out.th.c0, KL32.out.th.c1, KL32.out.th.c2⟩ (fun hHeld => ?_)
                      clear hK K hb hin KL31 BL31
                      (try simp only [List.setIfInBounds_toArray, List.set_cons_zero, List.set_cons_succ])
                      refine wpAnyM_one (i := 111) (o := ⟨_, _, _, _, _, _⟩) (by kernel_rfl) rfl (fun K hK => ?_)
                      go_simp
                      go_at_call 17
                      refine (two_any 5 ⟨ao, an, aa, ac, al⟩ ⟨bo, bn, ba, bc, bl⟩ (by decide) (by decide) (KL32.out.ia) (KL32.out.ib)).mono ?_
                      rintro e v33 ⟨g_x4_32, rfl, hin, _, _, hb⟩
                      have KL33 := hide (KL32.out.below hb)
                      have BL33 := hide (BL32.out.trans (hb.mono BL32.out.size))
                      have I_x1_33 := hide (I_x1_32.out.below hb)
                      have I_x2_33 := hide (I_x2_32.out.below hb)
                      have I_x3_33 := hide (I_x3_32.out.below hb)
                      have I_x4_33 := hide hin
                      refine hK.out _ _ ⟨KL33.out.ta.c0, KL33.out.ta.c1, KL33.out.ta.c2, KL33.out.tb.c0, KL33.out.tb.c1, KL33.out.tb.c2, KL33.out.tc.c0, KL33.out.tc.c1, KL33.out.tc.c2, KL33.out.th.c0, KL33.out.th.c1, KL33.out.th.c2⟩ (fun hHeld => ?_)
                      clear hK K hb hin KL32 BL32
                      (try simp only [List.setIfInBounds_toArray, List.set_cons_zero, List.set_cons_succ])
                      refine wpAnyM_one (i := 112) (o := ⟨_, _, _, _, _, _⟩) (by kernel_rfl) rfl (fun K hK => ?_)
                      go_simp
                      go_at_call 21
                      refine (same21 ⟨rk, rt, rv⟩ (mk2 5 g_x3_31 (mk2 8 g_x1_29 ⟨ao, an, aa, ac, al⟩ ⟨bo, bn, ba, bc, bl⟩) (mk2 9 g_x2_30 ⟨ao, an, aa, ac, al⟩ ⟨bo, bn, ba, bc, bl⟩)) (mk2 5 g_x4_32 ⟨ao, an, aa, ac, al⟩ ⟨bo, bn, ba, bc, bl⟩) (I_x3_33.out) (I_x4_33.out) KL33.out.tr (by simp only [size_mk2, dep_mk2]; have q1 := SA.out; have q2 := SB.out; have q3 := SC.out; omega) (by simp only [size_mk2, dep_mk2]; have q1 := SA.out; have q2 := SB.out; have q3 := SC.out; omega) (fun _ _ => by simp only [evl_mk2 _ 5 (by decide), evl_mk2 _ 8 (by decide), evl_mk2 _ 9 (by decide), b5, b8, b9]; exact law9 _ _)).mono ?_
                      rintro e v34 ⟨rfl, hb⟩
                      have KL34 := hide (KL33.out.below hb)
                      have BL34 := hide (BL33.out.trans (hb.mono BL33.out.size))
                      have I_x1_34 := hide (I_x1_33.out.below hb)
                      have I_x2_34 := hide (I_x2_33.out.below hb)
                      have I_x3_34 := hide (I_x3_33.out.below hb)
                      have I_x4_34 := hide (I_x4_33.out.below hb)
                      refine hK.out _ _ ⟨KL34.out.ta.c0, KL34.out.ta.c1, KL34.out.ta.c2, KL34.out.tb.c0, KL34.out.tb.c1, KL34.out.tb.c2, KL34.out.tc.c0, KL34.out.tc.c1, KL34.out.tc.c2, KL34.out.th.c0, KL34.out.th.c1, KL34.out.th.c2⟩ (fun hHeld => ?_)
                      clear hK K hb KL33 BL33
                      (try simp only [List.setIfInBounds_toArray, List.set_cons_zero, List.set_cons_succ])
                      clear I_x1_30 I_x1_31 I_x2_31 I_x1_32 I_x2_32 I_x3_32 I_x1_33 I_x2_33 I_x3_33 I_x4_33 I_x1_34 I_x2_34 I_x3_34 I_x4_34
                      as_aux_lemma =>
                        refine wpAnyM_take (i := 113) (oi := ⟨_, _, _, _, _, _⟩) (v := ?_) rfl (by kernel_rfl) (by kernel_rfl) (by kernel_rfl) (by kernel_rfl) (fun _ _ _ h => h) (Or.inl ⟨by rfl, ?_⟩) hHeld ?_
                        rotate_left
                        · (intro w' hSw; (try dsimp only at hSw); go_simp; try (with_reducible rfl))
                        (try simp only [Act.put, List.setIfInBounds_toArray, List.set_cons_zero, List.set_cons_succ])
                        refine wpAnyM_take (i := 114) (oi := ⟨_, _, _, _, _, _⟩) (v := ?_) rfl (by kernel_rfl) (by kernel_rfl) (by kernel_rfl) (by kernel_rfl) (fun _ _ _ h => h) (Or.inl ⟨by rfl, ?_⟩) hHeld ?_
                        rotate_left
                        · (intro w' hSw; (try dsimp only at hSw); go_simp; try (with_reducible rfl))
                        (try simp only [Act.put, List.setIfInBounds_toArray, List.set_cons_zero, List.set_cons_succ])
                        refine wpAnyM_take (i := 115) (oi := ⟨_, _, _, _, _, _⟩) (v := ?_) rfl (by kernel_rfl) (by kernel_rfl) (by kernel_rfl) (by kernel_rfl) (fun _ _ _ h => h) (Or.inl ⟨by rfl, ?_⟩) hHeld ?_
                        rotate_left
                        · (intro w' hSw; (try dsimp only at hSw); go_simp; try (with_reducible rfl))
                        (try simp only [Act.put, List.setIfInBounds_toArray, List.set_cons_zero, List.set_cons_succ])
                        refine wpAnyM_take (i := 116) (oi := ⟨_, _, _, _, _, _⟩) (v := ?_) rfl (by kernel_rfl) (by kernel_rfl) (by kernel_rfl) (by kernel_rfl) (fun _ _ _ h => h) (Or.inl ⟨by rfl, ?_⟩) hHeld ?_
                        rotate_left
                        · (intro w' hSw; (try dsimp only at hSw); go_simp; try (with_reducible rfl))
                        (try simp only [Act.put, List.setIfInBounds_toArray, List.set_cons_zero, List.set_cons_succ])
                        refine wpAnyM_take (i := 117) (oi := ⟨_, _, _, _, _, _⟩) (v := ?_) rfl (by kernel_rfl) (by kernel_rfl) (by kernel_rfl) (by kernel_rfl) (fun _ _ _ h => h) (Or.inl ⟨by rfl, ?_⟩) hHeld ?_
                        rotate_left
                        · (intro w' hSw; (try dsimp only at hSw); go_simp; try (with_reducible rfl))
                        (try simp only [Act.put, List.setIfInBounds_toArray, List.set_cons_zero, List.set_cons_succ])
                        refine wpAnyM_take (i := 118) (oi := ⟨_, _, _, _, _, _⟩) (v := ?_) rfl (by kernel_rfl) (by kernel_rfl) (by kernel_rfl) (by kernel_rfl) (fun _ _ _ h => h) (Or.inl ⟨by rfl, ?_⟩) hHeld ?_
                        rotate_left
                        · (intro w' hSw; (try dsimp only at hSw); go_simp; try (with_reducible rfl))
                        (try simp only [Act.put, List.setIfInBounds_toArray, List.set_cons_zero, List.set_cons_succ])
                        refine wpAnyM_take (i := 120) (oi := ⟨_, _, _, _, _, _⟩) (v := ?_) rfl (by kernel_rfl) (by kernel_rfl) (by kernel_rfl) (by kernel_rfl) (fun _ _ _ h => h) (Or.inl ⟨by rfl, ?_⟩) hHeld ?_
                        rotate_left
                        · (intro w' hSw; (try dsimp only at hSw); go_simp; try (with_reducible rfl))
                        (try simp only [Act.put, List.setIfInBounds_toArray, List.set_cons_zero, List.set_cons_succ])
                        refine wpAnyM_take (i := 121) (oi := ⟨_, _, _, _, _, _⟩) (v := ?_) rfl (by kernel_rfl) (by kernel_rfl) (by kernel_rfl) (by kernel_rfl) (fun _ _ _ h => h) (Or.inl ⟨by rfl, ?_⟩) hHeld ?_
                        rotate_left
                        · (intro w' hSw; (try dsimp only at hSw); go_simp; try (with_reducible rfl))
                        (try simp only [Act.put, List.setIfInBounds_toArray, List.set_cons_zero, List.set_cons_succ])
                        refine wpAnyM_take (i := 122) (oi := ⟨_, _, _, _, _, _⟩) (v := ?_) rfl (by kernel_rfl) (by kernel_rfl) (by kernel_rfl) (by kernel_rfl) (fun _ _ _ h => h) (Or.inl ⟨by rfl, ?_⟩) hHeld ?_
                        rotate_left
                        · (intro w' hSw; (try dsimp only at hSw); go_simp; try (with_reducible rfl))
                        (try simp only [Act.put, List.setIfInBounds_toArray, List.set_cons_zero, List.set_cons_succ])
                        refine wpAnyM_take (i := 124) (oi := ⟨_, _, _, _, _, _⟩) (v := ?_) rfl (by kernel_rfl) (by kernel_rfl) (by kernel_rfl) (by kernel_rfl) (fun _ _ _ h => h) (Or.inl ⟨by rfl, ?_⟩) hHeld ?_
                        rotate_left
                        · (intro w' hSw; (try dsimp only at hSw); go_simp; try (with_reducible rfl))
                        (try simp only [Act.put, List.setIfInBounds_toArray, List.set_cons_zero, List.set_cons_succ])
                        refine wpAnyM_take (i := 125) (oi := ⟨_, _, _, _, _, _⟩) (v := ?_) rfl (by kernel_rfl) (by kernel_rfl) (by kernel_rfl) (by kernel_rfl) (fun _ _ _ h => h) (Or.inl ⟨by rfl, ?_⟩) hHeld ?_
                        rotate_left
                        · (intro w' hSw; (try dsimp only at hSw); go_simp; try (with_reducible rfl))
                        (try simp only [Act.put, List.setIfInBounds_toArray, List.set_cons_zero, List.set_cons_succ])
                        refine wpAnyM_one (i := 119) (o := ⟨_, _, _, _, _, _⟩) (by kernel_rfl) rfl (fun K hK => ?_)
                        go_simp
                        go_at_call 17
                        refine (two_any 12 ⟨ao, an, aa, ac, al⟩ ⟨bo, bn, ba, bc, bl⟩ (by decide) (by decide) (KL34.out.ia) (KL34.out.ib)).mono ?_
                        rintro e v35 ⟨g_x1_34, rfl, hin, _, _, hb⟩
                        have KL35 := hide (KL34.out.below hb)
                        have BL35 := hide (BL34.out.trans (hb.mono BL34.out.size))
                        have I_x1_35 := hide hin
                        refine hK.out _ _ ⟨KL35.out.ta.c0, KL35.out.ta.c1, KL35.out.ta.c2, KL35.out.tb.c0, KL35.out.tb.c1, KL35.out.tb.c2, KL35.out.tc.c0, KL35.out.tc.c1, KL35.out.tc.c2, KL35.out.th.c0, KL35.out.th.c1, KL35.out.th.c2⟩ (fun hHeld => ?_)
                        clear hK K hb hin KL34 BL34
                        (try simp only [List.setIfInBounds_toArray, List.set_cons_zero, List.set_cons_succ])
                        refine wpAnyM_one (i := 123) (o := ⟨_, _, _, _, _, _⟩) (by kernel_rfl) rfl (fun K hK => ?_)
                        go_simp
                        go_at_call 17
                        refine (two_any 12 ⟨bo, bn, ba, bc, bl⟩ ⟨ao, an, aa, ac, al⟩ (by decide) (by decide) (KL35.out.ib) (KL35.out.ia)).mono ?_
                        rintro e v36 ⟨g_x2_35, rfl, hin, _, _, hb⟩
                        have KL36 := hide (KL35.out.below hb)
                        have BL36 := hide (BL35.out.trans (hb.mono BL35.out.size))
                        have I_x1_36 := hide (I_x1_35.out.below hb)
                        have I_x2_36 := hide hin
                        refine hK.out _ _ ⟨KL36.out.ta.c0, KL36.out.ta.c1, KL36.out.ta.c2, KL36.out.tb.c0, KL36.out.tb.c1, KL36.out.tb.c2, KL36.out.tc.c0, KL36.out.tc.c1, KL36.out.tc.c2, KL36.out.th.c0, KL36.out.th.c1, KL36.out.th.c2⟩ (fun hHeld => ?_)
                        clear hK K hb hin KL35 BL35
                        (try simp only [List.setIfInBounds_toArray, List.set_cons_zero, List.set_cons_succ])
                        refine wpAnyM_one (i := 126) (o := ⟨_, _, _, _, _, _⟩) (by kernel_rfl) rfl (fun K hK => ?_)
                        go_simp
                        go_at_call 17
                        refine (two_any 13 ⟨ao, an, aa, ac, al⟩ ⟨bo, bn, ba, bc, bl⟩ (by decide) (by decide) (KL36.out.ia) (KL36.out.ib)).mono ?_
                        rintro e v37 ⟨g_x3_36, rfl, hin, _, _, hb⟩
                        have KL37 := hide (KL36.out.below hb)
                        have BL37 := hide (BL36.out.trans (hb.mono BL36.out.size))
                        have I_x1_37 := hide (I_x1_36.out.below hb)
                        have I_x2_37 := hide (I_x2_36.out.below hb)
                        have I_x3_37 := hide hin
                        refine hK.out _ _ ⟨KL37.out.ta.c0, KL37.out.ta.c1, KL37.out.ta.c2, KL37.out.tb.c0, KL37.out.tb.c1, KL37.out.tb.c2, KL37.out.tc.c0, KL37.out.tc.c1, KL37.out.tc.c2, KL37.out.th.c0, KL37.out.th.c1, KL37.out.th.c2⟩ (fun hHeld => ?_)
                        clear hK K hb hin KL36 BL36
                        (try simp only [List.setIfInBounds_toArray, List.set_cons_zero, List.set_cons_succ])
                        refine wpAnyM_one (i := 127) (o := ⟨_, _, _, _, _, _⟩) (by kernel_rfl) rfl (fun K hK => ?_)
                        go_simp
                        go_at_call 17
                        refine (two_any 5 (mk2 12 g_x2_35 ⟨bo, bn, ba, bc, bl⟩ ⟨ao, an, aa, ac, al⟩) (mk2 13 g_x3_36 ⟨ao, an, aa, ac, al⟩ ⟨bo, bn, ba, bc, bl⟩) (by decide) (by decide) (I_x2_37.out) (I_x3_37.out)).mono ?_
                        rintro e v38 ⟨g_x4_37, rfl, hin, _, _, hb⟩
                        have KL38 := hide (KL37.out.below hb)
                        have BL38 := hide (BL37.out.trans (hb.mono BL37.out.size))
                        have I_x1_38 := hide (I_x1_37.out.below hb)
                        have I_x2_38 := hide (I_x2_37.out.below hb)
                        have I_x3_38 := hide (I_x3_37.out.below hb)
                        have I_x4_38 := hide hin
                        refine hK.out _ _ ⟨KL38.out.ta.c0, KL38.out.ta.c1, KL38.out.ta.c2, KL38.out.tb.c0, KL38.out.tb.c1, KL38.out.tb.c2, KL38.out.tc.c0, KL38.out.tc.c1, KL38.out.tc.c2, KL38.out.th.c0, KL38.out.th.c1, KL38.out.th.c2⟩ (fun hHeld => ?_)
                        clear hK K hb hin KL37 BL37
                        (try simp only [List.setIfInBounds_toArray, List.set_cons_zero, List.set_cons_succ])
                        refine wpAnyM_one (i := 128) (o := ⟨_, _, _, _, _, _⟩) (by kernel_rfl) rfl (fun K hK => ?_)
                        go_simp
                        go_at_call 17
                        refine (two_any 5 (mk2 12 g_x1_34 ⟨ao, an, aa, ac, al⟩ ⟨bo, bn, ba, bc, bl⟩) (mk2 5 g_x4_37 (mk2 12 g_x2_35 ⟨bo, bn, ba, bc, bl⟩ ⟨ao, an, aa, ac, al⟩) (mk2 13 g_x3_36 ⟨ao, an, aa, ac, al⟩ ⟨bo, bn, ba, bc, bl⟩)) (by decide) (by decide) (I_x1_38.out) (I_x4_38.out)).mono ?_
                        rintro e v39 ⟨g_x5_38, rfl, hin, _, _, hb⟩
                        have KL39 := hide (KL38.out.below hb)
                        have BL39 := hide (BL38.out.trans (hb.mono BL38.out.size))
                        have I_x1_39 := hide (I_x1_38.out.below hb)
                        have I_x2_39 := hide (I_x2_38.out.below hb)
                        have I_x3_39 := hide (I_x3_38.out.below hb)
                        have I_x4_39 := hide (I_x4_38.out.below hb)
                        have I_x5_39 := hide hin
                        refine hK.out _ _ ⟨KL39.out.ta.c0, KL39.out.ta.c1, KL39.out.ta.c2, KL39.out.tb.c0, KL39.out.tb.c1, KL39.out.tb.c2, KL39.out.tc.c0, KL39.out.tc.c1, KL39.out.tc.c2, KL39.out.th.c0, KL39.out.th.c1, KL39.out.th.c2⟩ (fun hHeld => ?_)
                        clear hK K hb hin KL38 BL38
                        (try simp only [List.setIfInBounds_toArray, List.set_cons_zero, List.set_cons_succ])
                        refine wpAnyM_one (i := 129) (o := ⟨_, _, _, _, _, _⟩) (by kernel_rfl) rfl (fun K hK => ?_)
                        go_simp
                        go_at_call 19
                        refine (konst_any (1) _).mono ?_
                        rintro e v40 ⟨rfl, hb⟩
                        have KL40 := hide (KL39.out.below hb)
                        have BL40 := hide (BL39.out.trans (hb.mono BL39.out.size))
                        have I_x1_40 := hide (I_x1_39.out.below hb)
                        have I_x2_40 := hide (I_x2_39.out.below hb)
                        have I_x3_40 := hide (I_x3_39.out.below hb)
                        have I_x4_40 := hide (I_x4_39.out.below hb)
                        have I_x5_40 := hide (I_x5_39.out.below hb)
                        have I_x6_40 : Hid (In v40 (leaf 1 (1))) := leaf_in (by decide) (by decide) (by decide) (by decide)
                        refine hK.out _ _ ⟨KL40.out.ta.c0, KL40.out.ta.c1, KL40.out.ta.c2, KL40.out.tb.c0, KL40.out.tb.c1, KL40.out.tb.c2, KL40.out.tc.c0, KL40.out.tc.c1, KL40.out.tc.c2, KL40.out.th.c0, KL40.out.th.c1, KL40.out.th.c2⟩ (fun hHeld => ?_)
                        clear hK K hb KL39 BL39
                        (try simp only [List.setIfInBounds_toArray, List.set_cons_zero, List.set_cons_succ])
                        refine wpAnyM_one (i := 130) (o := ⟨_, _, _, _, _, _⟩) (by kernel_rfl) rfl (fun K hK => ?_)
                        go_simp
                        go_at_call 21
                        refine (same21 ⟨rk, rt, rv⟩ (mk2 5 g_x5_38 (mk2 12 g_x1_34 ⟨ao, an, aa, ac, al⟩ ⟨bo, bn, ba, bc, bl⟩) (mk2 5 g_x4_37 (mk2 12 g_x2_35 ⟨bo, bn, ba, bc, bl⟩ ⟨ao, an, aa, ac, al⟩) (mk2 13 g_x3_36 ⟨ao, an, aa, ac, al⟩ ⟨bo, bn, ba, bc, bl⟩))) (leaf 1 (1)) (I_x5_40.out) (I_x6_40.out) KL40.out.tr (by simp only [size_mk2, dep_mk2]; have q1 := SA.out; have q2 := SB.out; have q3 := SC.out; omega) (by simp only [size_leaf, dep_leaf]; have q1 := SA.out; have q2 := SB.out; have q3 := SC.out; omega) (fun _ _ => by simp only [evl_mk2 _ 5 (by decide), evl_mk2 _ 12 (by decide), evl_mk2 _ 13 (by decide), b5, b12, b13, evl_c]; exact law10 _ _)).mono ?_
                        rintro e v41 ⟨rfl, hb⟩
                        have KL41 := hide (KL40.out.below hb)
                        have BL41 := hide (BL40.out.trans (hb.mono BL40.out.size))
                        have I_x1_41 := hide (I_x1_40.out.below hb)
                        have I_x2_41 := hide (I_x2_40.out.below hb)
                        have I_x3_41 := hide (I_x3_40.out.below hb)
                        have I_x4_41 := hide (I_x4_40.out.below hb)
                        have I_x5_41 := hide (I_x5_40.out.below hb)
                        have I_x6_41 := hide (I_x6_40.out.below hb)
                        refine hK.out _ _ ⟨KL41.out.ta.c0, KL41.out.ta.c1, KL41.out.ta.c2, KL41.out.tb.c0, KL41.out.tb.c1, KL41.out.tb.c2, KL41.out.tc.c0, KL41.out.tc.c1, KL41.out.tc.c2, KL41.out.th.c0, KL41.out.th.c1, KL41.out.th.c2⟩ (fun hHeld => ?_)
                        clear hK K hb KL40 BL40
                        (try simp only [List.setIfInBounds_toArray, List.set_cons_zero, List.set_cons_succ])
                        refine wpAnyM_take (i := 131) (oi := ⟨_, _, _, _, _, _⟩) (v := ?_) rfl (by kernel_rfl) (by kernel_rfl) (by kernel_rfl) (by kernel_rfl) (fun _ _ _ h => h) (Or.inl ⟨by rfl, ?_⟩) hHeld ?_
                        rotate_left
                        · (intro w' hSw; (try dsimp only at hSw); go_simp; try (with_reducible rfl))
                        (try simp only [Act.put, List.setIfInBounds_toArray, List.set_cons_zero, List.set_cons_succ])
                        refine wpAnyM_take (i := 132) (oi := ⟨_, _, _, _, _, _⟩) (v := ?_) rfl (by kernel_rfl) (by kernel_rfl) (by kernel_rfl) (by kernel_rfl) (fun _ _ _ h => h) (Or.inl ⟨by rfl, ?_⟩) hHeld ?_
                        rotate_left
                        · (intro w' hSw; (try dsimp only at hSw); go_simp; try (with_reducible rfl))
                        (try simp only [Act.put, List.setIfInBounds_toArray, List.set_cons_zero, List.set_cons_succ])
                        refine wpAnyM_done (by kernel_rfl) ?_ _
                        go_wp2_with fail
                        go_ret
                        exact ⟨rfl, BL41.out⟩
end Go.Proofs.YtjdefmjcnpgjiaaDoor
