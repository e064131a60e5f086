/-
  Texts in build order: OKrec, OPure, OKey, OKx, ONew.
-/
import Derived.Test.YtpcbhcdpegbfjaaGreatM16
/-
  A window's record, whatever of it is late.
-/
namespace Go.Proofs.YtpcbhcdpegbfjaaGreat
set_option maxHeartbeats 16000000
set_option maxRecDepth 100000
open Go.RowKit
theorem kended_any {W : World} {K s : Nat} {k size slide a : Int} {fp : Nat → Prop} {M A : List Pn} {av : Value} {g d : Int} (h : KA W K 102 (wRest k size slide a) s k size slide a fp M A av g d) {v : Value} {ss : List Sp} (hs : LSeg 2 Sp.cs W.heap.size W v ss) (hn : ss.length ≤ 1000) :
    Calls Tryz.prog 164 #[.pointer (some ⟨K, 0, none⟩), v] W fun e w' => e = .returned (.int .i64 (ss.countP (lateB g) : Nat)) ∧ Below W.heap.size W w' := by
  obtain ⟨ao, cap, rfl⟩ := hs.shapeOf
  have H := hide h
  have HS := hide hs
  clear h hs
  go_enter Tryz.func164, Tryz.ntmps164
  go_wp2_with fail
  go_loopg [5, 7, 10] (ss.length + 1) (fun gh nv _ iv wr => ∃ i : Nat, iv = .int .i64 (i : Int) ∧ nv = .int .i64 ((ss.take i).countP (lateB g) : Nat) ∧ i ≤ ss.length ∧ ss.length + 1 ≤ gh + i ∧ Hid (Below W.heap.size W wr))
  case atStart => exact ⟨0, rfl, rfl, by omega, by omega, Below.refl _ _⟩
  case round =>
    obtain ⟨i, rfl, rfl, hi, hg, HD⟩ := hrel
    obtain ⟨go, rfl⟩ : ∃ go, gk = go + 1 := ⟨gk - 1, by omega⟩
    by_cases hlt : i < ss.length
    · obtain ⟨x, hx⟩ := get_of_lt hlt
      have bt : (i : Int) < (ss.length : Int) := by omega
      obtain ⟨nb, no, rfl, _, e0, e1⟩ := (HS.out.below HD.out).span hx
      have hlx : ss[i] = x := by rw [List.getElem?_eq_getElem hlt] at hx; exact Option.some.inj hx
      have HC : Hid ((ss.take (i + 1)).countP (lateB g) = (ss.take i).countP (lateB g) + (if wrap64 (x.t - 1) ≤ g then 1 else 0)) := (show _ = _ by
        rw [List.take_succ_eq_append_getElem hlt, List.countP_append, hlx, List.countP_cons, List.countP_nil]
        unfold lateB
        by_cases h : wrap64 (x.t - 1) ≤ g <;> simp [h])
      have hcl : (ss.take i).countP (lateB g) ≤ 1000 := Nat.le_trans List.countP_le_length (by rw [List.length_take]; omega)
      obtain ⟨xf, xt⟩ := x
      simp only at e0 e1 HC
      clear hx hlx
      generalize (ss.take i).countP (lateB g) = cn at *
      have HB2 := hide (HD.out.trans ((below_box wr (.cells #[.int .i64 xf, .int .i64 xt] 72)).mono HD.out.size))
      have HXB := hide (BoxT.new 72 wr #[.int .i64 xf, .int .i64 xt])
      have ck : ∀ n, ((wr.alloc (.cells #[.int .i64 xf, .int .i64 xt] 72)).drewN n).cell? ⟨K, 2, none⟩ = some (.int .i64 g) := fun n => (H.out.below HB2.out).c2
      by_cases hg2 : wrap64 (xt - 1) ≤ g
      · rw [if_pos hg2] at HC
        go_wp2_with fail
        go_quiet (fail)
        go_wp2_with fail
        go_roundg go
        case rel => exact ⟨i + 1, by go_num, by rw [HC.out]; go_num, by omega, by omega, below_drewN HB2.out _⟩
        case measure => omega
      · rw [if_neg hg2] at HC
        go_wp2_with fail
        go_quiet (fail)
        go_wp2_with fail
        go_roundg go
        case rel => exact ⟨i + 1, by go_num, by rw [HC.out, Nat.add_zero], by omega, by omega, below_drewN HB2.out _⟩
        case measure => omega
    · have bt : ¬ (i : Int) < (ss.length : Int) := by omega
      have hcn : (ss.take i).countP (lateB g) = ss.countP (lateB g) := by rw [List.take_of_length_le (by omega)]
      generalize (ss.take i).countP (lateB g) = cn at *
      have HCN := hide hcn
      clear hcn
      go_wp2_with fail
      go_ret
      refine ⟨?_, HD.out⟩
      rw [← HCN.out]; rfl
def FrK (k size slide a g : Int) (r : Rc) : List Pn := (frS k size slide a r).filter fun p => !ovr g p
def KrPost (W : World) (K s : Nat) (k size slide a : Int) (fp : Nat → Prop) (M A : List Pn) (av : Value) (g d : Int) (r : Rc) (e : Ending) (w' : World) : Prop :=
  e = .returned (.slice none 0 0) ∧ ∃ fp' M' A' av' d', KA w' K 102 (wRest k size slide a) s k size slide a fp' M' A' av' g d' ∧ FT (FK K av fp) (FK K av' fp') W w' ∧
    ((Comes (sess k) (jn a) (frS k size slide a r ++ M) M' ∧ A' = A ∧ d' = d ∧ ∀ sp ∈ pSpans k size slide r.t, lateB g sp = false) ∨
     (M' = M ∧ A' = A ∧ d' = wrap64 (d + 1) ∧ pSpans k size slide r.t ≠ [] ∧ ∀ sp ∈ pSpans k size slide r.t, lateB g sp = true) ∨
     (d' = d ∧ (∃ sp ∈ pSpans k size slide r.t, lateB g sp = true) ∧ (∃ sp ∈ pSpans k size slide r.t, lateB g sp = false) ∧ ((M' = M ∧ A' = A ++ leftF g (srt (V.pPut k size slide a [] r))) ∨ (A' = [] ∧ Comes (sess k) (jn a) (srt M ++ (A ++ leftF g (srt (V.pPut k size slide a [] r)))) M'))))
theorem krecord_any {W : World} {K s : Nat} {k size slide a : Int} {fp : Nat → Prop} {M A : List Pn} {av : Value} {g d : Int} (h : KA W K 102 (wRest k size slide a) s k size slide a fp M A av g d) (hw : FitW k size slide) (ha : 1 ≤ a ∧ a ≤ 5) (hs : In64 size) (hsl : In64 slide) (rk rt rv : Int) (hrk : In64 rk) (hrv : In64 rv) (ht : TimeOk rt) (hM : M.length + A.length ≤ 80000) (hap : Apart (sess k) M) (h3 : k = 3 → ∀ x ∈ M, x.f < x.t)
    (hL : (∃ sp ∈ pSpans k size slide rt, lateB g sp = true) → (∃ sp ∈ pSpans k size slide rt, lateB g sp = false) → leftF g (srt (V.pPut k size slide a [] ⟨rk, rt, rv⟩)) ≠ [] ∧ (leftF g (srt (V.pPut k size slide a [] ⟨rk, rt, rv⟩))).length ≤ 64 ∧ ∀ x ∈ leftF g (srt (V.pPut k size slide a [] ⟨rk, rt, rv⟩)), PnOk x ∧ (k = 3 → x.f < x.t)) :
    Calls Tryz.prog 163 #[.pointer (some ⟨K, 0, none⟩), .agg #[.int .i64 rk, .int .i64 rt, .int .i64 rv]] W (KrPost W K s k size slide a fp M A av g d ⟨rk, rt, rv⟩) := by
  have hk0 : k ≠ 0 := by have := hw.1; omega
  have hfs : FitS k size slide a := ⟨ha.1, ha.2, .inr hw⟩
  have hb1 := below_box W (.cells #[.int .i64 rk, .int .i64 rt, .int .i64 rv] 38)
  have HB1 := hide hb1
  have HX1 := hide (BoxT.new 38 W #[.int .i64 rk, .int .i64 rt, .int .i64 rv])
  have H1 := hide (h.below hb1)
  have HSPN := hide (fun w' => Spans_any w' k rt hs hsl)
  have hlen := pSpans_len k size slide rt
  have HPU := hide (fun (w' : World) (fp' : Nat → Prop) (M' : List Pn) (h' : SA w' s k size slide a fp' M') (hl : M'.length ≤ 90000) (ha : Apart (sess k) M') => Put_any h' hs hsl ⟨rk, rt, rv⟩ hrk hrv (sps_fit hfs ht) hl ha)
  have HFR : Hid (frS k size slide a ⟨rk, rt, rv⟩ = (pSpans k size slide rt).map fun sp => (⟨rk, sp.f, sp.t, ad a (zr a) rv⟩ : Pn)) := (show _ = _ by unfold frS sps; rw [if_neg hk0])
  have HAP := hide hap
  have HML := hide hM
  have HLL := hide hL
  have H3M := hide h3
  have HOP := hide (fun (w' : World) (h' : KA w' K 102 (wRest k size slide a) s k size slide a fp M A av g d) => open_any h' hs hsl rk rt rv)
  have HW0 := hide h
  unfold KrPost
  generalize frS k size slide a ⟨rk, rt, rv⟩ = FR at *
  simp only
  generalize leftF g (srt (V.pPut k size slide a [] ⟨rk, rt, rv⟩)) = LL at *
  generalize pSpans k size slide rt = ss at *
  clear h hb1 hap hL h3 hM hw ht hrk hrv hs hsl hk0 hfs
  go_enter Tryz.func163, Tryz.ntmps163
  go_upto_region 1 with fail
  refine wp_at (fun V => V = W.alloc (.cells #[.int .i64 rk, .int .i64 rt, .int .i64 rv] 38)) rfl ?_
  intro V hV
  rw [← hV] at HB1 HX1 H1
  obtain ⟨xb, hxb⟩ : ∃ xb, xb = W.heap.size := ⟨_, rfl⟩
  rw [← hxb] at HX1 ⊢
  have HXE := hide hxb
  clear hV hxb
  have BD : Hid (Below V.heap.size V V.drew) := (Below.refl _ _).drew
  have HD := hide (H1.out.below BD.out)
  have XD := hide (HX1.out.below BD.out)
  have y4 : V.drew.cell? ⟨K, 4, none⟩ = some (.int .i64 k) := HD.out.kb.cellAt 4
  have y5 : V.drew.cell? ⟨K, 5, none⟩ = some (.int .i64 size) := HD.out.kb.cellAt 5
  have y6 : V.drew.cell? ⟨K, 6, none⟩ = some (.int .i64 slide) := HD.out.kb.cellAt 6
  have y1 : V.drew.cell? ⟨xb, 1, none⟩ = some (.int .i64 rt) := XD.out.cellAt 1
  go_region_held3 (fun w' => w'.cell? ⟨K, 4, none⟩ = some (.int .i64 k) ∧ w'.cell? ⟨K, 5, none⟩ = some (.int .i64 size) ∧ w'.cell? ⟨K, 6, none⟩ = some (.int .i64 slide) ∧ w'.cell? ⟨xb, 1, none⟩ = some (.int .i64 rt)) (first | go_keep | exact ⟨y4, y5, y6, y1⟩ | exact ⟨z4, z5, z6, z1⟩)
    (first | (go_at_call 119; refine (HSPN.out _).mono ?_; rintro e w2 ⟨u, rfl, o2, b2⟩; have H2 := hide (HD.out.below b2); have X2 := hide (XD.out.below b2); have O2 := hide (o2.seg Sp.cs_len (by omega)); have B2 := hide (HB1.out.drew.trans (b2.mono HB1.out.size)); have z4 : w2.cell? ⟨K, 4, none⟩ = some (.int .i64 k) := H2.out.kb.cellAt 4; have z5 : w2.cell? ⟨K, 5, none⟩ = some (.int .i64 size) := H2.out.kb.cellAt 5; have z6 : w2.cell? ⟨K, 6, none⟩ = some (.int .i64 slide) := H2.out.kb.cellAt 6; have z1 : w2.cell? ⟨xb, 1, none⟩ = some (.int .i64 rt) := X2.out.cellAt 1; clear o2 b2) | fail)
  obtain ⟨ua, uc, rfl⟩ := O2.out.shapeOf
  have HEN := hide (kended_any H2.out O2.out (by omega))
  by_cases hnil : ss = []
  · subst hnil
    go_wp2_with (go_at_call 164; refine HEN.out.mono ?_; rintro e w3 ⟨rfl, b3⟩; have H3 := hide (H2.out.below b3); have B3 := hide (B2.out.trans (b3.mono (Nat.le_trans (Nat.le_of_eq HXE.out.symm) (Nat.le_of_lt X2.out.lt)))); clear b3)
    go_ret
    refine ⟨rfl, fp, M, A, av, d, H3.out, FT.of_below B3.out, .inl ⟨?_, rfl, rfl, fun sp h => by cases h⟩⟩
    rw [HFR.out]
    exact Comes.refl HAP.out
  have hpos : 0 < ss.length := List.length_pos_iff.2 hnil
  have HNL := hide hnil
  clear hnil
  rcases Classical.em (∀ sp ∈ ss, lateB g sp = false) with hput | hput0
  · have HPT := hide hput
    have hcnt0 : ss.countP (lateB g) = 0 := List.countP_eq_zero.2 (fun x hx => by rw [hput x hx]; decide)
    rw [hcnt0] at HEN
    have hne0 : (((ss.length : Nat) : Int) == 0) = false := by rw [beq_eq_false_iff_ne]; omega
    have hne1 : ((0 : Int) == ((ss.length : Nat) : Int)) = false := by rw [beq_eq_false_iff_ne]; omega
    clear hcnt0 hput
    go_upto_region 8 with (go_at_call 164; refine HEN.out.mono ?_; rintro e w3 ⟨rfl, b3⟩; have H3 := hide (H2.out.below b3); have X3 := hide (X2.out.below b3); have B3 := hide (B2.out.trans (b3.mono (Nat.le_trans (Nat.le_of_eq HXE.out.symm) (Nat.le_of_lt X2.out.lt)))); clear b3)
    have BD3 : Hid (Below w3.heap.size w3 w3.drew) := (Below.refl _ _).drew
    have H4 := hide (H3.out.below BD3.out)
    have X4 := hide (X3.out.below BD3.out)
    have B4 := hide (B3.out.drew)
    clear y4 y5 y6 y1 z4 z5 z6 z1
    have y0 : w3.drew.cell? ⟨K, 0, none⟩ = some (.pointer (some ⟨s, 0, none⟩)) := H4.out.kb.cellAt 0
    obtain ⟨r0, r1, r2⟩ := X4.out.cells3
    have HP := hide (HPU.out w3.drew fp M H4.out.sa (by have := HML.out; omega) HAP.out)
    go_region_held3 (fun w' => w'.cell? ⟨K, 0, none⟩ = some (.pointer (some ⟨s, 0, none⟩)) ∧ w'.cell? ⟨xb, 0, none⟩ = some (.int .i64 rk) ∧ w'.cell? ⟨xb, 1, none⟩ = some (.int .i64 rt) ∧ w'.cell? ⟨xb, 2, none⟩ = some (.int .i64 rv)) (first | go_keep | exact ⟨y0, r0, r1, r2⟩ | exact ⟨q0, q1, q2, q3⟩)
      (first | (go_at_call 97; refine HP.out.mono ?_; rintro e w5 ⟨rfl, fp5, M5, s5, t5, c5⟩; have H5 := hide (H4.out.turn s5 t5); have T5 := hide ((FT.of_below (fp := FK K av fp) B4.out).trans (t5.fk K (av := av) (av' := av) (fun i e => .inl e))); have C5 := hide c5; have q0 : w5.cell? ⟨K, 0, none⟩ = some (.pointer (some ⟨s, 0, none⟩)) := H5.out.kb.cellAt 0; have x5 := X4.out.back (t5.block xb X4.out.lt (fun e => by have := HW0.out.sa.flt xb e; have := HXE.out; omega)); obtain ⟨q1, q2, q3⟩ := BoxT.cells3 (t := 38) x5; clear s5 t5 c5 x5) | fail)
    go_wp2_with fail
    go_ret
    exact ⟨rfl, fp5, M5, A, av, d, H5.out, T5.out, .inl ⟨C5.out, rfl, rfl, HPT.out⟩⟩
  rcases Classical.em (∀ sp ∈ ss, lateB g sp = true) with hall | hall0
  · have hcntA : ss.countP (lateB g) = ss.length := List.countP_eq_length.2 hall
    rw [hcntA] at HEN
    have HAL := hide hall
    have hne0 : (((ss.length : Nat) : Int) == 0) = false := by rw [beq_eq_false_iff_ne]; omega
    clear hcntA hall y4 y5 y6 y1 z4 z5 z6 z1
    go_upto_region 6 with (go_at_call 164; refine HEN.out.mono ?_; rintro e w3 ⟨rfl, b3⟩; have H3 := hide (H2.out.below b3); have B3 := hide (B2.out.trans (b3.mono (Nat.le_trans (Nat.le_of_eq HXE.out.symm) (Nat.le_of_lt X2.out.lt)))); clear b3)
    have q3 := H3.out.c3
    have fr := BoxT.free (t := 102) H3.out.kb
    go_wp2_with fail
    go_ret
    exact ⟨rfl, fp, M, A, av, _, H3.out.setD (wrap64 (d + 1)), (FT.of_below B3.out).trans (FT.setFK _ K av fp 3 _), .inr (.inl ⟨rfl, rfl, rfl, HNL.out, HAL.out⟩)⟩
  · have hex1 : ∃ sp ∈ ss, lateB g sp = true := by
      simp only [Classical.not_forall] at hput0
      obtain ⟨x, hx, hn⟩ := hput0
      exact ⟨x, hx, by simpa using hn⟩
    have hex2 : ∃ sp ∈ ss, lateB g sp = false := by
      simp only [Classical.not_forall] at hall0
      obtain ⟨x, hx, hn⟩ := hall0
      exact ⟨x, hx, by simpa using hn⟩
    have HE1 := hide hex1
    have HE2 := hide hex2
    obtain ⟨hLn, hLl, hLo⟩ := HLL.out hex1 hex2
    have HLN := hide hLn
    have HLEN := hide hLl
    have HLO := hide hLo
    have hc0 : ss.countP (lateB g) ≠ 0 := fun e => hput0 (fun x hx => by
      have := List.countP_eq_zero.1 e x hx
      simpa using this)
    have hcA : ss.countP (lateB g) ≠ ss.length := fun e => hall0 (List.countP_eq_length.1 e)
    have hcl : ss.countP (lateB g) ≤ ss.length := List.countP_le_length
    clear hput0 hall0 hex1 hex2 hLn hLl hLo HLL
    generalize hcn : ss.countP (lateB g) = cn at *
    have hne0 : (((ss.length : Nat) : Int) == 0) = false := by rw [beq_eq_false_iff_ne]; omega
    have hne1 : (((cn : Nat) : Int) == ((ss.length : Nat) : Int)) = false := by rw [beq_eq_false_iff_ne]; omega
    have hne2 : (((cn : Nat) : Int) == 0) = false := by rw [beq_eq_false_iff_ne]; omega
    clear hcn hc0 hcA hcl y4 y5 y6 y1 z4 z5 z6 z1
    go_upto_region 3 with (go_at_call 164; refine HEN.out.mono ?_; rintro e w3 ⟨rfl, b3⟩; have H3 := hide (H2.out.below b3); have X3 := hide (X2.out.below b3); have B3 := hide (B2.out.trans (b3.mono (Nat.le_trans (Nat.le_of_eq HXE.out.symm) (Nat.le_of_lt X2.out.lt)))); clear b3)
    have BD3 : Hid (Below w3.heap.size w3 w3.drew) := (Below.refl _ _).drew
    have H4 := hide (H3.out.below BD3.out)
    have X4 := hide (X3.out.below BD3.out)
    have B4 := hide (B3.out.drew)
    obtain ⟨r0, r1, r2⟩ := X4.out.cells3
    have HP := hide (HOP.out w3.drew H4.out)
    go_region_held3 (fun w' => w'.cell? ⟨xb, 0, none⟩ = some (.int .i64 rk) ∧ w'.cell? ⟨xb, 1, none⟩ = some (.int .i64 rt) ∧ w'.cell? ⟨xb, 2, none⟩ = some (.int .i64 rv)) (first | go_keep | exact ⟨r0, r1, r2⟩ | exact ⟨q1, q2, q3⟩ | exact ⟨p1, p2, p3⟩)
      (first
      | (go_at_call 166; refine HP.out.mono ?_; rintro e w5 ⟨u5, rfl, o5, b5⟩; have H5 := hide (H4.out.below b5); have X5 := hide (X4.out.below b5); have B5 := hide (B4.out.trans (b5.mono B4.out.size)); have HLY := hide (klay_any H5.out (o5.seg Pn.cs_len (by have := HLEN.out; omega)) HLN.out HLO.out (by have := HML.out; have := HLEN.out; omega) H3M.out); obtain ⟨q1, q2, q3⟩ := X5.out.cells3; clear o5 b5)
      | (go_at_call 165; refine HLY.out.mono ?_; rintro e w6 ⟨rfl, fp6, M6, A6, av6, k6, t6, c6⟩; have H6 := hide k6; have T6 := hide ((FT.of_below (fp := FK K av fp) B5.out).trans t6); have C6 := hide c6; obtain ⟨p1, p2, p3⟩ := BoxT.cells3 (t := 38) (X5.out.back (t6.block xb X5.out.lt (fun e => by have := HW0.out.flt xb e; have := HXE.out; omega))); clear k6 t6 c6)
      | fail)
    go_wp2_with fail
    go_ret
    exact ⟨rfl, fp6, M6, A6, av6, d, H6.out, T6.out, .inr (.inr ⟨rfl, HE1.out, HE2.out, C6.out⟩)⟩
end Go.Proofs.YtpcbhcdpegbfjaaGreat
/-
 Panes by what they come to; late ones.
-/
namespace Go.Proofs.YtpcbhcdpegbfjaaGreat
open Go.RowKit
theorem Comes.some (s : Bool) (J : Int → Int → Int) (l : List Pn) : ∃ m, Comes s J l m := ends (s := s) (J := J) _ l (Nat.le_refl _)
theorem Comes.via {s : Bool} {a : Int} {l l' m : List Pn} (hr : Reds s (jn a) l l') (h : Comes s (jn a) l m) : Comes s (jn a) l' m := by
 obtain ⟨m', h1, h2⟩ := Comes.some s (jn a) l'
 have := Comes.unique (jn_comm a) (jn_assoc a) h ⟨hr.trans h1, h2⟩
 exact Comes.perm ⟨h1, h2⟩ (.refl _) this.symm
theorem Comes.self {s : Bool} {a : Int} {l m : List Pn} (h : Comes s (jn a) l m) (hl : Apart s l) : l.Perm m := Comes.unique (jn_comm a) (jn_assoc a) (Comes.refl hl) h
theorem Comes.more {s : Bool} {a : Int} {l m q r : List Pn} (h : Comes s (jn a) l m) (h' : Comes s (jn a) (q ++ m) r) : Comes s (jn a) (q ++ l) r := h.step h'
theorem zeroL {a v : Int} (ha : 1 ≤ a ∧ a ≤ 5) (h : In64 v) : jn a (zr a) v = v := by rw [jn_comm, jn_zero ha h]
theorem vOf_in' {a v : Int} (h : In64 v) : In64 (V.vOf a v) := by
 unfold V.vOf
 split
 ·unfold In64; omega
 ·exact h
theorem fold2 {a : Int} {r : Rc} (ha : 1 ≤ a ∧ a ≤ 5) (hv : In64 r.v) (ss : List Sp) : ∀ {l : List Pn}, Apart false l →
  Comes false (jn a) (ss.map (fun sp => (⟨r.k, sp.f, sp.t, ad a (zr a) r.v⟩ : Pn)) ++ l) (ss.foldl (V.stepP 2 a r) l) := by
 induction ss with
 | nil => intro l h; exact Comes.refl h
 | cons s ss ih =>
  intro l h
  have h1 : Comes false (jn a) ((⟨r.k, s.f, s.t, ad a (zr a) r.v⟩ : Pn) :: l) (V.stepP 2 a r l s) := by
   unfold V.stepP
   rw [if_neg (by omega)]
   exact span_comes (fr := ⟨r.k, s.f, s.t, zr a⟩) (jn_comm a) (zeroL ha (vOf_in' hv)) h
  have h3 := Comes.step h1 (ih h1.2)
  exact h3.perm List.perm_middle (.refl _)
theorem frS_two (size slide a : Int) (r : Rc) : frS 2 size slide a r = (pSpans 2 size slide r.t).map fun sp => (⟨r.k, sp.f, sp.t, ad a (zr a) r.v⟩ : Pn) := by
 unfold frS sps
 rw [if_neg (by omega)]
theorem frS_apart {size slide a : Int} (hw : FitW 2 size slide) {r : Rc} (ht : TimeOk r.t) : Apart false (frS 2 size slide a r) := by
 rw [frS_two, spans_two hw ht]
 unfold Apart
 rw [List.pairwise_map, List.pairwise_reverse]
 unfold bkS
 rw [List.pairwise_map]
 have hsl : 1 ≤ slide := by
  obtain ⟨_, _, _, _, h | h⟩ := hw
  ·exact h.2.1
  ·exact absurd rfl h.1
 refine List.Pairwise.imp ?_ List.pairwise_lt_range
 intro i j hij hm
 unfold mt at hm
 obtain ⟨_, h | h⟩ := hm
 ·cases h.1
 ·have h2 : r.t - sinceOf slide r.t - (j : Int) * slide = r.t - sinceOf slide r.t - (i : Int) * slide := h.2.1
  have h3 : (i : Int) * slide < (j : Int) * slide := Int.mul_lt_mul_of_pos_right (by omega) (by omega)
  omega
theorem pPut_two {size slide a : Int} (hw : FitW 2 size slide) (ha : 1 ≤ a ∧ a ≤ 5) {r : Rc} (ht : TimeOk r.t) (hv : In64 r.v) : (V.pPut 2 size slide a [] r).Perm (frS 2 size slide a r) := by
 have h1 := fold2 ha hv (pSpans 2 size slide r.t) (l := []) List.Pairwise.nil
 rw [List.append_nil, ← frS_two] at h1
 exact (srt_perm _).trans (h1.self (frS_apart hw ht)).symm
theorem open_two {size slide a : Int} (hw : FitW 2 size slide) (ha : 1 ≤ a ∧ a ≤ 5) {r : Rc} (ht : TimeOk r.t) (hv : In64 r.v) (g : Int) : (leftF g (srt (V.pPut 2 size slide a [] r))).Perm (FrK 2 size slide a g r) :=
 ((srt_perm _).trans (pPut_two hw ha ht hv)).filter _
theorem FrK_all {k size slide a g : Int} (hk : k ≠ 0) {r : Rc} (h : ∀ sp ∈ pSpans k size slide r.t, lateB g sp = false) : FrK k size slide a g r = frS k size slide a r := by
 unfold FrK
 rw [List.filter_eq_self]
 intro p hp
 unfold frS sps at hp
 rw [if_neg hk] at hp
 obtain ⟨sp, h1, rfl⟩ := List.mem_map.1 hp
 have := h sp h1
 unfold lateB at this
 simp [ovr, this]
theorem FrK_none {k size slide a g : Int} (hk : k ≠ 0) {r : Rc} (h : ∀ sp ∈ pSpans k size slide r.t, lateB g sp = true) : FrK k size slide a g r = [] := by
 unfold FrK
 rw [List.filter_eq_nil_iff]
 intro p hp
 unfold frS sps at hp
 rw [if_neg hk] at hp
 obtain ⟨sp, h1, rfl⟩ := List.mem_map.1 hp
 have := h sp h1
 unfold lateB at this
 simp [ovr, this]
theorem FrK_mem {k size slide a g : Int} {r : Rc} {p : Pn} (hp : p ∈ FrK k size slide a g r) : p ∈ frS k size slide a r := (List.mem_filter.1 hp).1
theorem FrK_len (k size slide a g : Int) (r : Rc) : (FrK k size slide a g r).length ≤ 64 := Nat.le_trans (List.length_filter_le _ _) (frS_len ..)
theorem FrK_some {k size slide a g : Int} (hk : k ≠ 0) {r : Rc} {sp : Sp} (h : sp ∈ pSpans k size slide r.t) (hl : lateB g sp = false) : FrK k size slide a g r ≠ [] := by
 intro e
 have h1 : (⟨r.k, sp.f, sp.t, ad a (zr a) r.v⟩ : Pn) ∈ FrK k size slide a g r := by
  unfold FrK
  refine List.mem_filter.2 ⟨?_, ?_⟩
  ·unfold frS sps
   rw [if_neg hk]
   exact List.mem_map.2 ⟨sp, h, rfl⟩
  ·unfold lateB at hl
   simp [ovr, hl]
 rw [e] at h1
 cases h1
theorem frS_ok {k size slide a : Int} (hw : FitS k size slide a) {r : Rc} (hk : In64 r.k) (hv : In64 r.v) (ht : TimeOk r.t) : ∀ p ∈ frS k size slide a r, PnOk p ∧ (k = 3 → p.f < p.t) := by
 intro p hp
 unfold frS at hp
 obtain ⟨sp, h1, rfl⟩ := List.mem_map.1 hp
 obtain ⟨h2, h3, h4⟩ := sps_fit hw ht sp h1
 exact ⟨⟨hk, h2, h3, ad_in (zr_in a) hv⟩, h4⟩
theorem mixed_two {k size slide g t : Int} (hw : FitW k size slide) (ht : TimeOk t) (h1 : ∃ sp ∈ pSpans k size slide t, lateB g sp = true) (h2 : ∃ sp ∈ pSpans k size slide t, lateB g sp = false) : k = 2 := by
 obtain ⟨a, ha, la⟩ := h1
 obtain ⟨b, hb, lb⟩ := h2
 have hk : k = 1 ∨ k = 2 ∨ k = 3 := by have := hw.1; have := hw.2.1; omega
 rcases hk with rfl | rfl | rfl
 ·rw [spans_one hw ht] at ha hb
  rw [List.mem_singleton.1 ha] at la
  rw [List.mem_singleton.1 hb] at lb
  rw [la] at lb; cases lb
 ·rfl
 ·rw [spans_three hw ht] at ha hb
  rw [List.mem_singleton.1 ha] at la
  rw [List.mem_singleton.1 hb] at lb
  rw [la] at lb; cases lb
theorem mem_full {k a : Int} {l m : List Pn} (h : Reds (sess k) (jn a) l m) (_ : k = 3) (hl : ∀ x ∈ l, x.f < x.t) : ∀ x ∈ m, x.f < x.t :=
 h.keeps (P := fun x => x.f < x.t) (fun x y _ hx hy => by show min x.f y.f < max x.t y.t; omega) hl
def outK (kd m : Int) (M : List Pn) : List Rc := if kd = 0 then (if m = 9223372036854775807 then (outF m (srt (M.filter (ovr m)))).map eT else []) else outF m (srt (M.filter (ovr m)))
def leftK (kd m : Int) (M : List Pn) : List Pn := if kd = 0 ∧ m ≠ 9223372036854775807 then M else leftF m M
def outG (kd g m : Int) (M : List Pn) : List Rc := if m ≤ g then [] else outK kd m M
def leftG (kd g m : Int) (M : List Pn) : List Pn := if m ≤ g then M else leftK kd m M
theorem outK_perm {kd m : Int} {M N : List Pn} (h : M.Perm N) : outK kd m M = outK kd m N := by
 unfold outK
 rw [srt_eq (h.filter (ovr m))]
theorem leftK_perm {kd m : Int} {M N : List Pn} (h : M.Perm N) : (leftK kd m M).Perm (leftK kd m N) := by
 unfold leftK
 split
 ·exact h
 ·exact h.filter _
theorem leftK_sub (kd m : Int) (M : List Pn) : (leftK kd m M).Sublist M := by
 unfold leftK
 split
 ·exact List.Sublist.refl _
 ·exact List.filter_sublist
theorem outK_len (kd m : Int) (M : List Pn) : (outK kd m M).length ≤ M.length := by
 have h : (outF m (srt (M.filter (ovr m)))).length ≤ M.length := by
  unfold outF
  rw [List.length_map]
  refine Nat.le_trans (List.length_filter_le _ _) ?_
  rw [srt_len]
  exact List.length_filter_le _ _
 unfold outK
 split
 ·split
  ·rw [List.length_map]; exact h
  ·simp
 ·exact h
theorem outG_len (kd g m : Int) (M : List Pn) : (outG kd g m M).length ≤ M.length := by
 unfold outG
 split
 ·simp
 ·exact outK_len ..
theorem fire_kd {W : World} {s : Nat} {kd size slide a : Int} {fp : Nat → Prop} {M : List Pn} (h : SA W s kd size slide a fp M) (mk : Int) (hM : M.length ≤ 90000) :
  Calls Tryz.prog 95 #[.pointer (some ⟨s, 0, none⟩), .int .i64 mk] W fun e w' => ∃ u fp', e = .returned u ∧ OwnL 38 3 Rc.cs W.heap.size w' u (outK kd mk M) ∧ SA w' s kd size slide a fp' (leftK kd mk M) ∧ FT fp fp' W w' := by
 obtain ⟨m, o, fq, R, hst, hf⟩ := h
 unfold outK leftK
 by_cases hk : kd = 0
 ·by_cases hm : mk = 9223372036854775807
  ·refine (Fire_red hst mk hk hm hM).mono ?_
   rintro e w' ⟨u, E, rfl, h1, h2, h3⟩
   rw [if_pos hk, if_pos hm, if_neg (by simp [hm])]
   exact ⟨u, FP s m fq, rfl, h1, ⟨m, o, fq, E, h2, fun _ => Iff.rfl⟩, h3.congr hf (fun _ => Iff.rfl)⟩
  ·refine (Fire_idle hst mk hk hm).mono ?_
   rintro e w' ⟨rfl, hb⟩
   rw [if_pos hk, if_neg hm, if_pos ⟨hk, hm⟩]
   have hs : SA W s kd size slide a fp M := ⟨m, o, fq, R, hst, hf⟩
   exact ⟨_, fp, rfl, OwnL.nil _ _ _ _ _, hs.below hb, FT.of_below hb⟩
 ·refine (Fire_win hst mk hk hM).mono ?_
  rintro e w' ⟨u, E, rfl, h1, h2, h3⟩
  rw [if_neg hk, if_neg (fun h => hk h.1)]
  exact ⟨u, FP s m fq, rfl, h1, ⟨m, o, fq, E, h2, fun _ => Iff.rfl⟩, h3.congr hf (fun _ => Iff.rfl)⟩
theorem settled {kd a : Int} {M A M' X : List Pn} (hc : Comes (sess kd) (jn a) (M ++ A) X) (hM : Apart (sess kd) M) (h : (A = [] ∧ M' = M) ∨ Comes (sess kd) (jn a) (srt M ++ A) M') : M'.Perm X := by
 rcases h with ⟨rfl, rfl⟩ | h
 ·rw [List.append_nil] at hc
  exact hc.self hM
 ·exact Comes.unique (jn_comm a) (jn_assoc a) h (hc.perm ((srt_perm M).symm.append (.refl _)) (.refl _))
end Go.Proofs.YtpcbhcdpegbfjaaGreat
/-
 A keyed operator's Mark, Panes, Load, Late; a reduce's record.
-/
namespace Go.Proofs.YtpcbhcdpegbfjaaGreat
set_option maxHeartbeats 16000000
set_option maxRecDepth 100000
open Go.RowKit
theorem LSeg.back' {α : Type} {sz : Nat} {cs : α → List Value} {B B' : Nat} {w w' : World} {v : Value} {xs : List α} (h : LSeg sz cs B w v xs) (hb : ∀ b, v.ownBlock = some b → w'.heap[b]? = w.heap[b]?) (hB : B ≤ B') : LSeg sz cs B' w' v xs := by
 obtain ⟨ao, cap, rfl, h2, h4⟩ := h
 refine ⟨ao, cap, rfl, h2, ?_⟩
 rcases h4 with h4 | ⟨b, off, rfl, h6, h7⟩
 ·exact .inl h4
 ·refine .inr ⟨b, off, rfl, by omega, fun i x hi j u hu => ?_⟩
  have h8 := h7 i x hi j u hu
  have h9 := hb b rfl
  simp only [World.cell?, h9] at *
  exact h8
def Look (kd a : Int) (M A M1 : List Pn) : Prop := (A = [] ∧ M1 = M) ∨ Comes (sess kd) (jn a) (srt M ++ A) M1
theorem Look.len {kd a : Int} {M A M1 : List Pn} (h : Look kd a M A M1) : M1.length ≤ M.length + A.length := by
 rcases h with ⟨_, rfl⟩ | h
 ·omega
 ·have := h.1.len
  simp [srt_len] at this
  exact this
theorem kmark_gt {W : World} {K tK s : Nat} {rest : List Value} {kd size slide a : Int} {fp : Nat → Prop} {M A : List Pn} {av : Value} {g d : Int} (h : KA W K tK rest s kd size slide a fp M A av g d) (hn : M.length + A.length ≤ 80000) (h3 : kd = 3 → ∀ x ∈ M, x.f < x.t) (m : Int) (hm : ¬ m ≤ g) :
  Calls Tryz.prog 90 #[.pointer (some ⟨K, 0, none⟩), .int .i64 m] W fun e w' => ∃ u fp' M1, e = .returned u ∧ OwnL 38 3 Rc.cs W.heap.size w' u (outK kd m M1) ∧ KA w' K tK rest s kd size slide a fp' (leftK kd m M1) [] (.slice none 0 0) m d ∧ FT (FK K av fp) (FK K (.slice none 0 0) fp') W w' ∧ Look kd a M A M1 := by
 have c2 := h.c2
 have fr := BoxT.free h.kb
 have h2 := h.setG m
 have HG := hide h2
 have HNN := hide hn
 have HS := hide (settle_any h2 (by omega) h3)
 clear h h2 hn h3
 go_enter Tryz.func90, Tryz.ntmps90
 go_upto_region 4 with fail
 refine wp_at (fun V => V = W.setCell ⟨K, 2, none⟩ (.int .i64 m)) rfl ?_
 intro V hV
 rw [← hV] at HG HS
 have HV := hide hV
 clear hV c2 fr
 go_upto_region 5 with (go_at_call 93; refine HS.out.mono ?_; rintro e w1 ⟨rfl, fp1, M1, k1, t1, l1⟩; have K1 := hide k1; have T1 := hide t1; have L1 := hide l1; clear k1 t1 l1)
 have c0 := K1.out.c0
 have HF := hide (fire_kd K1.out.sa m (by have := Look.len (show Look kd a M A M1 from L1.out); have := HNN.out; omega))
 go_wp2_with (go_at_call 95; refine HF.out.mono ?_; rintro e w2 ⟨u, fp', rfl, o2, s2, t2⟩; have O2 := hide o2; have S2 := hide s2; have T2 := hide t2; clear o2 s2 t2)
 go_ret
 have hsz : W.heap.size ≤ w1.heap.size := by have := T1.out.size; rw [HV.out] at this; simpa using this
 have h1 := FT.setFK W K av fp 2 (.int .i64 m)
 rw [← HV.out] at h1
 exact ⟨u, fp', M1, rfl, O2.out.mono hsz, K1.out.turn S2.out T2.out, (h1.trans T1.out).trans (T2.out.fk K (fun i e => .inl e)), L1.out⟩
theorem kmark_le {W : World} {K tK s : Nat} {rest : List Value} {kd size slide a : Int} {fp : Nat → Prop} {M A : List Pn} {av : Value} {g d : Int} (h : KA W K tK rest s kd size slide a fp M A av g d) (m : Int) (hm : m ≤ g) :
  Calls Tryz.prog 90 #[.pointer (some ⟨K, 0, none⟩), .int .i64 m] W fun e w' => e = .returned (.slice none 0 0) ∧ w' = W := by
 have c2 := h.c2
 clear h
 go_enter Tryz.func90, Tryz.ntmps90
 go_wp2_with fail
 go_ret
 exact ⟨rfl, rfl⟩
theorem kpanes_any {W : World} {K tK s : Nat} {rest : List Value} {kd size slide a : Int} {fp : Nat → Prop} {M A : List Pn} {av : Value} {g d : Int} (h : KA W K tK rest s kd size slide a fp M A av g d) (hn : M.length + A.length ≤ 80000) (h3 : kd = 3 → ∀ x ∈ M, x.f < x.t) :
  Calls Tryz.prog 91 #[.pointer (some ⟨K, 0, none⟩)] W fun e w' => ∃ u fp' M1, e = .returned u ∧ Row 79 4 Pn.cs W.heap.size w' u (srt M1) ∧ KA w' K tK rest s kd size slide a fp' M1 [] (.slice none 0 0) g d ∧ FT (FK K av fp) (FK K (.slice none 0 0) fp') W w' ∧ Look kd a M A M1 ∧ ∀ q, u.ownBlock = some q → ¬ FK K (.slice none 0 0) fp' q := by
 have HNN := hide hn
 have HS := hide (settle_any h (by omega) h3)
 clear h hn h3
 go_enter Tryz.func91, Tryz.ntmps91
 go_upto_region 2 with (go_at_call 93; refine HS.out.mono ?_; rintro e w1 ⟨rfl, fp1, M1, k1, t1, l1⟩; have K1 := hide k1; have T1 := hide t1; have L1 := hide l1; clear k1 t1 l1)
 have c0 := K1.out.c0
 have HP := hide (Panes_any K1.out.sa (by have := Look.len (show Look kd a M A M1 from L1.out); have := HNN.out; omega))
 go_wp2_with (go_at_call 96; refine HP.out.mono ?_; rintro e w2 ⟨u, rfl, r2, b2⟩; have R2 := hide r2; have B2 := hide b2; clear r2 b2)
 go_ret
 exact ⟨u, fp1, M1, rfl, R2.out.mono T1.out.size, K1.out.below B2.out, T1.out.trans (FT.of_below B2.out), L1.out, fun q e e2 => by have := R2.out.at q e; have := K1.out.flt q e2; omega⟩
def KlPost (W : World) (K tK : Nat) (rest : List Value) (s : Nat) (kd size slide a : Int) (fp : Nat → Prop) (av : Value) (g d : Int) (L : List Pn) (e : Ending) (w' : World) : Prop :=
 e = .returned (.tuple #[]) ∧ ∃ fp' M1, KA w' K tK rest s kd size slide a fp' M1 [] (.slice none 0 0) g d ∧ FT (FK K av fp) (FK K (.slice none 0 0) fp') W w' ∧ Comes (sess kd) (jn a) L M1
theorem kload_any {W : World} {K tK s : Nat} {rest : List Value} {kd size slide a : Int} {fp : Nat → Prop} {M A : List Pn} {av : Value} {g d : Int} (h : KA W K tK rest s kd size slide a fp M A av g d) {v : Value} {L : List Pn} (hl : LSeg 4 Pn.cs W.heap.size W v L) (hv : ∀ q, v.ownBlock = some q → ¬ fp q ∧ q ≠ K) (ho : ∀ x ∈ L, PnOk x ∧ (kd = 3 → x.f < x.t)) (hn : L.length ≤ 90000) :
  Calls Tryz.prog 89 #[.pointer (some ⟨K, 0, none⟩), v] W (KlPost W K tK rest s kd size slide a fp av g d L) := by
 have c1 := h.c1
 have fr := BoxT.free h.kb
 have h2 := h.setA (A' := []) (av' := .slice none 0 0) (Row.nil _ _ _ _ _) (fun q e => by cases e) (fun x hx => by cases hx) (fun _ => rfl)
 have ht : FT (FK K av fp) (FK K (.slice none 0 0) fp) W (W.setCell ⟨K, 1, none⟩ (.slice none 0 0)) := FT.lose (FT.setFK W K av fp 1 _) (fun i hi => by
  rcases hi with e | e | e
  ·exact .inl e
  ·cases e
  ·exact .inr (.inr e))
 have hl2 : LSeg 4 Pn.cs (W.setCell ⟨K, 1, none⟩ (.slice none 0 0)).heap.size (W.setCell ⟨K, 1, none⟩ (.slice none 0 0)) v L := hl.back' (fun b e => Below.heap_setCell W ⟨K, 1, none⟩ _ b (hv b e).2) (by simp)
 have HLD := hide (Load_any h2.sa hl2 (fun q e => (hv q e).1) ho hn)
 have H2 := hide h2
 have HT := hide ht
 have c0 := h2.c0
 obtain ⟨va, vc, rfl⟩ := hl.shapeOf
 clear h h2 ht hl hl2 hv ho hn
 go_enter Tryz.func89, Tryz.ntmps89
 go_wp2_with (go_at_call 94; refine HLD.out.mono ?_; rintro e w2 ⟨rfl, fp2, M2, s2, t2, c2⟩; have S2 := hide s2; have T2 := hide t2; have C2 := hide c2; clear s2 t2 c2)
 refine bodyPost_ret (v := .tuple #[]) (by simp [results, Tryz.results89, go_sem]) rfl ⟨rfl, fp2, M2, H2.out.turn S2.out T2.out, ?_, C2.out⟩
 exact HT.out.trans (T2.out.fk K (fun i e => .inl e))
theorem klate_any {W : World} {K tK s : Nat} {rest : List Value} {kd size slide a : Int} {fp : Nat → Prop} {M A : List Pn} {av : Value} {g d : Int} (h : KA W K tK rest s kd size slide a fp M A av g d) :
  Calls Tryz.prog 88 #[.pointer (some ⟨K, 0, none⟩)] W fun e w' => e = .returned (.int .i64 d) ∧ w' = W := by
 have c3 := h.c3
 clear h
 go_enter Tryz.func88, Tryz.ntmps88
 go_wp2_with fail
 go_ret
 exact ⟨rfl, rfl⟩
theorem rrecord_any {W : World} {K s : Nat} {a : Int} {fp : Nat → Prop} {M A : List Pn} {av : Value} {g d : Int} (h : KA W K 99 [] s 0 0 0 a fp M A av g d) (ha : 1 ≤ a ∧ a ≤ 5) (rk rt rv : Int) (hrk : In64 rk) (hrv : In64 rv) (ht : TimeOk rt) (hM : M.length ≤ 80000) (hap : Apart false M) :
  Calls Tryz.prog 92 #[.pointer (some ⟨K, 0, none⟩), .agg #[.int .i64 rk, .int .i64 rt, .int .i64 rv]] W fun e w' => e = .returned (.slice none 0 0) ∧ ∃ fp' M', KA w' K 99 [] s 0 0 0 a fp' M' A av g d ∧ FT (FK K av fp) (FK K av fp') W w' ∧ Comes false (jn a) (frS 0 0 0 a ⟨rk, rt, rv⟩ ++ M) M' := by
 have hb1 := below_box W (.cells #[.int .i64 rk, .int .i64 rt, .int .i64 rv] 38)
 obtain ⟨U, hU⟩ : ∃ U, U = W.alloc (.cells #[.int .i64 rk, .int .i64 rt, .int .i64 rv] 38) := ⟨_, rfl⟩
 have hx : BoxT 38 U W.heap.size #[.int .i64 rk, .int .i64 rt, .int .i64 rv] := by rw [hU]; exact BoxT.new 38 W _
 rw [← hU] at hb1
 have hd : Below U.heap.size U U.drew := (Below.refl _ _).drew
 have HB := hide hb1.drew
 have H1 := hide (h.below hb1.drew)
 have XD := hide (hx.below hd)
 have h00 : In64 (0 : Int) := ⟨by decide, by decide⟩
 have HPU := hide (Put_any H1.out.sa h00 h00 ⟨rk, rt, rv⟩ hrk hrv (sps_fit (a := a) ⟨ha.1, ha.2, .inl ⟨rfl, rfl, rfl⟩⟩ ht) (by omega) hap)
 have y0 := H1.out.c0
 obtain ⟨r0, r1, r2⟩ := XD.out.cells3
 have HN : Hid (¬ fp W.heap.size) := (show ¬ _ from fun e => by have := h.sa.flt _ e; omega)
 have HV := hide hU
 clear h hb1 hx hd hU h00 ha ht
 go_enter Tryz.func92, Tryz.ntmps92
 go_upto_region 1 with fail
 refine wp_at (fun V' => V' = U) HV.out.symm ?_
 rintro V' rfl
 clear HV
 go_region_held3 (fun w' => w'.cell? ⟨K, 0, none⟩ = some (.pointer (some ⟨s, 0, none⟩)) ∧ w'.cell? ⟨W.heap.size, 0, none⟩ = some (.int .i64 rk) ∧ w'.cell? ⟨W.heap.size, 1, none⟩ = some (.int .i64 rt) ∧ w'.cell? ⟨W.heap.size, 2, none⟩ = some (.int .i64 rv)) (first | go_keep | exact ⟨y0, r0, r1, r2⟩ | exact ⟨q0, q1, q2, q3⟩)
  (first | (go_at_call 97; refine HPU.out.mono ?_; rintro e w5 ⟨rfl, fp5, M5, s5, t5, c5⟩; have H5 := hide (H1.out.turn s5 t5); have T5 := hide ((FT.of_below (fp := FK K av fp) HB.out).trans (t5.fk K (av := av) (av' := av) (fun i e => .inl e))); have C5 := hide c5; have q0 := H5.out.c0; obtain ⟨q1, q2, q3⟩ := BoxT.cells3 (t := 38) (XD.out.back (t5.block _ XD.out.lt HN.out)); clear s5 t5 c5) | fail)
 go_wp2_with fail
 go_ret
 exact ⟨rfl, fp5, M5, H5.out, T5.out, C5.out⟩
end Go.Proofs.YtpcbhcdpegbfjaaGreat
/-
 A keyed operator by what its panes come to.
-/
namespace Go.Proofs.YtpcbhcdpegbfjaaGreat
open Go.RowKit
structure KI (kd a : Int) (n : Nat) (M A X : List Pn) : Prop where
 cm : Comes (sess kd) (jn a) (M ++ A) X
 ap : Apart (sess kd) M
 ln : M.length + A.length ≤ n
 f3 : kd = 3 → ∀ x ∈ M, x.f < x.t
 a2 : kd ≠ 2 → A = []
def KX (W : World) (K tK : Nat) (rest : List Value) (s : Nat) (kd size slide a : Int) (n : Nat) (F : Nat → Prop) (X : List Pn) (g d : Int) : Prop :=
 ∃ fp M A av, KA W K tK rest s kd size slide a fp M A av g d ∧ KI kd a n M A X ∧ ∀ i, F i ↔ FK K av fp i
section
variable {W W' : World} {K tK s n : Nat} {rest : List Value} {kd size slide a : Int} {F F' : Nat → Prop} {X X' : List Pn} {g d : Int}
theorem KX.below (h : KX W K tK rest s kd size slide a n F X g d) (hb : Below W.heap.size W W') : KX W' K tK rest s kd size slide a n F X g d := by
 obtain ⟨fp, M, A, av, h1, h2, h3⟩ := h
 exact ⟨fp, M, A, av, h1.below hb, h2, h3⟩
theorem KX.flt (h : KX W K tK rest s kd size slide a n F X g d) : ∀ i, F i → i < W.heap.size := fun i hi => by
 obtain ⟨fp, M, A, av, h1, h2, h3⟩ := h
 exact h1.flt i ((h3 i).1 hi)
theorem KX.more {n' : Nat} (h : KX W K tK rest s kd size slide a n F X g d) (hn : n ≤ n') : KX W K tK rest s kd size slide a n' F X g d := by
 obtain ⟨fp, M, A, av, h1, h2, h3⟩ := h
 exact ⟨fp, M, A, av, h1, ⟨h2.cm, h2.ap, by have := h2.ln; omega, h2.f3, h2.a2⟩, h3⟩
theorem KA.beside {fp : Nat → Prop} {M A : List Pn} {av : Value} (h : KA W K tK rest s kd size slide a fp M A av g d) (hb : ∀ i, FK K av fp i → W'.heap[i]? = W.heap[i]?) (hs : W.heap.size ≤ W'.heap.size) : KA W' K tK rest s kd size slide a fp M A av g d :=
 ⟨h.kb.back' (hb K (.inl rfl)), h.tk, h.sa.back (fun i hi => hb i (.inr (.inr hi))) hs, h.row.back (fun q e => hb q (.inr (.inl e))), h.nk, h.na, h.ok, h.az⟩
theorem KX.beside (h : KX W K tK rest s kd size slide a n F X g d) (hb : ∀ i, F i → W'.heap[i]? = W.heap[i]?) (hs : W.heap.size ≤ W'.heap.size) : KX W' K tK rest s kd size slide a n F X g d := by
 obtain ⟨fp, M, A, av, h1, h2, h3⟩ := h
 exact ⟨fp, M, A, av, h1.beside (fun i hi => hb i ((h3 i).2 hi)) hs, h2, h3⟩
theorem KX.len (h : KX W K tK rest s kd size slide a n F X g d) : X.length ≤ n := by
 obtain ⟨fp, M, A, av, h1, h2, h3⟩ := h
 have := h2.cm.1.len
 have := h2.ln
 simp at *
 omega
theorem KX.apart (h : KX W K tK rest s kd size slide a n F X g d) : Apart (sess kd) X := by
 obtain ⟨fp, M, A, av, h1, h2, h3⟩ := h
 exact h2.cm.2
theorem KX.perm (h : KX W K tK rest s kd size slide a n F X g d) (hp : X.Perm X') : KX W K tK rest s kd size slide a n F X' g d := by
 obtain ⟨fp, M, A, av, h1, h2, h3⟩ := h
 exact ⟨fp, M, A, av, h1, ⟨h2.cm.perm (.refl _) hp, h2.ap, h2.ln, h2.f3, h2.a2⟩, h3⟩
end
theorem jp_in {a : Int} {x y : Pn} (hx : PnOk x) (hy : PnOk y) : PnOk (jp (jn a) x y) := by
 obtain ⟨k1, f1, t1, a1⟩ := hx
 obtain ⟨k2, f2, t2, a2⟩ := hy
 refine ⟨k1, ?_, ?_, ?_⟩
 ·unfold In64 at *; show _ ≤ min x.f y.f ∧ min x.f y.f ≤ _; omega
 ·unfold In64 at *; show _ ≤ max x.t y.t ∧ max x.t y.t ≤ _; omega
 ·show In64 (jn a x.a y.a)
  exact jn_in a1 a2
theorem KX.okX {W : World} {K tK s n : Nat} {rest : List Value} {kd size slide a : Int} {F : Nat → Prop} {X : List Pn} {g d : Int} (h : KX W K tK rest s kd size slide a n F X g d) : ∀ x ∈ X, PnOk x ∧ (kd = 3 → x.f < x.t) := by
 obtain ⟨fp, M, A, av, h1, h2, h3⟩ := h
 have hM : ∀ x ∈ M, PnOk x := by
  obtain ⟨m, o, fq, R, hst, _⟩ := h1.sa
  exact hst.ok
 have h0 : ∀ x ∈ M ++ A, PnOk x ∧ (kd = 3 → x.f < x.t) := fun x hx => by
  rcases List.mem_append.1 hx with hx | hx
  ·exact ⟨hM x hx, fun e => h2.f3 e x hx⟩
  ·exact h1.ok x hx
 exact h2.cm.1.keeps (P := fun x => PnOk x ∧ (kd = 3 → x.f < x.t)) (fun x y _ hx hy => ⟨jp_in hx.1 hy.1, fun e => by
  have := hx.2 e; have := hy.2 e
  show min x.f y.f < max x.t y.t; omega⟩) h0
theorem KI.look {kd a : Int} {n : Nat} {M A X M1 : List Pn} (h : KI kd a n M A X) (hl : Look kd a M A M1) : M1.Perm X ∧ KI kd a n M1 [] X := by
 have hp := settled h.cm h.ap hl
 refine ⟨hp, ⟨?_, h.cm.2.perm hp.symm, ?_, fun e x hx => ?_, fun _ => rfl⟩⟩
 ·rw [List.append_nil]
  exact (Comes.refl (h.cm.2.perm hp.symm)).perm (.refl _) hp
 ·have := hl.len; have := h.ln; simp; omega
 ·have hA : A = [] := h.a2 (by omega)
  have hx2 := hp.mem_iff.1 hx
  subst hA
  have h2 := h.cm
  rw [List.append_nil] at h2
  exact h.f3 e x ((h2.self h.ap).mem_iff.2 hx2)
theorem xmark {W : World} {K tK s n : Nat} {rest : List Value} {kd size slide a : Int} {F : Nat → Prop} {X : List Pn} {g d : Int} (h : KX W K tK rest s kd size slide a n F X g d) (hn : n ≤ 70000) (m : Int) : Calls Tryz.prog 90 #[.pointer (some ⟨K, 0, none⟩), .int .i64 m] W fun e w' => ∃ u F', e = .returned u ∧ OwnL 38 3 Rc.cs W.heap.size w' u (outG kd g m X) ∧ KX w' K tK rest s kd size slide a n F' (leftG kd g m X) (max g m) d ∧ FT F F' W w' := by
 obtain ⟨fp, M, A, av, h1, h2, h3⟩ := h
 by_cases hm : m ≤ g
 ·refine (kmark_le h1 m hm).mono ?_
  rintro e w' ⟨rfl, rfl⟩
  unfold outG leftG
  rw [if_pos hm, if_pos hm, show max g m = g by omega]
  exact ⟨_, F, rfl, OwnL.nil _ _ _ _ _, ⟨fp, M, A, av, h1, h2, h3⟩, FT.refl _ _⟩
 ·refine (kmark_gt h1 (by have := h2.ln; omega) h2.f3 m hm).mono ?_
  rintro e w' ⟨u, fp', M1, rfl, ho, hk, ht, hl⟩
  obtain ⟨hp, hi⟩ := h2.look hl
  unfold outG leftG
  rw [if_neg hm, if_neg hm, show max g m = m by omega]
  refine ⟨u, FK K (.slice none 0 0) fp', rfl, by rw [← outK_perm hp]; exact ho, ⟨fp', _, [], _, hk, ⟨?_, ?_, ?_, fun e x hx => ?_, fun _ => rfl⟩, fun _ => Iff.rfl⟩, ht.congr h3 (fun _ => Iff.rfl)⟩
  ·rw [List.append_nil]
   exact (Comes.refl (hi.ap.sublist (leftK_sub kd m M1))).perm (.refl _) (leftK_perm hp)
  ·exact hi.ap.sublist (leftK_sub kd m M1)
  ·have h5 := (leftK_sub kd m M1).length_le; have h6 := hi.ln; simp at *; omega
  ·exact hi.f3 e x ((leftK_sub kd m M1).subset hx)
theorem xpanes {W : World} {K tK s n : Nat} {rest : List Value} {kd size slide a : Int} {F : Nat → Prop} {X : List Pn} {g d : Int} (h : KX W K tK rest s kd size slide a n F X g d) (hn : n ≤ 70000) : Calls Tryz.prog 91 #[.pointer (some ⟨K, 0, none⟩)] W fun e w' => ∃ u F', e = .returned u ∧ Row 79 4 Pn.cs W.heap.size w' u (srt X) ∧ KX w' K tK rest s kd size slide a n F' X g d ∧ FT F F' W w' ∧ ∀ q, u.ownBlock = some q → ¬ F' q := by
 obtain ⟨fp, M, A, av, h1, h2, h3⟩ := h
 refine (kpanes_any h1 (by have := h2.ln; omega) h2.f3).mono ?_
 rintro e w' ⟨u, fp', M1, rfl, hr, hk, ht, hl, hq⟩
 obtain ⟨hp, hi⟩ := h2.look hl
 exact ⟨u, FK K (.slice none 0 0) fp', rfl, by rw [← srt_eq hp]; exact hr, ⟨fp', M1, [], _, hk, hi, fun _ => Iff.rfl⟩, ht.congr h3 (fun _ => Iff.rfl), hq⟩
def XlPost (W : World) (K tK : Nat) (rest : List Value) (s : Nat) (kd size slide a : Int) (n : Nat) (F : Nat → Prop) (g d : Int) (L : List Pn) (e : Ending) (w' : World) : Prop :=
 e = .returned (.tuple #[]) ∧ ∃ F' X', KX w' K tK rest s kd size slide a n F' X' g d ∧ FT F F' W w' ∧ Comes (sess kd) (jn a) L X'
theorem xload {W : World} {K tK s n : Nat} {rest : List Value} {kd size slide a : Int} {F : Nat → Prop} {X : List Pn} {g d : Int} (h : KX W K tK rest s kd size slide a n F X g d) {v : Value} {L : List Pn} (hl : LSeg 4 Pn.cs W.heap.size W v L) (hv : ∀ q, v.ownBlock = some q → ¬ F q) (ho : ∀ x ∈ L, PnOk x ∧ (kd = 3 → x.f < x.t)) (hn : L.length ≤ n) (hn2 : n ≤ 70000) : Calls Tryz.prog 89 #[.pointer (some ⟨K, 0, none⟩), v] W (XlPost W K tK rest s kd size slide a n F g d L) := by
 obtain ⟨fp, M, A, av, h1, h2, h3⟩ := h
 refine (kload_any h1 hl (fun q e => ⟨fun e2 => hv q e ((h3 q).2 (.inr (.inr e2))), fun e2 => hv q e ((h3 q).2 (.inl e2))⟩) ho (by omega)).mono ?_
 rintro e w' ⟨rfl, fp', M1, hk, ht, hc⟩
 refine ⟨rfl, FK K (.slice none 0 0) fp', M1, ⟨fp', M1, [], _, hk, ⟨?_, hc.2, ?_, fun e x hx => ?_, fun _ => rfl⟩, fun _ => Iff.rfl⟩, ht.congr h3 (fun _ => Iff.rfl), hc⟩
 ·rw [List.append_nil]; exact Comes.refl hc.2
 ·have := hc.1.len; simp; omega
 ·exact mem_full hc.1 e (fun x hx => (ho x hx).2 e) x hx
theorem xlate {W : World} {K tK s n : Nat} {rest : List Value} {kd size slide a : Int} {F : Nat → Prop} {X : List Pn} {g d : Int} (h : KX W K tK rest s kd size slide a n F X g d) : Calls Tryz.prog 88 #[.pointer (some ⟨K, 0, none⟩)] W fun e w' => e = .returned (.int .i64 d) ∧ w' = W := by
 obtain ⟨fp, M, A, av, h1, h2, h3⟩ := h
 exact klate_any h1
def AllLate (k size slide g t : Int) : Prop := pSpans k size slide t ≠ [] ∧ ∀ sp ∈ pSpans k size slide t, lateB g sp = true
def DNext (k size slide g t d d' : Int) : Prop := (AllLate k size slide g t ∧ d' = wrap64 (d + 1)) ∨ (¬ AllLate k size slide g t ∧ d' = d)
theorem xrecord {W : World} {K s n : Nat} {k size slide a : Int} {F : Nat → Prop} {X : List Pn} {g d : Int} (h : KX W K 102 (wRest k size slide a) s k size slide a n F X g d) (hw : FitW k size slide) (ha : 1 ≤ a ∧ a ≤ 5) (r : Rc) (hrk : In64 r.k) (hrv : In64 r.v) (ht : TimeOk r.t) (hn : n ≤ 70000) :
  Calls Tryz.prog 163 #[.pointer (some ⟨K, 0, none⟩), .agg #[.int .i64 r.k, .int .i64 r.t, .int .i64 r.v]] W fun e w' => e = .returned (.slice none 0 0) ∧ ∃ F' X' d', KX w' K 102 (wRest k size slide a) s k size slide a (n + 64) F' X' g d' ∧ FT F F' W w' ∧ Comes (sess k) (jn a) (FrK k size slide a g r ++ X) X' ∧ DNext k size slide g r.t d d' := by
 obtain ⟨fp, M, A, av, h1, h2, h3⟩ := h
 have hk0 : k ≠ 0 := by have := hw.1; omega
 have hfs : FitS k size slide a := ⟨ha.1, ha.2, .inr hw⟩
 have hs : In64 size := by have := hw.2.2.1; have := hw.2.2.2.1; exact ⟨by omega, by omega⟩
 have hsl : In64 slide := by
  obtain ⟨_, _, _, _, ⟨_, h1, h2, _⟩ | ⟨_, h1⟩⟩ := hw
  ·exact ⟨by omega, by omega⟩
  ·exact ⟨by omega, by omega⟩
 obtain ⟨rk, rt, rv⟩ := r
 simp only at hrk hrv ht ⊢
 have hmix := fun (e1 : ∃ sp ∈ pSpans k size slide rt, lateB g sp = true) (e2 : ∃ sp ∈ pSpans k size slide rt, lateB g sp = false) => mixed_two hw ht e1 e2
 have hop : k = 2 → (leftF g (srt (V.pPut k size slide a [] ⟨rk, rt, rv⟩))).Perm (FrK k size slide a g ⟨rk, rt, rv⟩) := fun e => by
  subst e
  exact open_two (r := ⟨rk, rt, rv⟩) hw ha ht hrv g
 have hfr := frS_ok (r := ⟨rk, rt, rv⟩) hfs hrk hrv ht
 refine (krecord_any h1 hw ha hs hsl rk rt rv hrk hrv ht (by have := h2.ln; omega) h2.ap h2.f3 (fun e1 e2 => ?_)).mono ?_
 ·have hp := hop (hmix e1 e2)
  obtain ⟨sp, hsp, hl⟩ := e2
  refine ⟨fun e => ?_, ?_, fun x hx => hfr x (FrK_mem (hp.mem_iff.1 hx))⟩
  ·rw [e] at hp
   exact FrK_some (a := a) (r := ⟨rk, rt, rv⟩) hk0 hsp hl (List.nil_perm.1 hp)
  ·rw [hp.length_eq]; exact FrK_len ..
 ·rintro e w' ⟨rfl, fp', M', A', av', d', hk, hft, hc⟩
  refine ⟨rfl, FK K av' fp', ?_⟩
  have hFT : FT F (FK K av' fp') W w' := hft.congr h3 (fun _ => Iff.rfl)
  rcases hc with ⟨c1, rfl, rfl, c2⟩ | ⟨rfl, rfl, rfl, c1, c2⟩ | ⟨rfl, e1, e2, c⟩
  ·obtain ⟨X', hX'⟩ := Comes.some (sess k) (jn a) (frS k size slide a ⟨rk, rt, rv⟩ ++ X)
   refine ⟨X', _, ⟨fp', M', A', av', hk, ⟨?_, c1.2, ?_, fun e x hx => ?_, h2.a2⟩, fun _ => Iff.rfl⟩, hFT, by rw [FrK_all hk0 c2]; exact hX', .inr ⟨fun hal => ?_, rfl⟩⟩
   ·have hA := Comes.step h2.cm hX'
    refine Comes.via ?_ hA
    have := c1.1.beside A'
    rw [List.append_assoc] at this
    exact this
   ·have h5 := c1.1.len; have h6 := frS_len k size slide a ⟨rk, rt, rv⟩; have h7 := h2.ln
    simp at h5; omega
   ·refine mem_full c1.1 e (fun x hx => ?_) x hx
    rcases List.mem_append.1 hx with hx | hx
    ·exact (hfr x hx).2 e
    ·exact h2.f3 e x hx
   ·obtain ⟨hne, hall⟩ := hal
    obtain ⟨sp, hsp⟩ := List.exists_mem_of_ne_nil _ hne
    have := hall sp hsp
    rw [c2 sp hsp] at this
    cases this
  ·refine ⟨X, wrap64 (d + 1), ⟨fp', M', A', av', hk, ⟨h2.cm, h2.ap, by have := h2.ln; omega, h2.f3, h2.a2⟩, fun _ => Iff.rfl⟩, hFT, ?_, .inl ⟨⟨c1, c2⟩, rfl⟩⟩
   rw [FrK_none hk0 c2]
   exact Comes.refl h2.cm.2
  ·have hk2 := hmix e1 e2
   have hp := hop hk2
   generalize leftF g (srt (V.pPut k size slide a [] ⟨rk, rt, rv⟩)) = L at *
   obtain ⟨X', hX'⟩ := Comes.some (sess k) (jn a) (FrK k size slide a g ⟨rk, rt, rv⟩ ++ X)
   have hA : Comes (sess k) (jn a) (M ++ (A ++ L)) X' := by
    refine (Comes.step h2.cm hX').perm ?_ (.refl _)
    have h9 : (FrK k size slide a g ⟨rk, rt, rv⟩ ++ (M ++ A)).Perm ((M ++ A) ++ L) := List.perm_append_comm.trans (hp.symm.append_left _)
    rw [List.append_assoc] at h9
    exact h9
   have hLl : L.length ≤ 64 := by rw [hp.length_eq]; exact FrK_len ..
   have hD : DNext k size slide g rt d' d' := .inr ⟨(fun hal => by
    obtain ⟨sp, hsp, hl⟩ := e2
    have := hal.2 sp hsp
    rw [hl] at this
    cases this), rfl⟩
   rcases c with ⟨rfl, rfl⟩ | ⟨rfl, c⟩
   ·refine ⟨X', d', ⟨fp', M', _, av', hk, ⟨hA, h2.ap, ?_, h2.f3, fun e => absurd hk2 e⟩, fun _ => Iff.rfl⟩, hFT, hX', hD⟩
    have := h2.ln; simp; omega
   ·refine ⟨X', d', ⟨fp', M', [], av', hk, ⟨?_, c.2, ?_, fun e => by omega, fun _ => rfl⟩, fun _ => Iff.rfl⟩, hFT, hX', hD⟩
    ·rw [List.append_nil]
     refine Comes.via ?_ (hA.perm ((srt_perm M).symm.append (.refl _)) (.refl _))
     exact c.1
    ·have h5 := c.1.len; have h7 := h2.ln
     simp [srt_len] at h5 ⊢; omega
theorem xrecordR {W : World} {K s n : Nat} {a : Int} {F : Nat → Prop} {X : List Pn} {g d : Int} (h : KX W K 99 [] s 0 0 0 a n F X g d) (ha : 1 ≤ a ∧ a ≤ 5) (r : Rc) (hrk : In64 r.k) (hrv : In64 r.v) (ht : TimeOk r.t) (hn : n ≤ 70000) :
  Calls Tryz.prog 92 #[.pointer (some ⟨K, 0, none⟩), .agg #[.int .i64 r.k, .int .i64 r.t, .int .i64 r.v]] W fun e w' => e = .returned (.slice none 0 0) ∧ ∃ F' X', KX w' K 99 [] s 0 0 0 a (n + 64) F' X' g d ∧ FT F F' W w' ∧ Comes false (jn a) (frS 0 0 0 a r ++ X) X' := by
 obtain ⟨fp, M, A, av, h1, h2, h3⟩ := h
 have hA := h2.a2 (by omega)
 subst hA
 obtain ⟨rk, rt, rv⟩ := r
 simp only at hrk hrv ht ⊢
 refine (rrecord_any h1 ha rk rt rv hrk hrv ht (by have := h2.ln; omega) h2.ap).mono ?_
 rintro e w' ⟨rfl, fp', M', hk, hft, hc⟩
 obtain ⟨X', hX'⟩ := Comes.some false (jn a) (frS 0 0 0 a ⟨rk, rt, rv⟩ ++ X)
 refine ⟨rfl, FK K av fp', X', ⟨fp', M', [], av, hk, ⟨?_, hc.2, ?_, fun e => by omega, fun _ => rfl⟩, fun _ => Iff.rfl⟩, hft.congr h3 (fun _ => Iff.rfl), hX'⟩
 ·rw [List.append_nil]
  have hcm := h2.cm
  rw [List.append_nil] at hcm
  exact Comes.via hc.1 (Comes.step hcm hX')
 ·have h5 := hc.1.len; have h6 := frS_len 0 0 0 a ⟨rk, rt, rv⟩; have h7 := h2.ln
  simp at h5 h7 ⊢; omega
end Go.Proofs.YtpcbhcdpegbfjaaGreat
/-
 New of a window.
-/
namespace Go.Proofs.YtpcbhcdpegbfjaaGreat
set_option maxHeartbeats 16000000
set_option maxRecDepth 100000
open Go.RowKit
theorem BoxT.all10 {t : TypeId} {w : World} {k : Nat} {c0 c1 c2 c3 c4 c5 c6 c7 c8 c9 : Value} (h : BoxT t w k #[c0, c1, c2, c3, c4, c5, c6, c7, c8, c9]) :
  w.cell? ⟨k, 0, none⟩ = some c0 ∧ w.cell? ⟨k, 1, none⟩ = some c1 ∧ w.cell? ⟨k, 2, none⟩ = some c2 ∧ w.cell? ⟨k, 3, none⟩ = some c3 ∧ w.cell? ⟨k, 4, none⟩ = some c4 ∧ w.cell? ⟨k, 5, none⟩ = some c5 ∧ w.cell? ⟨k, 6, none⟩ = some c6 ∧ w.cell? ⟨k, 7, none⟩ = some c7 ∧ w.cell? ⟨k, 8, none⟩ = some c8 ∧ w.cell? ⟨k, 9, none⟩ = some c9 := by
 unfold BoxT at h
 simp [World.cell?, h]
theorem newKeyed_any (w : World) (s : Nat) : Calls Tryz.prog 38 #[.pointer (some ⟨s, 0, none⟩)] w fun e w' => e = .returned (.agg #[.pointer (some ⟨s, 0, none⟩), .slice none 0 0, .int .i64 (-9223372036854775808), .int .i64 0]) ∧ Below w.heap.size w w' := by
 go_enter Tryz.func38, Tryz.ntmps38
 go_wp2_with fail
 exact bodyPost_ret (v := .agg #[.pointer (some ⟨s, 0, none⟩), .slice none 0 0, .int .i64 (-9223372036854775808), .int .i64 0]) (by simp [results, Tryz.results38, go_sem]) rfl ⟨rfl, below_box w _⟩
def NwPost (w : World) (k size slide a : Int) (e : Ending) (w' : World) : Prop := ∃ K s fp, e = .returned (.iface 100 (.pointer (some ⟨K, 0, none⟩))) ∧ BoxT 102 w' K #[.pointer (some ⟨s, 0, none⟩), .slice none 0 0, .int .i64 (-9223372036854775808), .int .i64 0, .int .i64 k, .int .i64 size, .int .i64 slide, .int .i64 a] ∧ SA w' s k size slide a fp [] ∧ (∀ i, fp i → w.heap.size ≤ i) ∧ w.heap.size ≤ K ∧ ¬ fp K ∧ Below w.heap.size w w'
theorem opOf_win (w : World) (ia : Option Addr) (il ic : Nat) (par op nn : Int) (ea : Option Addr) (el ec : Nat) (k size slide a : Int) :
  Calls Tryz.prog 27 #[.agg #[.int .i64 7, .slice ia il ic, .int .i64 par, .int .i64 op, .int .i64 nn, .slice ea el ec, .int .i64 a, .int .i64 k, .int .i64 size, .int .i64 slide]] w (NwPost w k size slide a) := by
 have HX := hide (BoxT.new 29 w #[.int .i64 7, .slice ia il ic, .int .i64 par, .int .i64 op, .int .i64 nn, .slice ea el ec, .int .i64 a, .int .i64 k, .int .i64 size, .int .i64 slide])
 have HB := hide (below_box w (.cells #[.int .i64 7, .slice ia il ic, .int .i64 par, .int .i64 op, .int .i64 nn, .slice ea el ec, .int .i64 a, .int .i64 k, .int .i64 size, .int .i64 slide] 29))
 go_enter Tryz.func27, Tryz.ntmps27
 go_upto_region 15 with fail
 refine wp_at (fun V => BoxT 29 V w.heap.size _ ∧ Below w.heap.size w V) ⟨HX.out, HB.out⟩ ?_
 clear HX HB
 rintro V ⟨XV, BV⟩
 have HXD := hide (XV.below (show Below V.heap.size V V.drew from (Below.refl _ _).drew))
 have HBD := hide BV.drew
 obtain ⟨_, _, _, _, _, _, y6, y7, y8, y9⟩ := HXD.out.all10
 have HN := hide (New_any V.drew k size slide a)
 clear XV BV
 go_region_held3 (fun w' => w'.cell? ⟨w.heap.size, 6, none⟩ = some (.int .i64 a) ∧ w'.cell? ⟨w.heap.size, 7, none⟩ = some (.int .i64 k) ∧ w'.cell? ⟨w.heap.size, 8, none⟩ = some (.int .i64 size) ∧ w'.cell? ⟨w.heap.size, 9, none⟩ = some (.int .i64 slide)) (first | go_keep | exact ⟨y6, y7, y8, y9⟩ | exact ⟨z6, z7, z8, z9⟩ | exact ⟨q6, q7, q8, q9⟩)
  (first
  | (go_at_call 39; refine HN.out.mono ?_; rintro e w2 ⟨s, fp, rfl, s2, f2, b2⟩; have HX2 := hide (HXD.out.below b2); obtain ⟨_, _, _, _, _, _, z6, z7, z8, z9⟩ := HX2.out.all10; have S2 := hide s2; have F2 := hide f2; have HB2 := hide (HBD.out.trans (b2.mono HBD.out.size)); clear s2 f2 b2)
  | (go_at_call 38; refine (newKeyed_any _ _).mono ?_; rintro e w3 ⟨rfl, b3⟩; obtain ⟨_, _, _, _, _, _, q6, q7, q8, q9⟩ := (HX2.out.below b3).all10; have S3 := hide (S2.out.below b3); have HB3 := hide (HB2.out.trans (b3.mono HB2.out.size)); clear b3)
  | fail)
 go_wp2_with fail
 go_ret
 have hb4 := below_box w3 (.cells #[.pointer (some ⟨s, 0, none⟩), .slice none 0 0, .int .i64 (-9223372036854775808), .int .i64 0, .int .i64 k, .int .i64 size, .int .i64 slide, .int .i64 a] 102)
 exact ⟨w3.heap.size, s, fp, rfl, BoxT.new 102 w3 _, S3.out.below hb4, fun i hi => Nat.le_trans HBD.out.size (F2.out i hi), HB3.out.size, fun e => by have := S3.out.flt _ e; omega, HB3.out.trans (hb4.mono HB3.out.size)⟩
theorem New_win (w : World) (ia : Option Addr) (il ic : Nat) (par op nn : Int) (ea : Option Addr) (el ec : Nat) (k size slide a : Int) :
  Calls Tryz.prog 10 #[.agg #[.int .i64 7, .slice ia il ic, .int .i64 par, .int .i64 op, .int .i64 nn, .slice ea el ec, .int .i64 a, .int .i64 k, .int .i64 size, .int .i64 slide]] w fun e w' => ∃ O K s fp, e = .returned (.pointer (some ⟨O, 0, none⟩)) ∧ OW w' O K s k size slide a fp [] (-9223372036854775808) 0 ∧ (∀ i, FO O K fp i → w.heap.size ≤ i) ∧ Below w.heap.size w w' := by
 have HX := hide (BoxT.new 29 w #[.int .i64 7, .slice ia il ic, .int .i64 par, .int .i64 op, .int .i64 nn, .slice ea el ec, .int .i64 a, .int .i64 k, .int .i64 size, .int .i64 slide])
 have HB := hide (below_box w (.cells #[.int .i64 7, .slice ia il ic, .int .i64 par, .int .i64 op, .int .i64 nn, .slice ea el ec, .int .i64 a, .int .i64 k, .int .i64 size, .int .i64 slide] 29))
 have HO := hide (fun W => opOf_win W ia il ic par op nn ea el ec k size slide a)
 go_enter Tryz.func10, Tryz.ntmps10
 go_wp2_with (go_at_call 27; refine (HO.out _).mono ?_; rintro e w2 ⟨K, s, fp, rfl, k2, s2, f2, g2, n2, b2⟩; have K2 := hide k2; have S2 := hide s2; have F2 := hide (And.intro f2 (And.intro g2 n2)); have B2 := hide (HB.out.trans (b2.mono HB.out.size)); clear k2 s2 f2 g2 n2 b2)
 go_ret
 have hb4 := below_box w2 (.cells #[.iface 100 (.pointer (some ⟨K, 0, none⟩))] 68)
 have hz := HB.out.size
 refine ⟨w2.heap.size, K, s, fp, rfl, ⟨BoxT.new 68 w2 _, K2.out.below hb4, S2.out.below hb4, fun e => by have := S2.out.flt _ e; omega, F2.out.2.2⟩, fun i hi => ?_, B2.out.trans (hb4.mono B2.out.size)⟩
 rcases hi with rfl | rfl | hi
 ·exact B2.out.size
 ·exact Nat.le_trans hz F2.out.2.1
 ·exact Nat.le_trans hz (F2.out.1 i hi)
end Go.Proofs.YtpcbhcdpegbfjaaGreat
