/-
  Texts in build order: OLay, OKrec, OPure.
-/
import Derived.Test.YtpcbhcdpegbfjaaGreatM13
import Derived.Test.YtpcbhcdpegbfjaaGreatM17
/-
  lay and open.
-/
namespace Go.Proofs.YtpcbhcdpegbfjaaGreat
open Go.RowKit


section
variable {W W' : World} {K tK s : Nat} {rest : List Value} {kd size slide a : Int} {fp fp' : Nat → Prop} {M M' A : List Pn} {av : Value} {g d : Int}
theorem KA.app (h : KA W K tK rest s kd size slide a fp M A av g d) {w1 : World} {v1 : Value} {L : List Pn} (r1 : Row 79 4 Pn.cs 0 w1 v1 (A ++ L)) (g1 : W.grownBy w1 av.ownBlock) (q1 : ∀ q, v1.ownBlock = some q → av.ownBlock = some q ∨ W.heap.size ≤ q) (hL : L ≠ []) (ho : ∀ x ∈ L, PnOk x ∧ (kd = 3 → x.f < x.t)) :
    BoxT tK w1 K (Value.pointer (some ⟨s, 0, none⟩) :: av :: .int .i64 g :: .int .i64 d :: rest).toArray ∧ KA (w1.setCell ⟨K, 1, none⟩ v1) K tK rest s kd size slide a fp M (A ++ L) v1 g d ∧ FT (FK K av fp) (FK K v1 fp) W (w1.setCell ⟨K, 1, none⟩ v1) := by
  have hk := h.kb.lt
  have hbl : ∀ i, i < W.heap.size → av.ownBlock ≠ some i → w1.heap[i]? = W.heap[i]? := fun i hi hn => g1.block i hi (fun e => hn e.symm)
  have hkb : BoxT tK w1 K (Value.pointer (some ⟨s, 0, none⟩) :: av :: .int .i64 g :: .int .i64 d :: rest).toArray := h.kb.back' (hbl K hk (fun e => h.nq K e rfl))
  have hsa : SA w1 s kd size slide a fp M := h.sa.back (fun i hi => hbl i (h.sa.flt i hi) (fun e => h.na i e hi)) g1.size
  have hnv : ∀ q, v1.ownBlock = some q → ¬ fp q := fun q e e2 => by
    rcases q1 q e with e3 | e3
    · exact h.na q e3 e2
    · have := h.sa.flt q e2; omega
  refine ⟨hkb, ⟨?_, h.tk, hsa.setK h.nk _ _, r1.back (fun q e => Below.heap_setCell w1 ⟨K, 1, none⟩ _ q (?_ : q ≠ K)), h.nk, hnv, fun x hx => ?_, fun e => ?_⟩, ?_⟩
  · have h1 := BoxT.set hkb 1 v1
    simpa using h1
  · rcases q1 q e with e3 | e3
    · exact h.nq q e3
    · omega
  · rcases List.mem_append.1 hx with hx | hx
    · exact h.ok x hx
    · exact ho x hx
  · exact absurd (List.append_eq_nil_iff.1 e).2 hL
  · refine ⟨g1.os, g1.tape, g1.output, by simp; exact g1.size, fun i hi hn => ?_, fun i hi => ?_⟩
    · rw [Below.heap_setCell w1 ⟨K, 1, none⟩ _ i (fun e => hn (.inl e))]
      exact hbl i hi (fun e => hn (.inr (.inl e)))
    · rcases hi with e | e | e
      · exact .inl (.inl e)
      · rcases q1 i e with e3 | e3
        · exact .inl (.inr (.inl e3))
        · exact .inr e3
      · exact .inl (.inr (.inr e))
end
def LyPost (W : World) (K tK : Nat) (rest : List Value) (s : Nat) (kd size slide a : Int) (fp : Nat → Prop) (M A L : List Pn) (av : Value) (g d : Int) (e : Ending) (w' : World) : Prop :=
  e = .returned (.tuple #[]) ∧ ∃ fp' M' A' av', KA w' K tK rest s kd size slide a fp' M' A' av' g d ∧ FT (FK K av fp) (FK K av' fp') W w' ∧ ((M' = M ∧ A' = A ++ L) ∨ (A' = [] ∧ Comes (sess kd) (jn a) (srt M ++ (A ++ L)) M'))
set_option maxHeartbeats 4000000 in
set_option maxRecDepth 100000 in
theorem klay_any {W : World} {K tK s : Nat} {rest : List Value} {kd size slide a : Int} {fp : Nat → Prop} {M A L : List Pn} {av v : Value} {g d : Int} (h : KA W K tK rest s kd size slide a fp M A av g d) (hl : LSeg 4 Pn.cs W.heap.size W v L) (hL : L ≠ []) (ho : ∀ x ∈ L, PnOk x ∧ (kd = 3 → x.f < x.t)) (hn : M.length + (A.length + L.length) ≤ 90000) (hM : kd = 3 → ∀ x ∈ M, x.f < x.t) :
    Calls Tryz.prog 165 #[.pointer (some ⟨K, 0, none⟩), v] W (LyPost W K tK rest s kd size slide a fp M A L av g d) := by
  have c1 := h.c1
  have H := hide h
  have HS := hide hl
  have HL := hide hL
  have HO := hide ho
  have HNN := hide hn
  have HM := hide hM
  clear h hl hL ho hn hM
  go_enter Tryz.func165, Tryz.ntmps165
  go_wp2_with (first | (at_builtin; refine app_rowS rfl _ _ rfl 0 av A rfl H.out.row _ v L rfl HS.out (by have := HNN.out; omega) (Nat.zero_le _) ?_; intro v1 w1 r1 g1 q1; obtain ⟨va, vc, hv1⟩ := r1.shape; rw [List.length_append] at hv1; subst hv1; have HAP := hide (H.out.app r1 g1 q1 HL.out HO.out); have k1 := HAP.out.1.cellAt 1; have fr := HAP.out.1.free; simp only [List.getElem?_toArray, List.getElem?_cons_succ, List.getElem?_cons_zero] at k1; clear r1 g1 q1))
  have HK1 := hide HAP.out.2.1
  have HT1 := hide HAP.out.2.2
  clear HAP k1 fr c1 HS H
  generalize w1.setCell ⟨K, 1, none⟩ (.slice va (A.length + L.length) vc) = V at *
  have hd : Below V.heap.size V V.drew := (Below.refl _ _).drew
  have HD := hide (HK1.out.below hd)
  have HTD := hide (HT1.out.drew)
  have y0 := HD.out.c0
  have y1 := HD.out.c1
  have HLE := hide (Len_any HD.out.sa)
  have HST := hide (settle_any HD.out (by have := HNN.out; rw [List.length_append]; omega) HM.out)
  clear hd
  generalize hAL : A.length + L.length = al at *
  clear hAL
  by_cases hgt : M.length < al
  · have bg : (M.length : Int) < (al : Int) := by omega
    go_region_held3 (fun w' => w'.cell? ⟨K, 0, none⟩ = some (.pointer (some ⟨s, 0, none⟩)) ∧ w'.cell? ⟨K, 1, none⟩ = some (.slice va al vc)) (first | go_keep | exact ⟨y0, y1⟩)
      (first | (go_at_call 162; refine HLE.out.mono ?_; rintro e w5 ⟨rfl, e5⟩; have e6 := e5.symm; subst e6) | fail)
    go_wp2_with (go_at_call 93; refine HST.out.mono ?_; rintro e w6 ⟨rfl, fp6, M6, k6, t6, c6⟩; have K6 := hide k6; have T6 := hide t6; have C6 := hide c6; clear k6 t6 c6)
    refine bodyPost_ret (v := .tuple #[]) (by simp [results, Tryz.results165, go_sem]) rfl ⟨rfl, fp6, M6, [], _, K6.out, HTD.out.trans T6.out, .inr ⟨rfl, ?_⟩⟩
    rcases C6.out with ⟨e, _⟩ | c
    · exact absurd (List.append_eq_nil_iff.1 e).2 HL.out
    · exact c
  · have bg : ¬ (M.length : Int) < (al : Int) := by omega
    go_region_held3 (fun w' => w'.cell? ⟨K, 0, none⟩ = some (.pointer (some ⟨s, 0, none⟩)) ∧ w'.cell? ⟨K, 1, none⟩ = some (.slice va al vc)) (first | go_keep | exact ⟨y0, y1⟩)
      (first | (go_at_call 162; refine HLE.out.mono ?_; rintro e w5 ⟨rfl, e5⟩; have e6 := e5.symm; subst e6) | fail)
    go_wp2_with fail
    exact bodyPost_ret (v := .tuple #[]) (by simp [results, Tryz.results165, go_sem]) rfl ⟨rfl, fp, M, A ++ L, _, HD.out, HTD.out, .inl ⟨rfl, rfl⟩⟩
def wRest (k size slide a : Int) : List Value := [.int .i64 k, .int .i64 size, .int .i64 slide, .int .i64 a]
theorem KA.own {W : World} {K s : Nat} {k size slide a : Int} {fp : Nat → Prop} {M A : List Pn} {av : Value} {g d : Int} (h : KA W K 102 (wRest k size slide a) s k size slide a fp M A av g d) : W.cell? ⟨K, 2, none⟩ = some (.int .i64 g) ∧ W.cell? ⟨K, 4, none⟩ = some (.int .i64 k) ∧ W.cell? ⟨K, 5, none⟩ = some (.int .i64 size) ∧ W.cell? ⟨K, 6, none⟩ = some (.int .i64 slide) ∧ W.cell? ⟨K, 7, none⟩ = some (.int .i64 a) :=
  ⟨h.kb.cellAt 2, h.kb.cellAt 4, h.kb.cellAt 5, h.kb.cellAt 6, h.kb.cellAt 7⟩
set_option maxHeartbeats 4000000 in
set_option maxRecDepth 100000 in
theorem open_any {W : World} {K s : Nat} {k size slide a : Int} {fp : Nat → Prop} {M A : List Pn} {av : Value} {g d : Int} (h : KA W K 102 (wRest k size slide a) s k size slide a fp M A av g d) (hs : In64 size) (hsl : In64 slide) (rk rt rv : Int) :
    Calls Tryz.prog 166 #[.pointer (some ⟨K, 0, none⟩), .agg #[.int .i64 rk, .int .i64 rt, .int .i64 rv]] W fun e w' => ∃ u, e = .returned u ∧ OwnL 79 4 Pn.cs W.heap.size w' u (leftF g (srt (V.pPut k size slide a [] ⟨rk, rt, rv⟩))) ∧ Below W.heap.size W w' := by
  have hb1 := below_box W (.cells #[.int .i64 rk, .int .i64 rt, .int .i64 rv] 38)
  obtain ⟨U, hV⟩ : ∃ U, U = W.alloc (.cells #[.int .i64 rk, .int .i64 rt, .int .i64 rv] 38) := ⟨_, rfl⟩
  have hx : BoxT 38 U W.heap.size #[.int .i64 rk, .int .i64 rt, .int .i64 rv] := by rw [hV]; exact BoxT.new 38 W _
  rw [← hV] at hb1
  have hd : Below U.heap.size U U.drew := (Below.refl _ _).drew
  have HB := hide (hb1.drew)
  have HD := hide (h.below hb1.drew)
  have XD := hide (hx.below hd)
  have HPU := hide (fun w' => V.Put_any (w := w') (LSeg.nil' 4 Pn.cs w'.heap.size w') (by simp) k hs hsl a ⟨rk, rt, rv⟩)
  have hpl := V.pPut_len k size slide a [] ⟨rk, rt, rv⟩
  simp only [Rc.val] at HPU
  obtain ⟨y2, y4, y5, y6, y7⟩ := HD.out.own
  obtain ⟨r0, r1, r2⟩ := XD.out.cells3
  have HPL := hide (show (V.pPut k size slide a [] ⟨rk, rt, rv⟩).length ≤ 64 by simpa using hpl)
  generalize V.pPut k size slide a [] ⟨rk, rt, rv⟩ = P at *
  have HV := hide hV
  clear h hb1 hx hd hV hpl
  go_enter Tryz.func166, Tryz.ntmps166
  go_upto_region 1 with fail
  refine wp_at (fun V' => V' = U) HV.out.symm ?_
  rintro V' rfl
  clear HV
  go_region_held3 (fun w' => (w'.cell? ⟨K, 2, none⟩ = some (.int .i64 g) ∧ w'.cell? ⟨K, 4, none⟩ = some (.int .i64 k) ∧ w'.cell? ⟨K, 5, none⟩ = some (.int .i64 size) ∧ w'.cell? ⟨K, 6, none⟩ = some (.int .i64 slide) ∧ w'.cell? ⟨K, 7, none⟩ = some (.int .i64 a)) ∧ w'.cell? ⟨W.heap.size, 0, none⟩ = some (.int .i64 rk) ∧ w'.cell? ⟨W.heap.size, 1, none⟩ = some (.int .i64 rt) ∧ w'.cell? ⟨W.heap.size, 2, none⟩ = some (.int .i64 rv)) (first | go_keep | exact ⟨⟨y2, y4, y5, y6, y7⟩, r0, r1, r2⟩ | exact ⟨⟨z2, z4, z5, z6, z7⟩, s0, s1, s2⟩ | exact ⟨⟨p2, p4, p5, p6, p7⟩, t0, t1, t2⟩)
    (first
    | (go_at_call 167; refine (HPU.out _).mono ?_; rintro e w2 ⟨u, rfl, o2, b2⟩; have B2 := hide (HB.out.trans (b2.mono HB.out.size)); have H2 := hide (HD.out.below b2); have X2 := hide (XD.out.below b2); obtain ⟨z2, z4, z5, z6, z7⟩ := H2.out.own; obtain ⟨s0, s1, s2⟩ := X2.out.cells3; have HFI := hide (Fire_any (o2.seg Pn.cs_len (by have := HPL.out; omega)) (by have := HPL.out; omega) g); clear o2 b2)
    | (go_at_call 106; refine HFI.out.mono ?_; rintro e w3 ⟨u1, u2, rfl, f1, f2, b3⟩; have B3 := hide (B2.out.trans (b3.mono B2.out.size)); have O3 := hide (f2.mono B2.out.size); obtain ⟨p2, p4, p5, p6, p7⟩ := (H2.out.below b3).own; obtain ⟨t0, t1, t2⟩ := (X2.out.below b3).cells3; clear f1 f2 b3)
    | fail)
  go_wp2_with fail
  go_ret
  exact ⟨u2, rfl, O3.out, B3.out⟩

end Go.Proofs.YtpcbhcdpegbfjaaGreat
/-
  A window's record, whatever of it is late.
-/
namespace Go.Proofs.YtpcbhcdpegbfjaaGreat
open Go.RowKit

set_option maxHeartbeats 4000000 in
set_option maxRecDepth 100000 in
theorem kended_any {W : World} {K s : Nat} {k size slide a : Int} {fp : Nat → Prop} {M A : List Pn} {av : Value} {g d : Int} (h : KA W K 102 (wRest k size slide a) s k size slide a fp M A av g d) {v : Value} {ss : List Sp} (hs : LSeg 2 Sp.cs W.heap.size W v ss) (hn : ss.length ≤ 1000) :
    Calls Tryz.prog 164 #[.pointer (some ⟨K, 0, none⟩), v] W fun e w' => e = .returned (.int .i64 (ss.countP (lateB g) : Nat)) ∧ Below W.heap.size W w' := by
  obtain ⟨ao, cap, rfl⟩ := hs.shapeOf
  have H := hide h
  have HS := hide hs
  clear h hs
  go_enter Tryz.func164, Tryz.ntmps164
  go_wp2_with fail
  go_loopg [5, 7, 10] (ss.length + 1) (fun gh nv _ iv wr => ∃ i : Nat, iv = .int .i64 (i : Int) ∧ nv = .int .i64 ((ss.take i).countP (lateB g) : Nat) ∧ i ≤ ss.length ∧ ss.length + 1 ≤ gh + i ∧ Hid (Below W.heap.size W wr))
  case atStart => exact ⟨0, rfl, rfl, by omega, by omega, Below.refl _ _⟩
  case round =>
    obtain ⟨i, rfl, rfl, hi, hg, HD⟩ := hrel
    obtain ⟨go, rfl⟩ : ∃ go, gk = go + 1 := ⟨gk - 1, by omega⟩
    by_cases hlt : i < ss.length
    · obtain ⟨x, hx⟩ := get_of_lt hlt
      have bt : (i : Int) < (ss.length : Int) := by omega
      obtain ⟨nb, no, rfl, _, e0, e1⟩ := (HS.out.below HD.out).span hx
      have hlx : ss[i] = x := by rw [List.getElem?_eq_getElem hlt] at hx; exact Option.some.inj hx
      have HC : Hid ((ss.take (i + 1)).countP (lateB g) = (ss.take i).countP (lateB g) + (if wrap64 (x.t - 1) ≤ g then 1 else 0)) := (show _ = _ by
        rw [List.take_succ_eq_append_getElem hlt, List.countP_append, hlx, List.countP_cons, List.countP_nil]
        unfold lateB
        by_cases h : wrap64 (x.t - 1) ≤ g <;> simp [h])
      have hcl : (ss.take i).countP (lateB g) ≤ 1000 := Nat.le_trans List.countP_le_length (by rw [List.length_take]; omega)
      obtain ⟨xf, xt⟩ := x
      simp only at e0 e1 HC
      clear hx hlx
      generalize (ss.take i).countP (lateB g) = cn at *
      have HB2 := hide (HD.out.trans ((below_box wr (.cells #[.int .i64 xf, .int .i64 xt] 72)).mono HD.out.size))
      have HXB := hide (BoxT.new 72 wr #[.int .i64 xf, .int .i64 xt])
      have ck : ∀ n, ((wr.alloc (.cells #[.int .i64 xf, .int .i64 xt] 72)).drewN n).cell? ⟨K, 2, none⟩ = some (.int .i64 g) := fun n => (H.out.below HB2.out).c2
      by_cases hg2 : wrap64 (xt - 1) ≤ g
      · rw [if_pos hg2] at HC
        go_wp2_with fail
        go_quiet (fail)
        go_wp2_with fail
        go_roundg go
        case rel => exact ⟨i + 1, by go_num, by rw [HC.out]; go_num, by omega, by omega, below_drewN HB2.out _⟩
        case measure => omega
      · rw [if_neg hg2] at HC
        go_wp2_with fail
        go_quiet (fail)
        go_wp2_with fail
        go_roundg go
        case rel => exact ⟨i + 1, by go_num, by rw [HC.out, Nat.add_zero], by omega, by omega, below_drewN HB2.out _⟩
        case measure => omega
    · have bt : ¬ (i : Int) < (ss.length : Int) := by omega
      have hcn : (ss.take i).countP (lateB g) = ss.countP (lateB g) := by rw [List.take_of_length_le (by omega)]
      generalize (ss.take i).countP (lateB g) = cn at *
      have HCN := hide hcn
      clear hcn
      go_wp2_with fail
      go_ret
      refine ⟨?_, HD.out⟩
      rw [← HCN.out]; rfl
def FrK (k size slide a g : Int) (r : Rc) : List Pn := (frS k size slide a r).filter fun p => !ovr g p
def KrPost (W : World) (K s : Nat) (k size slide a : Int) (fp : Nat → Prop) (M A : List Pn) (av : Value) (g d : Int) (r : Rc) (e : Ending) (w' : World) : Prop :=
  e = .returned (.slice none 0 0) ∧ ∃ fp' M' A' av' d', KA w' K 102 (wRest k size slide a) s k size slide a fp' M' A' av' g d' ∧ FT (FK K av fp) (FK K av' fp') W w' ∧
    ((Comes (sess k) (jn a) (frS k size slide a r ++ M) M' ∧ A' = A ∧ d' = d ∧ ∀ sp ∈ pSpans k size slide r.t, lateB g sp = false) ∨
     (M' = M ∧ A' = A ∧ d' = wrap64 (d + 1) ∧ pSpans k size slide r.t ≠ [] ∧ ∀ sp ∈ pSpans k size slide r.t, lateB g sp = true) ∨
     (d' = d ∧ (∃ sp ∈ pSpans k size slide r.t, lateB g sp = true) ∧ (∃ sp ∈ pSpans k size slide r.t, lateB g sp = false) ∧ ((M' = M ∧ A' = A ++ leftF g (srt (V.pPut k size slide a [] r))) ∨ (A' = [] ∧ Comes (sess k) (jn a) (srt M ++ (A ++ leftF g (srt (V.pPut k size slide a [] r)))) M'))))
set_option maxHeartbeats 4000000 in
set_option maxRecDepth 100000 in
theorem krecord_any {W : World} {K s : Nat} {k size slide a : Int} {fp : Nat → Prop} {M A : List Pn} {av : Value} {g d : Int} (h : KA W K 102 (wRest k size slide a) s k size slide a fp M A av g d) (hw : FitW k size slide) (ha : 1 ≤ a ∧ a ≤ 5) (hs : In64 size) (hsl : In64 slide) (rk rt rv : Int) (hrk : In64 rk) (hrv : In64 rv) (ht : TimeOk rt) (hM : M.length + A.length ≤ 80000) (hap : Apart (sess k) M) (h3 : k = 3 → ∀ x ∈ M, x.f < x.t)
    (hL : (∃ sp ∈ pSpans k size slide rt, lateB g sp = true) → (∃ sp ∈ pSpans k size slide rt, lateB g sp = false) → leftF g (srt (V.pPut k size slide a [] ⟨rk, rt, rv⟩)) ≠ [] ∧ (leftF g (srt (V.pPut k size slide a [] ⟨rk, rt, rv⟩))).length ≤ 64 ∧ ∀ x ∈ leftF g (srt (V.pPut k size slide a [] ⟨rk, rt, rv⟩)), PnOk x ∧ (k = 3 → x.f < x.t)) :
    Calls Tryz.prog 163 #[.pointer (some ⟨K, 0, none⟩), .agg #[.int .i64 rk, .int .i64 rt, .int .i64 rv]] W (KrPost W K s k size slide a fp M A av g d ⟨rk, rt, rv⟩) := by
  have hk0 : k ≠ 0 := by have := hw.1; omega
  have hfs : FitS k size slide a := ⟨ha.1, ha.2, .inr hw⟩
  have hb1 := below_box W (.cells #[.int .i64 rk, .int .i64 rt, .int .i64 rv] 38)
  have HB1 := hide hb1
  have HX1 := hide (BoxT.new 38 W #[.int .i64 rk, .int .i64 rt, .int .i64 rv])
  have H1 := hide (h.below hb1)
  have HSPN := hide (fun w' => Spans_any w' k rt hs hsl)
  have hlen := pSpans_len k size slide rt
  have HPU := hide (fun (w' : World) (fp' : Nat → Prop) (M' : List Pn) (h' : SA w' s k size slide a fp' M') (hl : M'.length ≤ 90000) (ha : Apart (sess k) M') => Put_any h' hs hsl ⟨rk, rt, rv⟩ hrk hrv (sps_fit hfs ht) hl ha)
  have HFR : Hid (frS k size slide a ⟨rk, rt, rv⟩ = (pSpans k size slide rt).map fun sp => (⟨rk, sp.f, sp.t, ad a (zr a) rv⟩ : Pn)) := (show _ = _ by unfold frS sps; rw [if_neg hk0])
  have HAP := hide hap
  have HML := hide hM
  have HLL := hide hL
  have H3M := hide h3
  have HOP := hide (fun (w' : World) (h' : KA w' K 102 (wRest k size slide a) s k size slide a fp M A av g d) => open_any h' hs hsl rk rt rv)
  have HW0 := hide h
  unfold KrPost
  generalize frS k size slide a ⟨rk, rt, rv⟩ = FR at *
  simp only
  generalize leftF g (srt (V.pPut k size slide a [] ⟨rk, rt, rv⟩)) = LL at *
  generalize pSpans k size slide rt = ss at *
  clear h hb1 hap hL h3 hM hw ht hrk hrv hs hsl hk0 hfs
  go_enter Tryz.func163, Tryz.ntmps163
  go_upto_region 1 with fail
  refine wp_at (fun V => V = W.alloc (.cells #[.int .i64 rk, .int .i64 rt, .int .i64 rv] 38)) rfl ?_
  intro V hV
  rw [← hV] at HB1 HX1 H1
  obtain ⟨xb, hxb⟩ : ∃ xb, xb = W.heap.size := ⟨_, rfl⟩
  rw [← hxb] at HX1 ⊢
  have HXE := hide hxb
  clear hV hxb
  have BD : Hid (Below V.heap.size V V.drew) := (Below.refl _ _).drew
  have HD := hide (H1.out.below BD.out)
  have XD := hide (HX1.out.below BD.out)
  have y4 : V.drew.cell? ⟨K, 4, none⟩ = some (.int .i64 k) := HD.out.kb.cellAt 4
  have y5 : V.drew.cell? ⟨K, 5, none⟩ = some (.int .i64 size) := HD.out.kb.cellAt 5
  have y6 : V.drew.cell? ⟨K, 6, none⟩ = some (.int .i64 slide) := HD.out.kb.cellAt 6
  have y1 : V.drew.cell? ⟨xb, 1, none⟩ = some (.int .i64 rt) := XD.out.cellAt 1
  go_region_held3 (fun w' => w'.cell? ⟨K, 4, none⟩ = some (.int .i64 k) ∧ w'.cell? ⟨K, 5, none⟩ = some (.int .i64 size) ∧ w'.cell? ⟨K, 6, none⟩ = some (.int .i64 slide) ∧ w'.cell? ⟨xb, 1, none⟩ = some (.int .i64 rt)) (first | go_keep | exact ⟨y4, y5, y6, y1⟩ | exact ⟨z4, z5, z6, z1⟩)
    (first | (go_at_call 119; refine (HSPN.out _).mono ?_; rintro e w2 ⟨u, rfl, o2, b2⟩; have H2 := hide (HD.out.below b2); have X2 := hide (XD.out.below b2); have O2 := hide (o2.seg Sp.cs_len (by omega)); have B2 := hide (HB1.out.drew.trans (b2.mono HB1.out.size)); have z4 : w2.cell? ⟨K, 4, none⟩ = some (.int .i64 k) := H2.out.kb.cellAt 4; have z5 : w2.cell? ⟨K, 5, none⟩ = some (.int .i64 size) := H2.out.kb.cellAt 5; have z6 : w2.cell? ⟨K, 6, none⟩ = some (.int .i64 slide) := H2.out.kb.cellAt 6; have z1 : w2.cell? ⟨xb, 1, none⟩ = some (.int .i64 rt) := X2.out.cellAt 1; clear o2 b2) | fail)
  obtain ⟨ua, uc, rfl⟩ := O2.out.shapeOf
  have HEN := hide (kended_any H2.out O2.out (by omega))
  by_cases hnil : ss = []
  · subst hnil
    go_wp2_with (go_at_call 164; refine HEN.out.mono ?_; rintro e w3 ⟨rfl, b3⟩; have H3 := hide (H2.out.below b3); have B3 := hide (B2.out.trans (b3.mono (Nat.le_trans (Nat.le_of_eq HXE.out.symm) (Nat.le_of_lt X2.out.lt)))); clear b3)
    go_ret
    refine ⟨rfl, fp, M, A, av, d, H3.out, FT.of_below B3.out, .inl ⟨?_, rfl, rfl, fun sp h => by cases h⟩⟩
    rw [HFR.out]
    exact Comes.refl HAP.out
  have hpos : 0 < ss.length := List.length_pos_iff.2 hnil
  have HNL := hide hnil
  clear hnil
  rcases Classical.em (∀ sp ∈ ss, lateB g sp = false) with hput | hput0
  · have HPT := hide hput
    have hcnt0 : ss.countP (lateB g) = 0 := List.countP_eq_zero.2 (fun x hx => by rw [hput x hx]; decide)
    rw [hcnt0] at HEN
    have hne0 : (((ss.length : Nat) : Int) == 0) = false := by rw [beq_eq_false_iff_ne]; omega
    have hne1 : ((0 : Int) == ((ss.length : Nat) : Int)) = false := by rw [beq_eq_false_iff_ne]; omega
    clear hcnt0 hput
    go_upto_region 8 with (go_at_call 164; refine HEN.out.mono ?_; rintro e w3 ⟨rfl, b3⟩; have H3 := hide (H2.out.below b3); have X3 := hide (X2.out.below b3); have B3 := hide (B2.out.trans (b3.mono (Nat.le_trans (Nat.le_of_eq HXE.out.symm) (Nat.le_of_lt X2.out.lt)))); clear b3)
    have BD3 : Hid (Below w3.heap.size w3 w3.drew) := (Below.refl _ _).drew
    have H4 := hide (H3.out.below BD3.out)
    have X4 := hide (X3.out.below BD3.out)
    have B4 := hide (B3.out.drew)
    clear y4 y5 y6 y1 z4 z5 z6 z1
    have y0 : w3.drew.cell? ⟨K, 0, none⟩ = some (.pointer (some ⟨s, 0, none⟩)) := H4.out.kb.cellAt 0
    obtain ⟨r0, r1, r2⟩ := X4.out.cells3
    have HP := hide (HPU.out w3.drew fp M H4.out.sa (by have := HML.out; omega) HAP.out)
    go_region_held3 (fun w' => w'.cell? ⟨K, 0, none⟩ = some (.pointer (some ⟨s, 0, none⟩)) ∧ w'.cell? ⟨xb, 0, none⟩ = some (.int .i64 rk) ∧ w'.cell? ⟨xb, 1, none⟩ = some (.int .i64 rt) ∧ w'.cell? ⟨xb, 2, none⟩ = some (.int .i64 rv)) (first | go_keep | exact ⟨y0, r0, r1, r2⟩ | exact ⟨q0, q1, q2, q3⟩)
      (first | (go_at_call 97; refine HP.out.mono ?_; rintro e w5 ⟨rfl, fp5, M5, s5, t5, c5⟩; have H5 := hide (H4.out.turn s5 t5); have T5 := hide ((FT.of_below (fp := FK K av fp) B4.out).trans (t5.fk K (av := av) (av' := av) (fun i e => .inl e))); have C5 := hide c5; have q0 : w5.cell? ⟨K, 0, none⟩ = some (.pointer (some ⟨s, 0, none⟩)) := H5.out.kb.cellAt 0; have x5 := X4.out.back (t5.block xb X4.out.lt (fun e => by have := HW0.out.sa.flt xb e; have := HXE.out; omega)); obtain ⟨q1, q2, q3⟩ := BoxT.cells3 (t := 38) x5; clear s5 t5 c5 x5) | fail)
    go_wp2_with fail
    go_ret
    exact ⟨rfl, fp5, M5, A, av, d, H5.out, T5.out, .inl ⟨C5.out, rfl, rfl, HPT.out⟩⟩
  rcases Classical.em (∀ sp ∈ ss, lateB g sp = true) with hall | hall0
  · have hcntA : ss.countP (lateB g) = ss.length := List.countP_eq_length.2 hall
    rw [hcntA] at HEN
    have HAL := hide hall
    have hne0 : (((ss.length : Nat) : Int) == 0) = false := by rw [beq_eq_false_iff_ne]; omega
    clear hcntA hall y4 y5 y6 y1 z4 z5 z6 z1
    go_upto_region 6 with (go_at_call 164; refine HEN.out.mono ?_; rintro e w3 ⟨rfl, b3⟩; have H3 := hide (H2.out.below b3); have B3 := hide (B2.out.trans (b3.mono (Nat.le_trans (Nat.le_of_eq HXE.out.symm) (Nat.le_of_lt X2.out.lt)))); clear b3)
    have q3 := H3.out.c3
    have fr := BoxT.free (t := 102) H3.out.kb
    go_wp2_with fail
    go_ret
    exact ⟨rfl, fp, M, A, av, _, H3.out.setD (wrap64 (d + 1)), (FT.of_below B3.out).trans (FT.setFK _ K av fp 3 _), .inr (.inl ⟨rfl, rfl, rfl, HNL.out, HAL.out⟩)⟩
  · have hex1 : ∃ sp ∈ ss, lateB g sp = true := by
      simp only [Classical.not_forall] at hput0
      obtain ⟨x, hx, hn⟩ := hput0
      exact ⟨x, hx, by simpa using hn⟩
    have hex2 : ∃ sp ∈ ss, lateB g sp = false := by
      simp only [Classical.not_forall] at hall0
      obtain ⟨x, hx, hn⟩ := hall0
      exact ⟨x, hx, by simpa using hn⟩
    have HE1 := hide hex1
    have HE2 := hide hex2
    obtain ⟨hLn, hLl, hLo⟩ := HLL.out hex1 hex2
    have HLN := hide hLn
    have HLEN := hide hLl
    have HLO := hide hLo
    have hc0 : ss.countP (lateB g) ≠ 0 := fun e => hput0 (fun x hx => by
      have := List.countP_eq_zero.1 e x hx
      simpa using this)
    have hcA : ss.countP (lateB g) ≠ ss.length := fun e => hall0 (List.countP_eq_length.1 e)
    have hcl : ss.countP (lateB g) ≤ ss.length := List.countP_le_length
    clear hput0 hall0 hex1 hex2 hLn hLl hLo HLL
    generalize hcn : ss.countP (lateB g) = cn at *
    have hne0 : (((ss.length : Nat) : Int) == 0) = false := by rw [beq_eq_false_iff_ne]; omega
    have hne1 : (((cn : Nat) : Int) == ((ss.length : Nat) : Int)) = false := by rw [beq_eq_false_iff_ne]; omega
    have hne2 : (((cn : Nat) : Int) == 0) = false := by rw [beq_eq_false_iff_ne]; omega
    clear hcn hc0 hcA hcl y4 y5 y6 y1 z4 z5 z6 z1
    go_upto_region 3 with (go_at_call 164; refine HEN.out.mono ?_; rintro e w3 ⟨rfl, b3⟩; have H3 := hide (H2.out.below b3); have X3 := hide (X2.out.below b3); have B3 := hide (B2.out.trans (b3.mono (Nat.le_trans (Nat.le_of_eq HXE.out.symm) (Nat.le_of_lt X2.out.lt)))); clear b3)
    have BD3 : Hid (Below w3.heap.size w3 w3.drew) := (Below.refl _ _).drew
    have H4 := hide (H3.out.below BD3.out)
    have X4 := hide (X3.out.below BD3.out)
    have B4 := hide (B3.out.drew)
    obtain ⟨r0, r1, r2⟩ := X4.out.cells3
    have HP := hide (HOP.out w3.drew H4.out)
    go_region_held3 (fun w' => w'.cell? ⟨xb, 0, none⟩ = some (.int .i64 rk) ∧ w'.cell? ⟨xb, 1, none⟩ = some (.int .i64 rt) ∧ w'.cell? ⟨xb, 2, none⟩ = some (.int .i64 rv)) (first | go_keep | exact ⟨r0, r1, r2⟩ | exact ⟨q1, q2, q3⟩ | exact ⟨p1, p2, p3⟩)
      (first
      | (go_at_call 166; refine HP.out.mono ?_; rintro e w5 ⟨u5, rfl, o5, b5⟩; have H5 := hide (H4.out.below b5); have X5 := hide (X4.out.below b5); have B5 := hide (B4.out.trans (b5.mono B4.out.size)); have HLY := hide (klay_any H5.out (o5.seg Pn.cs_len (by have := HLEN.out; omega)) HLN.out HLO.out (by have := HML.out; have := HLEN.out; omega) H3M.out); obtain ⟨q1, q2, q3⟩ := X5.out.cells3; clear o5 b5)
      | (go_at_call 165; refine HLY.out.mono ?_; rintro e w6 ⟨rfl, fp6, M6, A6, av6, k6, t6, c6⟩; have H6 := hide k6; have T6 := hide ((FT.of_below (fp := FK K av fp) B5.out).trans t6); have C6 := hide c6; obtain ⟨p1, p2, p3⟩ := BoxT.cells3 (t := 38) (X5.out.back (t6.block xb X5.out.lt (fun e => by have := HW0.out.flt xb e; have := HXE.out; omega))); clear k6 t6 c6)
      | fail)
    go_wp2_with fail
    go_ret
    exact ⟨rfl, fp6, M6, A6, av6, d, H6.out, T6.out, .inr (.inr ⟨rfl, HE1.out, HE2.out, C6.out⟩)⟩

end Go.Proofs.YtpcbhcdpegbfjaaGreat
/-
  Panes by what they come to; late ones.
-/
namespace Go.Proofs.YtpcbhcdpegbfjaaGreat
open Go.RowKit


theorem Comes.some (s : Bool) (J : Int → Int → Int) (l : List Pn) : ∃ m, Comes s J l m := ends (s := s) (J := J) _ l (Nat.le_refl _)
theorem Comes.via {s : Bool} {a : Int} {l l' m : List Pn} (hr : Reds s (jn a) l l') (h : Comes s (jn a) l m) : Comes s (jn a) l' m := by
  obtain ⟨m', h1, h2⟩ := Comes.some s (jn a) l'
  have := Comes.unique (jn_comm a) (jn_assoc a) h ⟨hr.trans h1, h2⟩
  exact Comes.perm ⟨h1, h2⟩ (.refl _) this.symm
theorem Comes.self {s : Bool} {a : Int} {l m : List Pn} (h : Comes s (jn a) l m) (hl : Apart s l) : l.Perm m := Comes.unique (jn_comm a) (jn_assoc a) (Comes.refl hl) h
theorem Comes.more {s : Bool} {a : Int} {l m q r : List Pn} (h : Comes s (jn a) l m) (h' : Comes s (jn a) (q ++ m) r) : Comes s (jn a) (q ++ l) r := h.step h'
theorem zeroL {a v : Int} (ha : 1 ≤ a ∧ a ≤ 5) (h : In64 v) : jn a (zr a) v = v := by rw [jn_comm, jn_zero ha h]
theorem vOf_in' {a v : Int} (h : In64 v) : In64 (V.vOf a v) := by
  unfold V.vOf
  split
  · unfold In64; omega
  · exact h
theorem fold2 {a : Int} {r : Rc} (ha : 1 ≤ a ∧ a ≤ 5) (hv : In64 r.v) (ss : List Sp) : ∀ {l : List Pn}, Apart false l →
    Comes false (jn a) (ss.map (fun sp => (⟨r.k, sp.f, sp.t, ad a (zr a) r.v⟩ : Pn)) ++ l) (ss.foldl (V.stepP 2 a r) l) := by
  induction ss with
  | nil => intro l h; exact Comes.refl h
  | cons s ss ih =>
    intro l h
    have h1 : Comes false (jn a) ((⟨r.k, s.f, s.t, ad a (zr a) r.v⟩ : Pn) :: l) (V.stepP 2 a r l s) := by
      unfold V.stepP
      rw [if_neg (by omega)]
      exact span_comes (fr := ⟨r.k, s.f, s.t, zr a⟩) (jn_comm a) (zeroL ha (vOf_in' hv)) h
    have h3 := Comes.step h1 (ih h1.2)
    exact h3.perm List.perm_middle (.refl _)
theorem frS_two (size slide a : Int) (r : Rc) : frS 2 size slide a r = (pSpans 2 size slide r.t).map fun sp => (⟨r.k, sp.f, sp.t, ad a (zr a) r.v⟩ : Pn) := by
  unfold frS sps
  rw [if_neg (by omega)]
theorem frS_apart {size slide a : Int} (hw : FitW 2 size slide) {r : Rc} (ht : TimeOk r.t) : Apart false (frS 2 size slide a r) := by
  rw [frS_two, spans_two hw ht]
  unfold Apart
  rw [List.pairwise_map, List.pairwise_reverse]
  unfold bkS
  rw [List.pairwise_map]
  have hsl : 1 ≤ slide := by
    obtain ⟨_, _, _, _, h | h⟩ := hw
    · exact h.2.1
    · exact absurd rfl h.1
  refine List.Pairwise.imp ?_ List.pairwise_lt_range
  intro i j hij hm
  unfold mt at hm
  obtain ⟨_, h | h⟩ := hm
  · cases h.1
  · have h2 : r.t - sinceOf slide r.t - (j : Int) * slide = r.t - sinceOf slide r.t - (i : Int) * slide := h.2.1
    have h3 : (i : Int) * slide < (j : Int) * slide := Int.mul_lt_mul_of_pos_right (by omega) (by omega)
    omega
theorem pPut_two {size slide a : Int} (hw : FitW 2 size slide) (ha : 1 ≤ a ∧ a ≤ 5) {r : Rc} (ht : TimeOk r.t) (hv : In64 r.v) : (V.pPut 2 size slide a [] r).Perm (frS 2 size slide a r) := by
  have h1 := fold2 ha hv (pSpans 2 size slide r.t) (l := []) List.Pairwise.nil
  rw [List.append_nil, ← frS_two] at h1
  exact (srt_perm _).trans (h1.self (frS_apart hw ht)).symm
theorem open_two {size slide a : Int} (hw : FitW 2 size slide) (ha : 1 ≤ a ∧ a ≤ 5) {r : Rc} (ht : TimeOk r.t) (hv : In64 r.v) (g : Int) : (leftF g (srt (V.pPut 2 size slide a [] r))).Perm (FrK 2 size slide a g r) :=
  ((srt_perm _).trans (pPut_two hw ha ht hv)).filter _
theorem FrK_all {k size slide a g : Int} (hk : k ≠ 0) {r : Rc} (h : ∀ sp ∈ pSpans k size slide r.t, lateB g sp = false) : FrK k size slide a g r = frS k size slide a r := by
  unfold FrK
  rw [List.filter_eq_self]
  intro p hp
  unfold frS sps at hp
  rw [if_neg hk] at hp
  obtain ⟨sp, h1, rfl⟩ := List.mem_map.1 hp
  have := h sp h1
  unfold lateB at this
  simp [ovr, this]
theorem FrK_none {k size slide a g : Int} (hk : k ≠ 0) {r : Rc} (h : ∀ sp ∈ pSpans k size slide r.t, lateB g sp = true) : FrK k size slide a g r = [] := by
  unfold FrK
  rw [List.filter_eq_nil_iff]
  intro p hp
  unfold frS sps at hp
  rw [if_neg hk] at hp
  obtain ⟨sp, h1, rfl⟩ := List.mem_map.1 hp
  have := h sp h1
  unfold lateB at this
  simp [ovr, this]
theorem FrK_mem {k size slide a g : Int} {r : Rc} {p : Pn} (hp : p ∈ FrK k size slide a g r) : p ∈ frS k size slide a r := (List.mem_filter.1 hp).1
theorem FrK_len (k size slide a g : Int) (r : Rc) : (FrK k size slide a g r).length ≤ 64 := Nat.le_trans (List.length_filter_le _ _) (frS_len ..)
theorem FrK_some {k size slide a g : Int} (hk : k ≠ 0) {r : Rc} {sp : Sp} (h : sp ∈ pSpans k size slide r.t) (hl : lateB g sp = false) : FrK k size slide a g r ≠ [] := by
  intro e
  have h1 : (⟨r.k, sp.f, sp.t, ad a (zr a) r.v⟩ : Pn) ∈ FrK k size slide a g r := by
    unfold FrK
    refine List.mem_filter.2 ⟨?_, ?_⟩
    · unfold frS sps
      rw [if_neg hk]
      exact List.mem_map.2 ⟨sp, h, rfl⟩
    · unfold lateB at hl
      simp [ovr, hl]
  rw [e] at h1
  cases h1
theorem frS_ok {k size slide a : Int} (hw : FitS k size slide a) {r : Rc} (hk : In64 r.k) (hv : In64 r.v) (ht : TimeOk r.t) : ∀ p ∈ frS k size slide a r, PnOk p ∧ (k = 3 → p.f < p.t) := by
  intro p hp
  unfold frS at hp
  obtain ⟨sp, h1, rfl⟩ := List.mem_map.1 hp
  obtain ⟨h2, h3, h4⟩ := sps_fit hw ht sp h1
  exact ⟨⟨hk, h2, h3, ad_in (zr_in a) hv⟩, h4⟩
theorem mixed_two {k size slide g t : Int} (hw : FitW k size slide) (ht : TimeOk t) (h1 : ∃ sp ∈ pSpans k size slide t, lateB g sp = true) (h2 : ∃ sp ∈ pSpans k size slide t, lateB g sp = false) : k = 2 := by
  obtain ⟨a, ha, la⟩ := h1
  obtain ⟨b, hb, lb⟩ := h2
  have hk : k = 1 ∨ k = 2 ∨ k = 3 := by have := hw.1; have := hw.2.1; omega
  rcases hk with rfl | rfl | rfl
  · rw [spans_one hw ht] at ha hb
    rw [List.mem_singleton.1 ha] at la
    rw [List.mem_singleton.1 hb] at lb
    rw [la] at lb; cases lb
  · rfl
  · rw [spans_three hw ht] at ha hb
    rw [List.mem_singleton.1 ha] at la
    rw [List.mem_singleton.1 hb] at lb
    rw [la] at lb; cases lb
theorem mem_full {k a : Int} {l m : List Pn} (h : Reds (sess k) (jn a) l m) (_ : k = 3) (hl : ∀ x ∈ l, x.f < x.t) : ∀ x ∈ m, x.f < x.t :=
  h.keeps (P := fun x => x.f < x.t) (fun x y _ hx hy => by show min x.f y.f < max x.t y.t; omega) hl
def outK (kd m : Int) (M : List Pn) : List Rc := if kd = 0 then (if m = 9223372036854775807 then (outF m (srt (M.filter (ovr m)))).map eT else []) else outF m (srt (M.filter (ovr m)))
def leftK (kd m : Int) (M : List Pn) : List Pn := if kd = 0 ∧ m ≠ 9223372036854775807 then M else leftF m M
def outG (kd g m : Int) (M : List Pn) : List Rc := if m ≤ g then [] else outK kd m M
def leftG (kd g m : Int) (M : List Pn) : List Pn := if m ≤ g then M else leftK kd m M
theorem outK_perm {kd m : Int} {M N : List Pn} (h : M.Perm N) : outK kd m M = outK kd m N := by
  unfold outK
  rw [srt_eq (h.filter (ovr m))]
theorem leftK_perm {kd m : Int} {M N : List Pn} (h : M.Perm N) : (leftK kd m M).Perm (leftK kd m N) := by
  unfold leftK
  split
  · exact h
  · exact h.filter _
theorem outG_perm {kd g m : Int} {M N : List Pn} (h : M.Perm N) : outG kd g m M = outG kd g m N := by
  unfold outG
  split
  · rfl
  · exact outK_perm h
theorem leftG_perm {kd g m : Int} {M N : List Pn} (h : M.Perm N) : (leftG kd g m M).Perm (leftG kd g m N) := by
  unfold leftG
  split
  · exact h
  · exact leftK_perm h
theorem leftK_sub (kd m : Int) (M : List Pn) : (leftK kd m M).Sublist M := by
  unfold leftK
  split
  · exact List.Sublist.refl _
  · exact List.filter_sublist
theorem outK_len (kd m : Int) (M : List Pn) : (outK kd m M).length ≤ M.length := by
  have h : (outF m (srt (M.filter (ovr m)))).length ≤ M.length := by
    unfold outF
    rw [List.length_map]
    refine Nat.le_trans (List.length_filter_le _ _) ?_
    rw [srt_len]
    exact List.length_filter_le _ _
  unfold outK
  split
  · split
    · rw [List.length_map]; exact h
    · simp
  · exact h
theorem outG_len (kd g m : Int) (M : List Pn) : (outG kd g m M).length ≤ M.length := by
  unfold outG
  split
  · simp
  · exact outK_len ..
theorem fire_kd {W : World} {s : Nat} {kd size slide a : Int} {fp : Nat → Prop} {M : List Pn} (h : SA W s kd size slide a fp M) (mk : Int) (hM : M.length ≤ 90000) :
    Calls Tryz.prog 95 #[.pointer (some ⟨s, 0, none⟩), .int .i64 mk] W fun e w' => ∃ u fp', e = .returned u ∧ OwnL 38 3 Rc.cs W.heap.size w' u (outK kd mk M) ∧ SA w' s kd size slide a fp' (leftK kd mk M) ∧ FT fp fp' W w' := by
  obtain ⟨m, o, fq, R, hst, hf⟩ := h
  unfold outK leftK
  by_cases hk : kd = 0
  · by_cases hm : mk = 9223372036854775807
    · refine (Fire_red hst mk hk hm hM).mono ?_
      rintro e w' ⟨u, E, rfl, h1, h2, h3⟩
      rw [if_pos hk, if_pos hm, if_neg (by simp [hm])]
      exact ⟨u, FP s m fq, rfl, h1, ⟨m, o, fq, E, h2, fun _ => Iff.rfl⟩, h3.congr hf (fun _ => Iff.rfl)⟩
    · refine (Fire_idle hst mk hk hm).mono ?_
      rintro e w' ⟨rfl, hb⟩
      rw [if_pos hk, if_neg hm, if_pos ⟨hk, hm⟩]
      have hs : SA W s kd size slide a fp M := ⟨m, o, fq, R, hst, hf⟩
      exact ⟨_, fp, rfl, OwnL.nil _ _ _ _ _, hs.below hb, FT.of_below hb⟩
  · refine (Fire_win hst mk hk hM).mono ?_
    rintro e w' ⟨u, E, rfl, h1, h2, h3⟩
    rw [if_neg hk, if_neg (fun h => hk h.1)]
    exact ⟨u, FP s m fq, rfl, h1, ⟨m, o, fq, E, h2, fun _ => Iff.rfl⟩, h3.congr hf (fun _ => Iff.rfl)⟩
theorem settled {kd a : Int} {M A M' X : List Pn} (hc : Comes (sess kd) (jn a) (M ++ A) X) (hM : Apart (sess kd) M) (h : (A = [] ∧ M' = M) ∨ Comes (sess kd) (jn a) (srt M ++ A) M') : M'.Perm X := by
  rcases h with ⟨rfl, rfl⟩ | h
  · rw [List.append_nil] at hc
    exact hc.self hM
  · exact Comes.unique (jn_comm a) (jn_assoc a) h (hc.perm ((srt_perm M).symm.append (.refl _)) (.refl _))

end Go.Proofs.YtpcbhcdpegbfjaaGreat
