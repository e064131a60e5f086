/-
  The law WindowCounts, walked.
-/
import Derived.Test.YtlikikiglicdlaaWLaw2
namespace Go.Proofs.Ytlikikiglicdlaa
open Go.RowKit

theorem sumA_in (l : List Pn) : wrap64 (sumA l) = sumA l := by
  cases l with
  | nil => exact wrap0
  | cons x l => rw [sumA_cons]; unfold wrap64; omega
theorem sumA_drop {l : List Pn} {i : Nat} {x : Pn} (h : l[i]? = some x) : wrap64 (sumA (l.drop i) - x.a) = sumA (l.drop (i + 1)) := by
  rw [drop_at h, sumA_cons]
  have h1 := sumA_in (l.drop (i + 1))
  generalize sumA (l.drop (i + 1)) = s at *
  generalize x.a = a
  unfold wrap64 at *
  omega
theorem sum_step {k size slide a : Int} {rs : List Rc} {i : Nat} {r : Rc} (hr : rs[i]? = some r) (v : Int) (h : jn a (zr a) (vOf a r.v) = wrap64 v) : sumA (allF k size slide a (rs.take (i + 1))) = wrap64 (sumA (allF k size slide a (rs.take i)) + wrap64 ((pSpans k size slide r.t).length * v)) := by
  rw [take_snoc hr, allF_snoc, sumA_app, frs_sum r v h]
theorem jn_two (v : Int) : jn 2 (zr 2) (vOf 2 v) = wrap64 1 := by
  have e : vOf 2 v = 1 := by unfold vOf; rw [if_pos rfl]
  rw [e, jn2]
  show wrap64 (0 + 1) = _
  rw [Int.zero_add]
theorem jn_one (v : Int) : jn 1 (zr 1) (vOf 1 v) = wrap64 v := by
  have e : vOf 1 v = v := by unfold vOf; rw [if_neg (by omega)]
  have e2 : zr 1 = 0 := by unfold zr; rw [if_neg (by omega), if_neg (by omega)]
  rw [e, jn1, e2, Int.zero_add]
set_option maxHeartbeats 16000000 in
set_option maxRecDepth 100000 in
theorem WindowCounts_walk {w : World} {v : Value} {rs : List Rc} (hl : LSeg 3 Rc.cs w.heap.size w v rs) (hrs : ∀ r ∈ rs, In64 r.v) {k size slide : Int} (hs : In64 size) (hsl : In64 slide) :
    Calls Try.prog 7 #[.agg #[.int .i64 k, .int .i64 size, .int .i64 slide], v] w fun e w' => e = .returned (.bool true) ∧ Below w.heap.size w w' := by
  obtain ⟨ao, cap, rfl⟩ := hl.shapeOf
  have HB0 := hide (below_box w (.cells #[.int .i64 k, .int .i64 size, .int .i64 slide] 23))
  have HBX := hide (BoxT.new 23 w #[.int .i64 k, .int .i64 size, .int .i64 slide])
  have HK := hide (fun W => known_any W)
  have hz : (rs.length : Int) ≤ 140737488355328 := by have := hl.len; omega
  by_cases hF : FitW k size slide
  case neg =>
    have HFT := hide (fit_no hF)
    clear hl
    go_enter Try.func7, Try.ntmps7
    go_wp2_with (first
      | (go_at_call 9; refine (HK.out _).mono ?_; rintro e w1 ⟨rfl, b1⟩; have HB1 := hide (HB0.out.trans (b1.mono HB0.out.size)); have HX1 := hide (BoxT.below (t := 23) HBX.out b1); obtain ⟨y0, y1, y2⟩ := HX1.out.cells3; clear b1)
      | (go_at_call 10; refine (HFT.out _).mono ?_; rintro e w2 ⟨rfl, b2⟩; have HB2 := hide (HB1.out.trans (b2.mono HB1.out.size)); have HBW := hide (BoxT.below (t := 23) HX1.out b2); clear b2 y0 y1 y2))
    go_ret
    exact ⟨rfl, HB2.out⟩
  have HFT := hide (fit_yes hF)
  have HF := hide hF
  clear hF
  by_cases hn : (60 : Int) < (rs.length : Int)
  · clear hl
    go_enter Try.func7, Try.ntmps7
    go_wp2_with (first
      | (go_at_call 9; refine (HK.out _).mono ?_; rintro e w1 ⟨rfl, b1⟩; have HB1 := hide (HB0.out.trans (b1.mono HB0.out.size)); have HX1 := hide (BoxT.below (t := 23) HBX.out b1); obtain ⟨y0, y1, y2⟩ := HX1.out.cells3; clear b1)
      | (go_at_call 10; refine (HFT.out _).mono ?_; rintro e w2 ⟨rfl, b2⟩; have HB2 := hide (HB1.out.trans (b2.mono HB1.out.size)); have HBW := hide (BoxT.below (t := 23) HX1.out b2); clear b2 y0 y1 y2))
    go_ret
    exact ⟨rfl, HB2.out⟩
  have HL := hide hl
  have HRS := hide hrs
  have hn60 : rs.length ≤ 60 := by omega
  clear hl hn hrs
  have HZ0 : Hid (sumA (allF k size slide 2 (rs.take 0)) = 0 ∧ sumA (allF k size slide 1 (rs.take 0)) = 0) := (show _ ∧ _ from ⟨rfl, rfl⟩)
  go_enter Try.func7, Try.ntmps7
  go_wp2_with (first
    | (go_at_call 9; refine (HK.out _).mono ?_; rintro e w1 ⟨rfl, b1⟩; have HB1 := hide (HB0.out.trans (b1.mono HB0.out.size)); have HX1 := hide (BoxT.below (t := 23) HBX.out b1); obtain ⟨y0, y1, y2⟩ := HX1.out.cells3; clear b1)
    | (go_at_call 10; refine (HFT.out _).mono ?_; rintro e w2 ⟨rfl, b2⟩; have HB2 := hide (HB1.out.trans (b2.mono HB1.out.size)); have HBW := hide (BoxT.below (t := 23) HX1.out b2); clear b2 y0 y1 y2))
  clear HK HFT HB0 HB1 HX1 HBX
  go_loopg [5, 6, 7, 8, 9, 10] (rs.length + 1) (fun gh pv qv cv sv iv _ wr => ∃ i : Nat, iv = .int .i64 (i : Int) ∧ i ≤ rs.length ∧ rs.length + 1 ≤ gh + i ∧ cv = .int .i64 (sumA (allF k size slide 2 (rs.take i))) ∧ sv = .int .i64 (sumA (allF k size slide 1 (rs.take i))) ∧ Hid (∀ r ∈ rs.take i, RcOk r) ∧
    Hid (LSeg 4 Pn.cs wr.heap.size wr pv (putsP k size slide 2 (rs.take i))) ∧ Hid (LSeg 4 Pn.cs wr.heap.size wr qv (putsP k size slide 1 (rs.take i))) ∧ Hid (Below w2.heap.size w2 wr))
  case atStart => exact ⟨0, rfl, by omega, by omega, by rw [HZ0.out.1], by rw [HZ0.out.2], (show ∀ r ∈ _, _ by simp), LSeg.nil' _ _ _ _, LSeg.nil' _ _ _ _, Below.refl _ _⟩
  case round =>
    clear HZ0
    obtain ⟨i, rfl, hi, hg, rfl, rfl, HOK, GA, GE, GB⟩ := hrel
    obtain ⟨go, rfl⟩ : ∃ go, gk = go + 1 := ⟨gk - 1, by omega⟩
    obtain ⟨aa, ac, rfl⟩ := GA.out.shapeOf
    obtain ⟨ea, ec, rfl⟩ := GE.out.shapeOf
    have hBW := HB2.out.trans (GB.out.mono HB2.out.size)
    by_cases hlt : i < rs.length
    · obtain ⟨r, hr⟩ := get_of_lt hlt
      have bt : (i : Int) < (rs.length : Int) := by omega
      obtain ⟨nb, no, rfl, nlt, d0, d1, d2⟩ := (HL.out.below hBW).rec hr
      have hnbw : nb < wr.heap.size := Nat.lt_of_lt_of_le nlt hBW.size
      have HRV := hide (HRS.out r (List.mem_of_getElem? hr))
      have HPT2 := hide (puts_take (k := k) (size := size) (slide := slide) (a := 2) hr)
      have HPT1 := hide (puts_take (k := k) (size := size) (slide := slide) (a := 1) hr)
      have HS2 := hide (sum_step (k := k) (size := size) (slide := slide) (a := 2) hr 1 (jn_two r.v))
      have HS1 := hide (sum_step (k := k) (size := size) (slide := slide) (a := 1) hr r.v (jn_one r.v))
      have HTM1 := hide (time_yes (t := r.t))
      have HTM0 := hide (time_no (t := r.t))
      have HPL : Hid ((putsP k size slide 2 (rs.take i)).length ≤ 50000) := (show _ ≤ _ by have h1 := puts_len k size slide 2 (rs.take i); rw [List.length_take] at h1; omega)
      have HEL : Hid ((putsP k size slide 1 (rs.take i)).length ≤ 50000) := (show _ ≤ _ by have h1 := puts_len k size slide 1 (rs.take i); rw [List.length_take] at h1; omega)
      have HOK3 := hide (fun hT hv => ok_snoc hr HOK.out hT hv)
      have HSP := hide (fun W => Spans_any W k r.t hs hsl)
      have hsn := pSpans_len k size slide r.t
      clear hr
      by_cases hT : TimeOk r.t
      case neg =>
        have HT := hide (HTM0.out hT)
        obtain ⟨rk, rt, rv⟩ := r
        simp only at d0 d1 d2 HT
        clear HTM1 HTM0 hT
        have HBW2 := hide hBW
        clear hBW
        go_wp2_with (go_at_call 11; refine (HT.out _).mono ?_; rintro e w4 ⟨rfl, rfl⟩)
        go_ret
        exact ⟨rfl, HBW2.out⟩
      have HT := hide (HTM1.out hT)
      have HOK2 := hide (HOK3.out hT HRV.out)
      have HBW2 := hide hBW
      clear HTM1 HTM0 hT hBW HRV HOK HOK3
      obtain ⟨rk, rt, rv⟩ := r
      simp only at d0 d1 d2 HT HSP hsn HS1 HS2
      generalize putsP k size slide 2 (rs.take i) = pa at *
      generalize putsP k size slide 1 (rs.take i) = pe at *
      generalize sumA (allF k size slide 2 (rs.take i)) = sm2 at *
      generalize sumA (allF k size slide 1 (rs.take i)) = sm1 at *
      generalize pSpans k size slide rt = sps at *
      have KC : Hid (∀ w' : World, Below (wr).heap.size (wr) w' → w'.cell? ⟨w.heap.size, 0, none⟩ = some (.int .i64 k) ∧ w'.cell? ⟨w.heap.size, 1, none⟩ = some (.int .i64 size) ∧ w'.cell? ⟨w.heap.size, 2, none⟩ = some (.int .i64 slide) ∧ w'.cell? ⟨nb, no + i * 3, none⟩ = some (.int .i64 rk) ∧ w'.cell? ⟨nb, no + i * 3 + 1, none⟩ = some (.int .i64 rt) ∧ w'.cell? ⟨nb, no + i * 3 + 2, none⟩ = some (.int .i64 rv)) := fun w' h => ⟨(by rw [(BoxT.below (t := 23) (BoxT.below (t := 23) HBW.out GB.out) h).cellAt]; rfl), (by rw [(BoxT.below (t := 23) (BoxT.below (t := 23) HBW.out GB.out) h).cellAt]; rfl), (by rw [(BoxT.below (t := 23) (BoxT.below (t := 23) HBW.out GB.out) h).cellAt]; rfl), ((h.cell (p := ⟨nb, no + i * 3, none⟩) hnbw).trans d0), ((h.cell (p := ⟨nb, no + i * 3 + 1, none⟩) hnbw).trans d1), ((h.cell (p := ⟨nb, no + i * 3 + 2, none⟩) hnbw).trans d2)⟩
      go_wp2_with (go_at_call 11; refine (HT.out _).mono ?_; rintro e w4 ⟨rfl, rfl⟩)
      refine wp_region_M (S := fun w' => w'.cell? ⟨w.heap.size, 0, none⟩ = some (.int .i64 k) ∧ w'.cell? ⟨w.heap.size, 1, none⟩ = some (.int .i64 size) ∧ w'.cell? ⟨w.heap.size, 2, none⟩ = some (.int .i64 slide) ∧ w'.cell? ⟨nb, no + i * 3, none⟩ = some (.int .i64 rk) ∧ w'.cell? ⟨nb, no + i * 3 + 1, none⟩ = some (.int .i64 rt) ∧ w'.cell? ⟨nb, no + i * 3 + 2, none⟩ = some (.int .i64 rv)) (late := []) (by kernel_rfl) (KC.out _ ((Below.refl _ _).drew)) (fun hHeld => ?_)
      (try simp only [List.size_toArray, List.length_cons, List.length_nil, Nat.zero_add, Nat.reduceAdd, Array.replicate, List.replicate])
      refine wpAnyM_take (i := 0) (oi := ⟨_, _, _, _, _, _⟩) (v := ?_) rfl (by kernel_rfl) (by kernel_rfl) (by kernel_rfl) (by kernel_rfl) (fun _ _ _ h => h) (Or.inl ⟨by rfl, ?_⟩) hHeld ?_
      rotate_left
      · (intro w' hSw; (try dsimp only at hSw); go_simp; try (with_reducible rfl))
      (try simp only [Act.put, List.setIfInBounds_toArray, List.set_cons_zero, List.set_cons_succ])
      refine wpAnyM_take (i := 1) (oi := ⟨_, _, _, _, _, _⟩) (v := ?_) rfl (by kernel_rfl) (by kernel_rfl) (by kernel_rfl) (by kernel_rfl) (fun _ _ _ h => h) (Or.inl ⟨by rfl, ?_⟩) hHeld ?_
      rotate_left
      · (intro w' hSw; (try dsimp only at hSw); go_simp; try (with_reducible rfl))
      (try simp only [Act.put, List.setIfInBounds_toArray, List.set_cons_zero, List.set_cons_succ])
      refine wpAnyM_take (i := 2) (oi := ⟨_, _, _, _, _, _⟩) (v := ?_) rfl (by kernel_rfl) (by kernel_rfl) (by kernel_rfl) (by kernel_rfl) (fun _ _ _ h => h) (Or.inl ⟨by rfl, ?_⟩) hHeld ?_
      rotate_left
      · (intro w' hSw; (try dsimp only at hSw); go_simp; try (with_reducible rfl))
      (try simp only [Act.put, List.setIfInBounds_toArray, List.set_cons_zero, List.set_cons_succ])
      refine wpAnyM_take (i := 3) (oi := ⟨_, _, _, _, _, _⟩) (v := ?_) rfl (by kernel_rfl) (by kernel_rfl) (by kernel_rfl) (by kernel_rfl) (fun _ _ _ h => h) (Or.inl ⟨by rfl, ?_⟩) hHeld ?_
      rotate_left
      · (intro w' hSw; (try dsimp only at hSw); go_simp; try (with_reducible rfl))
      (try simp only [Act.put, List.setIfInBounds_toArray, List.set_cons_zero, List.set_cons_succ])
      refine wpAnyM_take (i := 4) (oi := ⟨_, _, _, _, _, _⟩) (v := ?_) rfl (by kernel_rfl) (by kernel_rfl) (by kernel_rfl) (by kernel_rfl) (fun _ _ _ h => h) (Or.inl ⟨by rfl, ?_⟩) hHeld ?_
      rotate_left
      · (intro w' hSw; (try dsimp only at hSw); go_simp; try (with_reducible rfl))
      (try simp only [Act.put, List.setIfInBounds_toArray, List.set_cons_zero, List.set_cons_succ])
      refine wpAnyM_take (i := 5) (oi := ⟨_, _, _, _, _, _⟩) (v := ?_) rfl (by kernel_rfl) (by kernel_rfl) (by kernel_rfl) (by kernel_rfl) (fun _ _ _ h => h) (Or.inl ⟨by rfl, ?_⟩) hHeld ?_
      rotate_left
      · (intro w' hSw; (try dsimp only at hSw); go_simp; try (with_reducible rfl))
      (try simp only [Act.put, List.setIfInBounds_toArray, List.set_cons_zero, List.set_cons_succ])
      refine wpAnyM_one (i := 6) (o := ⟨_, _, _, _, _, _⟩) (by kernel_rfl) rfl (fun K hK => ?_)
      go_simp
      go_at_call 12
      refine (HSP.out _).mono ?_
      rintro e w5 ⟨u5, rfl, o_w5, b_w5⟩
      have B_w5 : Hid (Below w4.heap.size w4 w5) := ((Below.refl _ _).drew).trans b_w5
      obtain ⟨sa, sc, rfl⟩ := o_w5.shape
      refine hK.out _ _ (KC.out _ B_w5.out) (fun hHeld => ?_)
      clear hK K o_w5 b_w5
      (try simp only [List.setIfInBounds_toArray, List.set_cons_zero, List.set_cons_succ])
      refine wpAnyM_one (i := 7) (o := ⟨_, _, _, _, _, _⟩) (by kernel_rfl) rfl (fun K hK => ?_)
      go_simp
      refine hK.out _ _ (KC.out _ B_w5.out) (fun hHeld => ?_)
      clear hK K
      (try simp only [List.setIfInBounds_toArray, List.set_cons_zero, List.set_cons_succ])
      refine wpAnyM_one (i := 8) (o := ⟨_, _, _, _, _, _⟩) (by kernel_rfl) rfl (fun K hK => ?_)
      go_simp
      refine hK.out _ _ (KC.out _ B_w5.out) (fun hHeld => ?_)
      clear hK K
      (try simp only [List.setIfInBounds_toArray, List.set_cons_zero, List.set_cons_succ])
      refine wpAnyM_done (by kernel_rfl) ?_ _
      obtain ⟨_, _, _, f0, f1, f2⟩ := KC.out _ B_w5.out
      go_wp2_with fail
      go_quiet (fail)
      go_wp2_with fail
      have BD := hide (below_drewN B_w5.out nq)
      generalize w5.drewN nq = w6 at *
      have HPA := hide (Put_at2 GA.out HPL.out k hs hsl 2 rk rt rv)
      have HPB := hide (Put_at2 GE.out HEL.out k hs hsl 1 rk rt rv)
      clear f0 f1 f2 d0 d1 d2
      refine wp_region_M (S := fun w' => w'.cell? ⟨w.heap.size, 0, none⟩ = some (.int .i64 k) ∧ w'.cell? ⟨w.heap.size, 1, none⟩ = some (.int .i64 size) ∧ w'.cell? ⟨w.heap.size, 2, none⟩ = some (.int .i64 slide) ∧ w'.cell? ⟨nb, no + i * 3, none⟩ = some (.int .i64 rk) ∧ w'.cell? ⟨nb, no + i * 3 + 1, none⟩ = some (.int .i64 rt) ∧ w'.cell? ⟨nb, no + i * 3 + 2, none⟩ = some (.int .i64 rv)) (late := []) (by kernel_rfl) (KC.out _ (BD.out.drew)) (fun hHeld => ?_)
      (try simp only [List.size_toArray, List.length_cons, List.length_nil, Nat.zero_add, Nat.reduceAdd, Array.replicate, List.replicate])
      refine wpAnyM_take (i := 0) (oi := ⟨_, _, _, _, _, _⟩) (v := ?_) rfl (by kernel_rfl) (by kernel_rfl) (by kernel_rfl) (by kernel_rfl) (fun _ _ _ h => h) (Or.inl ⟨by rfl, ?_⟩) hHeld ?_
      rotate_left
      · (intro w' hSw; (try dsimp only at hSw); go_simp; try (with_reducible rfl))
      (try simp only [Act.put, List.setIfInBounds_toArray, List.set_cons_zero, List.set_cons_succ])
      refine wpAnyM_take (i := 1) (oi := ⟨_, _, _, _, _, _⟩) (v := ?_) rfl (by kernel_rfl) (by kernel_rfl) (by kernel_rfl) (by kernel_rfl) (fun _ _ _ h => h) (Or.inl ⟨by rfl, ?_⟩) hHeld ?_
      rotate_left
      · (intro w' hSw; (try dsimp only at hSw); go_simp; try (with_reducible rfl))
      (try simp only [Act.put, List.setIfInBounds_toArray, List.set_cons_zero, List.set_cons_succ])
      refine wpAnyM_take (i := 2) (oi := ⟨_, _, _, _, _, _⟩) (v := ?_) rfl (by kernel_rfl) (by kernel_rfl) (by kernel_rfl) (by kernel_rfl) (fun _ _ _ h => h) (Or.inl ⟨by rfl, ?_⟩) hHeld ?_
      rotate_left
      · (intro w' hSw; (try dsimp only at hSw); go_simp; try (with_reducible rfl))
      (try simp only [Act.put, List.setIfInBounds_toArray, List.set_cons_zero, List.set_cons_succ])
      refine wpAnyM_take (i := 3) (oi := ⟨_, _, _, _, _, _⟩) (v := ?_) rfl (by kernel_rfl) (by kernel_rfl) (by kernel_rfl) (by kernel_rfl) (fun _ _ _ h => h) (Or.inl ⟨by rfl, ?_⟩) hHeld ?_
      rotate_left
      · (intro w' hSw; (try dsimp only at hSw); go_simp; try (with_reducible rfl))
      (try simp only [Act.put, List.setIfInBounds_toArray, List.set_cons_zero, List.set_cons_succ])
      refine wpAnyM_take (i := 4) (oi := ⟨_, _, _, _, _, _⟩) (v := ?_) rfl (by kernel_rfl) (by kernel_rfl) (by kernel_rfl) (by kernel_rfl) (fun _ _ _ h => h) (Or.inl ⟨by rfl, ?_⟩) hHeld ?_
      rotate_left
      · (intro w' hSw; (try dsimp only at hSw); go_simp; try (with_reducible rfl))
      (try simp only [Act.put, List.setIfInBounds_toArray, List.set_cons_zero, List.set_cons_succ])
      refine wpAnyM_take (i := 5) (oi := ⟨_, _, _, _, _, _⟩) (v := ?_) rfl (by kernel_rfl) (by kernel_rfl) (by kernel_rfl) (by kernel_rfl) (fun _ _ _ h => h) (Or.inl ⟨by rfl, ?_⟩) hHeld ?_
      rotate_left
      · (intro w' hSw; (try dsimp only at hSw); go_simp; try (with_reducible rfl))
      (try simp only [Act.put, List.setIfInBounds_toArray, List.set_cons_zero, List.set_cons_succ])
      refine wpAnyM_take (i := 7) (oi := ⟨_, _, _, _, _, _⟩) (v := ?_) rfl (by kernel_rfl) (by kernel_rfl) (by kernel_rfl) (by kernel_rfl) (fun _ _ _ h => h) (Or.inl ⟨by rfl, ?_⟩) hHeld ?_
      rotate_left
      · (intro w' hSw; (try dsimp only at hSw); go_simp; try (with_reducible rfl))
      (try simp only [Act.put, List.setIfInBounds_toArray, List.set_cons_zero, List.set_cons_succ])
      refine wpAnyM_take (i := 8) (oi := ⟨_, _, _, _, _, _⟩) (v := ?_) rfl (by kernel_rfl) (by kernel_rfl) (by kernel_rfl) (by kernel_rfl) (fun _ _ _ h => h) (Or.inl ⟨by rfl, ?_⟩) hHeld ?_
      rotate_left
      · (intro w' hSw; (try dsimp only at hSw); go_simp; try (with_reducible rfl))
      (try simp only [Act.put, List.setIfInBounds_toArray, List.set_cons_zero, List.set_cons_succ])
      refine wpAnyM_take (i := 9) (oi := ⟨_, _, _, _, _, _⟩) (v := ?_) rfl (by kernel_rfl) (by kernel_rfl) (by kernel_rfl) (by kernel_rfl) (fun _ _ _ h => h) (Or.inl ⟨by rfl, ?_⟩) hHeld ?_
      rotate_left
      · (intro w' hSw; (try dsimp only at hSw); go_simp; try (with_reducible rfl))
      (try simp only [Act.put, List.setIfInBounds_toArray, List.set_cons_zero, List.set_cons_succ])
      refine wpAnyM_take (i := 10) (oi := ⟨_, _, _, _, _, _⟩) (v := ?_) rfl (by kernel_rfl) (by kernel_rfl) (by kernel_rfl) (by kernel_rfl) (fun _ _ _ h => h) (Or.inl ⟨by rfl, ?_⟩) hHeld ?_
      rotate_left
      · (intro w' hSw; (try dsimp only at hSw); go_simp; try (with_reducible rfl))
      (try simp only [Act.put, List.setIfInBounds_toArray, List.set_cons_zero, List.set_cons_succ])
      refine wpAnyM_take (i := 11) (oi := ⟨_, _, _, _, _, _⟩) (v := ?_) rfl (by kernel_rfl) (by kernel_rfl) (by kernel_rfl) (by kernel_rfl) (fun _ _ _ h => h) (Or.inl ⟨by rfl, ?_⟩) hHeld ?_
      rotate_left
      · (intro w' hSw; (try dsimp only at hSw); go_simp; try (with_reducible rfl))
      (try simp only [Act.put, List.setIfInBounds_toArray, List.set_cons_zero, List.set_cons_succ])
      refine wpAnyM_take (i := 12) (oi := ⟨_, _, _, _, _, _⟩) (v := ?_) rfl (by kernel_rfl) (by kernel_rfl) (by kernel_rfl) (by kernel_rfl) (fun _ _ _ h => h) (Or.inl ⟨by rfl, ?_⟩) hHeld ?_
      rotate_left
      · (intro w' hSw; (try dsimp only at hSw); go_simp; try (with_reducible rfl))
      (try simp only [Act.put, List.setIfInBounds_toArray, List.set_cons_zero, List.set_cons_succ])
      refine wpAnyM_one (i := 6) (o := ⟨_, _, _, _, _, _⟩) (by kernel_rfl) rfl (fun K hK => ?_)
      go_simp
      go_at_call 15
      refine (HPA.out _ (BD.out.drew)).mono ?_
      rintro e w7 ⟨u7, rfl, o_w7, b_w7, c_w7⟩
      have B_w7 := hide b_w7
      have O_w7 := hide o_w7
      have C_w7 := hide c_w7
      refine hK.out _ _ (KC.out _ B_w7.out) (fun hHeld => ?_)
      clear hK K o_w7 b_w7 c_w7
      (try simp only [List.setIfInBounds_toArray, List.set_cons_zero, List.set_cons_succ])
      refine wpAnyM_one (i := 13) (o := ⟨_, _, _, _, _, _⟩) (by kernel_rfl) rfl (fun K hK => ?_)
      go_simp
      go_at_call 15
      refine (HPB.out _ (B_w7.out)).mono ?_
      rintro e w8 ⟨u8, rfl, o_w8, b_w8, c_w8⟩
      have B_w8 := hide b_w8
      have O_w8 := hide o_w8
      have C_w8 := hide c_w8
      refine hK.out _ _ (KC.out _ B_w8.out) (fun hHeld => ?_)
      clear hK K o_w8 b_w8 c_w8
      (try simp only [List.setIfInBounds_toArray, List.set_cons_zero, List.set_cons_succ])
      refine wpAnyM_one (i := 14) (o := ⟨_, _, _, _, _, _⟩) (by kernel_rfl) rfl (fun K hK => ?_)
      go_simp
      refine hK.out _ _ (KC.out _ B_w8.out) (fun hHeld => ?_)
      clear hK K
      (try simp only [List.setIfInBounds_toArray, List.set_cons_zero, List.set_cons_succ])
      refine wpAnyM_one (i := 15) (o := ⟨_, _, _, _, _, _⟩) (by kernel_rfl) rfl (fun K hK => ?_)
      go_simp
      refine hK.out _ _ (KC.out _ B_w8.out) (fun hHeld => ?_)
      clear hK K
      (try simp only [List.setIfInBounds_toArray, List.set_cons_zero, List.set_cons_succ])
      refine wpAnyM_done (by kernel_rfl) ?_ _
      go_wp2_with fail
      go_roundg go
      case rel =>
        exact ⟨i + 1, by go_num, by omega, by omega, by rw [HS2.out, Int.mul_one, wrap_add'], by rw [HS1.out], HOK2, hide (by rw [HPT2.out]; exact O_w7.out.on C_w8.out), hide (by rw [HPT1.out]; exact O_w8.out), hide (GB.out.trans (B_w8.out.mono GB.out.size))⟩
      case measure => omega
    · have bt : ¬ (i : Int) < (rs.length : Int) := by omega
      have hT : rs.take i = rs := List.take_of_length_le (by omega)
      rw [hT] at GA GE HOK ⊢
      have c2 := puts_comes HF.out (show 1 ≤ (2 : Int) ∧ (2 : Int) ≤ 5 by omega) rs HOK.out
      have c1 := puts_comes HF.out (show 1 ≤ (1 : Int) ∧ (1 : Int) ≤ 5 by omega) rs HOK.out
      have HE2 := hide (sumA_red (.inr rfl) c2.1.1)
      have HE1 := hide (sumA_red (.inl rfl) c1.1.1)
      have HLN := hide (puts_same_len HF.out (show 1 ≤ (2 : Int) ∧ (2 : Int) ≤ 5 by omega) (show 1 ≤ (1 : Int) ∧ (1 : Int) ≤ 5 by omega) HOK.out)
      have HLE : Hid ((putsP k size slide 2 rs).length ≤ 3840) := (show _ ≤ _ by have h1 := puts_len k size slide 2 rs; omega)
      rw [HE2.out, HE1.out]
      generalize putsP k size slide 2 rs = pa at *
      generalize putsP k size slide 1 rs = pe at *
      have hle := HLE.out
      have hln := HLN.out
      have HBW2 := hide hBW
      have HST : Hid (sumA pa = sumA (pa.drop 0) ∧ sumA pe = sumA (pe.drop 0)) := (show _ ∧ _ by simp)
      clear hBW hT c1 c2 HE1 HE2
      obtain ⟨wo, rfl⟩ : ∃ wo, wo = wr := ⟨wr, rfl⟩
      have hle2 : pe.length ≤ 3840 := by omega
      have HLN2 := hide hln
      clear hln
      go_wp2_with fail
      go_loopg [7, 11] (pa.length + 1) (fun gh cv jv wx => ∃ j : Nat, jv = .int .i64 (j : Int) ∧ j ≤ pa.length ∧ pa.length + 1 ≤ gh + j ∧ cv = .int .i64 (sumA (pa.drop j)) ∧ wx = wo)
      case atStart => exact ⟨0, rfl, by omega, by omega, by rw [HST.out.1], rfl⟩
      case round =>
        obtain ⟨j, rfl, hj, hgj, rfl, rfl⟩ := hrel
        obtain ⟨gi, rfl⟩ : ∃ gi, gk = gi + 1 := ⟨gk - 1, by omega⟩
        by_cases hjl : j < pa.length
        · obtain ⟨x, hx⟩ := get_of_lt hjl
          have bj : (j : Int) < (pa.length : Int) := by omega
          obtain ⟨xb, xo, rfl, _, e0, e1, e2, e3⟩ := GA.out.pane hx
          have HSD := hide (sumA_drop hx)
          clear hx
          generalize sumA (pa.drop j) = sj at *
          go_wp2_with fail
          go_roundg gi
          case rel => exact ⟨j + 1, by go_num, by omega, by omega, by rw [HSD.out], rfl⟩
          case measure => omega
        · have bj : ¬ (j : Int) < (pa.length : Int) := by omega
          have hd : sumA (pa.drop j) = 0 := by rw [drop_end hjl]; rfl
          rw [hd]
          go_wp2_with fail
          go_loopg [8, 12] (pe.length + 1) (fun gh cv jv wx => ∃ j : Nat, jv = .int .i64 (j : Int) ∧ j ≤ pe.length ∧ pe.length + 1 ≤ gh + j ∧ cv = .int .i64 (sumA (pe.drop j)) ∧ wx = wr)
          case atStart => exact ⟨0, rfl, by omega, by omega, by rw [HST.out.2], rfl⟩
          case round =>
            obtain ⟨j2, rfl, hj2, hgj2, rfl, rfl⟩ := hrel
            obtain ⟨gi2, rfl⟩ : ∃ gi, gk = gi + 1 := ⟨gk - 1, by omega⟩
            by_cases hjl2 : j2 < pe.length
            · obtain ⟨x, hx⟩ := get_of_lt hjl2
              have bj2 : (j2 : Int) < (pe.length : Int) := by omega
              obtain ⟨xb, xo, rfl, _, e0, e1, e2, e3⟩ := GE.out.pane hx
              have HSD := hide (sumA_drop hx)
              clear hx
              generalize sumA (pe.drop j2) = sj at *
              go_wp2_with fail
              go_roundg gi2
              case rel => exact ⟨j2 + 1, by go_num, by omega, by omega, by rw [HSD.out], rfl⟩
              case measure => omega
            · have bj2 : ¬ (j2 : Int) < (pe.length : Int) := by omega
              have hd2 : sumA (pe.drop j2) = 0 := by rw [drop_end hjl2]; rfl
              rw [hd2]
              have hlb : ((pa.length : Int) == (pe.length : Int)) = true := by rw [HLN2.out]; simp
              have hlb2 : (pa.length == pe.length) = true := by rw [HLN2.out]; simp
              have hln := HLN2.out
              go_wp2_with fail
              go_ret
              exact ⟨by simp, HBW2.out⟩
end Go.Proofs.Ytlikikiglicdlaa
