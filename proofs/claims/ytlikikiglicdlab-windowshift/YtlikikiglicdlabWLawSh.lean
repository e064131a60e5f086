/-
  The law WindowShift, walked.
-/
import Derived.Test.YtlikikiglicdlabWShiftW
namespace Go.Proofs.Ytlikikiglicdlab
open Go.RowKit

set_option maxHeartbeats 32000000 in
set_option maxRecDepth 100000 in
theorem WindowShift_walk {w : World} {v : Value} {rs : List Rc} (hl : LSeg 3 Rc.cs w.heap.size w v rs) (hrs : ∀ r ∈ rs, In64 r.v) {k size slide : Int} (hs : In64 size) (hsl : In64 slide) (a by_ : Int) :
    Calls Try.prog 4 #[.agg #[.int .i64 k, .int .i64 size, .int .i64 slide], .int .i64 a, v, .int .i64 by_] w fun e w' => e = .returned (.bool true) ∧ Below w.heap.size w w' := by
  obtain ⟨ao, cap, rfl⟩ := hl.shapeOf
  have HB0 := hide (below_box w (.cells #[.int .i64 k, .int .i64 size, .int .i64 slide] 23))
  have HBX := hide (BoxT.new 23 w #[.int .i64 k, .int .i64 size, .int .i64 slide])
  have HK := hide (fun W => known_any W)
  have hz : (rs.length : Int) ≤ 140737488355328 := by have := hl.len; omega
  by_cases hF : FitW k size slide
  case neg =>
    have HFT := hide (fit_no hF)
    clear hl
    go_enter Try.func4, Try.ntmps4
    go_wp2_with (first
      | (go_at_call 6; refine (HK.out _).mono ?_; rintro e w1 ⟨rfl, b1⟩; have HB1 := hide (HB0.out.trans (b1.mono HB0.out.size)); have HX1 := hide (BoxT.below (t := 23) HBX.out b1); obtain ⟨y0, y1, y2⟩ := HX1.out.cells3; clear b1)
      | (go_at_call 7; refine (HFT.out _).mono ?_; rintro e w2 ⟨rfl, b2⟩; have HB2 := hide (HB1.out.trans (b2.mono HB1.out.size)); have HX2 := hide (BoxT.below (t := 23) HX1.out b2); clear b2 y0 y1 y2))
    go_ret
    exact ⟨rfl, HB2.out⟩
  have HFT := hide (fit_yes hF)
  have HF := hide hF
  have hsz := fit_size hF
  obtain ⟨hsz1, hsz2⟩ := hsz
  have hsl0 : 0 ≤ slide := by obtain ⟨_, _, _, _, h | h⟩ := hF <;> omega
  clear hF
  by_cases hn : (60 : Int) < (rs.length : Int)
  · clear hl
    go_enter Try.func4, Try.ntmps4
    go_wp2_with (first
      | (go_at_call 6; refine (HK.out _).mono ?_; rintro e w1 ⟨rfl, b1⟩; have HB1 := hide (HB0.out.trans (b1.mono HB0.out.size)); have HX1 := hide (BoxT.below (t := 23) HBX.out b1); obtain ⟨y0, y1, y2⟩ := HX1.out.cells3; clear b1)
      | (go_at_call 7; refine (HFT.out _).mono ?_; rintro e w2 ⟨rfl, b2⟩; have HB2 := hide (HB1.out.trans (b2.mono HB1.out.size)); have HX2 := hide (BoxT.below (t := 23) HX1.out b2); clear b2 y0 y1 y2))
    go_ret
    exact ⟨rfl, HB2.out⟩
  have HIS := hide (fun W => Is_any W a)
  by_cases hA : 1 ≤ a ∧ a ≤ 5
  case neg =>
    rw [decide_eq_false hA] at HIS
    clear hl
    go_enter Try.func4, Try.ntmps4
    go_wp2_with (first
      | (go_at_call 6; refine (HK.out _).mono ?_; rintro e w1 ⟨rfl, b1⟩; have HB1 := hide (HB0.out.trans (b1.mono HB0.out.size)); have HX1 := hide (BoxT.below (t := 23) HBX.out b1); obtain ⟨y0, y1, y2⟩ := HX1.out.cells3; clear b1)
      | (go_at_call 7; refine (HFT.out _).mono ?_; rintro e w2 ⟨rfl, b2⟩; have HB2 := hide (HB1.out.trans (b2.mono HB1.out.size)); have HX2 := hide (BoxT.below (t := 23) HX1.out b2); clear b2 y0 y1 y2)
      | (go_at_call 8; refine (HIS.out _).mono ?_; rintro e w3 ⟨rfl, b3⟩; have HB3 := hide (HB2.out.trans (b3.mono HB2.out.size)); have HBW := hide (BoxT.below (t := 23) HX2.out b3); obtain ⟨z0, z1, z2⟩ := HBW.out.cells3; clear b3))
    go_ret
    exact ⟨rfl, HB3.out⟩
  rw [decide_eq_true hA] at HIS
  have HA := hide hA
  clear hA
  by_cases hS : (1048576 : Int) < size
  · clear hl
    go_enter Try.func4, Try.ntmps4
    go_wp2_with (first
      | (go_at_call 6; refine (HK.out _).mono ?_; rintro e w1 ⟨rfl, b1⟩; have HB1 := hide (HB0.out.trans (b1.mono HB0.out.size)); have HX1 := hide (BoxT.below (t := 23) HBX.out b1); obtain ⟨y0, y1, y2⟩ := HX1.out.cells3; clear b1)
      | (go_at_call 7; refine (HFT.out _).mono ?_; rintro e w2 ⟨rfl, b2⟩; have HB2 := hide (HB1.out.trans (b2.mono HB1.out.size)); have HX2 := hide (BoxT.below (t := 23) HX1.out b2); clear b2 y0 y1 y2)
      | (go_at_call 8; refine (HIS.out _).mono ?_; rintro e w3 ⟨rfl, b3⟩; have HB3 := hide (HB2.out.trans (b3.mono HB2.out.size)); have HBW := hide (BoxT.below (t := 23) HX2.out b3); obtain ⟨z0, z1, z2⟩ := HBW.out.cells3; clear b3))
    go_ret
    exact ⟨rfl, HB3.out⟩
  by_cases hT : (1048576 : Int) < slide
  · clear hl
    go_enter Try.func4, Try.ntmps4
    go_wp2_with (first
      | (go_at_call 6; refine (HK.out _).mono ?_; rintro e w1 ⟨rfl, b1⟩; have HB1 := hide (HB0.out.trans (b1.mono HB0.out.size)); have HX1 := hide (BoxT.below (t := 23) HBX.out b1); obtain ⟨y0, y1, y2⟩ := HX1.out.cells3; clear b1)
      | (go_at_call 7; refine (HFT.out _).mono ?_; rintro e w2 ⟨rfl, b2⟩; have HB2 := hide (HB1.out.trans (b2.mono HB1.out.size)); have HX2 := hide (BoxT.below (t := 23) HX1.out b2); clear b2 y0 y1 y2)
      | (go_at_call 8; refine (HIS.out _).mono ?_; rintro e w3 ⟨rfl, b3⟩; have HB3 := hide (HB2.out.trans (b3.mono HB2.out.size)); have HBW := hide (BoxT.below (t := 23) HX2.out b3); obtain ⟨z0, z1, z2⟩ := HBW.out.cells3; clear b3))
    go_ret
    exact ⟨rfl, HB3.out⟩
  have HL := hide hl
  have HRS := hide hrs
  have hn60 : rs.length ≤ 60 := by omega
  have HPC := hide (fun W => hPlace_any W by_ (n := 9) (by omega) (by omega))
  have hpl := plc_in (i := by_) (n := 9) (by omega)
  generalize plc by_ 9 = pt at *
  obtain ⟨hp0, hp1⟩ := hpl
  have hG : 1 ≤ size * max slide 1 ∧ size * max slide 1 ≤ 1099511627776 := by
    have h1 : 1 ≤ max slide 1 ∧ max slide 1 ≤ 1048576 := by omega
    have h2 : size * max slide 1 ≤ 1048576 * 1048576 := Int.mul_le_mul (by omega) h1.2 (by omega) (by omega)
    have h3 : 1 * 1 ≤ size * max slide 1 := Int.mul_le_mul hsz1 h1.1 (by omega) (by omega)
    omega
  obtain ⟨d, hd⟩ : ∃ d, d = size * max slide 1 * (pt - 4) := ⟨_, rfl⟩
  have hdb : -4398046511104 ≤ d ∧ d ≤ 4398046511104 := by
    rw [hd]
    have hp : pt = 0 ∨ pt = 1 ∨ pt = 2 ∨ pt = 3 ∨ pt = 4 ∨ pt = 5 ∨ pt = 6 ∨ pt = 7 ∨ pt = 8 := by omega
    generalize size * max slide 1 = g at *
    rcases hp with rfl | rfl | rfl | rfl | rfl | rfl | rfl | rfl | rfl <;> omega
  have HST : Hid (IntKind.i64.wrap (IntKind.i64.wrap (size * max slide 1) * IntKind.i64.wrap (pt - 4)) = d) := (show _ = _ by
    have e0 : ∀ x : Int, -9223372036854775808 ≤ x → x ≤ 9223372036854775807 → IntKind.i64.wrap x = x := by
      intro x h1 h2
      rw [IntKind.wrap_i64]
      omega
    rw [e0 (pt - 4) (by omega) (by omega)]
    have e1 : IntKind.i64.wrap (size * max slide 1) = size * max slide 1 := e0 _ (by omega) (by omega)
    rw [e1, ← hd]
    exact e0 _ (by omega) (by omega))
  have HSH : Hid (∀ rs' : List Rc, (∀ r ∈ rs', RcOk r ∧ RcOk (shR d r)) → putsP k size slide a (rs'.map (shR d)) = (putsP k size slide a rs').map (sh d)) := fun rs' h => puts_shift HF.out HA.out hd rs' h
  clear hl hn hrs hG hd
  go_enter Try.func4, Try.ntmps4
  go_wp2_with (first
    | (go_at_call 6; refine (HK.out _).mono ?_; rintro e w1 ⟨rfl, b1⟩; have HB1 := hide (HB0.out.trans (b1.mono HB0.out.size)); have HX1 := hide (BoxT.below (t := 23) HBX.out b1); obtain ⟨y0, y1, y2⟩ := HX1.out.cells3; clear b1)
    | (go_at_call 7; refine (HFT.out _).mono ?_; rintro e w2 ⟨rfl, b2⟩; have HB2 := hide (HB1.out.trans (b2.mono HB1.out.size)); have HX2 := hide (BoxT.below (t := 23) HX1.out b2); clear b2 y0 y1 y2)
    | (go_at_call 8; refine (HIS.out _).mono ?_; rintro e w3 ⟨rfl, b3⟩; have HB3 := hide (HB2.out.trans (b3.mono HB2.out.size)); have HBW := hide (BoxT.below (t := 23) HX2.out b3); obtain ⟨z0, z1, z2⟩ := HBW.out.cells3; clear b3))
  clear HK HFT HIS HB0 HB1 HB2 HX1 HX2 HBX
  have KW : Hid (∀ w' : World, Below w3.heap.size w3 w' → w'.cell? ⟨w.heap.size, 1, none⟩ = some (.int .i64 size) ∧ w'.cell? ⟨w.heap.size, 2, none⟩ = some (.int .i64 slide)) := fun w' h => ⟨(by rw [(BoxT.below (t := 23) HBW.out h).cellAt]; rfl), (by rw [(BoxT.below (t := 23) HBW.out h).cellAt]; rfl)⟩
  refine wp_region_M (S := fun w' => w'.cell? ⟨w.heap.size, 1, none⟩ = some (.int .i64 size) ∧ w'.cell? ⟨w.heap.size, 2, none⟩ = some (.int .i64 slide)) (late := []) (by kernel_rfl) (KW.out _ ((Below.refl _ _).drew)) (fun hHeld => ?_)
  (try simp only [List.size_toArray, List.length_cons, List.length_nil, Nat.zero_add, Nat.reduceAdd, Array.replicate, List.replicate])
  refine wpAnyM_take (i := 0) (oi := ⟨_, _, _, _, _, _⟩) (v := ?_) rfl (by kernel_rfl) (by kernel_rfl) (by kernel_rfl) (by kernel_rfl) (fun _ _ _ h => h) (Or.inl ⟨by rfl, ?_⟩) hHeld ?_
  rotate_left
  · (intro w' hSw; (try dsimp only at hSw); go_simp; try (with_reducible rfl))
  (try simp only [Act.put, List.setIfInBounds_toArray, List.set_cons_zero, List.set_cons_succ])
  refine wpAnyM_take (i := 1) (oi := ⟨_, _, _, _, _, _⟩) (v := ?_) rfl (by kernel_rfl) (by kernel_rfl) (by kernel_rfl) (by kernel_rfl) (fun _ _ _ h => h) (Or.inl ⟨by rfl, ?_⟩) hHeld ?_
  rotate_left
  · (intro w' hSw; (try dsimp only at hSw); go_simp; try (with_reducible rfl))
  (try simp only [Act.put, List.setIfInBounds_toArray, List.set_cons_zero, List.set_cons_succ])
  refine wpAnyM_take (i := 2) (oi := ⟨_, _, _, _, _, _⟩) (v := ?_) rfl (by kernel_rfl) (by kernel_rfl) (by kernel_rfl) (by kernel_rfl) (fun _ _ _ h => h) (Or.inl ⟨by rfl, ?_⟩) hHeld ?_
  rotate_left
  · (intro w' hSw; (try dsimp only at hSw); go_simp; try (with_reducible rfl))
  (try simp only [Act.put, List.setIfInBounds_toArray, List.set_cons_zero, List.set_cons_succ])
  refine wpAnyM_take (i := 3) (oi := ⟨_, _, _, _, _, _⟩) (v := ?_) rfl (by kernel_rfl) (by kernel_rfl) (by kernel_rfl) (by kernel_rfl) (fun _ _ _ h => h) (Or.inl ⟨by rfl, ?_⟩) hHeld ?_
  rotate_left
  · (intro w' hSw; (try dsimp only at hSw); go_simp; try (with_reducible rfl))
  (try simp only [Act.put, List.setIfInBounds_toArray, List.set_cons_zero, List.set_cons_succ])
  refine wpAnyM_take (i := 4) (oi := ⟨_, _, _, _, _, _⟩) (v := ?_) rfl (by kernel_rfl) (by kernel_rfl) (by kernel_rfl) (by kernel_rfl) (fun _ _ _ h => h) (Or.inl ⟨by rfl, ?_⟩) hHeld ?_
  rotate_left
  · (intro w' hSw; (try dsimp only at hSw); go_simp; try (with_reducible rfl))
  (try simp only [Act.put, List.setIfInBounds_toArray, List.set_cons_zero, List.set_cons_succ])
  refine wpAnyM_take (i := 5) (oi := ⟨_, _, _, _, _, _⟩) (v := ?_) rfl (by kernel_rfl) (by kernel_rfl) (by kernel_rfl) (by kernel_rfl) (fun _ _ _ h => h) (Or.inl ⟨by rfl, ?_⟩) hHeld ?_
  rotate_left
  · (intro w' hSw; (try dsimp only at hSw); go_simp; try (with_reducible rfl))
  (try simp only [Act.put, List.setIfInBounds_toArray, List.set_cons_zero, List.set_cons_succ])
  refine wpAnyM_take (i := 6) (oi := ⟨_, _, _, _, _, _⟩) (v := ?_) rfl (by kernel_rfl) (by kernel_rfl) (by kernel_rfl) (by kernel_rfl) (fun _ _ _ h => h) (Or.inl ⟨by rfl, ?_⟩) hHeld ?_
  rotate_left
  · (intro w' hSw; (try dsimp only at hSw); go_simp; try (with_reducible rfl))
  (try simp only [Act.put, List.setIfInBounds_toArray, List.set_cons_zero, List.set_cons_succ])
  refine wpAnyM_one (i := 7) (o := ⟨_, _, _, _, _, _⟩) (by kernel_rfl) rfl (fun K hK => ?_)
  go_simp
  go_at_call 13
  refine (HPC.out _).mono ?_
  rintro e w4 ⟨rfl, rfl⟩
  refine hK.out _ _ (KW.out _ (Below.refl _ _).drew) (fun hHeld => ?_)
  clear hK K
  (try simp only [List.setIfInBounds_toArray, List.set_cons_zero, List.set_cons_succ])
  refine wpAnyM_one (i := 8) (o := ⟨_, _, _, _, _, _⟩) (by kernel_rfl) rfl (fun K hK => ?_)
  go_simp
  refine hK.out _ _ (KW.out _ (Below.refl _ _).drew) (fun hHeld => ?_)
  clear hK K
  (try simp only [List.setIfInBounds_toArray, List.set_cons_zero, List.set_cons_succ])
  refine wpAnyM_one (i := 9) (o := ⟨_, _, _, _, _, _⟩) (by kernel_rfl) rfl (fun K hK => ?_)
  go_simp
  refine hK.out _ _ (KW.out _ (Below.refl _ _).drew) (fun hHeld => ?_)
  clear hK K
  (try simp only [List.setIfInBounds_toArray, List.set_cons_zero, List.set_cons_succ])
  refine wpAnyM_one (i := 10) (o := ⟨_, _, _, _, _, _⟩) (by kernel_rfl) rfl (fun K hK => ?_)
  go_simp
  refine hK.out _ _ (KW.out _ (Below.refl _ _).drew) (fun hHeld => ?_)
  clear hK K
  (try simp only [List.setIfInBounds_toArray, List.set_cons_zero, List.set_cons_succ])
  refine wpAnyM_done (by kernel_rfl) ?_ _
  rw [HST.out]
  clear KW HST HPC z0 z1 z2 hp0 hp1
  have HB4 := hide HB3.out.drew
  have HBW4 := hide (BoxT.below (t := 23) HBW.out (Below.refl _ _).drew)
  clear HB3 HBW
  generalize w3.drew = w4 at *
  obtain ⟨hd1, hd2⟩ := hdb
  go_wp2_with fail
  go_loopg [10, 11, 12, 13] (rs.length + 1) (fun gh pv qv iv _ wr => ∃ (i B : Nat), iv = .int .i64 (i : Int) ∧ i ≤ rs.length ∧ rs.length + 1 ≤ gh + i ∧ Hid (∀ r ∈ rs.take i, RcOk r ∧ RcOk (shR d r)) ∧ Hid (LSeg 4 Pn.cs B wr pv (putsP k size slide a (rs.take i))) ∧ Hid (Row 41 4 Pn.cs B wr qv (putsP k size slide a ((rs.take i).map (shR d)))) ∧ Hid (B ≤ wr.heap.size ∧ w4.heap.size ≤ B) ∧ Hid (Below w4.heap.size w4 wr))
  case atStart => exact ⟨0, w4.heap.size, rfl, by omega, by omega, (show ∀ r ∈ _, _ by simp), LSeg.nil' _ _ _ _, Row.nil _ _ _ _ _, (show _ ∧ _ from ⟨Nat.le_refl _, Nat.le_refl _⟩), Below.refl _ _⟩
  case round =>
    obtain ⟨i, B, rfl, hi, hg, HOK, GP, GQ, GS, GB⟩ := hrel
    obtain ⟨go, rfl⟩ : ∃ go, gk = go + 1 := ⟨gk - 1, by omega⟩
    obtain ⟨pa, pc, rfl⟩ := GP.out.shapeOf
    obtain ⟨qa, qc, rfl⟩ := GQ.out.shape
    have hBW := HB4.out.trans (GB.out.mono HB4.out.size)
    by_cases hlt : i < rs.length
    · obtain ⟨r, hr⟩ := get_of_lt hlt
      have bt : (i : Int) < (rs.length : Int) := by omega
      obtain ⟨nb, no, rfl, nlt, d0, d1, d2⟩ := (HL.out.below hBW).rec hr
      have hnbw : nb < wr.heap.size := Nat.lt_of_lt_of_le nlt hBW.size
      have HRV := hide (HRS.out r (List.mem_of_getElem? hr))
      have HTK := hide (take_snoc hr)
      have HPT := hide (puts_take (k := k) (size := size) (slide := slide) (a := a) hr)
      have HPQ := hide (putsP_snoc k size slide a ((rs.take i).map (shR d)) (shR d r))
      have HPL : Hid ((putsP k size slide a (rs.take i)).length ≤ 50000) := (show _ ≤ _ by have h1 := puts_len k size slide a (rs.take i); rw [List.length_take] at h1; omega)
      have HQL : Hid ((putsP k size slide a ((rs.take i).map (shR d))).length ≤ 50000) := (show _ ≤ _ by have h1 := puts_len k size slide a ((rs.take i).map (shR d)); rw [List.length_map, List.length_take] at h1; omega)
      have HTM1 := hide (time_yes (t := r.t))
      have HTM0 := hide (time_no (t := r.t))
      have HTN1 := hide (time_yes (t := r.t + d))
      have HTN0 := hide (time_no (t := r.t + d))
      clear hr
      have HBW2 := hide hBW
      clear hBW
      by_cases hT1 : TimeOk r.t
      case neg =>
        have HT := hide (HTM0.out hT1)
        obtain ⟨rk, rt, rv⟩ := r
        simp only at d0 d1 d2 HT
        clear HTM1 HTM0 HTN1 HTN0 hT1
        go_wp2_with (go_at_call 9; refine (HT.out _).mono ?_; rintro e w5 ⟨rfl, rfl⟩)
        go_ret
        exact ⟨rfl, HBW2.out⟩
      have HT := hide (HTM1.out hT1)
      have hrt := hT1
      unfold TimeOk at hrt
      obtain ⟨hrt1, hrt2⟩ := hrt
      by_cases hT2 : TimeOk (r.t + d)
      case neg =>
        have HT2 := hide (HTN0.out hT2)
        obtain ⟨rk, rt, rv⟩ := r
        simp only at d0 d1 d2 HT HT2 hrt1 hrt2
        clear HTM1 HTM0 HTN1 HTN0 hT1 hT2
        go_wp2_with (first
          | (go_at_call 9; refine (HT.out _).mono ?_; rintro e w5 ⟨rfl, rfl⟩)
          | (go_at_call 9; refine (HT2.out _).mono ?_; rintro e w5 ⟨rfl, rfl⟩))
        go_ret
        exact ⟨rfl, HBW2.out⟩
      have HT2 := hide (HTN1.out hT2)
      have HOK2 : Hid (∀ r' ∈ rs.take (i + 1), RcOk r' ∧ RcOk (shR d r')) := (show ∀ r' ∈ _, _ by
        rw [HTK.out]
        intro r' h'
        rcases List.mem_append.1 h' with h' | h'
        · exact HOK.out r' h'
        · obtain rfl := List.mem_singleton.1 h'; exact ⟨⟨hT1, HRV.out⟩, ⟨hT2, HRV.out⟩⟩)
      have HMP : Hid ((rs.take (i + 1)).map (shR d) = (rs.take i).map (shR d) ++ [shR d r]) := (show _ = _ by rw [HTK.out, List.map_append]; rfl)
      clear HTM1 HTM0 HTN1 HTN0 hT1 hT2 HRV HTK HOK
      obtain ⟨rk, rt, rv⟩ := r
      have HSR : Hid (shR d ⟨rk, rt, rv⟩ = ⟨rk, rt + d, rv⟩) := (show _ = _ from rfl)
      rw [HSR.out] at HMP HPQ
      rw [← HMP.out] at HPQ
      simp only at d0 d1 d2 HT HT2 hrt1 hrt2
      generalize hpp : putsP k size slide a (rs.take i) = pp at *
      generalize hqq : putsP k size slide a ((rs.take i).map (shR d)) = qq at *
      clear hpp hqq HMP HSR
      have KC : Hid (∀ w' : World, Below (wr).heap.size (wr) w' → w'.cell? ⟨w.heap.size, 0, none⟩ = some (.int .i64 k) ∧ w'.cell? ⟨w.heap.size, 1, none⟩ = some (.int .i64 size) ∧ w'.cell? ⟨w.heap.size, 2, none⟩ = some (.int .i64 slide) ∧ w'.cell? ⟨nb, no + i * 3, none⟩ = some (.int .i64 rk) ∧ w'.cell? ⟨nb, no + i * 3 + 1, none⟩ = some (.int .i64 rt) ∧ w'.cell? ⟨nb, no + i * 3 + 2, none⟩ = some (.int .i64 rv)) := fun w' h => ⟨(by rw [(BoxT.below (t := 23) (BoxT.below (t := 23) HBW4.out GB.out) h).cellAt]; rfl), (by rw [(BoxT.below (t := 23) (BoxT.below (t := 23) HBW4.out GB.out) h).cellAt]; rfl), (by rw [(BoxT.below (t := 23) (BoxT.below (t := 23) HBW4.out GB.out) h).cellAt]; rfl), ((h.cell (p := ⟨nb, no + i * 3, none⟩) hnbw).trans d0), ((h.cell (p := ⟨nb, no + i * 3 + 1, none⟩) hnbw).trans d1), ((h.cell (p := ⟨nb, no + i * 3 + 2, none⟩) hnbw).trans d2)⟩
      have HPU := hide (Put_at (GP.out.mono GS.out.1) HPL.out k hs hsl a rk rt rv)
      go_wp2_with (first
        | (go_at_call 9; refine (HT.out _).mono ?_; rintro e w5 ⟨rfl, rfl⟩)
        | (go_at_call 9; refine (HT2.out _).mono ?_; rintro e w5 ⟨rfl, rfl⟩))
      refine wp_region_M (S := fun w' => w'.cell? ⟨w.heap.size, 0, none⟩ = some (.int .i64 k) ∧ w'.cell? ⟨w.heap.size, 1, none⟩ = some (.int .i64 size) ∧ w'.cell? ⟨w.heap.size, 2, none⟩ = some (.int .i64 slide) ∧ w'.cell? ⟨nb, no + i * 3, none⟩ = some (.int .i64 rk) ∧ w'.cell? ⟨nb, no + i * 3 + 1, none⟩ = some (.int .i64 rt) ∧ w'.cell? ⟨nb, no + i * 3 + 2, none⟩ = some (.int .i64 rv)) (late := []) (by kernel_rfl) (KC.out _ ((Below.refl _ _).drew)) (fun hHeld => ?_)
      (try simp only [List.size_toArray, List.length_cons, List.length_nil, Nat.zero_add, Nat.reduceAdd, Array.replicate, List.replicate])
      refine wpAnyM_take (i := 0) (oi := ⟨_, _, _, _, _, _⟩) (v := ?_) rfl (by kernel_rfl) (by kernel_rfl) (by kernel_rfl) (by kernel_rfl) (fun _ _ _ h => h) (Or.inl ⟨by rfl, ?_⟩) hHeld ?_
      rotate_left
      · (intro w' hSw; (try dsimp only at hSw); go_simp; try (with_reducible rfl))
      (try simp only [Act.put, List.setIfInBounds_toArray, List.set_cons_zero, List.set_cons_succ])
      refine wpAnyM_take (i := 1) (oi := ⟨_, _, _, _, _, _⟩) (v := ?_) rfl (by kernel_rfl) (by kernel_rfl) (by kernel_rfl) (by kernel_rfl) (fun _ _ _ h => h) (Or.inl ⟨by rfl, ?_⟩) hHeld ?_
      rotate_left
      · (intro w' hSw; (try dsimp only at hSw); go_simp; try (with_reducible rfl))
      (try simp only [Act.put, List.setIfInBounds_toArray, List.set_cons_zero, List.set_cons_succ])
      refine wpAnyM_take (i := 2) (oi := ⟨_, _, _, _, _, _⟩) (v := ?_) rfl (by kernel_rfl) (by kernel_rfl) (by kernel_rfl) (by kernel_rfl) (fun _ _ _ h => h) (Or.inl ⟨by rfl, ?_⟩) hHeld ?_
      rotate_left
      · (intro w' hSw; (try dsimp only at hSw); go_simp; try (with_reducible rfl))
      (try simp only [Act.put, List.setIfInBounds_toArray, List.set_cons_zero, List.set_cons_succ])
      refine wpAnyM_take (i := 3) (oi := ⟨_, _, _, _, _, _⟩) (v := ?_) rfl (by kernel_rfl) (by kernel_rfl) (by kernel_rfl) (by kernel_rfl) (fun _ _ _ h => h) (Or.inl ⟨by rfl, ?_⟩) hHeld ?_
      rotate_left
      · (intro w' hSw; (try dsimp only at hSw); go_simp; try (with_reducible rfl))
      (try simp only [Act.put, List.setIfInBounds_toArray, List.set_cons_zero, List.set_cons_succ])
      refine wpAnyM_take (i := 4) (oi := ⟨_, _, _, _, _, _⟩) (v := ?_) rfl (by kernel_rfl) (by kernel_rfl) (by kernel_rfl) (by kernel_rfl) (fun _ _ _ h => h) (Or.inl ⟨by rfl, ?_⟩) hHeld ?_
      rotate_left
      · (intro w' hSw; (try dsimp only at hSw); go_simp; try (with_reducible rfl))
      (try simp only [Act.put, List.setIfInBounds_toArray, List.set_cons_zero, List.set_cons_succ])
      refine wpAnyM_take (i := 5) (oi := ⟨_, _, _, _, _, _⟩) (v := ?_) rfl (by kernel_rfl) (by kernel_rfl) (by kernel_rfl) (by kernel_rfl) (fun _ _ _ h => h) (Or.inl ⟨by rfl, ?_⟩) hHeld ?_
      rotate_left
      · (intro w' hSw; (try dsimp only at hSw); go_simp; try (with_reducible rfl))
      (try simp only [Act.put, List.setIfInBounds_toArray, List.set_cons_zero, List.set_cons_succ])
      refine wpAnyM_take (i := 6) (oi := ⟨_, _, _, _, _, _⟩) (v := ?_) rfl (by kernel_rfl) (by kernel_rfl) (by kernel_rfl) (by kernel_rfl) (fun _ _ _ h => h) (Or.inl ⟨by rfl, ?_⟩) hHeld ?_
      rotate_left
      · (intro w' hSw; (try dsimp only at hSw); go_simp; try (with_reducible rfl))
      (try simp only [Act.put, List.setIfInBounds_toArray, List.set_cons_zero, List.set_cons_succ])
      refine wpAnyM_one (i := 7) (o := ⟨_, _, _, _, _, _⟩) (by kernel_rfl) rfl (fun K hK => ?_)
      go_simp
      go_at_call 10
      refine (HPU.out _ ((Below.refl _ _).drew)).mono ?_
      rintro e w5 ⟨u5, rfl, o_w5, b_w5⟩
      have B_w5 := hide b_w5
      have O_w5 := hide o_w5
      refine hK.out _ _ (KC.out _ B_w5.out) (fun hHeld => ?_)
      clear hK K o_w5 b_w5
      (try simp only [List.setIfInBounds_toArray, List.set_cons_zero, List.set_cons_succ])
      refine wpAnyM_one (i := 8) (o := ⟨_, _, _, _, _, _⟩) (by kernel_rfl) rfl (fun K hK => ?_)
      go_simp
      refine hK.out _ _ (KC.out _ B_w5.out) (fun hHeld => ?_)
      clear hK K
      (try simp only [List.setIfInBounds_toArray, List.set_cons_zero, List.set_cons_succ])
      refine wpAnyM_done (by kernel_rfl) ?_ _
      obtain ⟨_, _, _, f0, f1, f2⟩ := KC.out _ B_w5.out
      have HW5 := hide (BoxT.below (t := 23) HBW4.out (GB.out.trans (B_w5.out.mono GB.out.size)))
      obtain ⟨y0, y1, y2⟩ := HW5.out.cells3
      obtain ⟨ua, uc, rfl⟩ := O_w5.out.shapeOf
      have HPS := hide (Put_own ((GQ.out.seg Pn.cs_len (by have := HQL.out; omega)).on B_w5.out) HQL.out k hs hsl a rk (rt + d) rv)
      clear KC d0 d1 d2
      have HB6 := hide (below_box w5 (.cells #[.int .i64 rk, .int .i64 (rt + d), .int .i64 rv] 32))
      obtain ⟨x0, x1, x2⟩ := (BoxT.below (t := 23) HW5.out HB6.out).cells3
      go_wp2_with (go_at_call 10; refine (HPS.out _ HB6.out).mono ?_; rintro e w7 ⟨u7, rfl, o7, b7⟩; have O7 := hide o7; have B7 := hide b7; clear o7 b7)
      go_roundg go
      case rel =>
        exact ⟨i + 1, w5.heap.size, by go_num, by omega, by omega, HOK2, hide (by rw [HPT.out]; exact O_w5.out.below B7.out), hide (by rw [HPQ.out]; exact O7.out), (show _ ∧ _ from ⟨B7.out.size, Nat.le_trans GS.out.2 (Nat.le_trans GS.out.1 B_w5.out.size)⟩), hide (GB.out.trans ((B_w5.out.trans (B7.out.mono B_w5.out.size)).mono GB.out.size))⟩
      case measure => omega
    · have bt : ¬ (i : Int) < (rs.length : Int) := by omega
      have hTi : rs.take i = rs := List.take_of_length_le (by omega)
      rw [hTi] at GP GQ HOK ⊢
      have HEQ := hide (HSH.out rs HOK.out)
      have HBD := hide (puts_bd HF.out HA.out rs fun r h => (HOK.out r h).1)
      have hpl : (putsP k size slide a rs).length ≤ 3840 := by have h1 := puts_len k size slide a rs; omega
      rw [HEQ.out] at GQ ⊢
      have HBW2 := hide hBW
      clear hBW hTi HEQ HSH HOK
      generalize putsP k size slide a rs = ps at *
      simp only [List.length_map] at GQ ⊢
      have HGS : Hid (w.heap.size ≤ B) := (show _ ≤ _ from Nat.le_trans HB4.out.size GS.out.2)
      go_wp2_with fail
      go_loopg [14] (ps.length + 1) (fun gh iv wq => ∃ (i2 : Nat) (ms : List Pn), iv = .int .i64 (i2 : Int) ∧ i2 ≤ ps.length ∧ ps.length + 1 ≤ gh + i2 ∧ Hid (Backed d ps ms i2) ∧ Hid (Row 41 4 Pn.cs B wq (.slice qa ps.length qc) ms) ∧ Hid (Below B wr wq))
      case atStart => exact ⟨0, ps.map (sh d), rfl, by omega, by omega, backed_start d ps, GQ, Below.refl _ _⟩
      case round =>
        obtain ⟨i2, ms, rfl, hi2, hg2, HBK, GR, GC⟩ := hrel
        obtain ⟨go2, rfl⟩ : ∃ go2, gk = go2 + 1 := ⟨gk - 1, by omega⟩
        have hml : ms.length = ps.length := HBK.out.1
        by_cases hlt2 : i2 < ps.length
        · obtain ⟨x, hx⟩ := get_of_lt hlt2
          have bt2 : (i2 : Int) < (ps.length : Int) := by omega
          have hm := HBK.out.2 i2 x hx
          rw [if_neg (by omega)] at hm
          have HBS := hide (backed_step HBK.out hx)
          have hbd := HBD.out x (List.mem_of_getElem? hx)
          obtain ⟨qb, qo, rfl, _, e0, e1, e2, e3⟩ := (GR.out.seg Pn.cs_len (by omega)).pane hm
          obtain ⟨cur, hcur⟩ := GR.out.has qb rfl
          have hqB := GR.out.at qb rfl
          have hfr0 : ∀ q, wr.frozen? ⟨qb, q, none⟩ = false := fun q => BoxT.free (t := 41) hcur q
          clear hx hcur
          obtain ⟨xk, xf, xt, xa⟩ := x
          unfold sh at hm e0 e1 e2 e3
          simp only at hm e0 e1 e2 e3
          have HRS2 := hide (fun W (hW : Row 41 4 Pn.cs B W (.slice (some ⟨qb, qo, none⟩) ps.length qc) ms) => hW.setSpan hm xf xt)
          have hdrew : ∀ p, wr.drew.cell? p = wr.cell? p := fun _ => rfl
          unfold Bd at hbd
          dsimp only at hbd
          obtain ⟨hb1, hb2, hb3, hb4⟩ := hbd
          have HWF : Hid (IntKind.i64.wrap xf = xf ∧ IntKind.i64.wrap xt = xt) := (show _ ∧ _ by rw [IntKind.wrap_i64, IntKind.wrap_i64]; omega)
          have HBZ : Hid (B ≤ wr.heap.size) := (show _ ≤ _ from Nat.le_trans GS.out.1 GC.out.size)
          clear hm
          go_wp2_with fail
          refine wp_region_M (S := fun _ => True) (late := []) (by kernel_rfl) trivial (fun hHeld => ?_)
          (try simp only [List.size_toArray, List.length_cons, List.length_nil, Nat.zero_add, Nat.reduceAdd, Array.replicate, List.replicate])
          refine wpAnyM_take (i := 0) (oi := ⟨_, _, _, _, _, _⟩) (v := ?_) rfl (by kernel_rfl) (by kernel_rfl) (by kernel_rfl) (by kernel_rfl) (fun _ _ _ h => h) (Or.inl ⟨by rfl, ?_⟩) hHeld ?_
          rotate_left
          · (intro w' hSw; (try dsimp only at hSw); go_simp; try (with_reducible rfl))
          (try simp only [Act.put, List.setIfInBounds_toArray, List.set_cons_zero, List.set_cons_succ])
          refine wpAnyM_take (i := 1) (oi := ⟨_, _, _, _, _, _⟩) (v := ?_) rfl (by kernel_rfl) (by kernel_rfl) (by kernel_rfl) (by kernel_rfl) (fun _ _ _ h => h) (Or.inl ⟨by rfl, ?_⟩) hHeld ?_
          rotate_left
          · (intro w' hSw; (try dsimp only at hSw); go_simp; try (with_reducible rfl))
          (try simp only [Act.put, List.setIfInBounds_toArray, List.set_cons_zero, List.set_cons_succ])
          refine wpAnyM_take (i := 2) (oi := ⟨_, _, _, _, _, _⟩) (v := ?_) rfl (by kernel_rfl) (by kernel_rfl) (by kernel_rfl) (by kernel_rfl) (fun _ _ _ h => h) (Or.inl ⟨by rfl, ?_⟩) hHeld ?_
          rotate_left
          · (intro w' hSw; (try dsimp only at hSw); go_simp; try (with_reducible rfl))
          (try simp only [Act.put, List.setIfInBounds_toArray, List.set_cons_zero, List.set_cons_succ])
          refine wpAnyM_take (i := 3) (oi := ⟨_, _, _, _, _, _⟩) (v := ?_) rfl (by kernel_rfl) (by kernel_rfl) (by kernel_rfl) (by kernel_rfl) (fun _ _ _ h => h) (Or.inl ⟨by rfl, ?_⟩) hHeld ?_
          rotate_left
          · (intro w' hSw; (try dsimp only at hSw); go_simp; try (with_reducible rfl))
          (try simp only [Act.put, List.setIfInBounds_toArray, List.set_cons_zero, List.set_cons_succ])
          refine wpAnyM_take (i := 4) (oi := ⟨_, _, _, _, _, _⟩) (v := ?_) rfl (by kernel_rfl) (by kernel_rfl) (by kernel_rfl) (by kernel_rfl) (fun _ _ _ h => h) (Or.inl ⟨by rfl, ?_⟩) hHeld ?_
          rotate_left
          · (intro w' hSw; (try dsimp only at hSw); go_simp; try (with_reducible rfl))
          (try simp only [Act.put, List.setIfInBounds_toArray, List.set_cons_zero, List.set_cons_succ])
          refine wpAnyM_take (i := 5) (oi := ⟨_, _, _, _, _, _⟩) (v := ?_) rfl (by kernel_rfl) (by kernel_rfl) (by kernel_rfl) (by kernel_rfl) (fun _ _ _ h => h) (Or.inl ⟨by rfl, ?_⟩) hHeld ?_
          rotate_left
          · (intro w' hSw; (try dsimp only at hSw); go_simp; try (with_reducible rfl))
          (try simp only [Act.put, List.setIfInBounds_toArray, List.set_cons_zero, List.set_cons_succ])
          refine wpAnyM_take (i := 6) (oi := ⟨_, _, _, _, _, _⟩) (v := ?_) rfl (by kernel_rfl) (by kernel_rfl) (by kernel_rfl) (by kernel_rfl) (fun _ _ _ h => h) (Or.inl ⟨by rfl, ?_⟩) hHeld ?_
          rotate_left
          · (intro w' hSw; (try dsimp only at hSw); go_simp; try (with_reducible rfl))
          (try simp only [Act.put, List.setIfInBounds_toArray, List.set_cons_zero, List.set_cons_succ])
          refine wpAnyM_take (i := 8) (oi := ⟨_, _, _, _, _, _⟩) (v := ?_) rfl (by kernel_rfl) (by kernel_rfl) (by kernel_rfl) (by kernel_rfl) (fun _ _ _ h => h) (Or.inl ⟨by rfl, ?_⟩) hHeld ?_
          rotate_left
          · (intro w' hSw; (try dsimp only at hSw); go_simp; try (with_reducible rfl))
          (try simp only [Act.put, List.setIfInBounds_toArray, List.set_cons_zero, List.set_cons_succ])
          refine wpAnyM_take (i := 10) (oi := ⟨_, _, _, _, _, _⟩) (v := ?_) rfl (by kernel_rfl) (by kernel_rfl) (by kernel_rfl) (by kernel_rfl) (fun _ _ _ h => h) (Or.inl ⟨by rfl, ?_⟩) hHeld ?_
          rotate_left
          · (intro w' hSw; (try dsimp only at hSw); go_simp; try (with_reducible rfl))
          (try simp only [Act.put, List.setIfInBounds_toArray, List.set_cons_zero, List.set_cons_succ])
          refine wpAnyM_take (i := 11) (oi := ⟨_, _, _, _, _, _⟩) (v := ?_) rfl (by kernel_rfl) (by kernel_rfl) (by kernel_rfl) (by kernel_rfl) (fun _ _ _ h => h) (Or.inl ⟨by rfl, ?_⟩) hHeld ?_
          rotate_left
          · (intro w' hSw; (try dsimp only at hSw); go_simp; try (with_reducible rfl))
          (try simp only [Act.put, List.setIfInBounds_toArray, List.set_cons_zero, List.set_cons_succ])
          refine wpAnyM_take (i := 12) (oi := ⟨_, _, _, _, _, _⟩) (v := ?_) rfl (by kernel_rfl) (by kernel_rfl) (by kernel_rfl) (by kernel_rfl) (fun _ _ _ h => h) (Or.inl ⟨by rfl, ?_⟩) hHeld ?_
          rotate_left
          · (intro w' hSw; (try dsimp only at hSw); go_simp; try (with_reducible rfl))
          (try simp only [Act.put, List.setIfInBounds_toArray, List.set_cons_zero, List.set_cons_succ])
          refine wpAnyM_take (i := 13) (oi := ⟨_, _, _, _, _, _⟩) (v := ?_) rfl (by kernel_rfl) (by kernel_rfl) (by kernel_rfl) (by kernel_rfl) (fun _ _ _ h => h) (Or.inl ⟨by rfl, ?_⟩) hHeld ?_
          rotate_left
          · (intro w' hSw; (try dsimp only at hSw); go_simp; try (with_reducible rfl))
          (try simp only [Act.put, List.setIfInBounds_toArray, List.set_cons_zero, List.set_cons_succ])
          refine wpAnyM_take (i := 14) (oi := ⟨_, _, _, _, _, _⟩) (v := ?_) rfl (by kernel_rfl) (by kernel_rfl) (by kernel_rfl) (by kernel_rfl) (fun _ _ _ h => h) (Or.inl ⟨by rfl, ?_⟩) hHeld ?_
          rotate_left
          · (intro w' hSw; (try dsimp only at hSw); go_simp; try (with_reducible rfl))
          (try simp only [Act.put, List.setIfInBounds_toArray, List.set_cons_zero, List.set_cons_succ])
          refine wpAnyM_take (i := 16) (oi := ⟨_, _, _, _, _, _⟩) (v := ?_) rfl (by kernel_rfl) (by kernel_rfl) (by kernel_rfl) (by kernel_rfl) (fun _ _ _ h => h) (Or.inl ⟨by rfl, ?_⟩) hHeld ?_
          rotate_left
          · (intro w' hSw; (try dsimp only at hSw); go_simp; try (with_reducible rfl))
          (try simp only [Act.put, List.setIfInBounds_toArray, List.set_cons_zero, List.set_cons_succ])
          refine wpAnyM_two (i := 7) (j := 15) (oi := ⟨_, _, _, _, _, _⟩) (oj := ⟨_, _, _, _, _, _⟩) (by kernel_rfl) rfl rfl (fun K hK => ?_) (fun K hK => ?_)
          · go_simp
            refine hK.out _ _ trivial (fun hHeld => ?_)
            clear hK K
            (try simp only [List.setIfInBounds_toArray, List.set_cons_zero, List.set_cons_succ])
            refine wpAnyM_take (i := 9) (oi := ⟨_, _, _, _, _, _⟩) (v := ?_) rfl (by kernel_rfl) (by kernel_rfl) (by kernel_rfl) (by kernel_rfl) (fun _ _ _ h => h) (Or.inl ⟨by rfl, ?_⟩) hHeld ?_
            rotate_left
            · (intro w' hSw; (try dsimp only at hSw); go_simp; try (with_reducible rfl))
            (try simp only [Act.put, List.setIfInBounds_toArray, List.set_cons_zero, List.set_cons_succ])
            refine wpAnyM_one (i := 15) (o := ⟨_, _, _, _, _, _⟩) (by kernel_rfl) rfl (fun K hK => ?_)
            go_simp
            refine hK.out _ _ trivial (fun hHeld => ?_)
            clear hK K
            (try simp only [List.setIfInBounds_toArray, List.set_cons_zero, List.set_cons_succ])
            refine wpAnyM_take (i := 17) (oi := ⟨_, _, _, _, _, _⟩) (v := ?_) rfl (by kernel_rfl) (by kernel_rfl) (by kernel_rfl) (by kernel_rfl) (fun _ _ _ h => h) (Or.inl ⟨by rfl, ?_⟩) hHeld ?_
            rotate_left
            · (intro w' hSw; (try dsimp only at hSw); go_simp; try (with_reducible rfl))
            (try simp only [Act.put, List.setIfInBounds_toArray, List.set_cons_zero, List.set_cons_succ])
            refine wpAnyM_take (i := 18) (oi := ⟨_, _, _, _, _, _⟩) (v := ?_) rfl (by kernel_rfl) (by kernel_rfl) (by kernel_rfl) (by kernel_rfl) (fun _ _ _ h => h) (Or.inl ⟨by rfl, ?_⟩) hHeld ?_
            rotate_left
            · (intro w' hSw; (try dsimp only at hSw); go_simp; try (with_reducible rfl))
            (try simp only [Act.put, List.setIfInBounds_toArray, List.set_cons_zero, List.set_cons_succ])
            refine wpAnyM_take (i := 19) (oi := ⟨_, _, _, _, _, _⟩) (v := ?_) rfl (by kernel_rfl) (by kernel_rfl) (by kernel_rfl) (by kernel_rfl) (fun _ _ _ h => h) (Or.inl ⟨by rfl, ?_⟩) hHeld ?_
            rotate_left
            · (intro w' hSw; (try dsimp only at hSw); go_simp; try (with_reducible rfl))
            (try simp only [Act.put, List.setIfInBounds_toArray, List.set_cons_zero, List.set_cons_succ])
            refine wpAnyM_take (i := 20) (oi := ⟨_, _, _, _, _, _⟩) (v := ?_) rfl (by kernel_rfl) (by kernel_rfl) (by kernel_rfl) (by kernel_rfl) (fun _ _ _ h => h) (Or.inl ⟨by rfl, ?_⟩) hHeld ?_
            rotate_left
            · (intro w' hSw; (try dsimp only at hSw); go_simp; try (with_reducible rfl))
            (try simp only [Act.put, List.setIfInBounds_toArray, List.set_cons_zero, List.set_cons_succ])
            refine wpAnyM_one (i := 21) (o := ⟨_, _, _, _, _, _⟩) (by kernel_rfl) rfl (fun K hK => ?_)
            go_simp
            refine hK.out _ _ trivial (fun hHeld => ?_)
            clear hK K
            (try simp only [List.setIfInBounds_toArray, List.set_cons_zero, List.set_cons_succ])
            refine wpAnyM_done (by kernel_rfl) ?_ _
            rw [HWF.out.1, HWF.out.2]
            have HR9 : Hid (Row 41 4 Pn.cs B ((wr.setCell ⟨qb, qo + i2 * 4 + 1, none⟩ (.int .i64 xf)).setCell ⟨qb, qo + i2 * 4 + 1 + 1, none⟩ (.int .i64 xt)).drew (.slice (some ⟨qb, qo, none⟩) ps.length qc) (ms.set i2 ⟨xk, xf, xt, xa⟩)) := HRS2.out wr GR.out
            have HB9 := hide (show Below B _ ((wr.setCell ⟨qb, qo + i2 * 4 + 1, none⟩ (.int .i64 xf)).setCell ⟨qb, qo + i2 * 4 + 1 + 1, none⟩ (.int .i64 xt)).drew from (GC.out.grown (grown_setCells qb [.int .i64 xf, .int .i64 xt] wr (qo + i2 * 4 + 1)) HBZ.out (fun k e => by cases e; exact hqB)).drew)
            generalize ((wr.setCell ⟨qb, qo + i2 * 4 + 1, none⟩ (.int .i64 xf)).setCell ⟨qb, qo + i2 * 4 + 1 + 1, none⟩ (.int .i64 xt)).drew = w9 at *
            go_wp2_with fail
            go_roundg go2
            case rel => exact ⟨i2 + 1, _, by go_num, by omega, by omega, HBS, HR9, HB9⟩
            case measure => omega
          · go_simp
            refine hK.out _ _ trivial (fun hHeld => ?_)
            clear hK K
            (try simp only [List.setIfInBounds_toArray, List.set_cons_zero, List.set_cons_succ])
            refine wpAnyM_take (i := 17) (oi := ⟨_, _, _, _, _, _⟩) (v := ?_) rfl (by kernel_rfl) (by kernel_rfl) (by kernel_rfl) (by kernel_rfl) (fun _ _ _ h => h) (Or.inl ⟨by rfl, ?_⟩) hHeld ?_
            rotate_left
            · (intro w' hSw; (try dsimp only at hSw); go_simp; try (with_reducible rfl))
            (try simp only [Act.put, List.setIfInBounds_toArray, List.set_cons_zero, List.set_cons_succ])
            refine wpAnyM_one (i := 7) (o := ⟨_, _, _, _, _, _⟩) (by kernel_rfl) rfl (fun K hK => ?_)
            go_simp
            refine hK.out _ _ trivial (fun hHeld => ?_)
            clear hK K
            (try simp only [List.setIfInBounds_toArray, List.set_cons_zero, List.set_cons_succ])
            refine wpAnyM_take (i := 9) (oi := ⟨_, _, _, _, _, _⟩) (v := ?_) rfl (by kernel_rfl) (by kernel_rfl) (by kernel_rfl) (by kernel_rfl) (fun _ _ _ h => h) (Or.inl ⟨by rfl, ?_⟩) hHeld ?_
            rotate_left
            · (intro w' hSw; (try dsimp only at hSw); go_simp; try (with_reducible rfl))
            (try simp only [Act.put, List.setIfInBounds_toArray, List.set_cons_zero, List.set_cons_succ])
            refine wpAnyM_take (i := 18) (oi := ⟨_, _, _, _, _, _⟩) (v := ?_) rfl (by kernel_rfl) (by kernel_rfl) (by kernel_rfl) (by kernel_rfl) (fun _ _ _ h => h) (Or.inl ⟨by rfl, ?_⟩) hHeld ?_
            rotate_left
            · (intro w' hSw; (try dsimp only at hSw); go_simp; try (with_reducible rfl))
            (try simp only [Act.put, List.setIfInBounds_toArray, List.set_cons_zero, List.set_cons_succ])
            refine wpAnyM_take (i := 19) (oi := ⟨_, _, _, _, _, _⟩) (v := ?_) rfl (by kernel_rfl) (by kernel_rfl) (by kernel_rfl) (by kernel_rfl) (fun _ _ _ h => h) (Or.inl ⟨by rfl, ?_⟩) hHeld ?_
            rotate_left
            · (intro w' hSw; (try dsimp only at hSw); go_simp; try (with_reducible rfl))
            (try simp only [Act.put, List.setIfInBounds_toArray, List.set_cons_zero, List.set_cons_succ])
            refine wpAnyM_take (i := 20) (oi := ⟨_, _, _, _, _, _⟩) (v := ?_) rfl (by kernel_rfl) (by kernel_rfl) (by kernel_rfl) (by kernel_rfl) (fun _ _ _ h => h) (Or.inl ⟨by rfl, ?_⟩) hHeld ?_
            rotate_left
            · (intro w' hSw; (try dsimp only at hSw); go_simp; try (with_reducible rfl))
            (try simp only [Act.put, List.setIfInBounds_toArray, List.set_cons_zero, List.set_cons_succ])
            refine wpAnyM_one (i := 21) (o := ⟨_, _, _, _, _, _⟩) (by kernel_rfl) rfl (fun K hK => ?_)
            go_simp
            refine hK.out _ _ trivial (fun hHeld => ?_)
            clear hK K
            (try simp only [List.setIfInBounds_toArray, List.set_cons_zero, List.set_cons_succ])
            refine wpAnyM_done (by kernel_rfl) ?_ _
            rw [HWF.out.1, HWF.out.2]
            have HR9 : Hid (Row 41 4 Pn.cs B ((wr.setCell ⟨qb, qo + i2 * 4 + 1, none⟩ (.int .i64 xf)).setCell ⟨qb, qo + i2 * 4 + 1 + 1, none⟩ (.int .i64 xt)).drew (.slice (some ⟨qb, qo, none⟩) ps.length qc) (ms.set i2 ⟨xk, xf, xt, xa⟩)) := HRS2.out wr GR.out
            have HB9 := hide (show Below B _ ((wr.setCell ⟨qb, qo + i2 * 4 + 1, none⟩ (.int .i64 xf)).setCell ⟨qb, qo + i2 * 4 + 1 + 1, none⟩ (.int .i64 xt)).drew from (GC.out.grown (grown_setCells qb [.int .i64 xf, .int .i64 xt] wr (qo + i2 * 4 + 1)) HBZ.out (fun k e => by cases e; exact hqB)).drew)
            generalize ((wr.setCell ⟨qb, qo + i2 * 4 + 1, none⟩ (.int .i64 xf)).setCell ⟨qb, qo + i2 * 4 + 1 + 1, none⟩ (.int .i64 xt)).drew = w9 at *
            go_wp2_with fail
            go_roundg go2
            case rel => exact ⟨i2 + 1, _, by go_num, by omega, by omega, HBS, HR9, HB9⟩
            case measure => omega
        · have bt2 : ¬ (i2 : Int) < (ps.length : Int) := by omega
          have HMS := hide (backed_end HBK.out (by omega))
          rw [HMS.out] at GR
          have HHP := hide (hPanes_any (GP.out.below GC.out) (GR.out.seg Pn.cs_len (by omega)) (by omega))
          have HBF := hide (HBW2.out.trans (GC.out.mono HGS.out))
          go_wp2_with (go_at_call 11; refine HHP.out.mono ?_; rintro e w8 ⟨rfl, b8⟩; have B8 := hide b8; clear b8)
          go_ret
          exact ⟨rfl, HBF.out.trans (B8.out.mono HBF.out.size)⟩
end Go.Proofs.Ytlikikiglicdlab
