/-
  The law WindowHalves, walked.
-/
import Derived.Test.YtlikikiglicdlabWLaw
namespace Go.Proofs.Ytlikikiglicdlab
open Go.RowKit

theorem and63 : ∀ i : Nat, i < 64 → bits .and .i64 (i : Int) 63 = (i : Int) := by decide +kernel
set_option maxHeartbeats 16000000 in
set_option maxRecDepth 100000 in
theorem WindowHalves_walk {w : World} {v : Value} {rs : List Rc} (hl : LSeg 3 Rc.cs w.heap.size w v rs) (hrs : ∀ r ∈ rs, In64 r.v) {k size slide : Int} (hs : In64 size) (hsl : In64 slide) (a wh : Int) :
    Calls Try.prog 3 #[.agg #[.int .i64 k, .int .i64 size, .int .i64 slide], .int .i64 a, v, .int .u64 wh] w fun e w' => e = .returned (.bool true) ∧ Below w.heap.size w w' := by
  obtain ⟨ao, cap, rfl⟩ := hl.shapeOf
  have HB0 := hide (below_box w (.cells #[.int .i64 k, .int .i64 size, .int .i64 slide] 23))
  have HBX := hide (BoxT.new 23 w #[.int .i64 k, .int .i64 size, .int .i64 slide])
  have HK := hide (fun W => known_any W)
  have hz : (rs.length : Int) ≤ 140737488355328 := by have := hl.len; omega
  by_cases hF : FitW k size slide
  case neg =>
    have HFT := hide (fit_no hF)
    clear hl
    go_enter Try.func3, Try.ntmps3
    go_wp2_with (first
      | (go_at_call 6; refine (HK.out _).mono ?_; rintro e w1 ⟨rfl, b1⟩; have HB1 := hide (HB0.out.trans (b1.mono HB0.out.size)); have HX1 := hide (BoxT.below (t := 23) HBX.out b1); obtain ⟨y0, y1, y2⟩ := HX1.out.cells3; clear b1)
      | (go_at_call 7; refine (HFT.out _).mono ?_; rintro e w2 ⟨rfl, b2⟩; have HB2 := hide (HB1.out.trans (b2.mono HB1.out.size)); have HX2 := hide (BoxT.below (t := 23) HX1.out b2); obtain ⟨z0, z1, z2⟩ := HX2.out.cells3; clear b2 y0 y1 y2))
    go_ret
    exact ⟨rfl, HB2.out⟩
  have HFT := hide (fit_yes hF)
  have HF := hide hF
  clear hF
  by_cases h3 : k = 3
  case neg =>
    have hk3 : (k != 3) = true := by simp [h3]
    clear hl
    go_enter Try.func3, Try.ntmps3
    go_wp2_with (first
      | (go_at_call 6; refine (HK.out _).mono ?_; rintro e w1 ⟨rfl, b1⟩; have HB1 := hide (HB0.out.trans (b1.mono HB0.out.size)); have HX1 := hide (BoxT.below (t := 23) HBX.out b1); obtain ⟨y0, y1, y2⟩ := HX1.out.cells3; clear b1)
      | (go_at_call 7; refine (HFT.out _).mono ?_; rintro e w2 ⟨rfl, b2⟩; have HB2 := hide (HB1.out.trans (b2.mono HB1.out.size)); have HX2 := hide (BoxT.below (t := 23) HX1.out b2); obtain ⟨z0, z1, z2⟩ := HX2.out.cells3; clear b2 y0 y1 y2))
    go_ret
    exact ⟨rfl, HB2.out⟩
  subst h3
  by_cases hn : (60 : Int) < (rs.length : Int)
  · clear hl
    go_enter Try.func3, Try.ntmps3
    go_wp2_with (first
      | (go_at_call 6; refine (HK.out _).mono ?_; rintro e w1 ⟨rfl, b1⟩; have HB1 := hide (HB0.out.trans (b1.mono HB0.out.size)); have HX1 := hide (BoxT.below (t := 23) HBX.out b1); obtain ⟨y0, y1, y2⟩ := HX1.out.cells3; clear b1)
      | (go_at_call 7; refine (HFT.out _).mono ?_; rintro e w2 ⟨rfl, b2⟩; have HB2 := hide (HB1.out.trans (b2.mono HB1.out.size)); have HX2 := hide (BoxT.below (t := 23) HX1.out b2); obtain ⟨z0, z1, z2⟩ := HX2.out.cells3; clear b2 y0 y1 y2))
    go_ret
    exact ⟨rfl, HB2.out⟩
  have HIS := hide (fun W => Is_any W a)
  by_cases hA : 1 ≤ a ∧ a ≤ 5
  case neg =>
    rw [decide_eq_false hA] at HIS
    clear hl
    go_enter Try.func3, Try.ntmps3
    go_wp2_with (first
      | (go_at_call 6; refine (HK.out _).mono ?_; rintro e w1 ⟨rfl, b1⟩; have HB1 := hide (HB0.out.trans (b1.mono HB0.out.size)); have HX1 := hide (BoxT.below (t := 23) HBX.out b1); obtain ⟨y0, y1, y2⟩ := HX1.out.cells3; clear b1)
      | (go_at_call 7; refine (HFT.out _).mono ?_; rintro e w2 ⟨rfl, b2⟩; have HB2 := hide (HB1.out.trans (b2.mono HB1.out.size)); have HX2 := hide (BoxT.below (t := 23) HX1.out b2); obtain ⟨z0, z1, z2⟩ := HX2.out.cells3; clear b2 y0 y1 y2)
      | (go_at_call 8; refine (HIS.out _).mono ?_; rintro e w3 ⟨rfl, b3⟩; have HB3 := hide (HB2.out.trans (b3.mono HB2.out.size)); have HBW := hide (BoxT.below (t := 23) HX2.out b3); clear b3 z0 z1 z2))
    go_ret
    exact ⟨rfl, HB3.out⟩
  rw [decide_eq_true hA] at HIS
  have HA := hide hA
  have HL := hide hl
  have HRS := hide hrs
  have hn60 : rs.length ≤ 60 := by omega
  clear hA hl hn hrs
  go_enter Try.func3, Try.ntmps3
  go_wp2_with (first
    | (go_at_call 6; refine (HK.out _).mono ?_; rintro e w1 ⟨rfl, b1⟩; have HB1 := hide (HB0.out.trans (b1.mono HB0.out.size)); have HX1 := hide (BoxT.below (t := 23) HBX.out b1); obtain ⟨y0, y1, y2⟩ := HX1.out.cells3; clear b1)
    | (go_at_call 7; refine (HFT.out _).mono ?_; rintro e w2 ⟨rfl, b2⟩; have HB2 := hide (HB1.out.trans (b2.mono HB1.out.size)); have HX2 := hide (BoxT.below (t := 23) HX1.out b2); obtain ⟨z0, z1, z2⟩ := HX2.out.cells3; clear b2 y0 y1 y2)
    | (go_at_call 8; refine (HIS.out _).mono ?_; rintro e w3 ⟨rfl, b3⟩; have HB3 := hide (HB2.out.trans (b3.mono HB2.out.size)); have HBW := hide (BoxT.below (t := 23) HX2.out b3); clear b3 z0 z1 z2))
  clear HK HFT HIS HB0 HB1 HB2 HX1 HX2 HBX
  go_loopg [9, 10, 11, 12] (rs.length + 1) (fun gh av ev ov iv wr => ∃ (i : Nat) (es os : List Rc), iv = .int .i64 (i : Int) ∧ i ≤ rs.length ∧ rs.length + 1 ≤ gh + i ∧ Hid ((es ++ os).Perm (rs.take i)) ∧ Hid (∀ r ∈ rs.take i, RcOk r) ∧
    Hid (LSeg 4 Pn.cs wr.heap.size wr av (putsP 3 size slide a (rs.take i))) ∧ Hid (LSeg 4 Pn.cs wr.heap.size wr ev (putsP 3 size slide a es)) ∧ Hid (LSeg 4 Pn.cs wr.heap.size wr ov (putsP 3 size slide a os)) ∧ Hid (Below w3.heap.size w3 wr))
  case atStart => exact ⟨0, [], [], rfl, by omega, by omega, (show List.Perm _ _ by simp), (show ∀ r ∈ _, _ by simp), LSeg.nil' _ _ _ _, LSeg.nil' _ _ _ _, LSeg.nil' _ _ _ _, Below.refl _ _⟩
  case round =>
    obtain ⟨i, es, os, rfl, hi, hg, HP, HOK, GA, GE, GO, GB⟩ := hrel
    obtain ⟨go, rfl⟩ : ∃ go, gk = go + 1 := ⟨gk - 1, by omega⟩
    obtain ⟨aa, ac, rfl⟩ := GA.out.shapeOf
    obtain ⟨ea, ec, rfl⟩ := GE.out.shapeOf
    obtain ⟨oa, oc, rfl⟩ := GO.out.shapeOf
    have hlen : es.length + os.length = i := by have h1 := HP.out.length_eq; rw [List.length_append, List.length_take] at h1; omega
    have hBW := HB3.out.trans (GB.out.mono HB3.out.size)
    by_cases hlt : i < rs.length
    · obtain ⟨r, hr⟩ := get_of_lt hlt
      have bt : (i : Int) < (rs.length : Int) := by omega
      obtain ⟨nb, no, rfl, nlt, d0, d1, d2⟩ := (HL.out.below hBW).rec hr
      have hnbw : nb < wr.heap.size := Nat.lt_of_lt_of_le nlt hBW.size
      have HRV := hide (HRS.out r (List.mem_of_getElem? hr))
      have HTK := hide (take_snoc hr)
      have HPT := hide (puts_take (k := 3) (size := size) (slide := slide) (a := a) hr)
      have HTM1 := hide (time_yes (t := r.t))
      have HTM0 := hide (time_no (t := r.t))
      have HPL : Hid ((putsP 3 size slide a (rs.take i)).length ≤ 50000) := (show _ ≤ _ by have h1 := puts_len 3 size slide a (rs.take i); rw [List.length_take] at h1; omega)
      have HEL : Hid ((putsP 3 size slide a es).length ≤ 50000) := (show _ ≤ _ by have h1 := puts_len 3 size slide a es; omega)
      have HOL : Hid ((putsP 3 size slide a os).length ≤ 50000) := (show _ ≤ _ by have h1 := puts_len 3 size slide a os; omega)
      have HSN := hide (putsP_snoc 3 size slide a es r)
      have HSO := hide (putsP_snoc 3 size slide a os r)
      have HPI := hide (perm_ins HP.out r)
      have HPO := hide (perm_ins' HP.out r)
      have HOK3 := hide (fun hT hv => ok_snoc hr HOK.out hT hv)
      clear hr
      by_cases hT : TimeOk r.t
      case neg =>
        have HT := hide (HTM0.out hT)
        obtain ⟨rk, rt, rv⟩ := r
        simp only at d0 d1 d2 HT
        clear HTM1 HTM0 hT
        have HBW2 := hide hBW
        clear hBW
        go_wp2_with (go_at_call 9; refine (HT.out _).mono ?_; rintro e w4 ⟨rfl, rfl⟩)
        go_ret
        exact ⟨rfl, HBW2.out⟩
      have HT := hide (HTM1.out hT)
      have HOK2 := hide (HOK3.out hT HRV.out)
      rw [← HTK.out] at HPI HPO
      have HBW2 := hide hBW
      clear HTM1 HTM0 hT hBW HRV HTK HOK HOK3
      obtain ⟨rk, rt, rv⟩ := r
      simp only at d0 d1 d2 HT
      generalize hpa : putsP 3 size slide a (rs.take i) = pa at *
      generalize hpe : putsP 3 size slide a es = pe at *
      generalize hpo : putsP 3 size slide a os = po at *
      have HPEE := hide hpe
      have HPOE := hide hpo
      clear hpa hpe hpo
      have KC : Hid (∀ w' : World, Below (wr).heap.size (wr) w' → w'.cell? ⟨w.heap.size, 0, none⟩ = some (.int .i64 3) ∧ w'.cell? ⟨w.heap.size, 1, none⟩ = some (.int .i64 size) ∧ w'.cell? ⟨w.heap.size, 2, none⟩ = some (.int .i64 slide) ∧ w'.cell? ⟨nb, no + i * 3, none⟩ = some (.int .i64 rk) ∧ w'.cell? ⟨nb, no + i * 3 + 1, none⟩ = some (.int .i64 rt) ∧ w'.cell? ⟨nb, no + i * 3 + 2, none⟩ = some (.int .i64 rv)) := fun w' h => ⟨(by rw [(BoxT.below (t := 23) (BoxT.below (t := 23) HBW.out GB.out) h).cellAt]; rfl), (by rw [(BoxT.below (t := 23) (BoxT.below (t := 23) HBW.out GB.out) h).cellAt]; rfl), (by rw [(BoxT.below (t := 23) (BoxT.below (t := 23) HBW.out GB.out) h).cellAt]; rfl), ((h.cell (p := ⟨nb, no + i * 3, none⟩) hnbw).trans d0), ((h.cell (p := ⟨nb, no + i * 3 + 1, none⟩) hnbw).trans d1), ((h.cell (p := ⟨nb, no + i * 3 + 2, none⟩) hnbw).trans d2)⟩
      have HPU := hide (Put_at GA.out HPL.out 3 hs hsl a rk rt rv)
      go_wp2_with (go_at_call 9; refine (HT.out _).mono ?_; rintro e w4 ⟨rfl, rfl⟩)
      refine wp_region_M (S := fun w' => w'.cell? ⟨w.heap.size, 0, none⟩ = some (.int .i64 3) ∧ w'.cell? ⟨w.heap.size, 1, none⟩ = some (.int .i64 size) ∧ w'.cell? ⟨w.heap.size, 2, none⟩ = some (.int .i64 slide) ∧ w'.cell? ⟨nb, no + i * 3, none⟩ = some (.int .i64 rk) ∧ w'.cell? ⟨nb, no + i * 3 + 1, none⟩ = some (.int .i64 rt) ∧ w'.cell? ⟨nb, no + i * 3 + 2, none⟩ = some (.int .i64 rv)) (late := []) (by kernel_rfl) (KC.out _ ((Below.refl _ _).drew)) (fun hHeld => ?_)
      (try simp only [List.size_toArray, List.length_cons, List.length_nil, Nat.zero_add, Nat.reduceAdd, Array.replicate, List.replicate])
      refine wpAnyM_take (i := 0) (oi := ⟨_, _, _, _, _, _⟩) (v := ?_) rfl (by kernel_rfl) (by kernel_rfl) (by kernel_rfl) (by kernel_rfl) (fun _ _ _ h => h) (Or.inl ⟨by rfl, ?_⟩) hHeld ?_
      rotate_left
      · (intro w' hSw; (try dsimp only at hSw); go_simp; try (with_reducible rfl))
      (try simp only [Act.put, List.setIfInBounds_toArray, List.set_cons_zero, List.set_cons_succ])
      refine wpAnyM_take (i := 1) (oi := ⟨_, _, _, _, _, _⟩) (v := ?_) rfl (by kernel_rfl) (by kernel_rfl) (by kernel_rfl) (by kernel_rfl) (fun _ _ _ h => h) (Or.inl ⟨by rfl, ?_⟩) hHeld ?_
      rotate_left
      · (intro w' hSw; (try dsimp only at hSw); go_simp; try (with_reducible rfl))
      (try simp only [Act.put, List.setIfInBounds_toArray, List.set_cons_zero, List.set_cons_succ])
      refine wpAnyM_take (i := 2) (oi := ⟨_, _, _, _, _, _⟩) (v := ?_) rfl (by kernel_rfl) (by kernel_rfl) (by kernel_rfl) (by kernel_rfl) (fun _ _ _ h => h) (Or.inl ⟨by rfl, ?_⟩) hHeld ?_
      rotate_left
      · (intro w' hSw; (try dsimp only at hSw); go_simp; try (with_reducible rfl))
      (try simp only [Act.put, List.setIfInBounds_toArray, List.set_cons_zero, List.set_cons_succ])
      refine wpAnyM_take (i := 3) (oi := ⟨_, _, _, _, _, _⟩) (v := ?_) rfl (by kernel_rfl) (by kernel_rfl) (by kernel_rfl) (by kernel_rfl) (fun _ _ _ h => h) (Or.inl ⟨by rfl, ?_⟩) hHeld ?_
      rotate_left
      · (intro w' hSw; (try dsimp only at hSw); go_simp; try (with_reducible rfl))
      (try simp only [Act.put, List.setIfInBounds_toArray, List.set_cons_zero, List.set_cons_succ])
      refine wpAnyM_take (i := 4) (oi := ⟨_, _, _, _, _, _⟩) (v := ?_) rfl (by kernel_rfl) (by kernel_rfl) (by kernel_rfl) (by kernel_rfl) (fun _ _ _ h => h) (Or.inl ⟨by rfl, ?_⟩) hHeld ?_
      rotate_left
      · (intro w' hSw; (try dsimp only at hSw); go_simp; try (with_reducible rfl))
      (try simp only [Act.put, List.setIfInBounds_toArray, List.set_cons_zero, List.set_cons_succ])
      refine wpAnyM_take (i := 5) (oi := ⟨_, _, _, _, _, _⟩) (v := ?_) rfl (by kernel_rfl) (by kernel_rfl) (by kernel_rfl) (by kernel_rfl) (fun _ _ _ h => h) (Or.inl ⟨by rfl, ?_⟩) hHeld ?_
      rotate_left
      · (intro w' hSw; (try dsimp only at hSw); go_simp; try (with_reducible rfl))
      (try simp only [Act.put, List.setIfInBounds_toArray, List.set_cons_zero, List.set_cons_succ])
      refine wpAnyM_take (i := 6) (oi := ⟨_, _, _, _, _, _⟩) (v := ?_) rfl (by kernel_rfl) (by kernel_rfl) (by kernel_rfl) (by kernel_rfl) (fun _ _ _ h => h) (Or.inl ⟨by rfl, ?_⟩) hHeld ?_
      rotate_left
      · (intro w' hSw; (try dsimp only at hSw); go_simp; try (with_reducible rfl))
      (try simp only [Act.put, List.setIfInBounds_toArray, List.set_cons_zero, List.set_cons_succ])
      refine wpAnyM_one (i := 7) (o := ⟨_, _, _, _, _, _⟩) (by kernel_rfl) rfl (fun K hK => ?_)
      go_simp
      go_at_call 10
      refine (HPU.out _ ((Below.refl _ _).drew)).mono ?_
      rintro e w5 ⟨u5, rfl, o_w5, b_w5⟩
      have B_w5 := hide b_w5
      have O_w5 := hide o_w5
      refine hK.out _ _ (KC.out _ B_w5.out) (fun hHeld => ?_)
      clear hK K o_w5 b_w5
      (try simp only [List.setIfInBounds_toArray, List.set_cons_zero, List.set_cons_succ])
      refine wpAnyM_one (i := 8) (o := ⟨_, _, _, _, _, _⟩) (by kernel_rfl) rfl (fun K hK => ?_)
      go_simp
      refine hK.out _ _ (KC.out _ B_w5.out) (fun hHeld => ?_)
      clear hK K
      (try simp only [List.setIfInBounds_toArray, List.set_cons_zero, List.set_cons_succ])
      refine wpAnyM_done (by kernel_rfl) ?_ _
      obtain ⟨_, _, _, f0, f1, f2⟩ := KC.out _ B_w5.out
      have HW5 := hide (BoxT.below (t := 23) HBW.out (GB.out.trans (B_w5.out.mono GB.out.size)))
      obtain ⟨ua, uc, rfl⟩ := O_w5.out.shapeOf
      have hnb5 : nb < w5.heap.size := Nat.lt_of_lt_of_le hnbw B_w5.out.size
      have HPS1 := hide (Put_at (GE.out.on B_w5.out) HEL.out 3 hs hsl a rk rt rv)
      have HPS2 := hide (Put_at (GO.out.on B_w5.out) HOL.out 3 hs hsl a rk rt rv)
      clear KC
      have KD : Hid (∀ w' : World, Below (w5).heap.size (w5) w' → w'.cell? ⟨w.heap.size, 0, none⟩ = some (.int .i64 3) ∧ w'.cell? ⟨w.heap.size, 1, none⟩ = some (.int .i64 size) ∧ w'.cell? ⟨w.heap.size, 2, none⟩ = some (.int .i64 slide) ∧ w'.cell? ⟨nb, no + i * 3, none⟩ = some (.int .i64 rk) ∧ w'.cell? ⟨nb, no + i * 3 + 1, none⟩ = some (.int .i64 rt) ∧ w'.cell? ⟨nb, no + i * 3 + 2, none⟩ = some (.int .i64 rv)) := fun w' h => ⟨(by rw [(BoxT.below (t := 23) HW5.out h).cellAt]; rfl), (by rw [(BoxT.below (t := 23) HW5.out h).cellAt]; rfl), (by rw [(BoxT.below (t := 23) HW5.out h).cellAt]; rfl), ((h.cell (p := ⟨nb, no + i * 3, none⟩) hnb5).trans f0), ((h.cell (p := ⟨nb, no + i * 3 + 1, none⟩) hnb5).trans f1), ((h.cell (p := ⟨nb, no + i * 3 + 2, none⟩) hnb5).trans f2)⟩
      have fand := and63 i (by omega)
      go_wp2_with fail
      · refine wp_region_M (S := fun w' => w'.cell? ⟨w.heap.size, 0, none⟩ = some (.int .i64 3) ∧ w'.cell? ⟨w.heap.size, 1, none⟩ = some (.int .i64 size) ∧ w'.cell? ⟨w.heap.size, 2, none⟩ = some (.int .i64 slide) ∧ w'.cell? ⟨nb, no + i * 3, none⟩ = some (.int .i64 rk) ∧ w'.cell? ⟨nb, no + i * 3 + 1, none⟩ = some (.int .i64 rt) ∧ w'.cell? ⟨nb, no + i * 3 + 2, none⟩ = some (.int .i64 rv)) (late := []) (by kernel_rfl) (KD.out _ ((Below.refl _ _).drew)) (fun hHeld => ?_)
        (try simp only [List.size_toArray, List.length_cons, List.length_nil, Nat.zero_add, Nat.reduceAdd, Array.replicate, List.replicate])
        refine wpAnyM_take (i := 0) (oi := ⟨_, _, _, _, _, _⟩) (v := ?_) rfl (by kernel_rfl) (by kernel_rfl) (by kernel_rfl) (by kernel_rfl) (fun _ _ _ h => h) (Or.inl ⟨by rfl, ?_⟩) hHeld ?_
        rotate_left
        · (intro w' hSw; (try dsimp only at hSw); go_simp; try (with_reducible rfl))
        (try simp only [Act.put, List.setIfInBounds_toArray, List.set_cons_zero, List.set_cons_succ])
        refine wpAnyM_take (i := 1) (oi := ⟨_, _, _, _, _, _⟩) (v := ?_) rfl (by kernel_rfl) (by kernel_rfl) (by kernel_rfl) (by kernel_rfl) (fun _ _ _ h => h) (Or.inl ⟨by rfl, ?_⟩) hHeld ?_
        rotate_left
        · (intro w' hSw; (try dsimp only at hSw); go_simp; try (with_reducible rfl))
        (try simp only [Act.put, List.setIfInBounds_toArray, List.set_cons_zero, List.set_cons_succ])
        refine wpAnyM_take (i := 2) (oi := ⟨_, _, _, _, _, _⟩) (v := ?_) rfl (by kernel_rfl) (by kernel_rfl) (by kernel_rfl) (by kernel_rfl) (fun _ _ _ h => h) (Or.inl ⟨by rfl, ?_⟩) hHeld ?_
        rotate_left
        · (intro w' hSw; (try dsimp only at hSw); go_simp; try (with_reducible rfl))
        (try simp only [Act.put, List.setIfInBounds_toArray, List.set_cons_zero, List.set_cons_succ])
        refine wpAnyM_take (i := 3) (oi := ⟨_, _, _, _, _, _⟩) (v := ?_) rfl (by kernel_rfl) (by kernel_rfl) (by kernel_rfl) (by kernel_rfl) (fun _ _ _ h => h) (Or.inl ⟨by rfl, ?_⟩) hHeld ?_
        rotate_left
        · (intro w' hSw; (try dsimp only at hSw); go_simp; try (with_reducible rfl))
        (try simp only [Act.put, List.setIfInBounds_toArray, List.set_cons_zero, List.set_cons_succ])
        refine wpAnyM_take (i := 4) (oi := ⟨_, _, _, _, _, _⟩) (v := ?_) rfl (by kernel_rfl) (by kernel_rfl) (by kernel_rfl) (by kernel_rfl) (fun _ _ _ h => h) (Or.inl ⟨by rfl, ?_⟩) hHeld ?_
        rotate_left
        · (intro w' hSw; (try dsimp only at hSw); go_simp; try (with_reducible rfl))
        (try simp only [Act.put, List.setIfInBounds_toArray, List.set_cons_zero, List.set_cons_succ])
        refine wpAnyM_take (i := 5) (oi := ⟨_, _, _, _, _, _⟩) (v := ?_) rfl (by kernel_rfl) (by kernel_rfl) (by kernel_rfl) (by kernel_rfl) (fun _ _ _ h => h) (Or.inl ⟨by rfl, ?_⟩) hHeld ?_
        rotate_left
        · (intro w' hSw; (try dsimp only at hSw); go_simp; try (with_reducible rfl))
        (try simp only [Act.put, List.setIfInBounds_toArray, List.set_cons_zero, List.set_cons_succ])
        refine wpAnyM_take (i := 6) (oi := ⟨_, _, _, _, _, _⟩) (v := ?_) rfl (by kernel_rfl) (by kernel_rfl) (by kernel_rfl) (by kernel_rfl) (fun _ _ _ h => h) (Or.inl ⟨by rfl, ?_⟩) hHeld ?_
        rotate_left
        · (intro w' hSw; (try dsimp only at hSw); go_simp; try (with_reducible rfl))
        (try simp only [Act.put, List.setIfInBounds_toArray, List.set_cons_zero, List.set_cons_succ])
        refine wpAnyM_one (i := 7) (o := ⟨_, _, _, _, _, _⟩) (by kernel_rfl) rfl (fun K hK => ?_)
        go_simp
        go_at_call 10
        refine (HPS1.out _ ((Below.refl _ _).drew)).mono ?_
        rintro e w6 ⟨u6, rfl, o_w6, b_w6⟩
        have B_w6 := hide b_w6
        have O_w6 := hide o_w6
        refine hK.out _ _ (KD.out _ B_w6.out) (fun hHeld => ?_)
        clear hK K o_w6 b_w6
        (try simp only [List.setIfInBounds_toArray, List.set_cons_zero, List.set_cons_succ])
        refine wpAnyM_one (i := 8) (o := ⟨_, _, _, _, _, _⟩) (by kernel_rfl) rfl (fun K hK => ?_)
        go_simp
        refine hK.out _ _ (KD.out _ B_w6.out) (fun hHeld => ?_)
        clear hK K
        (try simp only [List.setIfInBounds_toArray, List.set_cons_zero, List.set_cons_succ])
        refine wpAnyM_done (by kernel_rfl) ?_ _
        go_wp2_with fail
        go_roundg go
        case rel =>
          exact ⟨i + 1, es ++ [⟨rk, rt, rv⟩], os, by go_num, by omega, by omega, HPI, HOK2, hide (by rw [HPT.out]; exact O_w5.out.on B_w6.out), hide (by rw [HSN.out]; exact O_w6.out), hide (by rw [HPOE.out]; exact GO.out.on (B_w5.out.trans (B_w6.out.mono B_w5.out.size))), hide (GB.out.trans ((B_w5.out.trans (B_w6.out.mono B_w5.out.size)).mono GB.out.size))⟩
        case measure => omega
      · refine wp_region_M (S := fun w' => w'.cell? ⟨w.heap.size, 0, none⟩ = some (.int .i64 3) ∧ w'.cell? ⟨w.heap.size, 1, none⟩ = some (.int .i64 size) ∧ w'.cell? ⟨w.heap.size, 2, none⟩ = some (.int .i64 slide) ∧ w'.cell? ⟨nb, no + i * 3, none⟩ = some (.int .i64 rk) ∧ w'.cell? ⟨nb, no + i * 3 + 1, none⟩ = some (.int .i64 rt) ∧ w'.cell? ⟨nb, no + i * 3 + 2, none⟩ = some (.int .i64 rv)) (late := []) (by kernel_rfl) (KD.out _ ((Below.refl _ _).drew)) (fun hHeld => ?_)
        (try simp only [List.size_toArray, List.length_cons, List.length_nil, Nat.zero_add, Nat.reduceAdd, Array.replicate, List.replicate])
        refine wpAnyM_take (i := 0) (oi := ⟨_, _, _, _, _, _⟩) (v := ?_) rfl (by kernel_rfl) (by kernel_rfl) (by kernel_rfl) (by kernel_rfl) (fun _ _ _ h => h) (Or.inl ⟨by rfl, ?_⟩) hHeld ?_
        rotate_left
        · (intro w' hSw; (try dsimp only at hSw); go_simp; try (with_reducible rfl))
        (try simp only [Act.put, List.setIfInBounds_toArray, List.set_cons_zero, List.set_cons_succ])
        refine wpAnyM_take (i := 1) (oi := ⟨_, _, _, _, _, _⟩) (v := ?_) rfl (by kernel_rfl) (by kernel_rfl) (by kernel_rfl) (by kernel_rfl) (fun _ _ _ h => h) (Or.inl ⟨by rfl, ?_⟩) hHeld ?_
        rotate_left
        · (intro w' hSw; (try dsimp only at hSw); go_simp; try (with_reducible rfl))
        (try simp only [Act.put, List.setIfInBounds_toArray, List.set_cons_zero, List.set_cons_succ])
        refine wpAnyM_take (i := 2) (oi := ⟨_, _, _, _, _, _⟩) (v := ?_) rfl (by kernel_rfl) (by kernel_rfl) (by kernel_rfl) (by kernel_rfl) (fun _ _ _ h => h) (Or.inl ⟨by rfl, ?_⟩) hHeld ?_
        rotate_left
        · (intro w' hSw; (try dsimp only at hSw); go_simp; try (with_reducible rfl))
        (try simp only [Act.put, List.setIfInBounds_toArray, List.set_cons_zero, List.set_cons_succ])
        refine wpAnyM_take (i := 3) (oi := ⟨_, _, _, _, _, _⟩) (v := ?_) rfl (by kernel_rfl) (by kernel_rfl) (by kernel_rfl) (by kernel_rfl) (fun _ _ _ h => h) (Or.inl ⟨by rfl, ?_⟩) hHeld ?_
        rotate_left
        · (intro w' hSw; (try dsimp only at hSw); go_simp; try (with_reducible rfl))
        (try simp only [Act.put, List.setIfInBounds_toArray, List.set_cons_zero, List.set_cons_succ])
        refine wpAnyM_take (i := 4) (oi := ⟨_, _, _, _, _, _⟩) (v := ?_) rfl (by kernel_rfl) (by kernel_rfl) (by kernel_rfl) (by kernel_rfl) (fun _ _ _ h => h) (Or.inl ⟨by rfl, ?_⟩) hHeld ?_
        rotate_left
        · (intro w' hSw; (try dsimp only at hSw); go_simp; try (with_reducible rfl))
        (try simp only [Act.put, List.setIfInBounds_toArray, List.set_cons_zero, List.set_cons_succ])
        refine wpAnyM_take (i := 5) (oi := ⟨_, _, _, _, _, _⟩) (v := ?_) rfl (by kernel_rfl) (by kernel_rfl) (by kernel_rfl) (by kernel_rfl) (fun _ _ _ h => h) (Or.inl ⟨by rfl, ?_⟩) hHeld ?_
        rotate_left
        · (intro w' hSw; (try dsimp only at hSw); go_simp; try (with_reducible rfl))
        (try simp only [Act.put, List.setIfInBounds_toArray, List.set_cons_zero, List.set_cons_succ])
        refine wpAnyM_take (i := 6) (oi := ⟨_, _, _, _, _, _⟩) (v := ?_) rfl (by kernel_rfl) (by kernel_rfl) (by kernel_rfl) (by kernel_rfl) (fun _ _ _ h => h) (Or.inl ⟨by rfl, ?_⟩) hHeld ?_
        rotate_left
        · (intro w' hSw; (try dsimp only at hSw); go_simp; try (with_reducible rfl))
        (try simp only [Act.put, List.setIfInBounds_toArray, List.set_cons_zero, List.set_cons_succ])
        refine wpAnyM_one (i := 7) (o := ⟨_, _, _, _, _, _⟩) (by kernel_rfl) rfl (fun K hK => ?_)
        go_simp
        go_at_call 10
        refine (HPS2.out _ ((Below.refl _ _).drew)).mono ?_
        rintro e w6 ⟨u6, rfl, o_w6, b_w6⟩
        have B_w6 := hide b_w6
        have O_w6 := hide o_w6
        refine hK.out _ _ (KD.out _ B_w6.out) (fun hHeld => ?_)
        clear hK K o_w6 b_w6
        (try simp only [List.setIfInBounds_toArray, List.set_cons_zero, List.set_cons_succ])
        refine wpAnyM_one (i := 8) (o := ⟨_, _, _, _, _, _⟩) (by kernel_rfl) rfl (fun K hK => ?_)
        go_simp
        refine hK.out _ _ (KD.out _ B_w6.out) (fun hHeld => ?_)
        clear hK K
        (try simp only [List.setIfInBounds_toArray, List.set_cons_zero, List.set_cons_succ])
        refine wpAnyM_done (by kernel_rfl) ?_ _
        go_wp2_with fail
        go_roundg go
        case rel =>
          exact ⟨i + 1, es, os ++ [⟨rk, rt, rv⟩], by go_num, by omega, by omega, HPO, HOK2, hide (by rw [HPT.out]; exact O_w5.out.on B_w6.out), hide (by rw [HPEE.out]; exact GE.out.on (B_w5.out.trans (B_w6.out.mono B_w5.out.size))), hide (by rw [HSO.out]; exact O_w6.out), hide (GB.out.trans ((B_w5.out.trans (B_w6.out.mono B_w5.out.size)).mono GB.out.size))⟩
        case measure => omega
    · have bt : ¬ (i : Int) < (rs.length : Int) := by omega
      have hT : rs.take i = rs := List.take_of_length_le (by omega)
      rw [hT] at GA HP HOK ⊢
      have HEQ := hide (halves_eq HF.out HA.out HP.out HOK.out)
      have HLE : Hid ((putsP 3 size slide a es).length ≤ 3840 ∧ (putsP 3 size slide a os).length ≤ 3840) := (show _ ∧ _ from ⟨by have h1 := puts_len 3 size slide a es; omega, by have h1 := puts_len 3 size slide a os; omega⟩)
      generalize putsP 3 size slide a rs = pa at *
      generalize putsP 3 size slide a es = pe at *
      generalize putsP 3 size slide a os = po at *
      have HBW2 := hide hBW
      have hle := HLE.out
      have HN1 : Hid (([] : List Pn).length + po.length ≤ 1000000) := (show _ ≤ _ by simp; omega)
      have HN2 : Hid (po.length + pe.length ≤ 1000000) := (show _ ≤ _ by omega)
      have HN3 : Hid ((po ++ pe).length ≤ 100000) := (show _ ≤ _ by simp; omega)
      clear hBW hT
      go_wp2_with (first
        | (at_builtin; refine app_segL Try.infoPn Try.underlying29 rfl (by decide) (by decide) Pn.cs_len Pn.cs_one rfl _ _ rfl wr.heap.size (.slice none 0 0) [] rfl (OwnL.nil _ _ _ _ _) _ _ po rfl GO.out HN1.out (Nat.le_refl _) ?_; intro v4 w4 h4 g4 _; rw [List.nil_append] at h4; have B4 := hide ((Below.refl wr.heap.size wr).grown g4 (Nat.le_refl _) (fun k e => by cases e)); have O4 := hide h4; obtain ⟨a4, c4, hv4⟩ := h4.shape; clear h4 g4; subst hv4)
        | (at_builtin; refine app_segL Try.infoPn Try.underlying29 rfl (by decide) (by decide) Pn.cs_len Pn.cs_one rfl _ _ rfl wr.heap.size (.slice a4 po.length c4) po rfl O4.out _ _ pe rfl (GE.out.on B4.out) HN2.out B4.out.size ?_; intro v5 w5 h5 g5 _; have B5 := hide (B4.out.grown g5 B4.out.size (fun k e => O4.out.at k e)); have O5 := hide (h5.seg Pn.cs_len (by have := HN3.out; omega)); clear h5 g5)
        | (go_at_call 12; refine (Join_any O5.out HN3.out a).mono ?_; rintro e w6 ⟨u6, rfl, o6, b6⟩; have B6 := hide (B5.out.trans (b6.mono B5.out.size)); have O6 := hide (o6.seg Pn.cs_len (by have h1 := pJoin_len (jn a) (po ++ pe); have := HN3.out; omega)); clear o6 b6)
        | (go_at_call 11; refine (hPanes_any (by have h7 := O6.out; rw [HEQ.out] at h7; exact h7) (GA.out.on B6.out) (by have h1 := congrArg List.length HEQ.out; have h2 := pJoin_len (jn a) (po ++ pe); have := HN3.out; omega)).mono ?_; rintro e w7 ⟨rfl, b7⟩; have B7 := hide (B6.out.trans (b7.mono B6.out.size)); clear b7))
      go_ret
      exact ⟨rfl, HBW2.out.trans (B7.out.mono HBW2.out.size)⟩
end Go.Proofs.Ytlikikiglicdlab
