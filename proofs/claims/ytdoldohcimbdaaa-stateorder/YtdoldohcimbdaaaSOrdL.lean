/-
  The law StateOrder, walked.
-/
import Derived.Test.YtdoldohcimbdaaaSOrdP
namespace Go.Proofs.Ytdoldohcimbdaaa
open Go.RowKit

set_option maxHeartbeats 8000000 in
set_option maxRecDepth 100000 in
theorem StateOrder_walk {w : World} {v : Value} {rs : List Rc} (hl : LSeg 3 Rc.cs w.heap.size w v rs) (hrs : ∀ r ∈ rs, In64 r.k ∧ In64 r.t ∧ In64 r.v) {k size slide : Int} (hs : In64 size) (hsl : In64 slide) (a turn : Int) :
    Calls Try.prog 3 #[.agg #[.int .i64 k, .int .i64 size, .int .i64 slide], .int .i64 a, v, .int .i64 turn] w fun e w' => e = .returned (.bool true) ∧ Below w.heap.size w w' := by
  obtain ⟨ao, cap, rfl⟩ := hl.shapeOf
  have HB0 := hide (below_box w (.cells #[.int .i64 k, .int .i64 size, .int .i64 slide] 23))
  have HBX := hide (BoxT.new 23 w #[.int .i64 k, .int .i64 size, .int .i64 slide])
  have HK := hide (fun W => known_any W)
  by_cases hF : FitS k size slide a
  case neg =>
    have HFT := hide (fit_no hF)
    clear hl hF
    go_enter Try.func3, Try.ntmps3
    go_wp2_with (first
      | (go_at_call 8; refine (HK.out _).mono ?_; rintro e w1 ⟨rfl, b1⟩; have HB1 := hide (HB0.out.trans (b1.mono HB0.out.size)); have HX1 := hide (BoxT.below (t := 23) HBX.out b1); obtain ⟨y0, y1, y2⟩ := HX1.out.cells3; clear b1)
      | (go_at_call 9; refine (HFT.out _).mono ?_; rintro e w2 ⟨rfl, b2⟩; have HB2 := hide (HB1.out.trans (b2.mono HB1.out.size)); clear b2 y0 y1 y2))
    go_ret
    exact ⟨rfl, HB2.out⟩
  have HFT := hide (fit_yes hF)
  have HF := hide hF
  clear hF
  by_cases hn : (80 : Int) < (rs.length : Int)
  · clear hl
    go_enter Try.func3, Try.ntmps3
    go_wp2_with (first
      | (go_at_call 8; refine (HK.out _).mono ?_; rintro e w1 ⟨rfl, b1⟩; have HB1 := hide (HB0.out.trans (b1.mono HB0.out.size)); have HX1 := hide (BoxT.below (t := 23) HBX.out b1); obtain ⟨y0, y1, y2⟩ := HX1.out.cells3; clear b1)
      | (go_at_call 9; refine (HFT.out _).mono ?_; rintro e w2 ⟨rfl, b2⟩; have HB2 := hide (HB1.out.trans (b2.mono HB1.out.size)); clear b2 y0 y1 y2))
    go_ret
    exact ⟨rfl, HB2.out⟩
  have HL := hide hl
  have HRS := hide hrs
  have HS := hide hs
  have HSL := hide hsl
  have hn60 : rs.length ≤ 80 := by omega
  have HNW := hide (fun W => New_any W k size slide a)
  clear hl hrs hs hsl
  have HPC := hide (fun W => hPlace_any W turn (n := 1000) (by omega) (by omega))
  have hpl := plc_in (i := turn) (n := 1000) (by omega)
  have HSLT := hide (fun i n (h : 0 < n) => spot_lt turn i h)
  have HSEQ := hide (fun i n (h : 0 < n) => spot_eq turn i h)
  have HN1 : Hid (([] : List Rc).length + rs.length ≤ 1000000) := (show _ ≤ _ by simp; omega)
  generalize plc turn 1000 = pt at *
  obtain ⟨hp0, hp1⟩ := hpl
  go_enter Try.func3, Try.ntmps3
  go_upto_region 5 with (first
    | (go_at_call 8; refine (HK.out _).mono ?_; rintro e w1 ⟨rfl, b1⟩; have HB1 := hide (HB0.out.trans (b1.mono HB0.out.size)); have HX1 := hide (BoxT.below (t := 23) HBX.out b1); obtain ⟨y0, y1, y2⟩ := HX1.out.cells3; clear b1)
    | (go_at_call 9; refine (HFT.out _).mono ?_; rintro e w2 ⟨rfl, b2⟩; have HB2 := hide (HB1.out.trans (b2.mono HB1.out.size)); have HX2 := hide (BoxT.below (t := 23) HX1.out b2); obtain ⟨z0, z1, z2⟩ := HX2.out.cells3; clear b2 y0 y1 y2))
  clear HK HFT HB1 HX1 HBX HB0
  have HX2d := hide (BoxT.below (t := 23) HX2.out ((Below.refl _ _).drew))
  obtain ⟨y0, y1, y2⟩ := HX2d.out.cells3
  have HN1 := hide (HNW.out w2.drew)
  have HB2d := hide HB2.out.drew
  clear HB2 z0 z1 z2
  go_region_held3 (fun w' => w'.cell? ⟨w.heap.size, 0, none⟩ = some (.int .i64 k) ∧ w'.cell? ⟨w.heap.size, 1, none⟩ = some (.int .i64 size) ∧ w'.cell? ⟨w.heap.size, 2, none⟩ = some (.int .i64 slide)) (first | go_keep | exact ⟨y0, y1, y2⟩ | exact ⟨x0, x1, x2⟩ | exact ⟨z0, z1, z2⟩)
    (first
    | (go_at_call 10; refine HN1.out.mono ?_; rintro e w3 ⟨s, fp, rfl, s3, f3, b3⟩; have HX3 := hide (BoxT.below (t := 23) HX2d.out b3); have HN2 := hide (HNW.out w3); have HB3 := hide (HB2d.out.trans (b3.mono HB2d.out.size)); have HZ3 := hide (Nat.le_trans HB2d.out.size b3.size); have S3 := hide s3; have F3 : Hid (∀ i, fp i → w.heap.size ≤ i) := (show ∀ i, _ from fun i hi => Nat.le_trans HB2d.out.size (f3 i hi)); obtain ⟨x0, x1, x2⟩ := HX3.out.cells3; clear s3 f3 b3 HN1)
    | (go_at_call 10; refine HN2.out.mono ?_; rintro e w4 ⟨t, fq, rfl, s4, f4, b4⟩; have T4 : Hid (T2 w w4 s t k size slide a fp fq [] []) := (show T2 _ _ _ _ _ _ _ _ _ _ _ _ from ⟨S3.out.below b4, s4, F3.out, fun i hi => Nat.le_trans HB3.out.size (f4 i hi), fun i h1 h2 => (by have := S3.out.flt i h1; have := f4 i h2; omega), HB3.out.trans (b4.mono HB3.out.size)⟩); obtain ⟨z0, z1, z2⟩ := (BoxT.below (t := 23) HX3.out b4).cells3; clear s4 f4 b4 HN2))
  clear HNW HX2 HX2d HX3 HB2d HB3 HZ3 S3 F3 x0 x1 x2 y0 y1 y2 z0 z1 z2
  obtain ⟨wb, rfl⟩ : ∃ wb, wb = w4 := ⟨_, rfl⟩
  go_wp2_with (first | (at_builtin; refine app_segL Try.infoRc Try.underlying24 rfl (by decide) (by decide) Rc.cs_len Rc.cs_one rfl _ _ rfl wb.heap.size (.slice none 0 0) [] rfl (OwnL.nil _ _ _ _ _) _ _ rs rfl (HL.out.below T4.out.bl) HN1.out (Nat.le_refl _) ?_; intro v3 w5 h3 g3 _; rw [List.nil_append] at h3; have B3 := hide ((Below.refl wb.heap.size wb).grown g3 (Nat.le_refl _) (fun k e => by cases e)); have O3 := hide h3; clear h3 g3) | fail)
  clear HN1
  obtain ⟨ma0, mc0, rfl⟩ := O3.out.shape
  go_loopg [12, 13] (rs.length + 1) (fun gh iv _ wr => ∃ (i : Nat) (ms : List Rc), iv = .int .i64 (i : Int) ∧ i ≤ rs.length ∧ rs.length + 1 ≤ gh + i ∧ Hid (ms.Perm rs) ∧ Hid (OwnL 31 3 Rc.cs wb.heap.size wr (.slice ma0 rs.length mc0) ms) ∧ Hid (Below wb.heap.size wb wr))
  case atStart => exact ⟨0, rs, rfl, by omega, by omega, (show List.Perm _ _ from .refl _), O3, B3⟩
  case round =>
    clear O3 B3
    obtain ⟨i, ms, rfl, hi, hg, HPM0, GO, GB⟩ := hrel
    obtain ⟨go, rfl⟩ : ∃ go, gk = go + 1 := ⟨gk - 1, by omega⟩
    have hml : ms.length = rs.length := HPM0.out.length_eq
    by_cases hlt : i < rs.length
    · have bt : (i : Int) < (rs.length : Int) := by omega
      obtain ⟨x, hx⟩ := get_of_lt (show i < ms.length by omega)
      have hj := HSLT.out i rs.length (by omega)
      have he := HSEQ.out i rs.length (by omega)
      have he2 : (pt + 7 * (i : Int)) % (rs.length : Int) = (spot turn i rs.length : Int) := by rw [← he, Int.tmod_eq_emod_of_nonneg (by omega)]
      generalize hjj : spot turn i rs.length = j at *
      clear hjj
      obtain ⟨y, hy⟩ := get_of_lt (show j < ms.length by omega)
      have HPM := hide ((swap_perm hx hy).trans HPM0.out)
      obtain ⟨g, hg0⟩ : ∃ g, ma0 = some ⟨g, 0, none⟩ := by
        rcases GO.out.2 with ⟨e, h0⟩ | ⟨g, cap', cur, e, _⟩
        · omega
        · exact ⟨g, (Value.slice.inj e).1⟩
      subst hg0
      have hbg := GO.out.at g rfl
      obtain ⟨cur, hcur⟩ := GO.out.has g rfl
      have hfr : ∀ W : World, W.heap[g]? = wr.heap[g]? → ∀ q, W.frozen? ⟨g, q, none⟩ = false := fun W hW q => (show BoxT 31 W g cur by unfold BoxT; rw [hW]; exact hcur).free q
      obtain ⟨_, _, ex, _, x0, x1, x2⟩ := (GO.out.seg Rc.cs_len (by omega)).rec hx
      cases ex
      obtain ⟨_, _, ey, _, y0, y1, y2⟩ := (GO.out.seg Rc.cs_len (by omega)).rec hy
      cases ey
      simp only [Nat.zero_add] at x0 x1 x2 y0 y1 y2
      have HO1 := hide (GO.out.drew.setAt Rc.cs_len (by decide) (show i < ms.length by omega) y)
      have HB1' := hide (GB.out.drew.grown (grown_setCells g y.cs wr.drew (i * 3)) GB.out.size (fun k e => by cases e; exact hbg))
      have hfr0 := hfr wr rfl
      obtain ⟨xk, xt, xv⟩ := x
      obtain ⟨yk, yt, yv⟩ := y
      simp only at x0 x1 x2 y0 y1 y2
      clear hx hy hcur
      have bj : (j : Int) < (rs.length : Int) := by omega
      have hnil : (rs = []) = False := eq_false (fun e => by rw [e] at hlt; simp at hlt)
      have hne : ((rs.length : Int)) ≠ 0 := by omega
      have hdrew : ∀ p, wr.drew.cell? p = wr.cell? p := fun _ => rfl
      go_wp2_with (go_at_call 11; refine (HPC.out _).mono ?_; rintro e w4 ⟨rfl, rfl⟩)
      refine wp_region_M (S := fun _ => True) (late := []) (by kernel_rfl) trivial (fun hHeld => ?_)
      (try simp only [List.size_toArray, List.length_cons, List.length_nil, Nat.zero_add, Nat.reduceAdd, Array.replicate, List.replicate])
      refine wpAnyM_take (i := 0) (oi := ⟨_, _, _, _, _, _⟩) (v := ?_) rfl (by kernel_rfl) (by kernel_rfl) (by kernel_rfl) (by kernel_rfl) (fun _ _ _ h => h) (Or.inl ⟨by rfl, ?_⟩) hHeld ?_
      rotate_left
      · (intro w' hSw; (try dsimp only at hSw); go_simp; try (with_reducible rfl))
      (try simp only [Act.put, List.setIfInBounds_toArray, List.set_cons_zero, List.set_cons_succ])
      refine wpAnyM_take (i := 1) (oi := ⟨_, _, _, _, _, _⟩) (v := ?_) rfl (by kernel_rfl) (by kernel_rfl) (by kernel_rfl) (by kernel_rfl) (fun _ _ _ h => h) (Or.inl ⟨by rfl, ?_⟩) hHeld ?_
      rotate_left
      · (intro w' hSw; (try dsimp only at hSw); go_simp; try (with_reducible rfl))
      (try simp only [Act.put, List.setIfInBounds_toArray, List.set_cons_zero, List.set_cons_succ])
      refine wpAnyM_take (i := 2) (oi := ⟨_, _, _, _, _, _⟩) (v := ?_) rfl (by kernel_rfl) (by kernel_rfl) (by kernel_rfl) (by kernel_rfl) (fun _ _ _ h => h) (Or.inl ⟨by rfl, ?_⟩) hHeld ?_
      rotate_left
      · (intro w' hSw; (try dsimp only at hSw); go_simp; try (with_reducible rfl))
      (try simp only [Act.put, List.setIfInBounds_toArray, List.set_cons_zero, List.set_cons_succ])
      refine wpAnyM_take (i := 3) (oi := ⟨_, _, _, _, _, _⟩) (v := ?_) rfl (by kernel_rfl) (by kernel_rfl) (by kernel_rfl) (by kernel_rfl) (fun _ _ _ h => h) (Or.inl ⟨by rfl, ?_⟩) hHeld ?_
      rotate_left
      · (intro w' hSw; (try dsimp only at hSw); go_simp; try (with_reducible rfl))
      (try simp only [Act.put, List.setIfInBounds_toArray, List.set_cons_zero, List.set_cons_succ])
      refine wpAnyM_take (i := 4) (oi := ⟨_, _, _, _, _, _⟩) (v := ?_) rfl (by kernel_rfl) (by kernel_rfl) (by kernel_rfl) (by kernel_rfl) (fun _ _ _ h => h) (Or.inl ⟨by rfl, ?_⟩) hHeld ?_
      rotate_left
      · (intro w' hSw; (try dsimp only at hSw); go_simp; try (with_reducible rfl))
      (try simp only [Act.put, List.setIfInBounds_toArray, List.set_cons_zero, List.set_cons_succ])
      refine wpAnyM_take (i := 5) (oi := ⟨_, _, _, _, _, _⟩) (v := ?_) rfl (by kernel_rfl) (by kernel_rfl) (by kernel_rfl) (by kernel_rfl) (fun _ _ _ h => h) (Or.inl ⟨by rfl, ?_⟩) hHeld ?_
      rotate_left
      · (intro w' hSw; (try dsimp only at hSw); go_simp; try (with_reducible rfl))
      (try simp only [Act.put, List.setIfInBounds_toArray, List.set_cons_zero, List.set_cons_succ])
      refine wpAnyM_take (i := 6) (oi := ⟨_, _, _, _, _, _⟩) (v := ?_) rfl (by kernel_rfl) (by kernel_rfl) (by kernel_rfl) (by kernel_rfl) (fun _ _ _ h => h) (Or.inl ⟨by rfl, ?_⟩) hHeld ?_
      rotate_left
      · (intro w' hSw; (try dsimp only at hSw); go_simp; try (with_reducible rfl))
      (try simp only [Act.put, List.setIfInBounds_toArray, List.set_cons_zero, List.set_cons_succ])
      refine wpAnyM_take (i := 8) (oi := ⟨_, _, _, _, _, _⟩) (v := ?_) rfl (by kernel_rfl) (by kernel_rfl) (by kernel_rfl) (by kernel_rfl) (fun _ _ _ h => h) (Or.inl ⟨by rfl, ?_⟩) hHeld ?_
      rotate_left
      · (intro w' hSw; (try dsimp only at hSw); go_simp; try (with_reducible rfl))
      (try simp only [Act.put, List.setIfInBounds_toArray, List.set_cons_zero, List.set_cons_succ])
      refine wpAnyM_take (i := 9) (oi := ⟨_, _, _, _, _, _⟩) (v := ?_) rfl (by kernel_rfl) (by kernel_rfl) (by kernel_rfl) (by kernel_rfl) (fun _ _ _ h => h) (Or.inl ⟨by rfl, ?_⟩) hHeld ?_
      rotate_left
      · (intro w' hSw; (try dsimp only at hSw); go_simp; try (with_reducible rfl))
      (try simp only [Act.put, List.setIfInBounds_toArray, List.set_cons_zero, List.set_cons_succ])
      refine wpAnyM_take (i := 10) (oi := ⟨_, _, _, _, _, _⟩) (v := ?_) rfl (by kernel_rfl) (by kernel_rfl) (by kernel_rfl) (by kernel_rfl) (fun _ _ _ h => h) (Or.inl ⟨by rfl, ?_⟩) hHeld ?_
      rotate_left
      · (intro w' hSw; (try dsimp only at hSw); go_simp; try (with_reducible rfl))
      (try simp only [Act.put, List.setIfInBounds_toArray, List.set_cons_zero, List.set_cons_succ])
      refine wpAnyM_two (i := 7) (j := 11) (oi := ⟨_, _, _, _, _, _⟩) (oj := ⟨_, _, _, _, _, _⟩) (by kernel_rfl) rfl rfl (fun K hK => ?_) (fun K hK => ?_)
      · go_simp
        refine hK.out _ _ trivial (fun hHeld => ?_)
        clear hK K
        (try simp only [List.setIfInBounds_toArray, List.set_cons_zero, List.set_cons_succ])
        refine wpAnyM_one (i := 11) (o := ⟨_, _, _, _, _, _⟩) (by kernel_rfl) rfl (fun K hK => ?_)
        go_simp
        refine hK.out _ _ trivial (fun hHeld => ?_)
        clear hK K
        (try simp only [List.setIfInBounds_toArray, List.set_cons_zero, List.set_cons_succ])
        refine wpAnyM_take (i := 12) (oi := ⟨_, _, _, _, _, _⟩) (v := ?_) rfl (by kernel_rfl) (by kernel_rfl) (by kernel_rfl) (by kernel_rfl) (fun _ _ _ h => h) (Or.inl ⟨by rfl, ?_⟩) hHeld ?_
        rotate_left
        · (intro w' hSw; (try dsimp only at hSw); go_simp; try (with_reducible rfl))
        (try simp only [Act.put, List.setIfInBounds_toArray, List.set_cons_zero, List.set_cons_succ])
        refine wpAnyM_one (i := 13) (o := ⟨_, _, _, _, _, _⟩) (by kernel_rfl) rfl (fun K hK => ?_)
        go_simp
        refine hK.out _ _ trivial (fun hHeld => ?_)
        clear hK K
        (try simp only [List.setIfInBounds_toArray, List.set_cons_zero, List.set_cons_succ])
        generalize hW5 : (((w4.setCell ⟨g, i * 3, none⟩ (.int .i64 yk)).setCell ⟨g, i * 3 + 1, none⟩ (.int .i64 yt)).setCell ⟨g, i * 3 + 2, none⟩ (.int .i64 yv)).drew = w5
        have O5 : OwnL 31 3 Rc.cs wb.heap.size w5 (.slice (some ⟨g, 0, none⟩) rs.length mc0) (ms.set i ⟨yk, yt, yv⟩) := by rw [← hW5]; exact HO1.out
        have B5 : Below wb.heap.size wb w5 := by rw [← hW5]; exact HB1'.out
        clear hW5
        obtain ⟨z, hz5⟩ := get_of_lt (show j < (ms.set i (⟨yk, yt, yv⟩ : Rc)).length by rw [List.length_set]; omega)
        obtain ⟨_, _, ez, _, z0, z1, z2⟩ := (O5.seg Rc.cs_len (by rw [List.length_set]; omega)).rec hz5
        cases ez
        simp only [Nat.zero_add] at z0 z1 z2
        obtain ⟨c5, hc5⟩ := O5.has g rfl
        have hfr5 : ∀ q, w5.frozen? ⟨g, q, none⟩ = false := fun q => (show BoxT 31 w5 g c5 from hc5).free q
        have HOW := hide (O5.setAt Rc.cs_len (by decide) (show j < (ms.set i (⟨yk, yt, yv⟩ : Rc)).length by rw [List.length_set]; omega) (⟨xk, xt, xv⟩ : Rc))
        have HBL := hide (B5.grown (grown_setCells g (Rc.cs ⟨xk, xt, xv⟩) w5 (j * 3)) B5.size (fun k e => by cases e; exact hbg))
        clear hc5 hz5 O5 B5
        refine wpAnyM_take (i := 14) (oi := ⟨_, _, _, _, _, _⟩) (v := ?_) rfl (by kernel_rfl) (by kernel_rfl) (by kernel_rfl) (by kernel_rfl) (fun _ _ _ h => h) (Or.inl ⟨by rfl, ?_⟩) hHeld ?_
        rotate_left
        · (intro w' hSw; (try dsimp only at hSw); go_simp; try (with_reducible rfl))
        (try simp only [Act.put, List.setIfInBounds_toArray, List.set_cons_zero, List.set_cons_succ])
        refine wpAnyM_one (i := 15) (o := ⟨_, _, _, _, _, _⟩) (by kernel_rfl) rfl (fun K hK => ?_)
        go_simp
        refine hK.out _ _ trivial (fun hHeld => ?_)
        clear hK K
        (try simp only [List.setIfInBounds_toArray, List.set_cons_zero, List.set_cons_succ])
        refine wpAnyM_done (by kernel_rfl) ?_ _
        go_wp2_with fail
        go_roundg go
        case rel => exact ⟨i + 1, _, by go_num, by omega, by omega, HPM, HOW, HBL⟩
        case measure => omega
      · go_simp
        refine hK.out _ _ trivial (fun hHeld => ?_)
        clear hK K
        (try simp only [List.setIfInBounds_toArray, List.set_cons_zero, List.set_cons_succ])
        refine wpAnyM_one (i := 7) (o := ⟨_, _, _, _, _, _⟩) (by kernel_rfl) rfl (fun K hK => ?_)
        go_simp
        refine hK.out _ _ trivial (fun hHeld => ?_)
        clear hK K
        (try simp only [List.setIfInBounds_toArray, List.set_cons_zero, List.set_cons_succ])
        refine wpAnyM_take (i := 12) (oi := ⟨_, _, _, _, _, _⟩) (v := ?_) rfl (by kernel_rfl) (by kernel_rfl) (by kernel_rfl) (by kernel_rfl) (fun _ _ _ h => h) (Or.inl ⟨by rfl, ?_⟩) hHeld ?_
        rotate_left
        · (intro w' hSw; (try dsimp only at hSw); go_simp; try (with_reducible rfl))
        (try simp only [Act.put, List.setIfInBounds_toArray, List.set_cons_zero, List.set_cons_succ])
        refine wpAnyM_one (i := 13) (o := ⟨_, _, _, _, _, _⟩) (by kernel_rfl) rfl (fun K hK => ?_)
        go_simp
        refine hK.out _ _ trivial (fun hHeld => ?_)
        clear hK K
        (try simp only [List.setIfInBounds_toArray, List.set_cons_zero, List.set_cons_succ])
        generalize hW5 : (((w4.setCell ⟨g, i * 3, none⟩ (.int .i64 yk)).setCell ⟨g, i * 3 + 1, none⟩ (.int .i64 yt)).setCell ⟨g, i * 3 + 2, none⟩ (.int .i64 yv)).drew = w5
        have O5 : OwnL 31 3 Rc.cs wb.heap.size w5 (.slice (some ⟨g, 0, none⟩) rs.length mc0) (ms.set i ⟨yk, yt, yv⟩) := by rw [← hW5]; exact HO1.out
        have B5 : Below wb.heap.size wb w5 := by rw [← hW5]; exact HB1'.out
        clear hW5
        obtain ⟨z, hz5⟩ := get_of_lt (show j < (ms.set i (⟨yk, yt, yv⟩ : Rc)).length by rw [List.length_set]; omega)
        obtain ⟨_, _, ez, _, z0, z1, z2⟩ := (O5.seg Rc.cs_len (by rw [List.length_set]; omega)).rec hz5
        cases ez
        simp only [Nat.zero_add] at z0 z1 z2
        obtain ⟨c5, hc5⟩ := O5.has g rfl
        have hfr5 : ∀ q, w5.frozen? ⟨g, q, none⟩ = false := fun q => (show BoxT 31 w5 g c5 from hc5).free q
        have HOW := hide (O5.setAt Rc.cs_len (by decide) (show j < (ms.set i (⟨yk, yt, yv⟩ : Rc)).length by rw [List.length_set]; omega) (⟨xk, xt, xv⟩ : Rc))
        have HBL := hide (B5.grown (grown_setCells g (Rc.cs ⟨xk, xt, xv⟩) w5 (j * 3)) B5.size (fun k e => by cases e; exact hbg))
        clear hc5 hz5 O5 B5
        refine wpAnyM_take (i := 14) (oi := ⟨_, _, _, _, _, _⟩) (v := ?_) rfl (by kernel_rfl) (by kernel_rfl) (by kernel_rfl) (by kernel_rfl) (fun _ _ _ h => h) (Or.inl ⟨by rfl, ?_⟩) hHeld ?_
        rotate_left
        · (intro w' hSw; (try dsimp only at hSw); go_simp; try (with_reducible rfl))
        (try simp only [Act.put, List.setIfInBounds_toArray, List.set_cons_zero, List.set_cons_succ])
        refine wpAnyM_one (i := 15) (o := ⟨_, _, _, _, _, _⟩) (by kernel_rfl) rfl (fun K hK => ?_)
        go_simp
        refine hK.out _ _ trivial (fun hHeld => ?_)
        clear hK K
        (try simp only [List.setIfInBounds_toArray, List.set_cons_zero, List.set_cons_succ])
        refine wpAnyM_done (by kernel_rfl) ?_ _
        go_wp2_with fail
        go_roundg go
        case rel => exact ⟨i + 1, _, by go_num, by omega, by omega, HPM, HOW, HBL⟩
        case measure => omega
    · obtain rfl : i = rs.length := by omega
      have bt : ¬ ((rs.length : Nat) : Int) < (rs.length : Int) := by omega
      have T5 := hide (T4.out.grow GB.out)
      have MB5 : Hid (∀ g, (Value.slice ma0 rs.length mc0).ownBlock = some g → ¬ fp g ∧ ¬ fq g) := (show ∀ g, _ from fun g e => ⟨fun h => by have h1 := GO.out.at g e; have h2 := T4.out.sa.flt g h; omega, fun h => by have h1 := GO.out.at g e; have h2 := T4.out.ta.flt g h; omega⟩)
      clear T4 GB hg hi HPC HSLT HSEQ
      go_wp2_with fail
      obtain ⟨wo, rfl⟩ : ∃ wo, wo = wr := ⟨_, rfl⟩
      by_cases hall : ∀ r ∈ rs, TimeOk r.t
      · have HALL := hide hall
        clear hall
        as_aux_lemma =>
          go_loopg [14] (rs.length + 1) (fun gh iv wx => ∃ (i : Nat) (fp fq : Nat → Prop) (M N : List Pn), iv = .int .i64 (i : Int) ∧ i ≤ rs.length ∧ rs.length + 1 ≤ gh + i ∧ Hid (T2 w wx s t k size slide a fp fq M N) ∧ Hid (OwnL 31 3 Rc.cs wb.heap.size wx (.slice ma0 rs.length mc0) ms) ∧ Hid (∀ g, (Value.slice ma0 rs.length mc0).ownBlock = some g → ¬ fp g ∧ ¬ fq g) ∧ Hid (∀ r ∈ rs.take i, TimeOk r.t) ∧ Hid (Comes (sess k) (jn a) (allS k size slide a (rs.take i)) M) ∧ Hid (Comes (sess k) (jn a) (allS k size slide a (ms.take i)) N))
          case atStart => exact ⟨0, fp, fq, [], [], rfl, by omega, by omega, T5, GO, MB5, (show ∀ r, _ from fun r hr => by simp at hr), (show Comes _ _ _ _ from Comes.refl .nil), (show Comes _ _ _ _ from Comes.refl .nil)⟩
          case round =>
            clear T5 GO MB5 fp fq
            obtain ⟨i, fp, fq, M, N, rfl, hi, hg, GT, GO, MB, GK, GM, GN⟩ := hrel
            obtain ⟨go, hgo⟩ : ∃ go, gk = go + 1 := ⟨gk - 1, by omega⟩
            subst hgo
            by_cases hlt : i < rs.length
            · obtain ⟨r, hr⟩ := get_of_lt hlt
              obtain ⟨r', hr'⟩ := get_of_lt (show i < ms.length by omega)
              have bt : (i : Int) < (rs.length : Int) := by omega
              obtain ⟨nb, no, hao, nlt, e0, e1, e2⟩ := (HL.out.below GT.out.bl).rec hr
              subst hao
              have HRD : Hid (∀ W, Below w.heap.size w W → W.cell? ⟨nb, no + i * 3, none⟩ = some (.int .i64 r.k) ∧ W.cell? ⟨nb, no + i * 3 + 1, none⟩ = some (.int .i64 r.t) ∧ W.cell? ⟨nb, no + i * 3 + 2, none⟩ = some (.int .i64 r.v)) := fun W hb => by
                obtain ⟨b', o', e', _, h0, h1, h2⟩ := (HL.out.below hb).rec hr
                cases e'
                exact ⟨h0, h1, h2⟩
              obtain ⟨mb, mo, hma, mlt, f0, f1, f2⟩ := (GO.out.seg Rc.cs_len (by omega)).rec hr'
              have HMD : Hid (∀ W, OwnL 31 3 Rc.cs wb.heap.size W (.slice ma0 rs.length mc0) ms → W.cell? ⟨mb, mo + i * 3, none⟩ = some (.int .i64 r'.k) ∧ W.cell? ⟨mb, mo + i * 3 + 1, none⟩ = some (.int .i64 r'.t) ∧ W.cell? ⟨mb, mo + i * 3 + 2, none⟩ = some (.int .i64 r'.v)) := fun W hb => by
                obtain ⟨b', o', e', _, h0, h1, h2⟩ := (hb.seg Rc.cs_len (by omega)).rec hr'
                rw [hma] at e'
                cases e'
                exact ⟨h0, h1, h2⟩
              subst hma
              have HIN := hide (HRS.out r (List.mem_of_getElem? hr))
              have HIN' := hide (HRS.out r' (HPM0.out.mem_iff.1 (List.mem_of_getElem? hr')))
              have HSN := hide (allS_snoc k size slide a hr)
              have HSN' := hide (allS_snoc k size slide a hr')
              have HT' : Hid (TimeOk r'.t) := HALL.out r' (HPM0.out.mem_iff.1 (List.mem_of_getElem? hr'))
              have hlA : (allS k size slide a (rs.take i)).length ≤ 5120 := by have := allS_len k size slide a (rs.take i); rw [List.length_take] at this; omega
              have hlB : (allS k size slide a (ms.take i)).length ≤ 5120 := by have := allS_len k size slide a (ms.take i); rw [List.length_take] at this; omega
              have HML : Hid (M.length ≤ 90000) := (show _ ≤ _ from Nat.le_trans (Nat.le_trans GM.out.1.len hlA) (by omega))
              have HNL : Hid (N.length ≤ 90000) := (show _ ≤ _ from Nat.le_trans (Nat.le_trans GN.out.1.len hlB) (by omega))
              clear hlA hlB
              have HTS := hide (take_snoc hr)
              obtain ⟨rk, rt, rv⟩ := r
              obtain ⟨qk, qt, qv⟩ := r'
              simp only at e0 e1 e2 f0 f1 f2 HIN HIN' HRD HMD HT'
              clear hr hr'
              by_cases hT : TimeOk rt
              · have HTI := hide (time_yes hT)
                have HT := hide hT
                have HP1 := hide (put_ok GT.out.sa HF.out HS.out HSL.out rk rt rv HIN.out.1 HIN.out.2.2 hT HML.out GM.out)
                clear hT
                go_wp2_with (first
                  | (go_at_call 12; refine (HTI.out _).mono ?_; rintro e w5' ⟨rfl, e5⟩; subst e5)
                  | (go_at_call 13; refine HP1.out.mono ?_; rintro e w6 ⟨rfl, fp', M', s6, f6, c6⟩; have T6 := hide (GT.out.turn s6 f6); have C6 := hide c6; have O6 := hide (GO.out.back (fun g e => f6.block g (GO.out.lt g e) (MB.out g e).1)); have MB6 : Hid (∀ g, (Value.slice (some ⟨mb, mo, none⟩) rs.length mc0).ownBlock = some g → ¬ fp' g ∧ ¬ fq g) := (show ∀ g, _ from fun g e => ⟨fun h => by { rcases f6.sub g h with h | h; exact (MB.out g e).1 h; have := GO.out.lt g e; omega }, (MB.out g e).2⟩); have HP2 := hide (put_ok T6.out.ta HF.out HS.out HSL.out qk qt qv HIN'.out.1 HIN'.out.2.2 HT'.out HNL.out GN.out); obtain ⟨h0, h1, h2⟩ := HMD.out w6 O6.out; clear s6 f6 c6 HP1)
                  | (go_at_call 13; refine HP2.out.mono ?_; rintro e w7 ⟨rfl, fq', N', s7, f7, c7⟩; have T7 := hide (T6.out.turn2 s7 f7); have C7 := hide c7; have O7 := hide (O6.out.back (fun g e => f7.block g (O6.out.lt g e) (MB6.out g e).2)); have MB7 : Hid (∀ g, (Value.slice (some ⟨mb, mo, none⟩) rs.length mc0).ownBlock = some g → ¬ fp' g ∧ ¬ fq' g) := (show ∀ g, _ from fun g e => ⟨(MB6.out g e).1, fun h => by { rcases f7.sub g h with h | h; exact (MB6.out g e).2 h; have := O6.out.lt g e; omega }⟩); clear s7 f7 c7 HP2)
                  | fail)
                go_roundg go
                case rel => exact ⟨i + 1, fp', fq', M', N', by go_num, by omega, by omega, T7, O7, MB7, (show ∀ r, _ by
                  rw [HTS.out]
                  intro r hr
                  rcases List.mem_append.1 hr with hr | hr
                  · exact GK.out r hr
                  · obtain rfl := List.mem_singleton.1 hr
                    exact HT.out), (show Comes _ _ _ _ by rw [HSN.out]; exact C6.out), (show Comes _ _ _ _ by rw [HSN'.out]; exact C7.out)⟩
                case measure => omega
              · have HTI := hide (time_no hT)
                clear hT
                go_wp2_with (first | (go_at_call 12; refine (HTI.out _).mono ?_; rintro e w5' ⟨rfl, e5⟩; subst e5) | fail)
                go_ret
                exact ⟨rfl, GT.out.bl⟩
            · obtain rfl : i = rs.length := by omega
              have bt : ¬ ((rs.length : Nat) : Int) < (rs.length : Int) := by omega
              have hM2 := GM.out
              have hN2 := GN.out
              rw [List.take_of_length_le (Nat.le_refl _)] at hM2
              rw [List.take_of_length_le (by omega)] at hN2
              have hPM : N.Perm M := Comes.unique (jn_comm a) (jn_assoc a) (hN2.perm (List.Perm.flatMap_right _ HPM0.out) (.refl _)) hM2
              have hlA : M.length ≤ 20000 := by have h1 := hM2.1.len; have h2 := allS_len k size slide a rs; omega
              have hlB : N.length ≤ 20000 := by rw [hPM.length_eq]; exact hlA
              have HSE : Hid (srt N = srt M) := (show _ = _ from srt_eq hPM)
              have HBL : Hid ((wrB (srt M)).length ≤ 1000000) := (show _ ≤ _ by rw [wrB_len, srt_len]; omega)
              have HY1 := hide (Bytes_any GT.out.sa hlA)
              have HLB := hide hlB
              clear hM2 hN2 hPM hlA hlB GM GN GK
              go_wp2_with (first
                | (go_at_call 15; refine HY1.out.mono ?_; rintro e w15 ⟨u15, rfl, o15, b15⟩; have T15 := hide (GT.out.grow b15); have O15 := hide o15; have HY2 := hide (Bytes_any T15.out.ta HLB.out); clear o15 b15 HY1)
                | (go_at_call 15; refine HY2.out.mono ?_; rintro e w16 ⟨u16, rfl, o16, b16⟩; rw [HSE.out] at o16; have T16 := hide (T15.out.grow b16); have HHB := hide (hBytes_any ((O15.out.below b16).seg u8cs_len (by have := HBL.out; omega)) (o16.seg u8cs_len (by have := HBL.out; omega)) HBL.out); clear o16 b16)
                | (go_at_call 14; refine HHB.out.mono ?_; rintro e w17 ⟨rfl, b17⟩; have T17 := hide (T16.out.grow b17); clear b17)
                | fail)
              go_ret
              exact ⟨rfl, T17.out.bl⟩
      · have HALL := hide hall
        clear hall
        as_aux_lemma =>
          go_loopg [14] (rs.length + 1) (fun gh iv wx => ∃ (i : Nat) (fp fq : Nat → Prop) (M N : List Pn), iv = .int .i64 (i : Int) ∧ i ≤ rs.length ∧ rs.length + 1 ≤ gh + i ∧ Hid (T2 w wx s t k size slide a fp fq M N) ∧ Hid (OwnL 31 3 Rc.cs wb.heap.size wx (.slice ma0 rs.length mc0) ms) ∧ Hid (∀ g, (Value.slice ma0 rs.length mc0).ownBlock = some g → ¬ fp g ∧ ¬ fq g) ∧ Hid (∀ r ∈ rs.take i, TimeOk r.t) ∧ Hid (M.length ≤ 64 * i) ∧ Hid (N.length ≤ 64 * i))
          case atStart => exact ⟨0, fp, fq, [], [], rfl, by omega, by omega, T5, GO, MB5, (show ∀ r, _ from fun r hr => by simp at hr), (show _ ≤ _ by simp), (show _ ≤ _ by simp)⟩
          case round =>
            clear T5 GO MB5 fp fq
            obtain ⟨i, fp, fq, M, N, rfl, hi, hg, GT, GO, MB, GK, GM, GN⟩ := hrel
            obtain ⟨go, hgo⟩ : ∃ go, gk = go + 1 := ⟨gk - 1, by omega⟩
            subst hgo
            by_cases hlt : i < rs.length
            · obtain ⟨r, hr⟩ := get_of_lt hlt
              obtain ⟨r', hr'⟩ := get_of_lt (show i < ms.length by omega)
              have bt : (i : Int) < (rs.length : Int) := by omega
              obtain ⟨nb, no, hao, nlt, e0, e1, e2⟩ := (HL.out.below GT.out.bl).rec hr
              subst hao
              have HRD : Hid (∀ W, Below w.heap.size w W → W.cell? ⟨nb, no + i * 3, none⟩ = some (.int .i64 r.k) ∧ W.cell? ⟨nb, no + i * 3 + 1, none⟩ = some (.int .i64 r.t) ∧ W.cell? ⟨nb, no + i * 3 + 2, none⟩ = some (.int .i64 r.v)) := fun W hb => by
                obtain ⟨b', o', e', _, h0, h1, h2⟩ := (HL.out.below hb).rec hr
                cases e'
                exact ⟨h0, h1, h2⟩
              obtain ⟨mb, mo, hma, mlt, f0, f1, f2⟩ := (GO.out.seg Rc.cs_len (by omega)).rec hr'
              have HMD : Hid (∀ W, OwnL 31 3 Rc.cs wb.heap.size W (.slice ma0 rs.length mc0) ms → W.cell? ⟨mb, mo + i * 3, none⟩ = some (.int .i64 r'.k) ∧ W.cell? ⟨mb, mo + i * 3 + 1, none⟩ = some (.int .i64 r'.t) ∧ W.cell? ⟨mb, mo + i * 3 + 2, none⟩ = some (.int .i64 r'.v)) := fun W hb => by
                obtain ⟨b', o', e', _, h0, h1, h2⟩ := (hb.seg Rc.cs_len (by omega)).rec hr'
                rw [hma] at e'
                cases e'
                exact ⟨h0, h1, h2⟩
              subst hma
              have HIN := hide (HRS.out r (List.mem_of_getElem? hr))
              have HIN' := hide (HRS.out r' (HPM0.out.mem_iff.1 (List.mem_of_getElem? hr')))
              have HML : Hid (M.length ≤ 90000) := (show _ ≤ _ by have := GM.out; omega)
              have HNL : Hid (N.length ≤ 90000) := (show _ ≤ _ by have := GN.out; omega)
              have HTS := hide (take_snoc hr)
              obtain ⟨rk, rt, rv⟩ := r
              obtain ⟨qk, qt, qv⟩ := r'
              simp only at e0 e1 e2 f0 f1 f2 HIN HIN' HRD HMD
              clear hr hr'
              by_cases hT : TimeOk rt
              · have HTI := hide (time_yes hT)
                have HT := hide hT
                have HP1 := hide (put_weak GT.out.sa HS.out HSL.out rk rt rv HIN.out.1 HIN.out.2.1 HIN.out.2.2 HML.out)
                clear hT
                go_wp2_with (first
                  | (go_at_call 12; refine (HTI.out _).mono ?_; rintro e w5' ⟨rfl, e5⟩; subst e5)
                  | (go_at_call 13; refine HP1.out.mono ?_; rintro e w6 ⟨rfl, fp', M', s6, f6, c6⟩; have T6 := hide (GT.out.turn s6 f6); have C6 := hide c6; have O6 := hide (GO.out.back (fun g e => f6.block g (GO.out.lt g e) (MB.out g e).1)); have MB6 : Hid (∀ g, (Value.slice (some ⟨mb, mo, none⟩) rs.length mc0).ownBlock = some g → ¬ fp' g ∧ ¬ fq g) := (show ∀ g, _ from fun g e => ⟨fun h => by { rcases f6.sub g h with h | h; exact (MB.out g e).1 h; have := GO.out.lt g e; omega }, (MB.out g e).2⟩); have HP2 := hide (put_weak T6.out.ta HS.out HSL.out qk qt qv HIN'.out.1 HIN'.out.2.1 HIN'.out.2.2 HNL.out); obtain ⟨h0, h1, h2⟩ := HMD.out w6 O6.out; clear s6 f6 c6 HP1)
                  | (go_at_call 13; refine HP2.out.mono ?_; rintro e w7 ⟨rfl, fq', N', s7, f7, c7⟩; have T7 := hide (T6.out.turn2 s7 f7); have C7 := hide c7; have O7 := hide (O6.out.back (fun g e => f7.block g (O6.out.lt g e) (MB6.out g e).2)); have MB7 : Hid (∀ g, (Value.slice (some ⟨mb, mo, none⟩) rs.length mc0).ownBlock = some g → ¬ fp' g ∧ ¬ fq' g) := (show ∀ g, _ from fun g e => ⟨(MB6.out g e).1, fun h => by { rcases f7.sub g h with h | h; exact (MB6.out g e).2 h; have := O6.out.lt g e; omega }⟩); clear s7 f7 c7 HP2)
                  | fail)
                go_roundg go
                case rel => exact ⟨i + 1, fp', fq', M', N', by go_num, by omega, by omega, T7, O7, MB7, (show ∀ r, _ by
                  rw [HTS.out]
                  intro r hr
                  rcases List.mem_append.1 hr with hr | hr
                  · exact GK.out r hr
                  · obtain rfl := List.mem_singleton.1 hr
                    exact HT.out), (show _ ≤ _ by have := C6.out; have := GM.out; omega), (show _ ≤ _ by have := C7.out; have := GN.out; omega)⟩
                case measure => omega
              · have HTI := hide (time_no hT)
                clear hT
                go_wp2_with (first | (go_at_call 12; refine (HTI.out _).mono ?_; rintro e w5' ⟨rfl, e5⟩; subst e5) | fail)
                go_ret
                exact ⟨rfl, GT.out.bl⟩
            · obtain rfl : i = rs.length := by omega
              refine absurd (fun r hr => GK.out r ?_) HALL.out
              rw [List.take_of_length_le (Nat.le_refl _)]
              exact hr
end Go.Proofs.Ytdoldohcimbdaaa
