/-
  The law WindowOrder, walked.
-/
import Derived.Test.YtlikikiglicdlaaWSwap
namespace Go.Proofs.Ytlikikiglicdlaa
open Go.RowKit

set_option maxHeartbeats 32000000 in
set_option maxRecDepth 100000 in
theorem WindowOrder_walk {w : World} {v : Value} {rs : List Rc} (hl : LSeg 3 Rc.cs w.heap.size w v rs) (hrs : ∀ r ∈ rs, In64 r.v) {k size slide : Int} (hs : In64 size) (hsl : In64 slide) (a turn : Int) :
    Calls Try.prog 5 #[.agg #[.int .i64 k, .int .i64 size, .int .i64 slide], .int .i64 a, v, .int .i64 turn] w fun e w' => e = .returned (.bool true) ∧ Below w.heap.size w w' := by
  obtain ⟨ao, cap, rfl⟩ := hl.shapeOf
  have HB0 := hide (below_box w (.cells #[.int .i64 k, .int .i64 size, .int .i64 slide] 23))
  have HBX := hide (BoxT.new 23 w #[.int .i64 k, .int .i64 size, .int .i64 slide])
  have HK := hide (fun W => known_any W)
  have hz : (rs.length : Int) ≤ 140737488355328 := by have := hl.len; omega
  by_cases hF : FitW k size slide
  case neg =>
    have HFT := hide (fit_no hF)
    clear hl
    go_enter Try.func5, Try.ntmps5
    go_wp2_with (first
      | (go_at_call 9; refine (HK.out _).mono ?_; rintro e w1 ⟨rfl, b1⟩; have HB1 := hide (HB0.out.trans (b1.mono HB0.out.size)); have HX1 := hide (BoxT.below (t := 23) HBX.out b1); obtain ⟨y0, y1, y2⟩ := HX1.out.cells3; clear b1)
      | (go_at_call 10; refine (HFT.out _).mono ?_; rintro e w2 ⟨rfl, b2⟩; have HB2 := hide (HB1.out.trans (b2.mono HB1.out.size)); have HBW := hide (BoxT.below (t := 23) HX1.out b2); clear b2 y0 y1 y2))
    go_ret
    exact ⟨rfl, HB2.out⟩
  have HFT := hide (fit_yes hF)
  have HF := hide hF
  clear hF
  by_cases hn : (60 : Int) < (rs.length : Int)
  · clear hl
    go_enter Try.func5, Try.ntmps5
    go_wp2_with (first
      | (go_at_call 9; refine (HK.out _).mono ?_; rintro e w1 ⟨rfl, b1⟩; have HB1 := hide (HB0.out.trans (b1.mono HB0.out.size)); have HX1 := hide (BoxT.below (t := 23) HBX.out b1); obtain ⟨y0, y1, y2⟩ := HX1.out.cells3; clear b1)
      | (go_at_call 10; refine (HFT.out _).mono ?_; rintro e w2 ⟨rfl, b2⟩; have HB2 := hide (HB1.out.trans (b2.mono HB1.out.size)); have HBW := hide (BoxT.below (t := 23) HX1.out b2); clear b2 y0 y1 y2))
    go_ret
    exact ⟨rfl, HB2.out⟩
  by_cases hA1 : a < 1
  · clear hl
    go_enter Try.func5, Try.ntmps5
    go_wp2_with (first
      | (go_at_call 9; refine (HK.out _).mono ?_; rintro e w1 ⟨rfl, b1⟩; have HB1 := hide (HB0.out.trans (b1.mono HB0.out.size)); have HX1 := hide (BoxT.below (t := 23) HBX.out b1); obtain ⟨y0, y1, y2⟩ := HX1.out.cells3; clear b1)
      | (go_at_call 10; refine (HFT.out _).mono ?_; rintro e w2 ⟨rfl, b2⟩; have HB2 := hide (HB1.out.trans (b2.mono HB1.out.size)); have HBW := hide (BoxT.below (t := 23) HX1.out b2); clear b2 y0 y1 y2))
    go_ret
    exact ⟨rfl, HB2.out⟩
  by_cases hA5 : 5 < a
  · clear hl
    go_enter Try.func5, Try.ntmps5
    go_wp2_with (first
      | (go_at_call 9; refine (HK.out _).mono ?_; rintro e w1 ⟨rfl, b1⟩; have HB1 := hide (HB0.out.trans (b1.mono HB0.out.size)); have HX1 := hide (BoxT.below (t := 23) HBX.out b1); obtain ⟨y0, y1, y2⟩ := HX1.out.cells3; clear b1)
      | (go_at_call 10; refine (HFT.out _).mono ?_; rintro e w2 ⟨rfl, b2⟩; have HB2 := hide (HB1.out.trans (b2.mono HB1.out.size)); have HBW := hide (BoxT.below (t := 23) HX1.out b2); clear b2 y0 y1 y2))
    go_ret
    exact ⟨rfl, HB2.out⟩
  have HA : Hid (1 ≤ a ∧ a ≤ 5) := (show _ ∧ _ from ⟨by omega, by omega⟩)
  have HL := hide hl
  have HRS := hide hrs
  have hn60 : rs.length ≤ 60 := by omega
  have HN1 : Hid (([] : List Rc).length + rs.length ≤ 1000000) := (show _ ≤ _ by simp; omega)
  have HPC := hide (fun W => hPlace_any W turn (n := 1000) (by omega) (by omega))
  have hpl := plc_in (i := turn) (n := 1000) (by omega)
  have HSL := hide (fun i n (h : 0 < n) => spot_lt turn i h)
  have HSE := hide (fun i n (h : 0 < n) => spot_eq turn i h)
  generalize plc turn 1000 = pt at *
  obtain ⟨hp0, hp1⟩ := hpl
  clear hl hrs
  go_enter Try.func5, Try.ntmps5
  go_wp2_with (first
    | (go_at_call 9; refine (HK.out _).mono ?_; rintro e w1 ⟨rfl, b1⟩; have HB1 := hide (HB0.out.trans (b1.mono HB0.out.size)); have HX1 := hide (BoxT.below (t := 23) HBX.out b1); obtain ⟨y0, y1, y2⟩ := HX1.out.cells3; clear b1)
    | (go_at_call 10; refine (HFT.out _).mono ?_; rintro e w2 ⟨rfl, b2⟩; have HB2 := hide (HB1.out.trans (b2.mono HB1.out.size)); have HBW := hide (BoxT.below (t := 23) HX1.out b2); clear b2 y0 y1 y2)
    | (at_builtin; refine app_segL Try.infoRc Try.underlying33 rfl (by decide) (by decide) Rc.cs_len Rc.cs_one rfl _ _ rfl w2.heap.size (.slice none 0 0) [] rfl (OwnL.nil _ _ _ _ _) _ _ rs rfl (HL.out.below HB2.out) HN1.out (Nat.le_refl _) ?_; intro v3 w3 h3 g3 _; rw [List.nil_append] at h3; have B3 := hide ((Below.refl w2.heap.size w2).grown g3 (Nat.le_refl _) (fun k e => by cases e)); have O3 := hide h3; clear h3 g3))
  clear HK HFT HB0 HB1 HX1 HBX HN1
  obtain ⟨ma0, mc0, rfl⟩ := O3.out.shape
  go_loopg [10, 11] (rs.length + 1) (fun gh iv _ wr => ∃ (i : Nat) (ms : List Rc), iv = .int .i64 (i : Int) ∧ i ≤ rs.length ∧ rs.length + 1 ≤ gh + i ∧ Hid (ms.Perm rs) ∧ Hid (OwnL 37 3 Rc.cs w2.heap.size wr (.slice ma0 rs.length mc0) ms) ∧ Hid (Below w2.heap.size w2 wr))
  case atStart => exact ⟨0, rs, rfl, by omega, by omega, (show List.Perm _ _ from .refl _), O3, B3⟩
  case round =>
    clear O3 B3
    obtain ⟨i, ms, rfl, hi, hg, HPM0, GO, GB⟩ := hrel
    obtain ⟨go, rfl⟩ : ∃ go, gk = go + 1 := ⟨gk - 1, by omega⟩
    have hml : ms.length = rs.length := HPM0.out.length_eq
    by_cases hlt : i < rs.length
    · have bt : (i : Int) < (rs.length : Int) := by omega
      obtain ⟨x, hx⟩ := get_of_lt (show i < ms.length by omega)
      have hj := HSL.out i rs.length (by omega)
      have he := HSE.out i rs.length (by omega)
      have he2 : (pt + 7 * (i : Int)) % (rs.length : Int) = (spot turn i rs.length : Int) := by rw [← he, Int.tmod_eq_emod_of_nonneg (by omega)]
      generalize hjj : spot turn i rs.length = j at *
      clear hjj
      obtain ⟨y, hy⟩ := get_of_lt (show j < ms.length by omega)
      have HPM := hide ((swap_perm hx hy).trans HPM0.out)
      obtain ⟨g, hg0⟩ : ∃ g, ma0 = some ⟨g, 0, none⟩ := by
        rcases GO.out.2 with ⟨e, h0⟩ | ⟨g, cap', cur, e, _⟩
        · omega
        · exact ⟨g, (Value.slice.inj e).1⟩
      subst hg0
      have hbg := GO.out.at g rfl
      obtain ⟨cur, hcur⟩ := GO.out.has g rfl
      have hfr : ∀ W : World, W.heap[g]? = wr.heap[g]? → ∀ q, W.frozen? ⟨g, q, none⟩ = false := fun W hW q => (show BoxT 37 W g cur by unfold BoxT; rw [hW]; exact hcur).free q
      obtain ⟨_, _, ex, _, x0, x1, x2⟩ := (GO.out.seg Rc.cs_len (by omega)).rec hx
      cases ex
      obtain ⟨_, _, ey, _, y0, y1, y2⟩ := (GO.out.seg Rc.cs_len (by omega)).rec hy
      cases ey
      simp only [Nat.zero_add] at x0 x1 x2 y0 y1 y2
      have HO1 := hide (GO.out.drew.setAt Rc.cs_len (by decide) (show i < ms.length by omega) y)
      have HB1' := hide (GB.out.drew.grown (grown_setCells g y.cs wr.drew (i * 3)) GB.out.size (fun k e => by cases e; exact hbg))
      have hfr0 := hfr wr rfl
      obtain ⟨xk, xt, xv⟩ := x
      obtain ⟨yk, yt, yv⟩ := y
      simp only at x0 x1 x2 y0 y1 y2
      clear hx hy hcur
      have bj : (j : Int) < (rs.length : Int) := by omega
      have hnil : (rs = []) = False := eq_false (fun e => by rw [e] at hlt; simp at hlt)
      have hne : ((rs.length : Int)) ≠ 0 := by omega
      have hdrew : ∀ p, wr.drew.cell? p = wr.cell? p := fun _ => rfl
      go_wp2_with (go_at_call 21; refine (HPC.out _).mono ?_; rintro e w4 ⟨rfl, rfl⟩)
      refine wp_region_M (S := fun _ => True) (late := []) (by kernel_rfl) trivial (fun hHeld => ?_)
      (try simp only [List.size_toArray, List.length_cons, List.length_nil, Nat.zero_add, Nat.reduceAdd, Array.replicate, List.replicate])
      refine wpAnyM_take (i := 0) (oi := ⟨_, _, _, _, _, _⟩) (v := ?_) rfl (by kernel_rfl) (by kernel_rfl) (by kernel_rfl) (by kernel_rfl) (fun _ _ _ h => h) (Or.inl ⟨by rfl, ?_⟩) hHeld ?_
      rotate_left
      · (intro w' hSw; (try dsimp only at hSw); go_simp; try (with_reducible rfl))
      (try simp only [Act.put, List.setIfInBounds_toArray, List.set_cons_zero, List.set_cons_succ])
      refine wpAnyM_take (i := 1) (oi := ⟨_, _, _, _, _, _⟩) (v := ?_) rfl (by kernel_rfl) (by kernel_rfl) (by kernel_rfl) (by kernel_rfl) (fun _ _ _ h => h) (Or.inl ⟨by rfl, ?_⟩) hHeld ?_
      rotate_left
      · (intro w' hSw; (try dsimp only at hSw); go_simp; try (with_reducible rfl))
      (try simp only [Act.put, List.setIfInBounds_toArray, List.set_cons_zero, List.set_cons_succ])
      refine wpAnyM_take (i := 2) (oi := ⟨_, _, _, _, _, _⟩) (v := ?_) rfl (by kernel_rfl) (by kernel_rfl) (by kernel_rfl) (by kernel_rfl) (fun _ _ _ h => h) (Or.inl ⟨by rfl, ?_⟩) hHeld ?_
      rotate_left
      · (intro w' hSw; (try dsimp only at hSw); go_simp; try (with_reducible rfl))
      (try simp only [Act.put, List.setIfInBounds_toArray, List.set_cons_zero, List.set_cons_succ])
      refine wpAnyM_take (i := 3) (oi := ⟨_, _, _, _, _, _⟩) (v := ?_) rfl (by kernel_rfl) (by kernel_rfl) (by kernel_rfl) (by kernel_rfl) (fun _ _ _ h => h) (Or.inl ⟨by rfl, ?_⟩) hHeld ?_
      rotate_left
      · (intro w' hSw; (try dsimp only at hSw); go_simp; try (with_reducible rfl))
      (try simp only [Act.put, List.setIfInBounds_toArray, List.set_cons_zero, List.set_cons_succ])
      refine wpAnyM_take (i := 4) (oi := ⟨_, _, _, _, _, _⟩) (v := ?_) rfl (by kernel_rfl) (by kernel_rfl) (by kernel_rfl) (by kernel_rfl) (fun _ _ _ h => h) (Or.inl ⟨by rfl, ?_⟩) hHeld ?_
      rotate_left
      · (intro w' hSw; (try dsimp only at hSw); go_simp; try (with_reducible rfl))
      (try simp only [Act.put, List.setIfInBounds_toArray, List.set_cons_zero, List.set_cons_succ])
      refine wpAnyM_take (i := 5) (oi := ⟨_, _, _, _, _, _⟩) (v := ?_) rfl (by kernel_rfl) (by kernel_rfl) (by kernel_rfl) (by kernel_rfl) (fun _ _ _ h => h) (Or.inl ⟨by rfl, ?_⟩) hHeld ?_
      rotate_left
      · (intro w' hSw; (try dsimp only at hSw); go_simp; try (with_reducible rfl))
      (try simp only [Act.put, List.setIfInBounds_toArray, List.set_cons_zero, List.set_cons_succ])
      refine wpAnyM_take (i := 6) (oi := ⟨_, _, _, _, _, _⟩) (v := ?_) rfl (by kernel_rfl) (by kernel_rfl) (by kernel_rfl) (by kernel_rfl) (fun _ _ _ h => h) (Or.inl ⟨by rfl, ?_⟩) hHeld ?_
      rotate_left
      · (intro w' hSw; (try dsimp only at hSw); go_simp; try (with_reducible rfl))
      (try simp only [Act.put, List.setIfInBounds_toArray, List.set_cons_zero, List.set_cons_succ])
      refine wpAnyM_take (i := 7) (oi := ⟨_, _, _, _, _, _⟩) (v := ?_) rfl (by kernel_rfl) (by kernel_rfl) (by kernel_rfl) (by kernel_rfl) (fun _ _ _ h => h) (Or.inl ⟨by rfl, ?_⟩) hHeld ?_
      rotate_left
      · (intro w' hSw; (try dsimp only at hSw); go_simp; try (with_reducible rfl))
      (try simp only [Act.put, List.setIfInBounds_toArray, List.set_cons_zero, List.set_cons_succ])
      refine wpAnyM_take (i := 8) (oi := ⟨_, _, _, _, _, _⟩) (v := ?_) rfl (by kernel_rfl) (by kernel_rfl) (by kernel_rfl) (by kernel_rfl) (fun _ _ _ h => h) (Or.inl ⟨by rfl, ?_⟩) hHeld ?_
      rotate_left
      · (intro w' hSw; (try dsimp only at hSw); go_simp; try (with_reducible rfl))
      (try simp only [Act.put, List.setIfInBounds_toArray, List.set_cons_zero, List.set_cons_succ])
      refine wpAnyM_take (i := 9) (oi := ⟨_, _, _, _, _, _⟩) (v := ?_) rfl (by kernel_rfl) (by kernel_rfl) (by kernel_rfl) (by kernel_rfl) (fun _ _ _ h => h) (Or.inl ⟨by rfl, ?_⟩) hHeld ?_
      rotate_left
      · (intro w' hSw; (try dsimp only at hSw); go_simp; try (with_reducible rfl))
      (try simp only [Act.put, List.setIfInBounds_toArray, List.set_cons_zero, List.set_cons_succ])
      refine wpAnyM_take (i := 10) (oi := ⟨_, _, _, _, _, _⟩) (v := ?_) rfl (by kernel_rfl) (by kernel_rfl) (by kernel_rfl) (by kernel_rfl) (fun _ _ _ h => h) (Or.inl ⟨by rfl, ?_⟩) hHeld ?_
      rotate_left
      · (intro w' hSw; (try dsimp only at hSw); go_simp; try (with_reducible rfl))
      (try simp only [Act.put, List.setIfInBounds_toArray, List.set_cons_zero, List.set_cons_succ])
      refine wpAnyM_take (i := 11) (oi := ⟨_, _, _, _, _, _⟩) (v := ?_) rfl (by kernel_rfl) (by kernel_rfl) (by kernel_rfl) (by kernel_rfl) (fun _ _ _ h => h) (Or.inl ⟨by rfl, ?_⟩) hHeld ?_
      rotate_left
      · (intro w' hSw; (try dsimp only at hSw); go_simp; try (with_reducible rfl))
      (try simp only [Act.put, List.setIfInBounds_toArray, List.set_cons_zero, List.set_cons_succ])
      refine wpAnyM_take (i := 12) (oi := ⟨_, _, _, _, _, _⟩) (v := ?_) rfl (by kernel_rfl) (by kernel_rfl) (by kernel_rfl) (by kernel_rfl) (fun _ _ _ h => h) (Or.inl ⟨by rfl, ?_⟩) hHeld ?_
      rotate_left
      · (intro w' hSw; (try dsimp only at hSw); go_simp; try (with_reducible rfl))
      (try simp only [Act.put, List.setIfInBounds_toArray, List.set_cons_zero, List.set_cons_succ])
      refine wpAnyM_take (i := 14) (oi := ⟨_, _, _, _, _, _⟩) (v := ?_) rfl (by kernel_rfl) (by kernel_rfl) (by kernel_rfl) (by kernel_rfl) (fun _ _ _ h => h) (Or.inl ⟨by rfl, ?_⟩) hHeld ?_
      rotate_left
      · (intro w' hSw; (try dsimp only at hSw); go_simp; try (with_reducible rfl))
      (try simp only [Act.put, List.setIfInBounds_toArray, List.set_cons_zero, List.set_cons_succ])
      refine wpAnyM_take (i := 15) (oi := ⟨_, _, _, _, _, _⟩) (v := ?_) rfl (by kernel_rfl) (by kernel_rfl) (by kernel_rfl) (by kernel_rfl) (fun _ _ _ h => h) (Or.inl ⟨by rfl, ?_⟩) hHeld ?_
      rotate_left
      · (intro w' hSw; (try dsimp only at hSw); go_simp; try (with_reducible rfl))
      (try simp only [Act.put, List.setIfInBounds_toArray, List.set_cons_zero, List.set_cons_succ])
      refine wpAnyM_take (i := 16) (oi := ⟨_, _, _, _, _, _⟩) (v := ?_) rfl (by kernel_rfl) (by kernel_rfl) (by kernel_rfl) (by kernel_rfl) (fun _ _ _ h => h) (Or.inl ⟨by rfl, ?_⟩) hHeld ?_
      rotate_left
      · (intro w' hSw; (try dsimp only at hSw); go_simp; try (with_reducible rfl))
      (try simp only [Act.put, List.setIfInBounds_toArray, List.set_cons_zero, List.set_cons_succ])
      refine wpAnyM_two (i := 13) (j := 17) (oi := ⟨_, _, _, _, _, _⟩) (oj := ⟨_, _, _, _, _, _⟩) (by kernel_rfl) rfl rfl (fun K hK => ?_) (fun K hK => ?_)
      · go_simp
        refine hK.out _ _ trivial (fun hHeld => ?_)
        clear hK K
        (try simp only [List.setIfInBounds_toArray, List.set_cons_zero, List.set_cons_succ])
        refine wpAnyM_one (i := 17) (o := ⟨_, _, _, _, _, _⟩) (by kernel_rfl) rfl (fun K hK => ?_)
        go_simp
        refine hK.out _ _ trivial (fun hHeld => ?_)
        clear hK K
        (try simp only [List.setIfInBounds_toArray, List.set_cons_zero, List.set_cons_succ])
        refine wpAnyM_take (i := 18) (oi := ⟨_, _, _, _, _, _⟩) (v := ?_) rfl (by kernel_rfl) (by kernel_rfl) (by kernel_rfl) (by kernel_rfl) (fun _ _ _ h => h) (Or.inl ⟨by rfl, ?_⟩) hHeld ?_
        rotate_left
        · (intro w' hSw; (try dsimp only at hSw); go_simp; try (with_reducible rfl))
        (try simp only [Act.put, List.setIfInBounds_toArray, List.set_cons_zero, List.set_cons_succ])
        refine wpAnyM_one (i := 19) (o := ⟨_, _, _, _, _, _⟩) (by kernel_rfl) rfl (fun K hK => ?_)
        go_simp
        refine hK.out _ _ trivial (fun hHeld => ?_)
        clear hK K
        (try simp only [List.setIfInBounds_toArray, List.set_cons_zero, List.set_cons_succ])
        generalize hW5 : (((w4.setCell ⟨g, i * 3, none⟩ (.int .i64 yk)).setCell ⟨g, i * 3 + 1, none⟩ (.int .i64 yt)).setCell ⟨g, i * 3 + 2, none⟩ (.int .i64 yv)).drew = w5
        have O5 : OwnL 37 3 Rc.cs w2.heap.size w5 (.slice (some ⟨g, 0, none⟩) rs.length mc0) (ms.set i ⟨yk, yt, yv⟩) := by rw [← hW5]; exact HO1.out
        have B5 : Below w2.heap.size w2 w5 := by rw [← hW5]; exact HB1'.out
        clear hW5
        obtain ⟨z, hz5⟩ := get_of_lt (show j < (ms.set i (⟨yk, yt, yv⟩ : Rc)).length by rw [List.length_set]; omega)
        obtain ⟨_, _, ez, _, z0, z1, z2⟩ := (O5.seg Rc.cs_len (by rw [List.length_set]; omega)).rec hz5
        cases ez
        simp only [Nat.zero_add] at z0 z1 z2
        obtain ⟨c5, hc5⟩ := O5.has g rfl
        have hfr5 : ∀ q, w5.frozen? ⟨g, q, none⟩ = false := fun q => (show BoxT 37 w5 g c5 from hc5).free q
        have HOW := hide (O5.setAt Rc.cs_len (by decide) (show j < (ms.set i (⟨yk, yt, yv⟩ : Rc)).length by rw [List.length_set]; omega) (⟨xk, xt, xv⟩ : Rc))
        have HBL := hide (B5.grown (grown_setCells g (Rc.cs ⟨xk, xt, xv⟩) w5 (j * 3)) B5.size (fun k e => by cases e; exact hbg))
        clear hc5 hz5 O5 B5
        refine wpAnyM_take (i := 20) (oi := ⟨_, _, _, _, _, _⟩) (v := ?_) rfl (by kernel_rfl) (by kernel_rfl) (by kernel_rfl) (by kernel_rfl) (fun _ _ _ h => h) (Or.inl ⟨by rfl, ?_⟩) hHeld ?_
        rotate_left
        · (intro w' hSw; (try dsimp only at hSw); go_simp; try (with_reducible rfl))
        (try simp only [Act.put, List.setIfInBounds_toArray, List.set_cons_zero, List.set_cons_succ])
        refine wpAnyM_one (i := 21) (o := ⟨_, _, _, _, _, _⟩) (by kernel_rfl) rfl (fun K hK => ?_)
        go_simp
        refine hK.out _ _ trivial (fun hHeld => ?_)
        clear hK K
        (try simp only [List.setIfInBounds_toArray, List.set_cons_zero, List.set_cons_succ])
        refine wpAnyM_done (by kernel_rfl) ?_ _
        go_wp2_with fail
        go_roundg go
        case rel => exact ⟨i + 1, _, by go_num, by omega, by omega, HPM, HOW, HBL⟩
        case measure => omega
      · go_simp
        refine hK.out _ _ trivial (fun hHeld => ?_)
        clear hK K
        (try simp only [List.setIfInBounds_toArray, List.set_cons_zero, List.set_cons_succ])
        refine wpAnyM_one (i := 13) (o := ⟨_, _, _, _, _, _⟩) (by kernel_rfl) rfl (fun K hK => ?_)
        go_simp
        refine hK.out _ _ trivial (fun hHeld => ?_)
        clear hK K
        (try simp only [List.setIfInBounds_toArray, List.set_cons_zero, List.set_cons_succ])
        refine wpAnyM_take (i := 18) (oi := ⟨_, _, _, _, _, _⟩) (v := ?_) rfl (by kernel_rfl) (by kernel_rfl) (by kernel_rfl) (by kernel_rfl) (fun _ _ _ h => h) (Or.inl ⟨by rfl, ?_⟩) hHeld ?_
        rotate_left
        · (intro w' hSw; (try dsimp only at hSw); go_simp; try (with_reducible rfl))
        (try simp only [Act.put, List.setIfInBounds_toArray, List.set_cons_zero, List.set_cons_succ])
        refine wpAnyM_one (i := 19) (o := ⟨_, _, _, _, _, _⟩) (by kernel_rfl) rfl (fun K hK => ?_)
        go_simp
        refine hK.out _ _ trivial (fun hHeld => ?_)
        clear hK K
        (try simp only [List.setIfInBounds_toArray, List.set_cons_zero, List.set_cons_succ])
        generalize hW5 : (((w4.setCell ⟨g, i * 3, none⟩ (.int .i64 yk)).setCell ⟨g, i * 3 + 1, none⟩ (.int .i64 yt)).setCell ⟨g, i * 3 + 2, none⟩ (.int .i64 yv)).drew = w5
        have O5 : OwnL 37 3 Rc.cs w2.heap.size w5 (.slice (some ⟨g, 0, none⟩) rs.length mc0) (ms.set i ⟨yk, yt, yv⟩) := by rw [← hW5]; exact HO1.out
        have B5 : Below w2.heap.size w2 w5 := by rw [← hW5]; exact HB1'.out
        clear hW5
        obtain ⟨z, hz5⟩ := get_of_lt (show j < (ms.set i (⟨yk, yt, yv⟩ : Rc)).length by rw [List.length_set]; omega)
        obtain ⟨_, _, ez, _, z0, z1, z2⟩ := (O5.seg Rc.cs_len (by rw [List.length_set]; omega)).rec hz5
        cases ez
        simp only [Nat.zero_add] at z0 z1 z2
        obtain ⟨c5, hc5⟩ := O5.has g rfl
        have hfr5 : ∀ q, w5.frozen? ⟨g, q, none⟩ = false := fun q => (show BoxT 37 w5 g c5 from hc5).free q
        have HOW := hide (O5.setAt Rc.cs_len (by decide) (show j < (ms.set i (⟨yk, yt, yv⟩ : Rc)).length by rw [List.length_set]; omega) (⟨xk, xt, xv⟩ : Rc))
        have HBL := hide (B5.grown (grown_setCells g (Rc.cs ⟨xk, xt, xv⟩) w5 (j * 3)) B5.size (fun k e => by cases e; exact hbg))
        clear hc5 hz5 O5 B5
        refine wpAnyM_take (i := 20) (oi := ⟨_, _, _, _, _, _⟩) (v := ?_) rfl (by kernel_rfl) (by kernel_rfl) (by kernel_rfl) (by kernel_rfl) (fun _ _ _ h => h) (Or.inl ⟨by rfl, ?_⟩) hHeld ?_
        rotate_left
        · (intro w' hSw; (try dsimp only at hSw); go_simp; try (with_reducible rfl))
        (try simp only [Act.put, List.setIfInBounds_toArray, List.set_cons_zero, List.set_cons_succ])
        refine wpAnyM_one (i := 21) (o := ⟨_, _, _, _, _, _⟩) (by kernel_rfl) rfl (fun K hK => ?_)
        go_simp
        refine hK.out _ _ trivial (fun hHeld => ?_)
        clear hK K
        (try simp only [List.setIfInBounds_toArray, List.set_cons_zero, List.set_cons_succ])
        refine wpAnyM_done (by kernel_rfl) ?_ _
        go_wp2_with fail
        go_roundg go
        case rel => exact ⟨i + 1, _, by go_num, by omega, by omega, HPM, HOW, HBL⟩
        case measure => omega
    · have bt : ¬ (i : Int) < (rs.length : Int) := by omega
      have HGM := hide (GO.out.seg Rc.cs_len (by omega))
      have HPM := HPM0
      have HBO := hide (HB2.out.trans (GB.out.mono HB2.out.size))
      have HBWo := hide (BoxT.below (t := 23) HBW.out GB.out)
      obtain ⟨wo, rfl⟩ : ∃ wo, wo = wr := ⟨wr, rfl⟩
      clear HPC HSL HSE hp0 hp1 GO GB HBW HB2 HPM0 hi hg hlt
      go_wp2_with fail
      clear bt
      go_loopg [12, 13, 14] (rs.length + 1) (fun gh pv qv iv wr => ∃ i : Nat, iv = .int .i64 (i : Int) ∧ i ≤ rs.length ∧ rs.length + 1 ≤ gh + i ∧ Hid (∀ r ∈ rs.take i, RcOk r) ∧
        Hid (LSeg 4 Pn.cs wr.heap.size wr pv (putsP k size slide a (rs.take i))) ∧ Hid (LSeg 4 Pn.cs wr.heap.size wr qv (putsP k size slide a (ms.take i))) ∧ Hid (Below wo.heap.size wo wr))
      case atStart => exact ⟨0, rfl, by omega, by omega, (show ∀ r ∈ _, _ by simp), LSeg.nil' _ _ _ _, LSeg.nil' _ _ _ _, Below.refl _ _⟩
      case round =>
        obtain ⟨i, rfl, hi, hg, HOK, GA, GE, GB⟩ := hrel
        obtain ⟨go, rfl⟩ : ∃ go, gk = go + 1 := ⟨gk - 1, by omega⟩
        obtain ⟨aa, ac, rfl⟩ := GA.out.shapeOf
        obtain ⟨ea, ec, rfl⟩ := GE.out.shapeOf
        have hBW := HBO.out.trans (GB.out.mono HBO.out.size)
        by_cases hlt : i < rs.length
        · obtain ⟨r, hr⟩ := get_of_lt hlt
          obtain ⟨m, hm⟩ := get_of_lt (show i < ms.length by omega)
          have bt : (i : Int) < (rs.length : Int) := by omega
          obtain ⟨nb, no, rfl, nlt, d0, d1, d2⟩ := (HL.out.below hBW).rec hr
          obtain ⟨mb, mo, rfl, mlt, m0, m1, m2⟩ := (HGM.out.below GB.out).rec hm
          have hnbw : nb < wr.heap.size := Nat.lt_of_lt_of_le nlt hBW.size
          have hmbw : mb < wr.heap.size := Nat.lt_of_lt_of_le mlt GB.out.size
          have HRV := hide (HRS.out r (List.mem_of_getElem? hr))
          have HPT2 := hide (puts_take (k := k) (size := size) (slide := slide) (a := a) hr)
          have HPT1 := hide (puts_take (k := k) (size := size) (slide := slide) (a := a) hm)
          have HTM1 := hide (time_yes (t := r.t))
          have HTM0 := hide (time_no (t := r.t))
          have HPL : Hid ((putsP k size slide a (rs.take i)).length ≤ 50000) := (show _ ≤ _ by have h1 := puts_len k size slide a (rs.take i); rw [List.length_take] at h1; omega)
          have HEL : Hid ((putsP k size slide a (ms.take i)).length ≤ 50000) := (show _ ≤ _ by have h1 := puts_len k size slide a (ms.take i); rw [List.length_take] at h1; omega)
          have HOK3 := hide (fun hT hv => ok_snoc hr HOK.out hT hv)
          clear hr hm
          by_cases hT : TimeOk r.t
          case neg =>
            have HT := hide (HTM0.out hT)
            obtain ⟨rk, rt, rv⟩ := r
            simp only at d0 d1 d2 HT
            clear HTM1 HTM0 hT
            have HBW2 := hide hBW
            clear hBW
            go_wp2_with (go_at_call 11; refine (HT.out _).mono ?_; rintro e w4 ⟨rfl, rfl⟩)
            go_ret
            exact ⟨rfl, HBW2.out⟩
          have HT := hide (HTM1.out hT)
          have HOK2 := hide (HOK3.out hT HRV.out)
          have HBW := HBWo
          clear HTM1 HTM0 hT hBW HRV HOK HOK3
          obtain ⟨rk, rt, rv⟩ := r
          obtain ⟨mk, mt, mv⟩ := m
          simp only at d0 d1 d2 m0 m1 m2 HT
          generalize putsP k size slide a (rs.take i) = pa at *
          generalize putsP k size slide a (ms.take i) = pe at *
          have KC : Hid (∀ w' : World, Below (wr).heap.size (wr) w' → w'.cell? ⟨w.heap.size, 0, none⟩ = some (.int .i64 k) ∧ w'.cell? ⟨w.heap.size, 1, none⟩ = some (.int .i64 size) ∧ w'.cell? ⟨w.heap.size, 2, none⟩ = some (.int .i64 slide) ∧ w'.cell? ⟨nb, no + i * 3, none⟩ = some (.int .i64 rk) ∧ w'.cell? ⟨nb, no + i * 3 + 1, none⟩ = some (.int .i64 rt) ∧ w'.cell? ⟨nb, no + i * 3 + 2, none⟩ = some (.int .i64 rv) ∧ w'.cell? ⟨mb, mo + i * 3, none⟩ = some (.int .i64 mk) ∧ w'.cell? ⟨mb, mo + i * 3 + 1, none⟩ = some (.int .i64 mt) ∧ w'.cell? ⟨mb, mo + i * 3 + 2, none⟩ = some (.int .i64 mv)) := fun w' h => ⟨(by rw [(BoxT.below (t := 23) (BoxT.below (t := 23) HBW.out GB.out) h).cellAt]; rfl), (by rw [(BoxT.below (t := 23) (BoxT.below (t := 23) HBW.out GB.out) h).cellAt]; rfl), (by rw [(BoxT.below (t := 23) (BoxT.below (t := 23) HBW.out GB.out) h).cellAt]; rfl), ((h.cell (p := ⟨nb, no + i * 3, none⟩) hnbw).trans d0), ((h.cell (p := ⟨nb, no + i * 3 + 1, none⟩) hnbw).trans d1), ((h.cell (p := ⟨nb, no + i * 3 + 2, none⟩) hnbw).trans d2), ((h.cell (p := ⟨mb, mo + i * 3, none⟩) hmbw).trans m0), ((h.cell (p := ⟨mb, mo + i * 3 + 1, none⟩) hmbw).trans m1), ((h.cell (p := ⟨mb, mo + i * 3 + 2, none⟩) hmbw).trans m2)⟩
          have HPA := hide (Put_at2 GA.out HPL.out k hs hsl a rk rt rv)
          have HPB := hide (Put_at2 GE.out HEL.out k hs hsl a mk mt mv)
          go_wp2_with (go_at_call 11; refine (HT.out _).mono ?_; rintro e w4 ⟨rfl, rfl⟩)
          refine wp_region_M (S := fun w' => w'.cell? ⟨w.heap.size, 0, none⟩ = some (.int .i64 k) ∧ w'.cell? ⟨w.heap.size, 1, none⟩ = some (.int .i64 size) ∧ w'.cell? ⟨w.heap.size, 2, none⟩ = some (.int .i64 slide) ∧ w'.cell? ⟨nb, no + i * 3, none⟩ = some (.int .i64 rk) ∧ w'.cell? ⟨nb, no + i * 3 + 1, none⟩ = some (.int .i64 rt) ∧ w'.cell? ⟨nb, no + i * 3 + 2, none⟩ = some (.int .i64 rv) ∧ w'.cell? ⟨mb, mo + i * 3, none⟩ = some (.int .i64 mk) ∧ w'.cell? ⟨mb, mo + i * 3 + 1, none⟩ = some (.int .i64 mt) ∧ w'.cell? ⟨mb, mo + i * 3 + 2, none⟩ = some (.int .i64 mv)) (late := []) (by kernel_rfl) (KC.out _ ((Below.refl _ _).drew)) (fun hHeld => ?_)
          (try simp only [List.size_toArray, List.length_cons, List.length_nil, Nat.zero_add, Nat.reduceAdd, Array.replicate, List.replicate])
          refine wpAnyM_take (i := 0) (oi := ⟨_, _, _, _, _, _⟩) (v := ?_) rfl (by kernel_rfl) (by kernel_rfl) (by kernel_rfl) (by kernel_rfl) (fun _ _ _ h => h) (Or.inl ⟨by rfl, ?_⟩) hHeld ?_
          rotate_left
          · (intro w' hSw; (try dsimp only at hSw); go_simp; try (with_reducible rfl))
          (try simp only [Act.put, List.setIfInBounds_toArray, List.set_cons_zero, List.set_cons_succ])
          refine wpAnyM_take (i := 1) (oi := ⟨_, _, _, _, _, _⟩) (v := ?_) rfl (by kernel_rfl) (by kernel_rfl) (by kernel_rfl) (by kernel_rfl) (fun _ _ _ h => h) (Or.inl ⟨by rfl, ?_⟩) hHeld ?_
          rotate_left
          · (intro w' hSw; (try dsimp only at hSw); go_simp; try (with_reducible rfl))
          (try simp only [Act.put, List.setIfInBounds_toArray, List.set_cons_zero, List.set_cons_succ])
          refine wpAnyM_take (i := 2) (oi := ⟨_, _, _, _, _, _⟩) (v := ?_) rfl (by kernel_rfl) (by kernel_rfl) (by kernel_rfl) (by kernel_rfl) (fun _ _ _ h => h) (Or.inl ⟨by rfl, ?_⟩) hHeld ?_
          rotate_left
          · (intro w' hSw; (try dsimp only at hSw); go_simp; try (with_reducible rfl))
          (try simp only [Act.put, List.setIfInBounds_toArray, List.set_cons_zero, List.set_cons_succ])
          refine wpAnyM_take (i := 3) (oi := ⟨_, _, _, _, _, _⟩) (v := ?_) rfl (by kernel_rfl) (by kernel_rfl) (by kernel_rfl) (by kernel_rfl) (fun _ _ _ h => h) (Or.inl ⟨by rfl, ?_⟩) hHeld ?_
          rotate_left
          · (intro w' hSw; (try dsimp only at hSw); go_simp; try (with_reducible rfl))
          (try simp only [Act.put, List.setIfInBounds_toArray, List.set_cons_zero, List.set_cons_succ])
          refine wpAnyM_take (i := 4) (oi := ⟨_, _, _, _, _, _⟩) (v := ?_) rfl (by kernel_rfl) (by kernel_rfl) (by kernel_rfl) (by kernel_rfl) (fun _ _ _ h => h) (Or.inl ⟨by rfl, ?_⟩) hHeld ?_
          rotate_left
          · (intro w' hSw; (try dsimp only at hSw); go_simp; try (with_reducible rfl))
          (try simp only [Act.put, List.setIfInBounds_toArray, List.set_cons_zero, List.set_cons_succ])
          refine wpAnyM_take (i := 5) (oi := ⟨_, _, _, _, _, _⟩) (v := ?_) rfl (by kernel_rfl) (by kernel_rfl) (by kernel_rfl) (by kernel_rfl) (fun _ _ _ h => h) (Or.inl ⟨by rfl, ?_⟩) hHeld ?_
          rotate_left
          · (intro w' hSw; (try dsimp only at hSw); go_simp; try (with_reducible rfl))
          (try simp only [Act.put, List.setIfInBounds_toArray, List.set_cons_zero, List.set_cons_succ])
          refine wpAnyM_take (i := 6) (oi := ⟨_, _, _, _, _, _⟩) (v := ?_) rfl (by kernel_rfl) (by kernel_rfl) (by kernel_rfl) (by kernel_rfl) (fun _ _ _ h => h) (Or.inl ⟨by rfl, ?_⟩) hHeld ?_
          rotate_left
          · (intro w' hSw; (try dsimp only at hSw); go_simp; try (with_reducible rfl))
          (try simp only [Act.put, List.setIfInBounds_toArray, List.set_cons_zero, List.set_cons_succ])
          refine wpAnyM_take (i := 8) (oi := ⟨_, _, _, _, _, _⟩) (v := ?_) rfl (by kernel_rfl) (by kernel_rfl) (by kernel_rfl) (by kernel_rfl) (fun _ _ _ h => h) (Or.inl ⟨by rfl, ?_⟩) hHeld ?_
          rotate_left
          · (intro w' hSw; (try dsimp only at hSw); go_simp; try (with_reducible rfl))
          (try simp only [Act.put, List.setIfInBounds_toArray, List.set_cons_zero, List.set_cons_succ])
          refine wpAnyM_take (i := 9) (oi := ⟨_, _, _, _, _, _⟩) (v := ?_) rfl (by kernel_rfl) (by kernel_rfl) (by kernel_rfl) (by kernel_rfl) (fun _ _ _ h => h) (Or.inl ⟨by rfl, ?_⟩) hHeld ?_
          rotate_left
          · (intro w' hSw; (try dsimp only at hSw); go_simp; try (with_reducible rfl))
          (try simp only [Act.put, List.setIfInBounds_toArray, List.set_cons_zero, List.set_cons_succ])
          refine wpAnyM_take (i := 10) (oi := ⟨_, _, _, _, _, _⟩) (v := ?_) rfl (by kernel_rfl) (by kernel_rfl) (by kernel_rfl) (by kernel_rfl) (fun _ _ _ h => h) (Or.inl ⟨by rfl, ?_⟩) hHeld ?_
          rotate_left
          · (intro w' hSw; (try dsimp only at hSw); go_simp; try (with_reducible rfl))
          (try simp only [Act.put, List.setIfInBounds_toArray, List.set_cons_zero, List.set_cons_succ])
          refine wpAnyM_take (i := 11) (oi := ⟨_, _, _, _, _, _⟩) (v := ?_) rfl (by kernel_rfl) (by kernel_rfl) (by kernel_rfl) (by kernel_rfl) (fun _ _ _ h => h) (Or.inl ⟨by rfl, ?_⟩) hHeld ?_
          rotate_left
          · (intro w' hSw; (try dsimp only at hSw); go_simp; try (with_reducible rfl))
          (try simp only [Act.put, List.setIfInBounds_toArray, List.set_cons_zero, List.set_cons_succ])
          refine wpAnyM_take (i := 12) (oi := ⟨_, _, _, _, _, _⟩) (v := ?_) rfl (by kernel_rfl) (by kernel_rfl) (by kernel_rfl) (by kernel_rfl) (fun _ _ _ h => h) (Or.inl ⟨by rfl, ?_⟩) hHeld ?_
          rotate_left
          · (intro w' hSw; (try dsimp only at hSw); go_simp; try (with_reducible rfl))
          (try simp only [Act.put, List.setIfInBounds_toArray, List.set_cons_zero, List.set_cons_succ])
          refine wpAnyM_take (i := 13) (oi := ⟨_, _, _, _, _, _⟩) (v := ?_) rfl (by kernel_rfl) (by kernel_rfl) (by kernel_rfl) (by kernel_rfl) (fun _ _ _ h => h) (Or.inl ⟨by rfl, ?_⟩) hHeld ?_
          rotate_left
          · (intro w' hSw; (try dsimp only at hSw); go_simp; try (with_reducible rfl))
          (try simp only [Act.put, List.setIfInBounds_toArray, List.set_cons_zero, List.set_cons_succ])
          refine wpAnyM_take (i := 14) (oi := ⟨_, _, _, _, _, _⟩) (v := ?_) rfl (by kernel_rfl) (by kernel_rfl) (by kernel_rfl) (by kernel_rfl) (fun _ _ _ h => h) (Or.inl ⟨by rfl, ?_⟩) hHeld ?_
          rotate_left
          · (intro w' hSw; (try dsimp only at hSw); go_simp; try (with_reducible rfl))
          (try simp only [Act.put, List.setIfInBounds_toArray, List.set_cons_zero, List.set_cons_succ])
          refine wpAnyM_one (i := 7) (o := ⟨_, _, _, _, _, _⟩) (by kernel_rfl) rfl (fun K hK => ?_)
          go_simp
          go_at_call 15
          refine (HPA.out _ ((Below.refl _ _).drew)).mono ?_
          rintro e w7 ⟨u7, rfl, o_w7, b_w7, c_w7⟩
          have B_w7 := hide b_w7
          have O_w7 := hide o_w7
          have C_w7 := hide c_w7
          refine hK.out _ _ (KC.out _ B_w7.out) (fun hHeld => ?_)
          clear hK K o_w7 b_w7 c_w7
          (try simp only [List.setIfInBounds_toArray, List.set_cons_zero, List.set_cons_succ])
          refine wpAnyM_one (i := 15) (o := ⟨_, _, _, _, _, _⟩) (by kernel_rfl) rfl (fun K hK => ?_)
          go_simp
          go_at_call 15
          refine (HPB.out _ (B_w7.out)).mono ?_
          rintro e w8 ⟨u8, rfl, o_w8, b_w8, c_w8⟩
          have B_w8 := hide b_w8
          have O_w8 := hide o_w8
          have C_w8 := hide c_w8
          refine hK.out _ _ (KC.out _ B_w8.out) (fun hHeld => ?_)
          clear hK K o_w8 b_w8 c_w8
          (try simp only [List.setIfInBounds_toArray, List.set_cons_zero, List.set_cons_succ])
          refine wpAnyM_one (i := 16) (o := ⟨_, _, _, _, _, _⟩) (by kernel_rfl) rfl (fun K hK => ?_)
          go_simp
          refine hK.out _ _ (KC.out _ B_w8.out) (fun hHeld => ?_)
          clear hK K
          (try simp only [List.setIfInBounds_toArray, List.set_cons_zero, List.set_cons_succ])
          refine wpAnyM_one (i := 17) (o := ⟨_, _, _, _, _, _⟩) (by kernel_rfl) rfl (fun K hK => ?_)
          go_simp
          refine hK.out _ _ (KC.out _ B_w8.out) (fun hHeld => ?_)
          clear hK K
          (try simp only [List.setIfInBounds_toArray, List.set_cons_zero, List.set_cons_succ])
          refine wpAnyM_done (by kernel_rfl) ?_ _
          go_wp2_with fail
          go_roundg go
          case rel =>
            exact ⟨i + 1, by go_num, by omega, by omega, HOK2, hide (by rw [HPT2.out]; exact O_w7.out.on C_w8.out), hide (by rw [HPT1.out]; exact O_w8.out), hide (GB.out.trans (B_w8.out.mono GB.out.size))⟩
          case measure => omega
        · have bt : ¬ (i : Int) < (rs.length : Int) := by omega
          have hT : rs.take i = rs := List.take_of_length_le (by omega)
          have hT2 : ms.take i = ms := List.take_of_length_le (by omega)
          rw [hT] at GA HOK ⊢
          rw [hT2] at GE ⊢
          have HEQ := hide (puts_perm HF.out HA.out HPM.out.symm HOK.out)
          have HAP : Hid (k = 3 → ∀ (q : Nat) (x y : Pn), (putsP k size slide a rs)[q]? = some x → (putsP k size slide a rs)[q + 1]? = some y → y.k = x.k → x.t ≤ y.f) := (show _ → _ by
            intro h3 q x y hx hy hk
            subst h3
            exact puts_apart HF.out HA.out HOK.out hx hy hk)
          have hle : (putsP k size slide a rs).length ≤ 3840 := by have h1 := puts_len k size slide a rs; omega
          rw [← HEQ.out] at GE ⊢
          generalize putsP k size slide a rs = pa at *
          have HBW2 := hide hBW
          obtain ⟨w5, rfl⟩ : ∃ w5, w5 = wr := ⟨wr, rfl⟩
          have HBW5 := hide (BoxT.below (t := 23) HBWo.out GB.out)
          have HFIN := hide (fun (W : World) (h : Below w5.heap.size w5 W) => hPanes_any (GA.out.on h) (GE.out.on h) (show pa.length ≤ 1000000 by omega))
          clear hBW hT hT2 HEQ HOK GE
          by_cases h3 : k = 3
          · have HAP2 := hide (HAP.out h3)
            have hk3 : (k == 3) = true := by simp [h3]
            clear h3 HAP
            go_wp2_with fail
            go_loopg [15] (pa.length + 2) (fun gh iv wx => ∃ q : Nat, iv = .int .i64 ((q : Int) + 1) ∧ q ≤ pa.length ∧ pa.length + 2 ≤ gh + q ∧ Hid (Below w5.heap.size w5 wx))
            case atStart => exact ⟨0, by go_num, by omega, by omega, Below.refl _ _⟩
            case round =>
              obtain ⟨q, rfl, hq, hgq, GQ⟩ := hrel
              obtain ⟨gi, rfl⟩ : ∃ gi, gk = gi + 1 := ⟨gk - 1, by omega⟩
              obtain ⟨z0, z1, z2⟩ := (BoxT.below (t := 23) HBW5.out GQ.out).cells3
              by_cases hql : q + 1 < pa.length
              · obtain ⟨x, hx⟩ := get_of_lt (show q < pa.length by omega)
                obtain ⟨y, hy⟩ := get_of_lt hql
                have bq : (q : Int) + 1 < (pa.length : Int) := by omega
                have bq2 : (q : Int) < (pa.length : Int) := by omega
                obtain ⟨xb, xo, rfl, _, e0, e1, e2, e3⟩ := (GA.out.below GQ.out).pane hx
                obtain ⟨_, _, ey, _, f0, f1, f2, f3⟩ := (GA.out.below GQ.out).pane hy
                cases ey
                have HXY := hide (HAP2.out q x y hx hy)
                clear hx hy
                obtain ⟨xk, xf, xt, xa⟩ := x
                obtain ⟨yk, yf, yt, ya⟩ := y
                simp only at e0 e1 e2 e3 f0 f1 f2 f3 HXY
                have eq1 : (q : Int) + 1 - 1 = (q : Int) := by omega
                by_cases hk : yk = xk
                · subst hk
                  have hle9 := HXY.out rfl
                  have hdec : decide (yf < xt) = false := decide_eq_false (by omega)
                  clear hle9
                  go_wp2_with fail
                  go_quiet (fail)
                  go_wp2_with fail
                  go_roundg gi
                  case rel => exact ⟨q + 1, by go_num, by omega, by omega, hide (below_drewN GQ.out _)⟩
                  case measure => omega
                · have hkb : (yk == xk) = false := by simp [hk]
                  go_wp2_with fail
                  go_quiet (fail)
                  go_wp2_with fail
                  go_roundg gi
                  case rel => exact ⟨q + 1, by go_num, by omega, by omega, hide (below_drewN GQ.out _)⟩
                  case measure => omega
              · have bq : ¬ ((q : Int) + 1 < (pa.length : Int)) := by omega
                go_wp2_with (go_at_call 16; refine (HFIN.out _ GQ.out).mono ?_; rintro e w9 ⟨rfl, b9⟩)
                go_ret
                exact ⟨rfl, HBW2.out.trans ((GQ.out.trans (b9.mono GQ.out.size)).mono HBW2.out.size)⟩
          · have hk3 : (k == 3) = false := by simp [h3]
            have hk3' : decide (k = 3) = false := decide_eq_false h3
            clear HAP
            go_wp2_with fail
            go_loopg [15] (pa.length + 2) (fun gh iv wx => iv = .int .i64 1 ∧ wx = w5)
            case atStart => exact ⟨rfl, rfl⟩
            case round =>
              obtain ⟨rfl, rfl⟩ := hrel
              obtain ⟨z0, z1, z2⟩ := HBW5.out.cells3
              by_cases hl1 : (1 : Int) < (pa.length : Int)
              · go_wp2_with (go_at_call 16; refine (HFIN.out _ (Below.refl _ _)).mono ?_; rintro e w9 ⟨rfl, b9⟩)
                go_ret
                exact ⟨rfl, HBW2.out.trans (b9.mono HBW2.out.size)⟩
              · go_wp2_with (go_at_call 16; refine (HFIN.out _ (Below.refl _ _)).mono ?_; rintro e w9 ⟨rfl, b9⟩)
                go_ret
                exact ⟨rfl, HBW2.out.trans (b9.mono HBW2.out.size)⟩
end Go.Proofs.Ytlikikiglicdlaa
