/-
  The law WindowSpans, walked.
-/
import Derived.Test.YtlikikiglicdlaaWRSp
namespace Go.Proofs.Ytlikikiglicdlaa
open Go.RowKit

theorem bk_get {size slide s0 : Int} {c i : Nat} {x : Sp} (h : (bkS size slide s0 c).reverse[i]? = some x) : i < c ∧ x.f = s0 - ((c : Int) - 1 - (i : Int)) * slide ∧ x.t = x.f + size := by
  have hl := lt_of_get h
  rw [List.length_reverse, bkS_len] at hl
  rw [List.getElem?_reverse (by rw [bkS_len]; exact hl), bkS_len] at h
  simp only [bkS] at h
  rw [List.getElem?_map, List.getElem?_range (by omega)] at h
  simp only [Option.map_some, Option.some.injEq] at h
  subst h
  have e : ((c - 1 - i : Nat) : Int) = (c : Int) - 1 - (i : Int) := by omega
  refine ⟨hl, ?_, rfl⟩
  simp only
  rw [e]
theorem spans_in {k size slide t : Int} (hw : FitW k size slide) (ht : TimeOk t) {i : Nat} {x : Sp} (hx : (pSpans k size slide t)[i]? = some x) : x.f ≤ t ∧ t < x.f + size ∧ x.t = x.f + size := by
  have hs := fit_size hw
  have hk := hw.1
  have hk' := hw.2.1
  by_cases k1 : k = 1
  · subst k1
    rw [spans_one hw ht] at hx
    obtain ⟨s1, s2⟩ := since_in (t := t) hs.1
    have hi := lt_of_get hx
    simp at hi
    subst hi
    simp at hx
    subst hx
    show t - sinceOf size t ≤ t ∧ t < t - sinceOf size t + size ∧ t - sinceOf size t + size = t - sinceOf size t + size
    omega
  by_cases k3 : k = 3
  · subst k3
    rw [spans_three hw ht] at hx
    have hi := lt_of_get hx
    simp at hi
    subst hi
    simp at hx
    subst hx
    show t ≤ t ∧ t < t + size ∧ t + size = t + size
    omega
  obtain rfl : k = 2 := by omega
  rw [spans_two hw ht] at hx
  obtain ⟨h1, h2, h3⟩ := bk_get hx
  obtain ⟨_, _, _, _, ⟨_, l1, _, _⟩ | ⟨l1, _⟩⟩ := hw
  · obtain ⟨s1, s2⟩ := since_in (t := t) l1
    generalize sinceOf slide t = since at *
    have h4 := (cnt_iff (size := size) (since := since) l1 (cntOf size slide since - 1 - i)).1 (by omega)
    have e : ((cntOf size slide since - 1 - i : Nat) : Int) = (cntOf size slide since : Int) - 1 - (i : Int) := by omega
    rw [e] at h4
    have h5 : 0 ≤ ((cntOf size slide since : Int) - 1 - (i : Int)) * slide := Int.mul_nonneg (by omega) (by omega)
    generalize ((cntOf size slide since : Int) - 1 - (i : Int)) * slide = z at *
    omega
  · exact absurd rfl l1
theorem spans_step {k size slide t : Int} (hw : FitW k size slide) (ht : TimeOk t) {i : Nat} {x y : Sp} (hx : (pSpans k size slide t)[i]? = some x) (hy : (pSpans k size slide t)[i + 1]? = some y) : y.f - x.f = slide := by
  have hk := hw.1
  have hk' := hw.2.1
  by_cases k1 : k = 1
  · subst k1
    rw [spans_one hw ht] at hy
    have hi := lt_of_get hy
    simp at hi
  by_cases k3 : k = 3
  · subst k3
    rw [spans_three hw ht] at hy
    have hi := lt_of_get hy
    simp at hi
  obtain rfl : k = 2 := by omega
  rw [spans_two hw ht] at hx hy
  obtain ⟨_, h2, _⟩ := bk_get hx
  obtain ⟨_, h3, _⟩ := bk_get hy
  rw [h2, h3]
  generalize (cntOf size slide (sinceOf slide t) : Int) = c
  have e : (c - 1 - ((i + 1 : Nat) : Int)) * slide = (c - 1 - (i : Int)) * slide - slide := by
    rw [Int.natCast_succ, show c - 1 - ((i : Int) + 1) = (c - 1 - (i : Int)) - 1 by omega, Int.sub_mul, Int.one_mul]
  rw [e]
  omega
theorem spans_single {k size slide t : Int} (hw : FitW k size slide) (ht : TimeOk t) (h : ¬ k = 2) : (pSpans k size slide t).length = 1 := by
  have hk := hw.1
  have hk' := hw.2.1
  by_cases k1 : k = 1
  · subst k1; rw [spans_one hw ht]; rfl
  · obtain rfl : k = 3 := by omega
    rw [spans_three hw ht]; rfl
set_option maxHeartbeats 16000000 in
set_option maxRecDepth 100000 in
theorem WindowSpans_walk {w : World} {k size slide : Int} (hs : In64 size) (hsl : In64 slide) (t : Int) :
    Calls Try.prog 3 #[.agg #[.int .i64 k, .int .i64 size, .int .i64 slide], .int .i64 t] w fun e w' => e = .returned (.bool true) ∧ Below w.heap.size w w' := by
  have HB0 := hide (below_box w (.cells #[.int .i64 k, .int .i64 size, .int .i64 slide] 23))
  have HBX := hide (BoxT.new 23 w #[.int .i64 k, .int .i64 size, .int .i64 slide])
  have HK := hide (fun W => known_any W)
  by_cases hF : FitW k size slide
  case neg =>
    have HFT := hide (fit_no hF)
    go_enter Try.func3, Try.ntmps3
    go_wp2_with (first
      | (go_at_call 9; refine (HK.out _).mono ?_; rintro e w1 ⟨rfl, b1⟩; have HB1 := hide (HB0.out.trans (b1.mono HB0.out.size)); have HX1 := hide (BoxT.below (t := 23) HBX.out b1); obtain ⟨y0, y1, y2⟩ := HX1.out.cells3; clear b1)
      | (go_at_call 10; refine (HFT.out _).mono ?_; rintro e w2 ⟨rfl, b2⟩; have HB2 := hide (HB1.out.trans (b2.mono HB1.out.size)); have HBW := hide (BoxT.below (t := 23) HX1.out b2); obtain ⟨z0, z1, z2⟩ := HBW.out.cells3; clear b2 y0 y1 y2))
    go_ret
    exact ⟨rfl, HB2.out⟩
  have HFT := hide (fit_yes hF)
  by_cases hT : TimeOk t
  case neg =>
    have HT := hide (time_no hT)
    clear hF
    go_enter Try.func3, Try.ntmps3
    go_wp2_with (first
      | (go_at_call 9; refine (HK.out _).mono ?_; rintro e w1 ⟨rfl, b1⟩; have HB1 := hide (HB0.out.trans (b1.mono HB0.out.size)); have HX1 := hide (BoxT.below (t := 23) HBX.out b1); obtain ⟨y0, y1, y2⟩ := HX1.out.cells3; clear b1)
      | (go_at_call 10; refine (HFT.out _).mono ?_; rintro e w2 ⟨rfl, b2⟩; have HB2 := hide (HB1.out.trans (b2.mono HB1.out.size)); have HBW := hide (BoxT.below (t := 23) HX1.out b2); obtain ⟨z0, z1, z2⟩ := HBW.out.cells3; clear b2 y0 y1 y2)
      | (go_at_call 11; refine (HT.out _).mono ?_; rintro e w3 ⟨rfl, rfl⟩))
    go_ret
    exact ⟨rfl, HB2.out⟩
  have HT := hide (time_yes hT)
  have HSP := hide (fun W => Spans_any W k t hs hsl)
  have HRP := hide (fun W => rSpans_any W hF hT)
  have HIN := hide (fun i x h => spans_in hF hT (i := i) (x := x) h)
  have HST := hide (fun i x y h h' => spans_step hF hT (i := i) (x := x) (y := y) h h')
  have HSI := hide (fun h => spans_single hF hT h)
  have hlen := pSpans_len k size slide t
  have hfs := fit_size hF
  obtain ⟨hz1, hz2⟩ := hfs
  unfold TimeOk at hT
  obtain ⟨t1, t2⟩ := hT
  have hsl1 : 0 ≤ slide ∧ slide ≤ 68719476736 := by
    obtain ⟨_, _, _, _, ⟨_, l1, l2, _⟩ | ⟨_, l1⟩⟩ := hF
    · omega
    · omega
  obtain ⟨sl1, sl2⟩ := hsl1
  generalize pSpans k size slide t = sps at *
  clear hF hs hsl
  go_enter Try.func3, Try.ntmps3
  go_wp2_with (first
    | (go_at_call 9; refine (HK.out _).mono ?_; rintro e w1 ⟨rfl, b1⟩; have HB1 := hide (HB0.out.trans (b1.mono HB0.out.size)); have HX1 := hide (BoxT.below (t := 23) HBX.out b1); obtain ⟨y0, y1, y2⟩ := HX1.out.cells3; clear b1)
    | (go_at_call 10; refine (HFT.out _).mono ?_; rintro e w2 ⟨rfl, b2⟩; have HB2 := hide (HB1.out.trans (b2.mono HB1.out.size)); have HBW := hide (BoxT.below (t := 23) HX1.out b2); obtain ⟨z0, z1, z2⟩ := HBW.out.cells3; clear b2 y0 y1 y2)
    | (go_at_call 11; refine (HT.out _).mono ?_; rintro e w3 ⟨rfl, rfl⟩)
    | (go_at_call 12; refine (HSP.out _).mono ?_; rintro e w4 ⟨u4, rfl, o4, b4⟩; obtain ⟨sa, sc, rfl⟩ := o4.shape; have HB4 := hide (HB2.out.trans (b4.mono HB2.out.size)); have HX4 := hide (BoxT.below (t := 23) HBW.out b4); obtain ⟨x0, x1, x2⟩ := HX4.out.cells3; have O4 := hide o4; clear o4 b4)
    | (go_at_call 14; refine (HRP.out _).mono ?_; rintro e w5 ⟨u5, rfl, o5, b5⟩; have HB5 := hide (HB4.out.trans (b5.mono HB4.out.size)); have HX5 := hide (BoxT.below (t := 23) HX4.out b5); have O5 := hide (o5.seg Sp.cs_len (by omega)); have O45 := hide ((O4.out.below b5).seg Sp.cs_len (by omega)); clear o5 b5)
    | (go_at_call 13; refine (hSpans_any O45.out O5.out (by omega)).mono ?_; rintro e w6 ⟨rfl, b6⟩; have HB6 := hide (HB5.out.trans (b6.mono HB5.out.size)); have HX6 := hide (BoxT.below (t := 23) HX5.out b6); have O6 := hide (O45.out.on b6); clear b6))
  clear HK HFT HT HSP HRP HB0 HBX HB1 HX1 HB2 HBW HB4 HX4 O4 HB5 HX5 O5 O45
  go_loopg [6] (sps.length + 1) (fun gh iv wr => ∃ i : Nat, iv = .int .i64 (i : Int) ∧ i ≤ sps.length ∧ sps.length + 1 ≤ gh + i ∧ Hid (Below w6.heap.size w6 wr))
  case atStart => exact ⟨0, rfl, by omega, by omega, Below.refl _ _⟩
  case round =>
    obtain ⟨i, rfl, hi, hg, GB⟩ := hrel
    obtain ⟨go, rfl⟩ : ∃ go, gk = go + 1 := ⟨gk - 1, by omega⟩
    obtain ⟨x0, x1, x2⟩ := (BoxT.below (t := 23) HX6.out GB.out).cells3
    by_cases hlt : i < sps.length
    · obtain ⟨x, hx⟩ := get_of_lt hlt
      have bt : (i : Int) < (sps.length : Int) := by omega
      obtain ⟨xb, xo, rfl, _, e0, e1⟩ := (O6.out.below GB.out).span hx
      obtain ⟨g1, g2, g3⟩ := HIN.out i x hx
      have hd1 : decide (t < x.f) = false := decide_eq_false (by omega)
      have hd2 : decide (x.t ≤ t) = false := decide_eq_false (by omega)
      have hd3 : wrap64 (x.t - x.f) = size := by unfold wrap64; omega
      have hd4 : x.t - x.f = size := by omega
      by_cases h0 : i = 0
      · subst h0
        obtain ⟨xf, xt⟩ := x
        simp only [Nat.zero_mul, Nat.add_zero] at e0 e1
        simp only at hd1 hd2 hd3 hd4 e0 e1
        clear hx g1 g2 g3
        have hd5 : decide ((0 : Int) < ((0 : Nat) : Int)) = false := by simp
        go_wp2_with fail
        go_quiet (fail)
        go_wp2_with fail
        go_roundg go
        case rel => exact ⟨1, by go_num, by omega, by omega, hide (below_drewN GB.out _)⟩
        case measure => omega
      · obtain ⟨q, rfl⟩ : ∃ q, i = q + 1 := ⟨i - 1, by omega⟩
        obtain ⟨y, hy⟩ := get_of_lt (show q < sps.length by omega)
        obtain ⟨_, _, ey, _, f0, f1⟩ := (O6.out.below GB.out).span hy
        cases ey
        have g5 := HST.out q y x hy hx
        have hd6 : wrap64 (x.f - y.f) = slide := by unfold wrap64; omega
        obtain ⟨xf, xt⟩ := x
        obtain ⟨yf, yt⟩ := y
        simp only at hd1 hd2 hd3 hd4 hd6 e0 e1 f0 f1 g5
        clear hx hy g1 g2 g3
        have bq : (q : Int) < (sps.length : Int) := by omega
        have hd5 : (0 : Int) < (q : Int) + 1 := by omega
        go_wp2_with fail
        go_quiet (fail)
        go_wp2_with fail
        go_roundg go
        case rel => exact ⟨q + 1 + 1, by go_num, by omega, by omega, hide (below_drewN GB.out _)⟩
        case measure => omega
    · have bt : ¬ (i : Int) < (sps.length : Int) := by omega
      by_cases h2 : k = 2
      · subst h2
        go_wp2_with fail
        go_ret
        exact ⟨rfl, HB6.out.trans (GB.out.mono HB6.out.size)⟩
      · have hkb : (k == 2) = false := by simp [h2]
        have hs1 := HSI.out h2
        have hsb : ((sps.length : Int) == 1) = true := by rw [hs1]; rfl
        have hsb2 : (sps.length == 1) = true := by rw [hs1]; rfl
        go_wp2_with fail
        go_ret
        exact ⟨by simp, HB6.out.trans (GB.out.mono HB6.out.size)⟩
end Go.Proofs.Ytlikikiglicdlaa
