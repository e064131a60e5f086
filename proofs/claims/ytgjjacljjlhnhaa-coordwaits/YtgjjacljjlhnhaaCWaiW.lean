/-
  CoordWaits: the walk.
-/
import Derived.Test.YtgjjacljjlhnhaaCWaiP
namespace Go.Proofs.Ytgjjacljjlhnhaa
open Go.RowKit

/-- What stands at the head of a turn of the first inner loop, i ticks done. -/
structure wB (I un gr ti be : Nat) (AK : List Int) (k i : Nat) : Prop where
  b : be ≤ ti
  t : ti ≤ 200 * k + i
  ii : i ≤ I
  c : (un = 0 ∧ ti < be + I ∧ i + be ≤ ti ∧ gr ≤ 2 * k + 1) ∨ (un = gr ∧ 1 ≤ gr ∧ be = ti ∧ AK = [] ∧ gr ≤ 2 * k + 2)
theorem wH.start {I un gr ti be : Nat} {AK : List Int} {k : Nat} (h : wH I un gr ti be AK k) : wB I un gr ti be AK k 0 := by
  obtain ⟨h1, h2, h3, h4⟩ := h
  refine ⟨h1, by omega, by omega, ?_⟩
  rcases h4 with ⟨a, b⟩ | ⟨a, b, c, d⟩
  · exact .inl ⟨a, b, by omega, h2⟩
  · exact .inr ⟨a, b, c, d, by omega⟩
/-- Of the loop in which it is given up. -/
def wG (N I T W U be : Nat) (AK : List Int) (k i : Nat) (s : Cd) : Prop :=
  (i ≤ W ∧ s = wS N I T W U U (be + (i - 1)) be AK false) ∨ (i = W + 1 ∧ ∃ un gr ti be' AK', s = wS N I T (2 * W) un gr ti be' AK' false ∧ un ≠ U ∧ wH I un gr ti be' AK' (k + 1))
theorem rl_zero : (rl 0).reverse = [] := rfl
theorem wG.tick {N I T W U be : Nat} {AK : List Int} {k i : Nat} (hi : 1 ≤ i) (h : i ≤ W) (hU : 1 ≤ U) (hU2 : U ≤ 2 * k + 2) (hW : W ≤ 144) (hI : I ≤ 5) (hb : be ≤ 200 * k + I) : wG N I T W U be AK k (i + 1) (cTickS (wS N I T W U U (be + (i - 1)) be AK false)) := by
  by_cases h2 : i < W
  · rw [w_stay (by omega) (by omega)]
    refine .inl ⟨by omega, ?_⟩
    have e : be + (i - 1) + 1 = be + (i + 1 - 1) := by omega
    rw [e]
  · obtain rfl : i = W := by omega
    rw [w_give (by omega) (by omega) (by omega)]
    refine .inr ⟨rfl, ?_⟩
    split
    · exact ⟨_, _, _, _, _, rfl, by omega, ⟨Nat.le_refl _, by omega, by omega, .inr ⟨rfl, by omega, rfl, rfl⟩⟩⟩
    · exact ⟨_, _, _, _, _, rfl, by omega, ⟨by omega, by omega, by omega, .inl ⟨rfl, by omega⟩⟩⟩
set_option maxHeartbeats 4000000 in
set_option maxRecDepth 100000 in
theorem CoordWaits_walk (w : World) (n iv to_ fails : Int) :
    Calls Try.prog 7 #[.int .i64 n, .int .i64 iv, .int .i64 to_, .int .i64 fails] w fun e w' => e = .returned (.bool true) ∧ Below w.heap.size w w' := by
  obtain ⟨p1, p2⟩ := plc_in (i := n) (n := 5) (by omega)
  obtain ⟨m1, hm1⟩ : ∃ m : Nat, plc n 5 = (m : Int) := ⟨(plc n 5).toNat, by omega⟩
  obtain ⟨p3, p4⟩ := plc_in (i := iv) (n := 5) (by omega)
  obtain ⟨m2, hm2⟩ : ∃ m : Nat, plc iv 5 = (m : Int) := ⟨(plc iv 5).toNat, by omega⟩
  obtain ⟨p5, p6⟩ := plc_in (i := to_) (n := 9) (by omega)
  obtain ⟨m3, hm3⟩ : ∃ m : Nat, plc to_ 9 = (m : Int) := ⟨(plc to_ 9).toNat, by omega⟩
  obtain ⟨p7, p8⟩ := plc_in (i := fails) (n := 5) (by omega)
  obtain ⟨FA, hm4⟩ : ∃ m : Nat, plc fails 5 = (m : Int) := ⟨(plc fails 5).toNat, by omega⟩
  have HM1 := hide hm1
  have HM2 := hide hm2
  have HM3 := hide hm3
  have HM4 := hide hm4
  rw [hm1] at p2
  rw [hm2] at p4
  rw [hm3] at p6
  rw [hm4] at p8
  obtain ⟨N, hN⟩ : ∃ N : Nat, (N : Int) = 2 + (m1 : Int) := ⟨2 + m1, by omega⟩
  obtain ⟨I, hI⟩ : ∃ I : Nat, (I : Int) = 1 + (m2 : Int) := ⟨1 + m2, by omega⟩
  obtain ⟨T, hT⟩ : ∃ T : Nat, (T : Int) = 1 + (m3 : Int) := ⟨1 + m3, by omega⟩
  have HN := hide hN
  have HI := hide hI
  have HT := hide hT
  have HQ : Hid (2 ≤ N ∧ N ≤ 6 ∧ 1 ≤ I ∧ I ≤ 5 ∧ 1 ≤ T ∧ T ≤ 9 ∧ FA ≤ 4) := hide (by omega)
  have hn6 : N ≤ 6 := HQ.out.2.1
  have hn2 : 2 ≤ N := HQ.out.1
  have hi5 : I ≤ 5 := HQ.out.2.2.2.1
  have ht9 : T ≤ 9 := HQ.out.2.2.2.2.2.1
  have hf4 : FA ≤ 4 := HQ.out.2.2.2.2.2.2
  clear p1 p3 p5 p7 hm1 hm2 hm3 hm4 hN hI hT
  go_enter Try.func7, Try.ntmps7
  go_wp2_with (first | (go_at_call 8; refine (known_any _).mono ?_; rintro e w1 ⟨rfl, b1⟩; have B1 := hide b1; clear b1) | (have chk := HM1; clear chk; go_at_call 9; refine (hPlace_any _ _ (by omega) (by omega)).mono ?_; rintro e w2 ⟨rfl, rfl⟩; rw [HM1.out]; clear HM1) | (have chk := HM2; clear chk; go_at_call 9; refine (hPlace_any _ _ (by omega) (by omega)).mono ?_; rintro e w2 ⟨rfl, rfl⟩; rw [HM2.out]; clear HM2) | (have chk := HM3; clear chk; go_at_call 9; refine (hPlace_any _ _ (by omega) (by omega)).mono ?_; rintro e w2 ⟨rfl, rfl⟩; rw [HM3.out]; clear HM3) | (have chk := HM4; clear chk; go_at_call 9; refine (hPlace_any _ _ (by omega) (by omega)).mono ?_; rintro e w2 ⟨rfl, rfl⟩; rw [HM4.out]; clear HM4) | (rw [← HN.out, ← HI.out, ← HT.out]; go_at_call 19; refine (ready_any _ (by have := HQ.out; omega) (by have := HQ.out; omega) (I : Int) (T : Int)).mono ?_; rintro e w3 ⟨k, P, rfl, k3⟩; rw [bnd_id (by have := HQ.out; omega) (by have := HQ.out; omega), bnd_id (by have := HQ.out; omega) (by have := HQ.out; omega)] at k3; have A0 : Hid (KX w w3 k P (wS N I T T 0 0 0 0 [] false) []) := hide (k3.rebase B1.out); clear k3) | fail)
  clear p2 p4 p6 p8
  go_loopg [10, 11, 12, 13, 14, 15, 16, 17, 18] (FA + 2) (fun gh wv kv iv uv x1 x2 x3 x4 x5 wr => ∃ (W kk un gr ti be : Nat) (AK : List Int), wv = .int .i64 (W : Int) ∧ kv = .int .i64 (kk : Int) ∧ kk ≤ FA ∧ FA + 2 ≤ gh + kk ∧ Hid (W = T * 2 ^ kk) ∧ Hid (wH I un gr ti be AK kk) ∧ Hid (KX w wr k P (wS N I T W un gr ti be AK false) []))
  case atStart => exact ⟨T, 0, 0, 0, 0, 0, [], rfl, rfl, by omega, by omega, (show _ = _ by simp), (show wH _ _ _ _ _ _ _ from ⟨Nat.le_refl _, by omega, by omega, .inl ⟨rfl, by have := HQ.out; omega⟩⟩), A0⟩
  case round =>
    clear A0
    obtain ⟨W, kk, un, gr, ti, be, AK, rfl, rfl, hk, hg, HW, HH, HA⟩ := hrel
    obtain ⟨go, rfl⟩ : ∃ go, gk = go + 1 := ⟨gk - 1, by omega⟩
    have bk : (kk : Int) ≤ (FA : Int) := by omega
    have hp2 : 2 ^ kk ≤ 2 ^ 4 := Nat.pow_le_pow_right (by decide) (by omega)
    have hw144 : W ≤ 144 := by
      have h1 := HW.out
      have h2 : T * 2 ^ kk ≤ 9 * 2 ^ 4 := Nat.mul_le_mul (by omega) hp2
      omega
    have hw1 : 1 ≤ W := by
      have h1 := HW.out
      have h2 : 0 < T * 2 ^ kk := Nat.mul_pos (by have := HQ.out; omega) (Nat.pow_pos (by decide))
      omega
    have HW2 : Hid (W ≤ 144 ∧ 1 ≤ W) := hide ⟨hw144, hw1⟩
    clear hp2
    go_wp2_with fail
    go_loopg [12] (I + 2) (fun gh iv wr => ∃ (i un gr ti be : Nat) (AK : List Int), iv = .int .i64 (i : Int) ∧ I + 2 ≤ gh + i ∧ Hid (wB I un gr ti be AK kk i) ∧ Hid (KX w wr k P (wS N I T W un gr ti be AK false) []))
    case atStart => exact ⟨0, un, gr, ti, be, AK, rfl, by omega, HH.out.start, HA⟩
    case round =>
      clear HA HH
      obtain ⟨i, un, gr, ti, be, AK, rfl, hg2, HB, HA⟩ := hrel
      obtain ⟨go2, rfl⟩ : ∃ go2, gk = go2 + 1 := ⟨gk - 1, by have := HB.out.ii; omega⟩
      by_cases hu : un = 0
      · subst hu
        have hc : ti < be + I ∧ i + be ≤ ti ∧ gr ≤ 2 * kk + 1 := by
          rcases HB.out.c with h | h
          · exact h.2
          · have h1 := h.1; have h2 := h.2.1; omega
        have bi : ¬ ((i : Int) > (I : Int)) := by omega
        have hbt := HB.out.b
        have htt := HB.out.t
        have HOK : Hid (ti ≤ 100000 ∧ be ≤ ti ∧ gr ≤ 100000 ∧ W ≤ 1000) := hide (by omega)
        by_cases hn : be + I ≤ ti + 1
        · have HNX : Hid (wB I (gr + 1) (gr + 1) (ti + 1) (ti + 1) [] kk (i + 1)) := hide ⟨Nat.le_refl _, by omega, by omega, .inr ⟨rfl, by omega, rfl, rfl, by omega⟩⟩
          have HNN := hide hn
          have hi2 : i ≤ 5 := by omega
          clear hc hbt htt hn
          go_wp2_with (first | (go_at_call 17; refine (Under_any HA.out.x).mono ?_; rintro r w5 ⟨rfl, rfl⟩; rw [show (wS N I T W 0 gr ti be AK false).un = 0 from rfl]) | (go_at_call 15; refine (HA.out.tick (w_ok HOK.out.1 HOK.out.2.1 HOK.out.2.2.1 HOK.out.2.2.2) (w_next HNN.out) rfl).mono ?_; rintro r w6 ⟨u6, rfl, k6⟩; have A6 := hide k6.drop; clear k6) | fail)
          go_roundg go2
          case rel => exact ⟨i + 1, _, _, _, _, _, by go_num, by omega, HNX, A6⟩
          case measure => omega
        · have HNX : Hid (wB I 0 gr (ti + 1) be AK kk (i + 1)) := hide ⟨by omega, by omega, by omega, .inl ⟨rfl, by omega, by omega, by omega⟩⟩
          have HNN : Hid (ti + 1 < be + I) := hide (by omega)
          have hi2 : i ≤ 5 := by omega
          clear hc hbt htt hn
          go_wp2_with (first | (go_at_call 17; refine (Under_any HA.out.x).mono ?_; rintro r w5 ⟨rfl, rfl⟩; rw [show (wS N I T W 0 gr ti be AK false).un = 0 from rfl]) | (go_at_call 15; refine (HA.out.tick (w_ok HOK.out.1 HOK.out.2.1 HOK.out.2.2.1 HOK.out.2.2.2) (w_wait HNN.out) rfl).mono ?_; rintro r w6 ⟨u6, rfl, k6⟩; have A6 := hide k6.drop; clear k6) | fail)
          go_roundg go2
          case rel => exact ⟨i + 1, _, _, _, _, _, by go_num, by omega, HNX, A6⟩
          case measure => omega
      · have hc : un = gr ∧ 1 ≤ gr ∧ be = ti ∧ AK = [] ∧ gr ≤ 2 * kk + 2 := by
          rcases HB.out.c with h | h
          · exact absurd h.1 hu
          · exact h
        obtain ⟨rfl, hg1, rfl, rfl, hg3⟩ := hc
        have htt := HB.out.t
        have hii := HB.out.ii
        have HU : Hid (1 ≤ un ∧ un ≤ 2 * kk + 2 ∧ be ≤ 200 * kk + I) := hide (by omega)
        have bu : ¬ ((un : Int) = 0) := by omega
        clear hu htt hii hg1 hg3 HB
        by_cases hkf : kk = FA
        · subst hkf
          go_wp2_with (first | (go_at_call 17; refine (Under_any HA.out.x).mono ?_; rintro r w5 ⟨rfl, rfl⟩; rw [show (wS N I T W un un be be [] false).un = un from rfl]) | (go_at_call 23; refine (Timeout_any HA.out.x).mono ?_; rintro r w5 ⟨rfl, rfl⟩; rw [show (wS N I T W un un be be [] false).pa = W from rfl]) | fail)
          have A1 : Hid (KX w wr k P (wS N I T W un un be be (rl 0).reverse (decide (0 = N))) []) := hide (by
            have e : decide (0 = N) = false := by simp; have := HQ.out; omega
            rw [e]; exact HA.out)
          go_loopg [14] (N + 1) (fun gh jv wr => ∃ j : Nat, jv = .int .i64 (j : Int) ∧ j ≤ N ∧ N + 1 ≤ gh + j ∧ Hid (KX w wr k P (wS N I T W un un be be (rl j).reverse (decide (j = N))) []))
          case atStart => exact ⟨0, rfl, by omega, by omega, A1⟩
          case round =>
            clear A1 HA
            obtain ⟨j, rfl, hj, hg3, HA⟩ := hrel
            obtain ⟨go3, rfl⟩ : ∃ go3, gk = go3 + 1 := ⟨gk - 1, by omega⟩
            by_cases hjl : j < N
            · have bj : (j : Int) < (N : Int) := by omega
              have HJ := hide hjl
              go_wp2_with (first | (go_at_call 16; refine (HA.out.take ⟨2, 1, un, (j : Int)⟩ (show In64 (j : Int) by have := HQ.out; have := HJ.out; unfold In64; omega) (w_take HU.out.1 HJ.out) rfl).mono ?_; rintro r w7 ⟨rfl, k7⟩; have A7 := hide k7; clear k7) | fail)
              go_roundg go3
              case rel => exact ⟨j + 1, by go_num, by omega, by omega, A7⟩
              case measure => omega
            · obtain rfl : j = N := by omega
              have bj : ¬ ((j : Nat) : Int) < (j : Int) := by omega
              have A2 : Hid (KX w wr k P (wS j I T W un un be be (rl j).reverse true) []) := hide (by
                have := HA.out
                rw [show decide (j = j) = true by simp] at this
                exact this)
              clear HA
              go_wp2_with (first | (have chk := A2; clear chk; go_at_call 18; refine (A2.out.stored un true w_sto rfl).mono ?_; rintro r w8 ⟨u8, rfl, k8⟩; have A3 := hide k8.drop; clear k8 A2) | (go_at_call 23; refine (Timeout_any A3.out.x).mono ?_; rintro r w9 ⟨rfl, rfl⟩; rw [show (wD j I T un un be be (rl j).reverse).pa = T from rfl]) | (go_at_call 21; refine (Durable_any A3.out.x).mono ?_; rintro r w9 ⟨rfl, rfl⟩; rw [show (wD j I T un un be be (rl j).reverse).du = un from rfl]) | (go_at_call 17; refine (Under_any A3.out.x).mono ?_; rintro r w9 ⟨rfl, rfl⟩; rw [show (wD j I T un un be be (rl j).reverse).un = 0 from rfl]) | fail)
              go_ret
              exact ⟨rfl, A3.out.b⟩
        · have bf : ((kk : Int) == (FA : Int)) = false := by simp; omega
          have hkf2 : kk < FA := by omega
          go_wp2_with (first | (go_at_call 17; refine (Under_any HA.out.x).mono ?_; rintro r w5 ⟨rfl, rfl⟩; rw [show (wS N I T W un un be be [] false).un = un from rfl]) | (go_at_call 23; refine (Timeout_any HA.out.x).mono ?_; rintro r w5 ⟨rfl, rfl⟩; rw [show (wS N I T W un un be be [] false).pa = W from rfl]) | fail)
          have A1 : Hid (KX w wr k P (wS N I T W un un be be (rl 0).reverse (decide (0 = N))) []) := hide (by
            have e : decide (0 = N) = false := by simp; have := HQ.out; omega
            rw [e]; exact HA.out)
          go_loopg [15] (N + 1) (fun gh jv wr => ∃ j : Nat, jv = .int .i64 (j : Int) ∧ j + 1 ≤ N ∧ N + 1 ≤ gh + j ∧ Hid (KX w wr k P (wS N I T W un un be be (rl j).reverse (decide (j = N))) []))
          case atStart => exact ⟨0, rfl, by omega, by omega, A1⟩
          case round =>
            clear A1 HA
            obtain ⟨j, rfl, hj, hg3, HA⟩ := hrel
            obtain ⟨go3, rfl⟩ : ∃ go3, gk = go3 + 1 := ⟨gk - 1, by omega⟩
            by_cases hjl : j + 1 < N
            · have bj : (j : Int) < (N : Int) - 1 := by omega
              have HJ : Hid (j < N) := hide (by omega)
              go_wp2_with (first | (go_at_call 16; refine (HA.out.take ⟨2, 1, un, (j : Int)⟩ (show In64 (j : Int) by have := HQ.out; have := HJ.out; unfold In64; omega) (w_take HU.out.1 HJ.out) rfl).mono ?_; rintro r w7 ⟨rfl, k7⟩; have A7 := hide k7; clear k7) | fail)
              go_roundg go3
              case rel => exact ⟨j + 1, by go_num, by omega, by omega, A7⟩
              case measure => omega
            · have bj : ¬ ((j : Int) < (N : Int) - 1) := by omega
              have A2 : Hid (KX w wr k P (wS N I T W un un be be (rl j).reverse false) []) := hide (by
                have := HA.out
                rw [show decide (j = N) = false by simp; omega] at this
                exact this)
              clear HA
              generalize (rl j).reverse = AKJ at *
              go_wp2_with fail
              go_loopg [16] (W + 2) (fun gh iv wr => ∃ (i : Nat) (s : Cd), iv = .int .i64 (i : Int) ∧ 1 ≤ i ∧ i ≤ W + 1 ∧ W + 2 ≤ gh + i ∧ Hid (wG N I T W un be AKJ kk i s) ∧ Hid (KX w wr k P s []))
              case atStart => exact ⟨1, _, rfl, by omega, by omega, by omega, (show wG _ _ _ _ _ _ _ _ _ _ from .inl ⟨by omega, rfl⟩), A2⟩
              case round =>
                clear A2
                obtain ⟨i, s, rfl, hi1, hi2, hg4, HG, HA⟩ := hrel
                obtain ⟨go4, rfl⟩ : ∃ go4, gk = go4 + 1 := ⟨gk - 1, by omega⟩
                by_cases hiw : i ≤ W
                · have hs : s = wS N I T W un un (be + (i - 1)) be AKJ false := by
                    rcases HG.out with h | h
                    · exact h.2
                    · have := h.1; omega
                  subst hs
                  have bw : (i : Int) ≤ (W : Int) := by omega
                  have HNX := hide (wG.tick (N := N) (T := T) (AK := AKJ) hi1 hiw HU.out.1 HU.out.2.1 HW2.out.1 HQ.out.2.2.2.1 HU.out.2.2)
                  have HOK : Hid (be + (i - 1) ≤ 100000 ∧ be ≤ be + (i - 1) ∧ un ≤ 100000 ∧ W ≤ 1000) := hide (by have := HU.out; omega)
                  clear HG
                  go_wp2_with (first | (go_at_call 17; refine (Under_any HA.out.x).mono ?_; rintro r w5 ⟨rfl, rfl⟩; rw [show (wS N I T W un un (be + (i - 1)) be AKJ false).un = un from rfl]) | (go_at_call 15; refine (HA.out.tick (w_ok HOK.out.1 HOK.out.2.1 HOK.out.2.2.1 HOK.out.2.2.2) rfl rfl).mono ?_; rintro r w6 ⟨u6, rfl, k6⟩; have A6 := hide k6.drop; clear k6) | fail)
                  go_roundg go4
                  case rel => exact ⟨i + 1, _, by go_num, by omega, by omega, by omega, HNX, A6⟩
                  case measure => omega
                · obtain ⟨un', gr', ti', be', AK', hs, hne, hh⟩ : ∃ un' gr' ti' be' AK', s = wS N I T (2 * W) un' gr' ti' be' AK' false ∧ un' ≠ un ∧ wH I un' gr' ti' be' AK' (kk + 1) := by
                    rcases HG.out with h | h
                    · have := h.1; omega
                    · exact h.2
                  subst hs
                  have bw : ¬ ((i : Int) ≤ (W : Int)) := by omega
                  have bn : ¬ ((un' : Int) = (un : Int)) := by omega
                  have HNE := hide hne
                  have HHH := hide hh
                  clear hne hh HG
                  go_wp2_with (first | (go_at_call 17; refine (Under_any HA.out.x).mono ?_; rintro r w5 ⟨rfl, rfl⟩; rw [show (wS N I T (2 * W) un' gr' ti' be' AK' false).un = un' from rfl]) | (go_at_call 16; refine (HA.out.take ⟨2, 1, un, (N : Int) - 1⟩ (show In64 ((N : Int) - 1) by have := HQ.out; unfold In64; omega) (w_old HNE.out.symm).1 (w_old HNE.out.symm).2).mono ?_; rintro r w7 ⟨rfl, k7⟩; have A7 := hide k7; clear k7) | fail)
                  go_roundg go
                  case rel => exact ⟨2 * W, kk + 1, un', gr', ti', be', AK', by go_num, by go_num, by omega, by omega, (show _ = _ by rw [HW.out, Nat.pow_succ, Nat.mul_left_comm, Nat.mul_comm 2]), HHH, A7⟩
                  case measure => omega

end Go.Proofs.Ytgjjacljjlhnhaa
