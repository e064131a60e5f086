/-
  CoordBegins: the walk.
-/
import Derived.Test.YtgjjacljjlhnhaaCBegP
namespace Go.Proofs.Ytgjjacljjlhnhaa
open Go.RowKit

theorem KX.slc {w0 w : World} {k : Nat} {P : Sh} {s : Cd} {L : List (Value × List Ct)} (h : KX w0 w k P s L) {u : Value} {l : List Ct} (hp : (u, l) ∈ L) (h1 : 1 ≤ l.length) : ∃ g cap, u = .slice (some ⟨g, 0, none⟩) l.length cap := by
  obtain ⟨m, hm⟩ := get_of_lt h1
  obtain ⟨g, cap, e, _⟩ := h.read hp hm
  exact ⟨g, cap, e⟩
theorem KX.cell {w0 w : World} {k : Nat} {P : Sh} {s : Cd} {L : List (Value × List Ct)} (h : KX w0 w k P s L) {g n cap : Nat} {l : List Ct} (hp : (Value.slice (some ⟨g, 0, none⟩) n cap, l) ∈ L) {i : Nat} {m : Ct} (hi : l[i]? = some m) : w.cell? ⟨g, i * 4, none⟩ = some (.int .i64 m.kind) ∧ w.cell? ⟨g, i * 4 + 1, none⟩ = some (.int .u64 (m.ep : Int)) ∧ w.cell? ⟨g, i * 4 + 2, none⟩ = some (.int .u64 (m.n : Int)) ∧ w.cell? ⟨g, i * 4 + 3, none⟩ = some (.int .i64 m.task) := by
  obtain ⟨g', cap', e, h2⟩ := h.read hp hi
  cases e
  exact h2
theorem KX.shp {w0 w : World} {k : Nat} {P : Sh} {s : Cd} {L : List (Value × List Ct)} (h : KX w0 w k P s L) {u : Value} {l : List Ct} (hp : (u, l) ∈ L) : ∃ a c, u = .slice a l.length c := (h.r _ hp).shape
theorem bg_ep (n i : Nat) : (bgS n i).ep = 1 := by unfold bgS rdS; split <;> rfl
theorem b4_un (n F i : Nat) : (b4S n F i).un = 0 := rfl
theorem b4_du (n F i : Nat) : (b4S n F i).du = F := rfl
theorem b4_ep (n F i : Nat) : (b4S n F i).ep = 4 := rfl
theorem b4_ok {n F i : Nat} (h : F ≤ 1000) : (b4S n F i).ti < 999999999 ∧ (b4S n F i).be ≤ (b4S n F i).ti ∧ (b4S n F i).gr < 4611686018427387904 ∧ (b4S n F i).pa ≤ 1048576 := by unfold b4S; simp; omega
theorem b5_ok {n F : Nat} {d : List Int} (h : F ≤ 1000) : (b5S n F 1 d).ti < 999999999 ∧ (b5S n F 1 d).be ≤ (b5S n F 1 d).ti ∧ (b5S n F 1 d).gr < 4611686018427387904 ∧ (b5S n F 1 d).pa ≤ 1048576 := by unfold b5S; simp; omega
theorem rd_bg (n : Nat) : rdS n (bnd 1) (bnd 500) n = bgS n 0 := rfl
theorem tell_rl_len (k : Int) (e m n : Nat) : (tellL k e m (rl n)).length = n := by rw [tellL_len, rl_len]
set_option maxHeartbeats 4000000 in
set_option maxRecDepth 100000 in
theorem CoordBegins_walk (w : World) (n ticks : Int) (fr : Nat) :
    Calls Try.prog 4 #[.int .i64 n, .int .u64 (fr : Int), .int .i64 ticks] w fun e w' => e = .returned (.bool true) ∧ Below w.heap.size w w' := by
  obtain ⟨p1, p2⟩ := plc_in (i := n) (n := 6) (by omega)
  obtain ⟨m, hm⟩ : ∃ m : Nat, plc n 6 = (m : Int) := ⟨(plc n 6).toNat, by omega⟩
  obtain ⟨q1, q2⟩ := plc_in (i := ticks) (n := 6) (by omega)
  obtain ⟨q, hq⟩ : ∃ q : Nat, plc ticks 6 = (q : Int) := ⟨(plc ticks 6).toNat, by omega⟩
  have HM := hide hm
  have HQ := hide hq
  rw [hm] at p2
  rw [hq] at q2
  have hm6 : m < 6 := by omega
  have hq6 : q < 6 := by omega
  have HQ6 := hide hq6
  obtain ⟨N, hN⟩ : ∃ N : Nat, (N : Int) = 1 + (m : Int) := ⟨m + 1, by omega⟩
  have HN := hide hN
  have HN1 : Hid (1 ≤ N ∧ N ≤ 6) := hide (by omega)
  obtain ⟨F, hF⟩ : ∃ F : Nat, (F : Int) = 1 + (fr : Int) % 1000 := ⟨1 + fr % 1000, by omega⟩
  have HF := hide hF
  have HF1 : Hid (1 ≤ F ∧ F ≤ 1000) := hide (by omega)
  have hn6 : N ≤ 6 := HN1.out.2
  have hn1 : 1 ≤ N := HN1.out.1
  have hf1 : F ≤ 1000 := HF1.out.2
  clear p1 p2 q1 q2 hm hq hN hF
  go_enter Try.func4, Try.ntmps4
  go_wp2_with (first | (go_at_call 8; refine (known_any _).mono ?_; rintro e w1 ⟨rfl, b1⟩; have B1 := hide b1; clear b1) | (have chk := HM; clear chk; go_at_call 9; refine (hPlace_any _ _ (by omega) (by omega)).mono ?_; rintro e w2 ⟨rfl, rfl⟩; rw [HM.out]; clear HM) | (rw [← HN.out, ← HF.out]; go_at_call 19; refine (ready_any _ HN1.out.1 (by have := HN1.out.2; omega) 1 500).mono ?_; rintro e w3 ⟨k, P, rfl, k3⟩; rw [rd_bg] at k3; have A0 := hide (k3.rebase B1.out); clear k3) | (have chk := HQ; clear chk; go_at_call 9; refine (hPlace_any _ _ (by omega) (by omega)).mono ?_; rintro e w2 ⟨rfl, rfl⟩; rw [HQ.out]; clear HQ) | fail)
  go_loopg [8] (q + 1) (fun gh iv wr => ∃ j : Nat, iv = .int .i64 ((q : Int) - (j : Int)) ∧ j ≤ q ∧ q + 1 ≤ gh + j ∧ Hid (KX w wr k P (bgS N j) []))
  case atStart => exact ⟨0, by simp, by omega, by omega, A0⟩
  case round =>
    clear A0
    obtain ⟨j, rfl, hj, hg, HA⟩ := hrel
    obtain ⟨go, rfl⟩ : ∃ go, gk = go + 1 := ⟨gk - 1, by omega⟩
    by_cases hlt : j < q
    · have bt : (q : Int) - (j : Int) > 0 := by omega
      have HJ := hide hlt
      go_wp2_with (first | (go_at_call 15; refine (HA.out.tick (bg_ok (by have := HJ.out; have := HQ6.out; omega)) (bg_tick (by have := HJ.out; have := HQ6.out; omega)) rfl).mono ?_; rintro r w4 ⟨u4, rfl, k4⟩; have A4 := hide k4.drop; clear k4) | fail)
      go_roundg go
      case rel => exact ⟨j + 1, by go_num, by omega, by omega, A4⟩
      case measure => omega
    · obtain rfl : j = q := by omega
      have bt : ¬ ((j : Int) - (j : Int) > 0) := by omega
      have hn0 : ¬ ((N : Int) = 0) := by omega
      go_wp2_with (first
        | (have chk := HA; clear chk; go_at_call 14; refine (HA.out.begin 1 F F b4_old b4_oldO).mono ?_; rintro r w5 ⟨u5, rfl, k5⟩; obtain ⟨g5, c5, rfl⟩ := k5.shp (List.mem_cons_self ..); simp only [List.length_nil]; have A5 := hide k5.drop; clear k5 HA)
        | (have chk := A5; clear chk; go_at_call 20; refine (Epoch_any A5.out.x).mono ?_; rintro r w6 ⟨rfl, rfl⟩; rw [bg_ep])
        | (have chk := A5; clear chk; go_at_call 14; refine (A5.out.begin 4 F (F + 2) (b4_new HF1.out.1) (b4_newO HF1.out.1)).mono ?_; rintro r w6 ⟨u6, rfl, k6⟩; obtain ⟨g6, c6, hu6⟩ := k6.slc (List.mem_cons_self ..) (by rw [tell_rl_len]; exact HN1.out.1); rw [tell_rl_len] at hu6; subst hu6; have A6 := hide k6; clear k6 A5)
        | (have chk := A6; clear chk; go_at_call 17; refine (Under_any A6.out.x).mono ?_; rintro r w7 ⟨rfl, rfl⟩; rw [b4_un])
        | (have chk := A6; clear chk; go_at_call 21; refine (Durable_any A6.out.x).mono ?_; rintro r w7 ⟨rfl, rfl⟩; rw [b4_du])
        | (have chk := A6; clear chk; go_at_call 22; refine (A6.out.settled (b4_set HN1.out.1)).mono ?_; rintro r w7 ⟨rfl, k7⟩; have A7 := hide k7; clear k7 A6)
        | (have chk := A7; clear chk; go_at_call 20; refine (Epoch_any A7.out.x).mono ?_; rintro r w8 ⟨rfl, rfl⟩; rw [b4_ep])
        | fail)
      go_loopg [10] (N + 1) (fun gh iv wr => ∃ i : Nat, iv = .int .i64 (i : Int) ∧ i ≤ N ∧ N + 1 ≤ gh + i ∧ Hid (KX w wr k P (b4S N F i) [(.slice (some ⟨g6, 0, none⟩) N c6, tellL 5 4 F (rl N))]))
      case atStart => exact ⟨0, rfl, by omega, by omega, A7⟩
      case round =>
        clear A7
        obtain ⟨i, rfl, hi, hg2, HB⟩ := hrel
        obtain ⟨go2, rfl⟩ : ∃ go2, gk = go2 + 1 := ⟨gk - 1, by omega⟩
        by_cases hlt : i < N
        · have bi : (i : Int) < (N : Int) := by omega
          have HI := hide hlt
          obtain ⟨y0, y1, y2, y3⟩ := HB.out.cell (List.mem_cons_self ..) (tell_get (k := 5) (e := 4) (m := F) hlt)
          simp only at y0 y1 y2 y3
          go_wp2_with (first | (go_at_call 16; refine (HB.out.take ⟨6, 4, F, (i : Int)⟩ (show In64 (i : Int) by have := HN1.out.2; have := HI.out; unfold In64; omega) (b4_take HI.out) rfl).mono ?_; rintro r w9 ⟨rfl, k9⟩; have A9 := hide k9; clear k9) | fail)
          go_roundg go2
          case rel => exact ⟨i + 1, by go_num, by omega, by omega, A9⟩
          case measure => omega
        · obtain rfl : i = N := by omega
          have bi : ¬ ((i : Nat) : Int) < (i : Int) := by omega
          have bl : ¬ ((F : Int) + 3 ≤ (F : Int) + 2) := by omega
          go_wp2_with (first
            | (have chk := HB; clear chk; go_at_call 15; refine (HB.out.drop.tick (b4_ok HF1.out.2) b5_tick (b5_tickO HF1.out.1)).mono ?_; rintro r wa ⟨ua, rfl, ka⟩; obtain ⟨ga, ca, hua⟩ := ka.slc (List.mem_cons_self ..) (by simp); rw [List.length_cons, tell_rl_len] at hua; subst hua; have A10 := hide ka; clear ka HB; obtain ⟨x0, x1, x2, x3⟩ := A10.out.cell (List.mem_cons_self ..) (i := 0) rfl; obtain ⟨x4, x5, x6, x7⟩ := A10.out.cell (List.mem_cons_self ..) (i := 1) (tell_get (k := 1) (e := 4) (m := F + 3) (i := 0) HN1.out.1); simp only [Nat.zero_mul, Nat.zero_add, Nat.one_mul, Nat.reduceAdd] at x0 x1 x2 x3 x4 x5 x6 x7)
            | (have chk := A10; clear chk; go_at_call 16; refine (A10.out.take ⟨4, 4, F, 0⟩ (show In64 0 by unfold In64; omega) b5_take rfl).mono ?_; rintro r wb ⟨rfl, kb⟩; have A11 := hide kb; clear kb A10)
            | (have chk := A11; clear chk; go_at_call 15; refine (A11.out.tick (b5_ok HF1.out.2) b6_tick (b6_tickO HF1.out.1)).mono ?_; rintro r wc ⟨uc, rfl, kc⟩; obtain ⟨gc, cc, huc⟩ := kc.slc (List.mem_cons_self ..) (by rw [tell_rl_len]; exact HN1.out.1); rw [tell_rl_len] at huc; subst huc; have A12 := hide kc; clear kc A11)
            | fail)
          clear x0 x1 x2 x3 x4 x5 x6 x7
          obtain ⟨x4, x5, x6, x7⟩ := A12.out.cell (List.mem_cons_of_mem _ (List.mem_cons_self ..)) (i := 1) (tell_get (k := 1) (e := 4) (m := F + 3) (i := 0) HN1.out.1)
          obtain ⟨v0, v1, v2, v3⟩ := A12.out.cell (List.mem_cons_self ..) (i := 0) (tell_get (k := 1) (e := 4) (m := F + 3) (i := 0) HN1.out.1)
          simp only [Nat.zero_mul, Nat.zero_add, Nat.one_mul, Nat.reduceAdd] at x4 x5 x6 x7 v0 v1 v2 v3
          go_quiet (fail)
          go_wp2_with fail
          go_ret
          exact ⟨rfl, A12.out.b.trans (below_drewN (Below.refl _ _) _)⟩

end Go.Proofs.Ytgjjacljjlhnhaa
