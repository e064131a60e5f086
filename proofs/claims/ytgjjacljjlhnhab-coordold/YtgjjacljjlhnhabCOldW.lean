/-
  CoordOld: the walk.
-/
import Derived.Test.YtgjjacljjlhnhabCOldP
import Derived.Test.YtgjjacljjlhnhabCOpen
namespace Go.Proofs.Ytgjjacljjlhnhab
open Go.RowKit

section
variable {w0 w : World} {ka kb : Nat} {Pa Pb : Sh} {sa sb s' : Cd}
theorem Two.tickA (h : Two w0 w ka Pa sa kb Pb sb) (ht : sa.ti < 999999999 ∧ sa.be ≤ sa.ti ∧ sa.gr < 4611686018427387904 ∧ sa.pa ≤ 1048576) (hs : cTickS sa = s') :
    Calls Try.prog 7 #[.pointer (some ⟨ka, 0, none⟩)] w fun r w' => ∃ u, r = .returned u ∧ Two w0 w' ka Pa s' kb Pb sb ∧ OwnL 30 4 Ct.cs w.heap.size w' u (cTickO sa) := by
  subst hs
  refine (Tick_any h.xa ht.1 ht.2.1 ht.2.2.1 ht.2.2.2).mono ?_
  rintro r w' ⟨u, rfl, o1, c1⟩
  exact ⟨u, rfl, h.postA c1, o1⟩
theorem Two.tickB (h : Two w0 w ka Pa sa kb Pb sb) (ht : sb.ti < 999999999 ∧ sb.be ≤ sb.ti ∧ sb.gr < 4611686018427387904 ∧ sb.pa ≤ 1048576) (hs : cTickS sb = s') {b1 : Nat} {v : Value} {l : List Ct} (ho : OwnL 30 4 Ct.cs b1 w v l) :
    Calls Try.prog 7 #[.pointer (some ⟨kb, 0, none⟩)] w fun r w' => ∃ u, r = .returned u ∧ Two w0 w' ka Pa sa kb Pb s' ∧ OwnL 30 4 Ct.cs w.heap.size w' u (cTickO sb) ∧ OwnL 30 4 Ct.cs b1 w' v l := by
  subst hs
  refine (Tick_any h.xb ht.1 ht.2.1 ht.2.2.1 ht.2.2.2).mono ?_
  rintro r w' ⟨u, rfl, o1, c1⟩
  exact ⟨u, rfl, h.postB c1, o1, CP.row h.xb c1 (by decide) ho⟩
theorem Two.takeA (h : Two w0 w ka Pa sa kb Pb sb) (m : Ct) (ht : In64 m.task) (hs : cTakeS sa m = s') {n : Nat} (hn : cTakeN sa m = n) :
    Calls Try.prog 9 #[.pointer (some ⟨ka, 0, none⟩), .agg #[.int .i64 m.kind, .int .u64 (m.ep : Int), .int .u64 (m.n : Int), .int .i64 m.task]] w fun r w' => r = .returned (.tuple #[.int .u64 (n : Int), .slice none 0 0]) ∧ Two w0 w' ka Pa s' kb Pb sb := by
  subst hs hn
  refine (Take_any h.xa m ht).mono ?_
  rintro r w' ⟨rfl, c1⟩
  exact ⟨rfl, h.postA c1⟩
end
theorem LSeg.ctl {B : Nat} {w : World} {ao : Option Addr} {n cap : Nat} {xs : List Ct} (h : LSeg 4 Ct.cs B w (.slice ao n cap) xs) {i : Nat} {x : Ct} (hx : xs[i]? = some x) : ∃ b o, ao = some ⟨b, o, none⟩ ∧ b < B ∧ w.cell? ⟨b, o + i * 4, none⟩ = some (.int .i64 x.kind) ∧ w.cell? ⟨b, o + i * 4 + 1, none⟩ = some (.int .u64 (x.ep : Int)) ∧ w.cell? ⟨b, o + i * 4 + 2, none⟩ = some (.int .u64 (x.n : Int)) ∧ w.cell? ⟨b, o + i * 4 + 3, none⟩ = some (.int .i64 x.task) := by
  obtain ⟨b, o, e, hb, _, d⟩ := h.readAt hx
  exact ⟨b, o, e, hb, d 0 _ rfl, d 1 _ rfl, d 2 _ rfl, d 3 _ rfl⟩
set_option maxHeartbeats 4000000 in
set_option maxRecDepth 100000 in
theorem CoordOld_walk {w : World} {ao : Option Addr} {cap : Nat} {l : List Ct} (hl : LSeg 4 Ct.cs w.heap.size w (.slice ao l.length cap) l) (h64 : ∀ x ∈ l, In64 x.task) (n ticks : Int) :
    Calls Try.prog 3 #[.int .i64 n, .slice ao l.length cap, .int .i64 ticks] w fun e w' => e = .returned (.bool true) ∧ Below w.heap.size w w' := by
  obtain ⟨p1, p2⟩ := plc_in (i := n) (n := 5) (by omega)
  obtain ⟨m, hm⟩ : ∃ m : Nat, plc n 5 = (m : Int) := ⟨(plc n 5).toNat, by omega⟩
  obtain ⟨q1, q2⟩ := plc_in (i := ticks) (n := 9) (by omega)
  obtain ⟨q, hq⟩ : ∃ q : Nat, plc ticks 9 = (q : Int) := ⟨(plc ticks 9).toNat, by omega⟩
  have HM := hide hm
  have HQ := hide hq
  rw [hm] at p2
  rw [hq] at q2
  have hm5 : m < 5 := by omega
  have hq9 : q < 9 := by omega
  have HQ9 := hide hq9
  obtain ⟨N, hN⟩ : ∃ N : Nat, (N : Int) = 2 + (m : Int) := ⟨m + 2, by omega⟩
  have HN := hide hN
  have HN1 : Hid (2 ≤ N ∧ N ≤ 6) := hide (by omega)
  have hlen := hl.len
  have HL := hide hl
  have H64 := hide h64
  clear p1 p2 q1 q2 hm hq hN hl h64
  by_cases h200 : (l.length : Int) > 200
  · clear hlen
    go_enter Try.func3, Try.ntmps3
    go_wp2_with (first | (go_at_call 4; refine (known_any _).mono ?_; rintro e w1 ⟨rfl, b1⟩; have B1 := hide b1; clear b1) | (have chk := HM; clear chk; go_at_call 5; refine (hPlace_any _ _ (by omega) (by omega)).mono ?_; rintro e w2 ⟨rfl, rfl⟩; rw [HM.out]; clear HM) | fail)
    go_ret
    exact ⟨rfl, B1.out⟩
  go_enter Try.func3, Try.ntmps3
  go_wp2_with (first | (go_at_call 4; refine (known_any _).mono ?_; rintro e w1 ⟨rfl, b1⟩; have B1 := hide b1; clear b1) | (have chk := HM; clear chk; go_at_call 5; refine (hPlace_any _ _ (by omega) (by omega)).mono ?_; rintro e w2 ⟨rfl, rfl⟩; rw [HM.out]; clear HM) | (have chk := B1; clear chk; rw [← HN.out]; go_at_call 6; refine (ready_any _ (by have := HN1.out; omega) (by have := HN1.out; omega) 2 50).mono ?_; rintro e w3 ⟨ka, Pa, rfl, k3⟩; rw [t_start] at k3; have B2 := hide B1.out; have A0 := hide k3; clear k3 B1) | (have chk := A0; clear chk; go_at_call 6; refine (ready_any _ (by have := HN1.out; omega) (by have := HN1.out; omega) 2 50).mono ?_; rintro e w4 ⟨kb, Pb, rfl, k4⟩; rw [t_start] at k4; have A1 : Hid (Two w w4 ka Pa (tS N 0) kb Pb (tS N 0)) := hide ⟨A0.out.x.below k4.b, k4.x, B2.out.trans ((A0.out.b.trans (k4.b.mono A0.out.b.size)).mono B2.out.size), fun i hi => Nat.le_trans B2.out.size (A0.out.f i hi), fun i hi => Nat.le_trans B2.out.size (Nat.le_trans A0.out.b.size (k4.f i hi)), fun i h1 h2 => by have := A0.out.x.flt i h1; have := k4.f i h2; omega⟩; clear k4 A0) | (have chk := HQ; clear chk; go_at_call 5; refine (hPlace_any _ _ (by omega) (by omega)).mono ?_; rintro e w2 ⟨rfl, rfl⟩; rw [HQ.out]; clear HQ) | fail)
  have hl2 : l.length ≤ 200 := by omega
  go_loopg [9] (q + 2) (fun gh iv wr => ∃ j : Nat, iv = .int .i64 ((q : Int) - (j : Int)) ∧ j ≤ q + 1 ∧ q + 2 ≤ gh + j ∧ Hid (Two w wr ka Pa (tS N j) kb Pb (tS N j)))
  case atStart => exact ⟨0, by simp, by omega, by omega, A1⟩
  case round =>
    clear A1
    obtain ⟨j, rfl, hj, hg, HA⟩ := hrel
    obtain ⟨go, rfl⟩ : ∃ go, gk = go + 1 := ⟨gk - 1, by omega⟩
    by_cases hlt : j ≤ q
    · have bt : (q : Int) - (j : Int) ≥ 0 := by omega
      have HJ : Hid (j ≤ 40) := hide (by omega)
      go_wp2_with (first | (have chk := HA; clear chk; go_at_call 7; refine (HA.out.tickA (t_ok HJ.out) (t_tick HJ.out)).mono ?_; rintro r w5 ⟨u5, rfl, k5, o5⟩; have A5 := hide k5; have O5 := hide o5; clear k5 o5 HA) | (have chk := A5; clear chk; go_at_call 7; refine (A5.out.tickB (t_ok HJ.out) (t_tick HJ.out) O5.out).mono ?_; rintro r w6 ⟨u6, rfl, k6, -, -⟩; have A6 := hide k6; clear k6 A5) | fail)
      go_roundg go
      case rel => exact ⟨j + 1, by go_num, by omega, by omega, A6⟩
      case measure => omega
    · obtain rfl : j = q + 1 := by omega
      have bt : ¬ ((q : Int) - ((q + 1 : Nat) : Int) ≥ 0) := by omega
      obtain ⟨T, hT⟩ : ∃ T, T = q + 1 := ⟨_, rfl⟩
      rw [← hT] at HA bt hg
      (try rw [← hT])
      have HT : Hid (T ≤ 10) := hide (by omega)
      clear hT
      go_wp2_with fail
      go_loopg [10, 11, 12, 13] (l.length + 1) (fun gh iv xv sv ov wr => ∃ i : Nat, iv = .int .i64 (i : Int) ∧ i ≤ l.length ∧ l.length + 1 ≤ gh + i ∧ Hid (Two w wr ka Pa (tS N T) kb Pb (tS N T)))
      case atStart => exact ⟨0, rfl, by omega, by omega, HA⟩
      case round =>
        clear HA
        obtain ⟨i, rfl, hi, hg2, HA⟩ := hrel
        obtain ⟨go2, rfl⟩ : ∃ go2, gk = go2 + 1 := ⟨gk - 1, by omega⟩
        by_cases hlt : i < l.length
        · have bi : (i : Int) < (l.length : Int) := by omega
          obtain ⟨x, hx⟩ := get_of_lt hlt
          obtain ⟨nb, no, rfl, nlt, e0, e1, e2, e3⟩ := (HL.out.below HA.out.b).ctl hx
          have HX := hide (H64.out x (List.mem_of_getElem? hx))
          obtain ⟨mk, me, mn, mt⟩ := x
          simp only at e0 e1 e2 e3 HX
          clear hx nlt
          go_wp2_with fail
          obtain ⟨W, hW⟩ : ∃ W, W = wr.alloc (.cells #[.int .i64 mk, .int .u64 (me : Int), .int .u64 (mn : Int), .int .i64 mt] 30) := ⟨_, rfl⟩
          rw [← hW]
          have hbx : BoxT 30 W wr.heap.size #[.int .i64 mk, .int .u64 (me : Int), .int .u64 (mn : Int), .int .i64 mt] := by rw [hW]; exact BoxT.new _ _ _
          have hbw : Below wr.heap.size wr W := by rw [hW]; exact below_box wr _
          obtain ⟨y0, y1, y2, y3⟩ := hbx.cells4
          have yf := hbx.free
          have HTW := hide (HA.out.below hbw)
          have HTN : Hid (∀ n, Two w (W.drewN n) ka Pa (tS N T) kb Pb (tS N T)) := hide (fun n => HTW.out.below (below_drewN (Below.refl _ _) n))
          have HTS : Hid (∀ n, Two w ((W.drewN n).setCell ⟨wr.heap.size, 1, none⟩ (.int .u64 2)) ka Pa (tS N T) kb Pb (tS N T)) := hide (fun n => HA.out.below ((below_drewN hbw n).grown (grownBy_set _ _ 1 _) (below_drewN hbw n).size (fun g e => by cases e; exact Nat.le_refl _)))
          have HUC : Hid (∀ n, Calls Try.prog 8 #[.pointer (some ⟨ka, 0, none⟩)] (W.drewN n) fun e w' => e = .returned (.int .u64 ((tS N T).un : Int)) ∧ w' = W.drewN n) := hide (fun n => (Under_any (HTN.out n).xa).mono (fun e w' h => ⟨h.1, h.2.symm⟩))
          obtain ⟨U, hU⟩ : ∃ U, (tS N T).un = U := ⟨_, rfl⟩
          have HU := hide hU
          rw [hU] at HUC
          clear hW hbx hbw HA e0 e1 e2 e3 hU HTW
          by_cases c1 : me = 1
          · subst c1
            by_cases c2 : mt < 0
            · have b2 : ¬ (mt ≥ 0) := by omega
              go_quiet (fail)
              go_wp2_with (first | (go_at_call 9; refine ((HTN.out _).takeA ⟨mk, 1, mn, mt⟩ HX.out (t_old HN1.out.1 (.inr (.inl c2))).1 (t_old HN1.out.1 (.inr (.inl c2))).2).mono ?_; rintro r w7 ⟨rfl, k7⟩; have A7 := hide k7; clear k7) | fail)
              go_roundg go2
              case rel => exact ⟨i + 1, by go_num, by omega, by omega, A7⟩
              case measure => omega
            · have b2 : mt ≥ 0 := by omega
              by_cases c3 : (N : Int) ≤ mt
              · have b3 : ¬ (mt < (N : Int)) := by omega
                go_quiet (fail)
                go_wp2_with (first | (go_at_call 9; refine ((HTN.out _).takeA ⟨mk, 1, mn, mt⟩ HX.out (t_old HN1.out.1 (.inr (.inr (.inl c3)))).1 (t_old HN1.out.1 (.inr (.inr (.inl c3)))).2).mono ?_; rintro r w7 ⟨rfl, k7⟩; have A7 := hide k7; clear k7) | fail)
                go_roundg go2
                case rel => exact ⟨i + 1, by go_num, by omega, by omega, A7⟩
                case measure => omega
              · have b3 : mt < (N : Int) := by omega
                by_cases c4 : mk = 2
                · subst c4
                  by_cases c5 : mn = U
                  · subst c5
                    go_quiet (first | (go_at_call 8; exact Calls.quiet_of_same (HUC.out _)) | fail)
                    go_wp2_with (first | (go_at_call 9; refine ((HTS.out _).takeA ⟨2, 2, mn, mt⟩ HX.out (t_old HN1.out.1 (.inl (show (2 : Nat) ≠ 1 by decide))).1 (t_old HN1.out.1 (.inl (show (2 : Nat) ≠ 1 by decide))).2).mono ?_; rintro r w7 ⟨rfl, k7⟩; have A7 := hide k7; clear k7) | fail)
                    go_roundg go2
                    case rel => exact ⟨i + 1, by go_num, by omega, by omega, A7⟩
                    case measure => omega
                  · have b5 : ((mn : Int) == (U : Int)) = false := by simp; omega
                    go_quiet (first | (go_at_call 8; exact Calls.quiet_of_same (HUC.out _)) | fail)
                    go_wp2_with (first | (go_at_call 9; refine ((HTN.out _).takeA ⟨2, 1, mn, mt⟩ HX.out (t_old HN1.out.1 (.inr (.inr (.inr ⟨rfl, by rw [HU.out]; exact c5⟩)))).1 (t_old HN1.out.1 (.inr (.inr (.inr ⟨rfl, by rw [HU.out]; exact c5⟩)))).2).mono ?_; rintro r w7 ⟨rfl, k7⟩; have A7 := hide k7; clear k7) | fail)
                    go_roundg go2
                    case rel => exact ⟨i + 1, by go_num, by omega, by omega, A7⟩
                    case measure => omega
                · have b4 : (mk != 2) = true := by simp; exact c4
                  go_quiet (fail)
                  go_wp2_with (first | (go_at_call 9; refine ((HTS.out _).takeA ⟨mk, 2, mn, mt⟩ HX.out (t_old HN1.out.1 (.inl (show (2 : Nat) ≠ 1 by decide))).1 (t_old HN1.out.1 (.inl (show (2 : Nat) ≠ 1 by decide))).2).mono ?_; rintro r w7 ⟨rfl, k7⟩; have A7 := hide k7; clear k7) | fail)
                  go_roundg go2
                  case rel => exact ⟨i + 1, by go_num, by omega, by omega, A7⟩
                  case measure => omega
          · have b1 : ((me : Int) == 1) = false := by simp; omega
            go_quiet (fail)
            go_wp2_with (first | (go_at_call 9; refine ((HTN.out _).takeA ⟨mk, me, mn, mt⟩ HX.out (t_old HN1.out.1 (.inl c1)).1 (t_old HN1.out.1 (.inl c1)).2).mono ?_; rintro r w7 ⟨rfl, k7⟩; have A7 := hide k7; clear k7) | fail)
            go_roundg go2
            case rel => exact ⟨i + 1, by go_num, by omega, by omega, A7⟩
            case measure => omega
        · obtain rfl : i = l.length := by omega
          have bi : ¬ ((l.length : Nat) : Int) < (l.length : Int) := by omega
          have HB0 : Hid (Two w wr ka Pa (tS N (T + 0)) kb Pb (tS N (T + 0))) := HA
          clear HA
          go_wp2_with fail
          go_loopg [14] (6) (fun gh iv wr => ∃ i : Nat, iv = .int .i64 (i : Int) ∧ i ≤ 5 ∧ 6 ≤ gh + i ∧ Hid (Two w wr ka Pa (tS N (T + i)) kb Pb (tS N (T + i))))
          case atStart => exact ⟨0, rfl, by omega, by omega, HB0⟩
          case round =>
            clear HB0
            obtain ⟨i, rfl, hi, hg3, HA⟩ := hrel
            obtain ⟨go3, rfl⟩ : ∃ go3, gk = go3 + 1 := ⟨gk - 1, by omega⟩
            by_cases hlt : i < 5
            · have bi : (i : Int) < 5 := by omega
              have HJ : Hid (T + i ≤ 40) := hide (by have := HT.out; omega)
              go_wp2_with (first | (have chk := HA; clear chk; go_at_call 7; refine (HA.out.tickA (t_ok HJ.out) (t_tick HJ.out)).mono ?_; rintro r w5 ⟨u5, rfl, k5, o5⟩; have A5 := hide k5; have O5 := hide o5; clear k5 o5 HA) | (have chk := A5; clear chk; go_at_call 7; refine (A5.out.tickB (t_ok HJ.out) (t_tick HJ.out) O5.out).mono ?_; rintro r w6 ⟨u6, rfl, k6, o6, o7⟩; have A6 := hide k6; have O6 := hide o6; have O7 := hide o7; clear k6 o6 o7 A5 O5) | (go_at_call 10; refine (hControls_any O7.out O6.out (t_len HJ.out (by have := HN1.out; omega))).mono ?_; rintro r w8 ⟨rfl, b8⟩; have A8 := hide (A6.out.below b8); clear b8) | fail)
              go_roundg go3
              case rel => exact ⟨i + 1, by go_num, by omega, by omega, A8⟩
              case measure => omega
            · obtain rfl : i = 5 := by omega
              obtain ⟨U, hU⟩ : ∃ U, (tS N (T + 5)).un = U := ⟨_, rfl⟩
              obtain ⟨D, hD⟩ : ∃ D, (tS N (T + 5)).du = D := ⟨_, rfl⟩
              obtain ⟨Z, hZ⟩ : ∃ Z, cSet (tS N (T + 5)) = Z := ⟨_, rfl⟩
              have HU := hide hU
              have HD := hide hD
              have HZ := hide hZ
              clear hU hD hZ
              go_wp2_with (first | (go_at_call 8; refine (Under_any HA.out.xa).mono ?_; rintro r w9 ⟨rfl, rfl⟩; rw [HU.out]) | (go_at_call 8; refine (Under_any HA.out.xb).mono ?_; rintro r w9 ⟨rfl, rfl⟩; rw [HU.out]) | (have chk := HA; clear chk; go_at_call 11; refine (Settled_any HA.out.xa).mono ?_; rintro r w9 ⟨rfl, b9⟩; rw [HZ.out]; have A9 := hide (HA.out.below b9); clear b9 HA) | (have chk := A9; clear chk; go_at_call 11; refine (Settled_any A9.out.xb).mono ?_; rintro r wa ⟨rfl, b9⟩; rw [HZ.out]; have A10 := hide (A9.out.below b9); clear b9 A9) | (go_at_call 12; refine (Durable_any A10.out.xa).mono ?_; rintro r w9 ⟨rfl, rfl⟩; rw [HD.out]) | (go_at_call 12; refine (Durable_any A10.out.xb).mono ?_; rintro r w9 ⟨rfl, rfl⟩; rw [HD.out]) | fail)
              go_ret
              exact ⟨by simp, A10.out.b⟩

end Go.Proofs.Ytgjjacljjlhnhab
