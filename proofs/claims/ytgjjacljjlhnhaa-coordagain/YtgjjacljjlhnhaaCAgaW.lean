/-
  CoordAgain: the walk.
-/
import Derived.Test.YtgjjacljjlhnhaaCAgaX
namespace Go.Proofs.Ytgjjacljjlhnhaa
open Go.RowKit

theorem aR_ok {N : Nat} {rd : List Int} : (aR N rd).ti < 999999999 ∧ (aR N rd).be ≤ (aR N rd).ti ∧ (aR N rd).gr < 4611686018427387904 ∧ (aR N rd).pa ≤ 1048576 := ⟨by show 0 < 999999999; decide, Nat.le_refl _, by show 6 < 4611686018427387904; decide, by show 1000 ≤ 1048576; decide⟩
theorem aT_ok {N : Nat} {R ak : List Int} {ti : Nat} {st : Bool} (h : ti ≤ 100) (h1 : 1 ≤ ti) : (aT N R ti ak st).ti < 999999999 ∧ (aT N R ti ak st).be ≤ (aT N R ti ak st).ti ∧ (aT N R ti ak st).gr < 4611686018427387904 ∧ (aT N R ti ak st).pa ≤ 1048576 := ⟨by show ti < 999999999; omega, h1, by show 7 < 4611686018427387904; decide, by show 1000 ≤ 1048576; decide⟩
set_option maxHeartbeats 8000000 in
set_option maxRecDepth 100000 in
theorem CoordAgain_walk {w : World} {ao : Option Addr} {cap : Nat} {bs : List Nat} (hl : LSeg 1 u8cs w.heap.size w (.slice ao bs.length cap) bs) (h256 : ∀ x ∈ bs, x < 256) (n : Int) :
    Calls Try.prog 3 #[.int .i64 n, .slice ao bs.length cap] w fun e w' => e = .returned (.bool true) ∧ Below w.heap.size w w' := by
  obtain ⟨p1, p2⟩ := plc_in (i := n) (n := 8) (by omega)
  obtain ⟨m, hm⟩ : ∃ m : Nat, plc n 8 = (m : Int) := ⟨(plc n 8).toNat, by omega⟩
  have HM := hide hm
  rw [hm] at p2
  obtain ⟨N, hN⟩ : ∃ N : Nat, (N : Int) = 1 + (m : Int) := ⟨m + 1, by omega⟩
  have HN := hide hN
  have HQN : Hid (1 ≤ N ∧ N ≤ 8) := hide (by omega)
  have hn8 : N ≤ 8 := HQN.out.2
  have hn1 : 1 ≤ N := HQN.out.1
  have hmf : ∀ (fn : Fn) (first cap : Array Value) (w : World), (Instr.makeFunc fn first cap).run Try.prog w = .ok (.func fn first cap) w := by
    intro fn first cap w
    simp [Instr.makeFunc]
  have HL := hide hl
  have H256 := hide h256
  have hlen := hl.len
  have hbx : BoxT 22 (w.alloc (.cells #[.slice ao bs.length cap] 22)) w.heap.size #[.slice ao bs.length cap] := BoxT.new _ _ _
  have hbw := below_box w (.cells #[.slice ao bs.length cap] 22)
  obtain ⟨W1, hW1⟩ : ∃ W1, W1 = w.alloc (.cells #[.slice ao bs.length cap] 22) := ⟨_, rfl⟩
  rw [← hW1] at hbx hbw
  have y0 := hbx.cell0
  have HBX := hide hbx
  have HBW := hide hbw
  have HW1 := hide hW1
  clear p1 hm hN hl h256 hbx hbw hW1
  by_cases h60 : (bs.length : Int) > 60
  · clear hlen
    go_enter Try.func3, Try.ntmps3
    go_wp2_with (first | (rw [← HW1.out]; go_at_call 8; refine (known_any _).mono ?_; rintro e w1 ⟨rfl, b1⟩; have B1 := hide b1; clear b1; have y1 := (HBX.out.below B1.out).cell0) | (go_at_call 9; refine (hPlace_any _ _ (by omega) (by omega)).mono ?_; rintro e w2 ⟨rfl, rfl⟩; rw [HM.out]) | fail)
    go_ret
    exact ⟨rfl, HBW.out.trans (B1.out.mono HBW.out.size)⟩
  go_enter Try.func3, Try.ntmps3
  go_wp2_with (first | (rw [← HW1.out]; go_at_call 8; refine (known_any _).mono ?_; rintro e w1 ⟨rfl, b1⟩; have B1 := hide b1; clear b1; have y1 := (HBX.out.below B1.out).cell0) | (go_at_call 9; refine (hPlace_any _ _ (by omega) (by omega)).mono ?_; rintro e w2 ⟨rfl, rfl⟩; rw [HM.out]) | fail)
  rw [← HN.out]
  have hl60 : bs.length ≤ 60 := by omega
  have B1W := hide (HBW.out.trans (B1.out.mono HBW.out.size))
  have HBO := hide (HBX.out.below B1.out)
  clear HBX y0 y1 p2 HM HN
  go_loopg [5, 6] (N + 1) (fun gh uv iv wr => ∃ i : Nat, iv = .int .i64 (i : Int) ∧ i ≤ N ∧ N + 1 ≤ gh + i ∧ Hid (OwnL 3 1 i64cs w.heap.size wr uv (tl i)) ∧ Hid (Below w.heap.size w wr) ∧ Hid (BoxT 22 wr w.heap.size #[.slice ao bs.length cap]))
  case atStart => exact ⟨0, rfl, by omega, by omega, (show OwnL _ _ _ _ _ _ _ from OwnL.nil _ _ _ _ _), B1W, HBO⟩
  case round =>
    clear HBO
    obtain ⟨i, rfl, hi, hg, HO, HB, HBO⟩ := hrel
    obtain ⟨go, rfl⟩ : ∃ go, gk = go + 1 := ⟨gk - 1, by omega⟩
    by_cases hlt : i < N
    · have bt : (i : Int) < (N : Int) := by omega
      have HNW := hide (newI wr (10 + (i : Int)))
      have HLN : Hid ((tl i).length ≤ 1000000) := hide (by rw [tl_len]; omega)
      have HBS : Hid (∀ o, w.heap.size ≤ (wr.alloc o).heap.size) := hide (fun o => by have := HB.out.size; simp; omega)
      go_wp2_with (first | (at_builtin; refine app_L Try.infoI Try.underlying25 rfl (by decide) (by decide) i64cs_len i64cs_one rfl _ _ rfl w.heap.size _ _ rfl (HO.out.alloc _) _ _ (10 + (i : Int)) rfl HNW.out HLN.out (HBS.out _) ?_; intro v4 w4 h4 g4 k4; have H4 := hide h4; have B4 := hide (HB.out.trans ((below_box wr _).mono HB.out.size) |>.grown g4 (HBS.out _) (fun g e => HO.out.at g e)); have O4 := hide ((HBO.out.alloc (.cells #[.int .i64 (10 + (i : Int))] 3)).back (g4.block _ (HBO.out.alloc _).lt (fun e => by obtain ⟨cur, hc⟩ := (HO.out.alloc (.cells #[.int .i64 (10 + (i : Int))] 3)).has _ e.symm; exact BoxT.ne (t := 3) (t' := 22) hc (HBO.out.alloc _) (by decide) rfl))); clear h4 g4 k4) | fail)
      go_roundg go
      case rel => exact ⟨i + 1, by go_num, by omega, by omega, (show OwnL _ _ _ _ _ _ _ by rw [tl_succ]; exact H4.out), B4, O4⟩
      case measure => omega
    · obtain rfl : i = N := by omega
      have bt : ¬ ((i : Nat) : Int) < (i : Int) := by omega
      have HSG : Hid (LSeg 1 i64cs wr.heap.size wr u5 (tl i)) := hide (HO.out.seg i64cs_len (by rw [tl_len]; omega))
      go_wp2_with (first
        | (go_at_call 10; refine (KX.made HB.out HSG.out (Nat.le_refl _) HSG.out (Nat.le_refl _) (by rw [tl_len]; have := HQN.out.2; omega) (by rw [tl_len]; have := HQN.out.2; omega) (tl64 (by have := HQN.out.2; omega)) (tl64 (by have := HQN.out.2; omega)) 1 1000 rfl).mono ?_; rintro r w5 ⟨k, P, rfl, k5, b5, -⟩; have A0 := hide (AX.start k5 (HO.out.below b5) (HBO.out.below b5)); clear k5 b5)
        | (go_at_call 14; refine (A0.out.begin 3 0 6 a_beg a_begO).mono ?_; rintro r w6 ⟨u6, rfl, k6, o6⟩; have A1 := hide k6; have O6 := hide o6; clear k6 o6)
        | (have chk := A1; clear chk; go_at_call 12; refine (A1.out.told O6.out (by rw [tell_len2, tl_len]; have := HQN.out.2; omega) (by rw [tl_len]; have := HQN.out.2; omega) 5 0 (kof_same _ _ _ _)).mono ?_; rintro r w7 ⟨rfl, k7⟩; have A2 := hide k7; clear k7 A1)
        | fail)
      clear A0 O6 HSG
      generalize w5.heap.size = A at *
      have HL60 := hide hl60
      have A3 : Hid (AX w w7 k P (aR i []) u5 (tl i) A w.heap.size 0 (.slice ao bs.length cap) u5 (miss (tl i) [])) := hide (by rw [miss_nil2]; exact A2.out)
      clear A2
      go_loopg [12, 13] (i + 1) (fun gh lv kv wr => ∃ (rd : List Int) (at_ : Nat), rd.length + (miss (tl i) rd).length = i ∧ at_ ≤ bs.length ∧ i + 1 ≤ gh + rd.length ∧ Hid (AX w wr k P (aR i rd) u5 (tl i) A w.heap.size at_ (.slice ao bs.length cap) lv (miss (tl i) rd)))
      case atStart => exact ⟨[], 0, by rw [miss_nil2, tl_len]; simp, by omega, by simp, A3⟩
      case round =>
        clear A3
        obtain ⟨rd, at_, hlen2, hat, hg2, HA⟩ := hrel
        obtain ⟨go2, rfl⟩ : ∃ go2, gk = go2 + 1 := ⟨gk - 1, by omega⟩
        have HAT := hide hat
        by_cases hne : 0 < (miss (tl i) rd).length
        · obtain ⟨x0, hx0⟩ := get_of_lt hne
          obtain ⟨g0, c0, hsl, _⟩ := own_cell HA.out.l hx0
          subst hsl
          have bne : (((miss (tl i) rd).length : Nat) : Int) > 0 := by omega
          have HL1 : Hid (1 ≤ (miss (tl i) rd).length) := hide hne
          have HLT : Hid ((miss (tl i) rd).length ≤ i ∧ i ≤ 8 ∧ rd.length ≠ i) := hide (by omega)
          have hlt8 : (miss (tl i) rd).length ≤ 8 := by omega
          clear hx0 hne hat
          go_wp2_with (first
            | (have chk := HA; clear chk; go_at_call 15; refine (HA.out.tick aR_ok (aR_tick HLT.out.2.2).1 (aR_tick HLT.out.2.2).2).mono ?_; rintro r w8 ⟨u8, rfl, k8, o8⟩; have A8 := hide k8; have O8 := hide o8; clear k8 o8 HA)
            | (have chk := A8; clear chk; go_at_call 12; refine (A8.out.told O8.out (by rw [tell_len2]; have := HLT.out; omega) (by have := HLT.out; omega) 5 0 (kof_same _ _ _ _)).mono ?_; rintro r w8 ⟨rfl, k8⟩; have A8b := hide k8; clear k8 A8)
            | (have chk := A8b; clear chk; go_at_call 11; refine (A8b.out.nxt HL.out H256.out HL60.out HAT.out HL1.out (by have := HLT.out; omega)).mono ?_; rintro r w9 ⟨q, at', hq, ha', rfl, k9⟩; obtain ⟨xv, hxv⟩ := get_of_lt hq; obtain ⟨gq, cq, eq_, zq⟩ := own_cell k9.l hxv; cases eq_; have HXV := hide hxv; have HQ := hide hq; have HA9 := hide ha'; have A9 := hide k9; have bq : (q : Int) < (((miss (tl i) rd).length : Nat) : Int) := (by omega); clear hxv hq ha' k9 A8b)
            | (have chk := A9; clear chk; go_at_call 16; refine (A9.out.take ⟨6, 3, 0, xv⟩ (miss64 (tl64 (by have := HLT.out; omega)) xv (List.mem_of_getElem? HXV.out)) (aR_take HXV.out) rfl).mono ?_; rintro r wa ⟨rfl, ka⟩; have A10 := hide ka; clear ka A9)
            | (have chk := A10; clear chk; go_at_call 13; refine (A10.out.drp HQ.out (by have := HLT.out; omega)).mono ?_; rintro r wb ⟨ub, rfl, kb⟩; rw [← miss_cons (tl_nodup i) HXV.out] at kb; have A11 := hide kb; clear kb A10)
            | fail)
          have hml := cut_len HQ.out
          rw [← miss_cons (tl_nodup i) HXV.out] at hml
          go_roundg go2
          case rel => exact ⟨xv :: rd, at', by rw [List.length_cons]; omega, HA9.out, by rw [List.length_cons]; omega, A11⟩
          case measure => omega
        · obtain ⟨g0, c0, hsl⟩ := HA.out.l.shape
          subst hsl
          have hz : (miss (tl i) rd).length = 0 := by omega
          have hR : rd.length = i := by omega
          have HR := hide hR
          rw [hz]
          clear hne hz hlen2 hg2 hat
          go_wp2_with (first
            | (have chk := HA; clear chk; go_at_call 15; refine (HA.out.tick aR_ok (aR_full HR.out).1 (aR_full HR.out).2).mono ?_; rintro r w8 ⟨u8, rfl, k8, o8⟩; have A8 := hide k8.tasks; have O8 := hide o8; clear k8 o8 HA)
            | (have chk := A8; clear chk; go_at_call 12; refine (A8.out.told O8.out (by rw [tell_len2, tl_len]; have := HQN.out.2; omega) (by rw [tl_len]; have := HQN.out.2; omega) 1 7 (kof_same _ _ _ _)).mono ?_; rintro r w8 ⟨rfl, k8⟩; have A9 := hide k8; clear k8 A8)
            | (go_at_call 17; refine (Under_any A9.out.x).mono ?_; rintro r wc ⟨rfl, rfl⟩; rw [show (aT i rd 1 [] false).un = 7 from rfl])
            | fail)
          have A3 : Hid (AX w w8 k P (aT i rd 1 [] (decide (([] : List Int).length = i))) u5 (tl i) A w.heap.size at_ (.slice ao bs.length cap) u5 (miss (tl i) [])) := hide (by
            rw [miss_nil2, show decide (([] : List Int).length = i) = false by simp; have := HQN.out.1; omega]
            exact A9.out)
          clear A9 O8
          go_loopg [14, 15, 16, 17] (i + 1) (fun gh lv kv sv tv wr => ∃ (ak : List Int) (ti at_ : Nat), ak.length + (miss (tl i) ak).length = i ∧ at_ ≤ bs.length ∧ 1 ≤ ti ∧ ti ≤ 1 + ak.length ∧ i + 1 ≤ gh + ak.length ∧ Hid (AX w wr k P (aT i rd ti ak (decide (ak.length = i))) u5 (tl i) A w.heap.size at_ (.slice ao bs.length cap) lv (miss (tl i) ak)))
          case atStart => exact ⟨[], 1, at_, by rw [miss_nil2, tl_len]; simp, HAT.out, by omega, by simp, by simp, A3⟩
          case round =>
            clear A3 HAT
            obtain ⟨ak, ti, at_, hlen2, hat, ht1, ht2, hg2, HA0⟩ := hrel
            obtain ⟨go2, rfl⟩ : ∃ go2, gk = go2 + 1 := ⟨gk - 1, by omega⟩
            have HAT := hide hat
            by_cases hne : 0 < (miss (tl i) ak).length
            · obtain ⟨x0, hx0⟩ := get_of_lt hne
              obtain ⟨g0, c0, hsl, _⟩ := own_cell HA0.out.l hx0
              subst hsl
              have bne : (((miss (tl i) ak).length : Nat) : Int) > 0 := by omega
              have HL1 : Hid (1 ≤ (miss (tl i) ak).length) := hide hne
              have HLT : Hid ((miss (tl i) ak).length ≤ i ∧ i ≤ 8 ∧ ak.length ≠ i ∧ ti ≤ 100 ∧ 1 ≤ ti) := hide (by omega)
              have hlt8 : (miss (tl i) ak).length ≤ 8 := by omega
              have HA : Hid (AX w wr k P (aT i rd ti ak false) u5 (tl i) A w.heap.size at_ (.slice ao bs.length cap) (.slice (some ⟨g0, 0, none⟩) (miss (tl i) ak).length c0) (miss (tl i) ak)) := hide (by
                have := HA0.out
                rw [show decide (ak.length = i) = false by simp; exact HLT.out.2.2.1] at this
                exact this)
              clear hx0 hne hat HA0
              by_cases hlast : ak.length + 1 = i
              · have HLS := hide hlast
                go_wp2_with (first
                  | (have chk := HA; clear chk; go_at_call 11; refine (HA.out.nxt HL.out H256.out HL60.out HAT.out HL1.out (by have := HLT.out; omega)).mono ?_; rintro r w9 ⟨q, at', hq, ha', rfl, k9⟩; obtain ⟨xv, hxv⟩ := get_of_lt hq; obtain ⟨gq, cq, eq_, zq⟩ := own_cell k9.l hxv; cases eq_; have HXV := hide hxv; have HQ := hide hq; have HA9 := hide ha'; have A9 := hide k9; have bq : (q : Int) < (((miss (tl i) ak).length : Nat) : Int) := (by omega); clear hxv hq ha' k9 HA; have hml := cut_len HQ.out; rw [← miss_cons (tl_nodup i) HXV.out] at hml; have HZ0 : Hid ((miss (tl i) (xv :: ak)).length = 0) := hide (by have := HLS.out; omega); clear hml)
                  | (have chk := A9; clear chk; go_at_call 16; refine (A9.out.take ⟨2, 3, 7, xv⟩ (miss64 (tl64 (by have := HLT.out; omega)) xv (List.mem_of_getElem? HXV.out)) (aT_take HXV.out).1 ((aT_take HXV.out).2.trans (if_pos HLS.out))).mono ?_; rintro r wa ⟨rfl, ka⟩; have A10 := hide ka; clear ka A9)
                  | (have chk := A10; clear chk; go_at_call 13; refine (A10.out.drp HQ.out (by have := HLT.out; omega)).mono ?_; rintro r wb ⟨ub, rfl, kb⟩; rw [← miss_cons (tl_nodup i) HXV.out] at kb; obtain ⟨gb, cb, hub⟩ := kb.l.shape; rw [HZ0.out] at hub; subst hub; have A11 := hide kb; clear kb A10)
                  | fail)
                have hml := HZ0.out
                go_roundg go2
                case rel => exact ⟨xv :: ak, ti, at', by rw [List.length_cons]; omega, HA9.out, ht1, by rw [List.length_cons]; omega, by rw [List.length_cons]; omega, A11⟩
                case measure => omega
              · have HLS := hide hlast
                go_wp2_with (first
                  | (have chk := HA; clear chk; go_at_call 11; refine (HA.out.nxt HL.out H256.out HL60.out HAT.out HL1.out (by have := HLT.out; omega)).mono ?_; rintro r w9 ⟨q, at', hq, ha', rfl, k9⟩; obtain ⟨xv, hxv⟩ := get_of_lt hq; obtain ⟨gq, cq, eq_, zq⟩ := own_cell k9.l hxv; cases eq_; have HXV := hide hxv; have HQ := hide hq; have HA9 := hide ha'; have A9 := hide k9; have bq : (q : Int) < (((miss (tl i) ak).length : Nat) : Int) := (by omega); clear hxv hq ha' k9 HA; have hml := cut_len HQ.out; rw [← miss_cons (tl_nodup i) HXV.out] at hml; obtain ⟨n1, hn1z⟩ : ∃ n1, (miss (tl i) (xv :: ak)).length = n1 := ⟨_, rfl⟩; have HZ1 : Hid ((miss (tl i) (xv :: ak)).length = n1 ∧ n1 + 1 = (miss (tl i) ak).length ∧ 1 ≤ n1) := hide (by have := HLS.out; omega); have bz1 : ((n1 : Int) == 0) = false := (by have := HZ1.out.2.2; simp; omega); have bz2 : (n1 : Int) > 0 := (by have := HZ1.out.2.2; omega); clear hml hn1z)
                  | (have chk := A9; clear chk; go_at_call 16; refine (A9.out.take ⟨2, 3, 7, xv⟩ (miss64 (tl64 (by have := HLT.out; omega)) xv (List.mem_of_getElem? HXV.out)) (aT_take HXV.out).1 ((aT_take HXV.out).2.trans (if_neg HLS.out))).mono ?_; rintro r wa ⟨rfl, ka⟩; rw [show decide (ak.length + 1 = i) = false by simp; exact HLS.out] at ka; have A10 := hide ka; clear ka A9)
                  | (have chk := A10; clear chk; go_at_call 13; refine (A10.out.drp HQ.out (by have := HLT.out; omega)).mono ?_; rintro r wb ⟨ub, rfl, kb⟩; rw [← miss_cons (tl_nodup i) HXV.out] at kb; obtain ⟨gb, cb, hub⟩ := kb.l.shape; rw [HZ1.out.1] at hub; subst hub; have A11 := hide kb; clear kb A10)
                  | (have chk := A11; clear chk; go_at_call 15; refine (A11.out.tick (aT_ok HLT.out.2.2.2.1 HLT.out.2.2.2.2) (aT_tick HR.out HLT.out.2.2.2.1).1 (aT_tick HR.out HLT.out.2.2.2.1).2).mono ?_; rintro r wd ⟨ud, rfl, kd, od⟩; have A12 := hide kd; have O12 := hide od; clear kd od A11)
                  | (have chk := A12; clear chk; go_at_call 12; refine (A12.out.told O12.out (by rw [tell_len2]; have := HZ1.out; have := HLT.out; omega) (by have := HZ1.out; have := HLT.out; omega) 1 7 (kof_same _ _ _ _)).mono ?_; rintro r we ⟨rfl, ke⟩; have A13 := hide ke; clear ke A12)
                  | fail)
                have A14 : Hid (AX w we k P (aT i rd (ti + 1) (xv :: ak) (decide ((xv :: ak).length = i))) u5 (tl i) A w.heap.size at' (.slice ao bs.length cap) (.slice gb n1 cb) (miss (tl i) (xv :: ak))) := hide (by
                  rw [show decide ((xv :: ak).length = i) = false by simp; exact HLS.out]
                  exact A13.out)
                have hml := HZ1.out
                go_roundg go2
                case rel => exact ⟨xv :: ak, ti + 1, at', by rw [List.length_cons]; omega, HA9.out, by omega, by rw [List.length_cons]; omega, by rw [List.length_cons]; omega, A14⟩
                case measure => omega
            · obtain ⟨g0, c0, hsl⟩ := HA0.out.l.shape
              subst hsl
              have hz : (miss (tl i) ak).length = 0 := by omega
              have hak : ak.length = i := by omega
              have HTI : Hid (1 ≤ ti ∧ ti ≤ 20) := hide (by omega)
              have HA : Hid (AX w wr k P (aT i rd ti ak true) u5 (tl i) A w.heap.size at_ (.slice ao bs.length cap) (.slice g0 (miss (tl i) ak).length c0) (miss (tl i) ak)) := hide (by
                have := HA0.out
                rw [show decide (ak.length = i) = true by simp; exact hak] at this
                exact this)
              rw [hz]
              clear hne hz hlen2 hg2 hat HA0 hak ht1 ht2
              go_wp2_with (first
                | (have chk := HA; clear chk; go_at_call 18; refine (HA.out.stored 7 true aT_sto.1 aT_sto.2).mono ?_; rintro r w8 ⟨u8, rfl, k8, o8⟩; have A8 := hide k8.tasks; have O8 := hide o8; clear k8 o8 HA)
                | (have chk := A8; clear chk; go_at_call 12; refine (A8.out.told O8.out (by rw [tell_len2, tl_len]; have := HQN.out.2; omega) (by rw [tl_len]; have := HQN.out.2; omega) 3 7 (kof_same _ _ _ _)).mono ?_; rintro r w8 ⟨rfl, k8⟩; have A9 := hide k8; clear k8 A8)
                | fail)
              have A3 : Hid (AX w w8 k P (aC i rd 0 7 ti 1 ak []) u5 (tl i) A w.heap.size at_ (.slice ao bs.length cap) u5 (miss (tl i) [])) := hide (by
                rw [miss_nil2]
                exact A9.out)
              have C3 : Hid (Ac i rd [] 0 (aC i rd 0 7 ti 1 ak [])) := hide ⟨0, 7, ti, 1, ak, rfl, HTI.out.1, by have := HTI.out.2; omega, .inl ⟨rfl, rfl⟩⟩
              clear A9 O8
              generalize aC i rd 0 7 ti 1 ak [] = s0 at *
              go_loopg [18, 19] (i + 1) (fun gh lv kv wr => ∃ (dn : List Int) (j at_ : Nat) (s : Cd), dn.length + (miss (tl i) dn).length = i ∧ at_ ≤ bs.length ∧ j ≤ dn.length ∧ i + 1 ≤ gh + dn.length ∧ Hid (Ac i rd dn j s) ∧ Hid (AX w wr k P s u5 (tl i) A w.heap.size at_ (.slice ao bs.length cap) lv (miss (tl i) dn)))
              case atStart => exact ⟨[], 0, at_, s0, by rw [miss_nil2, tl_len]; simp, HAT.out, by simp, by simp, C3, A3⟩
              case round =>
                clear A3 C3 HAT
                obtain ⟨dn, j, at_, s, hlen2, hat, hj, hg2, HC, HA⟩ := hrel
                obtain ⟨go2, rfl⟩ : ∃ go2, gk = go2 + 1 := ⟨gk - 1, by omega⟩
                have HAT := hide hat
                have HJ : Hid (j ≤ 100) := hide (by omega)
                have HCT := hide (HC.out.tick HR.out HJ.out)
                have HOK := hide (HC.out.ok HJ.out)
                obtain ⟨o, ho⟩ : ∃ o, cTickO s = o := ⟨_, rfl⟩
                obtain ⟨s2, hs2⟩ : ∃ s2, cTickS s = s2 := ⟨_, rfl⟩
                have htl := tickO_len3 s
                rw [hs2, ho] at htl
                have HTL := hide htl
                rw [hs2, ho] at HCT
                have HO2 := hide ho
                have HS2 := hide hs2
                clear ho hs2 htl
                by_cases hne : 0 < (miss (tl i) dn).length
                · obtain ⟨x0, hx0⟩ := get_of_lt hne
                  obtain ⟨g0, c0, hsl, _⟩ := own_cell HA.out.l hx0
                  subst hsl
                  have bne : (((miss (tl i) dn).length : Nat) : Int) > 0 := by omega
                  have HL1 : Hid (1 ≤ (miss (tl i) dn).length) := hide hne
                  have HLT : Hid ((miss (tl i) dn).length ≤ i ∧ i ≤ 8) := hide (by omega)
                  have hlt8 : (miss (tl i) dn).length ≤ 8 := by omega
                  clear hx0 hne hat
                  go_wp2_with (first
                    | (have chk := HA; clear chk; go_at_call 15; refine (HA.out.tick HOK.out HS2.out HO2.out).mono ?_; rintro r w8 ⟨u8, rfl, k8, o8⟩; have HOL : Hid (o.length ≤ 2000000) := hide (by have := HTL.out; have := HA.out.x.ts.tl4; have := k8.x.ts.tl4; have := k8.x.ts.sl4; omega); have A8 := hide k8; have O8 := hide o8; clear k8 o8 HA)
                    | (have chk := A8; clear chk; go_at_call 12; refine (A8.out.told O8.out HOL.out (by have := HLT.out; omega) 3 7 HCT.out.2).mono ?_; rintro r w8 ⟨rfl, k8⟩; have A8b := hide k8; clear k8 A8)
                    | (have chk := A8b; clear chk; go_at_call 11; refine (A8b.out.nxt HL.out H256.out HL60.out HAT.out HL1.out (by have := HLT.out; omega)).mono ?_; rintro r w9 ⟨q, at', hq, ha', rfl, k9⟩; obtain ⟨xv, hxv⟩ := get_of_lt hq; obtain ⟨gq, cq, eq_, zq⟩ := own_cell k9.l hxv; cases eq_; have HXV := hide hxv; have HQ := hide hq; have HA9 := hide ha'; have A9 := hide k9; have bq : (q : Int) < (((miss (tl i) dn).length : Nat) : Int) := (by omega); clear hxv hq ha' k9 A8b)
                    | (have chk := A9; clear chk; go_at_call 16; refine (A9.out.take ⟨4, 3, 7, xv⟩ (miss64 (tl64 (by have := HLT.out; omega)) xv (List.mem_of_getElem? HXV.out)) rfl rfl).mono ?_; rintro r wa ⟨rfl, ka⟩; have A10 := hide ka; clear ka A9)
                    | (have chk := A10; clear chk; go_at_call 13; refine (A10.out.drp HQ.out (by have := HLT.out; omega)).mono ?_; rintro r wb ⟨ub, rfl, kb⟩; rw [← miss_cons (tl_nodup i) HXV.out] at kb; have A11 := hide kb; clear kb A10)
                    | fail)
                  have hml := cut_len HQ.out
                  rw [← miss_cons (tl_nodup i) HXV.out] at hml
                  go_roundg go2
                  case rel => exact ⟨xv :: dn, j + 1, at', _, by rw [List.length_cons]; omega, HA9.out, by rw [List.length_cons]; omega, by rw [List.length_cons]; omega, HCT.out.1.take HXV.out, A11⟩
                  case measure => omega
                · obtain ⟨g0, c0, hsl⟩ := HA.out.l.shape
                  subst hsl
                  have hz : (miss (tl i) dn).length = 0 := by omega
                  have HNO : Hid (kof o 3 = tellL 3 3 7 []) := hide (by rw [HCT.out.2, List.length_eq_zero_iff.1 hz])
                  rw [hz]
                  clear hne hz hlen2 hg2 hat
                  go_wp2_with (first
                    | (have chk := HA; clear chk; go_at_call 15; refine (HA.out.tick HOK.out HS2.out HO2.out).mono ?_; rintro r w8 ⟨u8, rfl, k8, o8⟩; have HOL : Hid (o.length ≤ 2000000) := hide (by have := HTL.out; have := HA.out.x.ts.tl4; have := k8.x.ts.tl4; have := k8.x.ts.sl4; omega); have A8 := hide k8; have O8 := hide o8; clear k8 o8 HA)
                    | (have chk := A8; clear chk; go_at_call 12; refine (told_any O8.out (LSeg.nil' 1 i64cs w8.heap.size w8) (Nat.le_refl _) HOL.out (by simp) 3 7 HNO.out).mono ?_; rintro r w9 ⟨rfl, k9⟩; have A9 := hide (A8.out.below k9); clear k9 A8)
                    | fail)
                  go_ret
                  exact ⟨rfl, A9.out.b⟩

end Go.Proofs.Ytgjjacljjlhnhaa
