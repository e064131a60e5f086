/-
  CoordComes: the walk.
-/
import Derived.Test.YtgjjacljjlhnhaaCComS
import Derived.Test.YtgjjacljjlhnhaaCWaiP
namespace Go.Proofs.Ytgjjacljjlhnhaa
open Go.RowKit

theorem KX.storedK {w0 w : World} {k : Nat} {P : Sh} {s : Cd} {L : List (Value × List Ct)} (h : KX w0 w k P s L) (n : Nat) (ok : Bool) :
    Calls Try.prog 18 #[.pointer (some ⟨k, 0, none⟩), .int .u64 (n : Int), .bool ok] w fun r w' => ∃ u, r = .returned u ∧ KX w0 w' k P (cStoS s n ok) L := by
  refine (Stored_any h.x n ok).mono ?_
  rintro r w' ⟨u, rfl, o1, c1⟩
  exact ⟨u, rfl, h.post c1⟩
set_option maxHeartbeats 4000000 in
set_option maxRecDepth 100000 in
theorem CoordComes_walk (w : World) (n iv to_ lost : Int) :
    Calls Try.prog 6 #[.int .i64 n, .int .i64 iv, .int .i64 to_, .int .i64 lost] w fun e w' => e = .returned (.bool true) ∧ Below w.heap.size w w' := by
  obtain ⟨pm1, qm1⟩ := plc_in (i := n) (n := 8) (by omega)
  obtain ⟨m1, hm1⟩ : ∃ m : Nat, plc n 8 = (m : Int) := ⟨(plc n 8).toNat, by omega⟩
  have HMm1 := hide hm1
  rw [hm1] at qm1
  obtain ⟨pm2, qm2⟩ := plc_in (i := iv) (n := 20) (by omega)
  obtain ⟨m2, hm2⟩ : ∃ m : Nat, plc iv 20 = (m : Int) := ⟨(plc iv 20).toNat, by omega⟩
  have HMm2 := hide hm2
  rw [hm2] at qm2
  obtain ⟨pm3, qm3⟩ := plc_in (i := to_) (n := 20) (by omega)
  obtain ⟨m3, hm3⟩ : ∃ m : Nat, plc to_ 20 = (m : Int) := ⟨(plc to_ 20).toNat, by omega⟩
  have HMm3 := hide hm3
  rw [hm3] at qm3
  obtain ⟨pm4, qm4⟩ := plc_in (i := lost) (n := 5) (by omega)
  obtain ⟨m4, hm4⟩ : ∃ m : Nat, plc lost 5 = (m : Int) := ⟨(plc lost 5).toNat, by omega⟩
  have HMm4 := hide hm4
  rw [hm4] at qm4
  obtain ⟨N, hN⟩ : ∃ N : Nat, (N : Int) = 1 + (m1 : Int) := ⟨1 + m1, by omega⟩
  obtain ⟨I, hI⟩ : ∃ I : Nat, (I : Int) = 1 + (m2 : Int) := ⟨1 + m2, by omega⟩
  obtain ⟨T, hT⟩ : ∃ T : Nat, (T : Int) = 1 + (m3 : Int) := ⟨1 + m3, by omega⟩
  obtain ⟨L, hL⟩ : ∃ L : Nat, (L : Int) = 1 + (m4 : Int) := ⟨1 + m4, by omega⟩
  have HN := hide hN
  have HI := hide hI
  have HT := hide hT
  have HLL := hide hL
  have HQN : Hid (1 ≤ N ∧ N ≤ 8) := hide (by omega)
  have HQI : Hid (1 ≤ I ∧ I ≤ 20) := hide (by omega)
  have HQT : Hid (1 ≤ T ∧ T ≤ 20) := hide (by omega)
  have HQL : Hid (1 ≤ L ∧ L ≤ 5) := hide (by omega)
  have hn8 : N ≤ 8 := HQN.out.2
  have hn1 : 1 ≤ N := HQN.out.1
  have hl5 : L ≤ 5 := HQL.out.2
  have hl1 : 1 ≤ L := HQL.out.1
  clear pm1 pm2 pm3 pm4 hm1 hm2 hm3 hm4 hN hI hT hL
  go_enter Try.func6, Try.ntmps6
  go_wp2_with (first | (go_at_call 8; refine (known_any _).mono ?_; rintro e w1 ⟨rfl, b1⟩; have B1 := hide b1; clear b1) | (have chk := HMm1; clear chk; go_at_call 9; refine (hPlace_any _ _ (by omega) (by omega)).mono ?_; rintro e w2 ⟨rfl, rfl⟩; rw [HMm1.out]; clear HMm1) | (have chk := HMm2; clear chk; go_at_call 9; refine (hPlace_any _ _ (by omega) (by omega)).mono ?_; rintro e w2 ⟨rfl, rfl⟩; rw [HMm2.out]; clear HMm2) | (have chk := HMm3; clear chk; go_at_call 9; refine (hPlace_any _ _ (by omega) (by omega)).mono ?_; rintro e w2 ⟨rfl, rfl⟩; rw [HMm3.out]; clear HMm3) | (have chk := HMm4; clear chk; go_at_call 9; refine (hPlace_any _ _ (by omega) (by omega)).mono ?_; rintro e w2 ⟨rfl, rfl⟩; rw [HMm4.out]; clear HMm4) | fail)
  rw [← HN.out, ← HI.out, ← HT.out, ← HLL.out]
  clear qm1 qm2 qm3 qm4 HN HI HT HLL
  go_loopg [9, 10] (N + 1) (fun gh uv iv wr => ∃ i : Nat, iv = .int .i64 (i : Int) ∧ i ≤ N ∧ N + 1 ≤ gh + i ∧ Hid (OwnL 3 1 i64cs w.heap.size wr uv (rl i)) ∧ Hid (Below w.heap.size w wr))
  case atStart => exact ⟨0, rfl, by omega, by omega, (show OwnL _ _ _ _ _ _ _ from OwnL.nil _ _ _ _ _), B1⟩
  case round =>
    obtain ⟨i, rfl, hi, hg, HO, HB⟩ := hrel
    obtain ⟨go, rfl⟩ : ∃ go, gk = go + 1 := ⟨gk - 1, by omega⟩
    by_cases hlt : i < N
    · have bt : (i : Int) < (N : Int) := by omega
      have HNW := hide (newI wr (i : Int))
      have HLN : Hid ((rl i).length ≤ 1000000) := hide (by rw [rl_len]; omega)
      have HBS : Hid (∀ o, w.heap.size ≤ (wr.alloc o).heap.size) := hide (fun o => by have := HB.out.size; simp; omega)
      go_wp2_with (first | (at_builtin; refine app_L Try.infoI Try.underlying25 rfl (by decide) (by decide) i64cs_len i64cs_one rfl _ _ rfl w.heap.size _ _ rfl (HO.out.alloc _) _ _ (i : Int) rfl HNW.out HLN.out (HBS.out _) ?_; intro v4 w4 h4 g4 k4; have H4 := hide h4; have B4 := hide (HB.out.trans ((below_box wr _).mono HB.out.size) |>.grown g4 (HBS.out _) (fun g e => HO.out.at g e)); clear h4 g4 k4) | fail)
      go_roundg go
      case rel => exact ⟨i + 1, by go_num, by omega, by omega, (show OwnL _ _ _ _ _ _ _ by rw [rl_succ]; exact H4.out), B4⟩
      case measure => omega
    · obtain rfl : i = N := by omega
      have bt : ¬ ((i : Nat) : Int) < (i : Int) := by omega
      obtain ⟨l, hl, hll⟩ := rl_cons hn1
      have ho := HO.out
      rw [hl] at ho
      obtain ⟨g, cap, rfl, hcap, hseg⟩ := own_head ho
      rw [hll] at hcap HO
      have HSG := hide hseg
      have HRL : Hid (LSeg 1 i64cs wr.heap.size wr (.slice (some ⟨g, 0, none⟩) i cap) (rl i)) := hide (HO.out.seg i64cs_len (by rw [rl_len]; omega))
      clear ho hseg hl HO
      rw [hll]
      clear hll
      have k1 : 1 ≤ cap := by omega
      have hrd0 : rdS i (bnd (I : Int)) (bnd (T : Int)) 0 = sP i I T [] := by
        rw [bnd_id HQI.out.1 (by have := HQI.out; omega), bnd_id HQT.out.1 (by have := HQT.out; omega)]; rfl
      have HRD := hide hrd0
      clear hrd0
      go_wp2_with (first | (go_at_call 10; refine (KX.made HB.out HRL.out (Nat.le_refl _) HSG.out (Nat.le_refl _) (by rw [rl_len]; have := HQN.out.2; omega) (by simp) (rl64 (by have := HQN.out.2; omega)) (by intro x hx; simp at hx; subst hx; unfold In64; omega) (I : Int) (T : Int) rfl).mono ?_; rintro r w5 ⟨k, P, rfl, k5, -, -⟩; have A0 := hide k5; clear k5) | (go_at_call 14; refine (A0.out.begin 1 0 0 ((beg_rl HQN.out.1 (I : Int) (T : Int)).trans HRD.out) rfl).mono ?_; rintro r w6 ⟨u6, rfl, k6⟩; have A1 := hide k6.drop; clear k6 A0) | fail)
      go_loopg [12, 13, 14, 15, 16, 17] (4001) (fun gh iv ov kv mv sv tv wr => ∃ (i2 : Nat) (s : Cd), iv = .int .i64 (i2 : Int) ∧ 4001 ≤ gh + i2 ∧ Hid (Q2 i I T L i2 s) ∧ Hid (KX w wr k P s []))
      case atStart => exact ⟨0, _, rfl, by omega, (show Q2 _ _ _ _ _ _ from .inl ⟨[], rfl, gset_nil _, by show 0 < i; have := HQN.out; omega, fun t j _ _ h _ => by omega⟩), A1⟩
      case round =>
        clear A1
        obtain ⟨i2, s, rfl, hg2, HQ, HA⟩ := hrel
        obtain ⟨hok, hq3, hi2, hT2⟩ := HQ.out.start HQN.out HQI.out HQL.out HQT.out
        have HOK := hide hok
        have HQ3 := hide hq3
        obtain ⟨go2, rfl⟩ : ∃ go2, gk = go2 + 1 := ⟨gk - 1, by omega⟩
        have b4 : (i2 : Int) < 4000 := by omega
        clear hok hq3 HQ hT2
        go_wp2_with (first | (go_at_call 15; refine (HA.out.tick HOK.out rfl rfl).mono ?_; rintro r w7 ⟨u7, rfl, k7⟩; obtain ⟨g7, c7, rfl⟩ := k7.shp (List.mem_cons_self ..); have A7 := hide k7; clear k7) | fail)
        have ho6 : (cTickO s).length ≤ 2000000 := by
          have h1 := tickO_len2 s
          have h2 := HA.out.x.ts.tl4
          have h3 := A7.out.x.ts.tl4
          have h4 := A7.out.x.ts.sl4
          omega
        clear HA HOK
        generalize cTickO s = o at *
        generalize cTickS s = s1 at *
        go_loopg [14, 15, 16, 17] (o.length + 1) (fun gh kv mv sv tv wr => ∃ (kk : Nat) (s' : Cd), kv = .int .i64 (kk : Int) ∧ kk ≤ o.length ∧ o.length + 1 ≤ gh + kk ∧ Hid (Q3 i I T L i2 o kk s') ∧ Hid (KX w wr k P s' [(.slice g7 o.length c7, o)]))
        case atStart => exact ⟨0, s1, rfl, by omega, by omega, HQ3, A7⟩
        case round =>
          clear HQ3 A7
          obtain ⟨kk, s', rfl, hk, hg3, HQ, HA⟩ := hrel
          obtain ⟨go3, rfl⟩ : ∃ go3, gk = go3 + 1 := ⟨gk - 1, by omega⟩
          by_cases hkl : kk < o.length
          · have bk : (kk : Int) < (o.length : Int) := by omega
            obtain ⟨m, hm⟩ := get_of_lt hkl
            obtain ⟨hep, t, htN, htt⟩ := HQ.out.msg hm
            obtain ⟨gq, cq, hsl⟩ := HA.out.slc (List.mem_cons_self ..) (by omega)
            cases hsl
            obtain ⟨v0, v1, v2, v3⟩ := HA.out.cell (List.mem_cons_self ..) hm
            obtain ⟨mk, me, mn, mt⟩ := m
            simp only at v0 v1 v2 v3 hep htt
            subst hep htt
            have HMM := hide hm
            have HTN := hide htN
            have ht8 : t < 8 := by omega
            have HT64 : Hid (In64 (t : Int)) := hide (by unfold In64; omega)
            have em : ((i2 : Int) + (t : Int)) % (L : Int) = (((i2 + t) % L : Nat) : Int) := by rw [Int.natCast_emod, Int.natCast_add]
            clear hm htN
            by_cases hq : (i2 + t) % L = 0
            · have bq : (((i2 : Int) + (t : Int)) % (L : Int) != 0) = false := by rw [em, hq]; rfl
              have HW : Hid (∀ q v, KX w ((wr.alloc (.cells q 32)).setCell ⟨wr.heap.size, 0, none⟩ v) k P s' [(.slice (some ⟨gq, 0, none⟩) o.length c7, o)]) := hide (fun q v => HA.out.below ((below_box wr _).grown (grownBy_set _ _ 0 _) (below_box wr _).size (fun g e => by cases e; exact Nat.le_refl _)))
              have HW0 : Hid (∀ q, KX w (wr.alloc q) k P s' [(.slice (some ⟨gq, 0, none⟩) o.length c7, o)]) := hide (fun q => HA.out.below (below_box wr _))
              clear em
              by_cases c5 : mk = 5
              · subst c5
                obtain ⟨hr, hz⟩ := HQ.out.rest HMM.out rfl HTN.out rfl
                have HR := hide hr
                have HZ := hide hz
                clear hr hz
                go_wp2_with (first | (go_at_call 16; (first | refine ((HW.out _ _).take ⟨6, 1, mn, (t : Int)⟩ HT64.out rfl HZ.out).mono ?_ | refine ((HW0.out _).take ⟨6, 1, mn, (t : Int)⟩ HT64.out rfl HZ.out).mono ?_); rintro r w8 ⟨rfl, k8⟩; have A8 := hide k8; clear k8) | fail)
                go_roundg go3
                case rel => exact ⟨kk + 1, _, by go_num, by omega, by omega, HR, A8⟩
                case measure => omega
              · have b5 : (mk == 5) = false := by simp; exact c5
                by_cases c1 : mk = 1
                · subst c1
                  rcases HQ.out.trig HQL.out HQT.out.2 HMM.out rfl HTN.out rfl with ⟨hz, hr⟩ | ⟨hz, hr⟩
                  · have HR := hide hr
                    have HZ := hide hz
                    clear hr hz
                    go_wp2_with (first | (go_at_call 16; (first | refine ((HW.out _ _).take ⟨2, 1, mn, (t : Int)⟩ HT64.out rfl HZ.out).mono ?_ | refine ((HW0.out _).take ⟨2, 1, mn, (t : Int)⟩ HT64.out rfl HZ.out).mono ?_); rintro r w8 ⟨rfl, k8⟩; have A8 := hide k8; clear k8) | fail)
                    go_roundg go3
                    case rel => exact ⟨kk + 1, _, by go_num, by omega, by omega, HR, A8⟩
                    case measure => omega
                  · obtain ⟨nn, hnn⟩ : ∃ nn, cTakeN s' ⟨2, 1, mn, (t : Int)⟩ = nn := ⟨_, rfl⟩
                    simp only at hz hr
                    rw [hnn] at hz hr
                    have HR := hide hr
                    have HZ := hide hnn
                    have bz : ((nn : Int) != 0) = true := by simp; omega
                    clear hr hnn
                    go_wp2_with (first | (go_at_call 16; (first | refine ((HW.out _ _).take ⟨2, 1, mn, (t : Int)⟩ HT64.out rfl HZ.out).mono ?_ | refine ((HW0.out _).take ⟨2, 1, mn, (t : Int)⟩ HT64.out rfl HZ.out).mono ?_); rintro r w8 ⟨rfl, k8⟩; have A8 := hide k8; clear k8) | (go_at_call 18; refine (A8.out.storedK nn true).mono ?_; rintro r w9 ⟨u9, rfl, k9⟩; have A9 := hide k9; clear k9) | fail)
                    go_roundg go3
                    case rel => exact ⟨kk + 1, _, by go_num, by omega, by omega, HR, A9⟩
                    case measure => omega
                · obtain ⟨d1, d2, d3⟩ := HQ.out.comm HMM.out c5 c1
                  simp only at d1 d2 d3
                  have b0 : ((t : Int) == 0) = true := by simp; omega
                  subst d1 d2
                  have HDU : Hid (∀ o n, Calls Try.prog 21 #[.pointer (some ⟨k, 0, none⟩)] ((wr.alloc o).drewN n) fun e w' => e = .returned (.int .u64 (s'.du : Int)) ∧ w' = (wr.alloc o).drewN n) := hide (fun o n => (Durable_any ((HW0.out o).x.drewN n)).mono (fun e w' h => ⟨h.1, h.2.symm⟩))
                  clear c5 c1 b5 d3
                  generalize s'.du = du at *
                  go_wp2_with fail
                  go_quiet (first | (go_at_call 21; exact Calls.quiet_of_same (HDU.out _ _)) | fail)
                  go_wp2_with fail
                  go_ret
                  exact ⟨rfl, (HW0.out _).b.trans (below_drewN (Below.refl _ _) _)⟩
            · have bq : (((i2 : Int) + (t : Int)) % (L : Int) != 0) = true := by rw [em]; simp; omega
              have HR := hide (HQ.out.skip HMM.out rfl hq)
              clear em hq
              go_wp2_with fail
              go_roundg go3
              case rel => exact ⟨kk + 1, _, by go_num, by omega, by omega, HR, HA⟩
              case measure => omega
          · have bk : ¬ (kk : Int) < (o.length : Int) := by omega
            have hkk : kk = o.length := by omega
            subst hkk
            have HD := hide (HQ.out.done HQI.out.1)
            go_wp2_with fail
            go_roundg go2
            case rel => exact ⟨i2 + 1, s', by go_num, by omega, HD, HA.out.drop⟩
            case measure => omega

end Go.Proofs.Ytgjjacljjlhnhaa
