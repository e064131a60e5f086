/-
  Texts of the vault, in build order: VLawK.
-/
import Derived.Test.YtbfhcbihgleddaaGreatDoorM35
/-
  The law VaultKeep, walked.
-/
namespace Go.Proofs.YtbfhcbihgleddaaGreatDoor
open Go.RowKit
set_option maxHeartbeats 16000000 in
set_option maxRecDepth 100000 in
theorem VaultKeep_walk (w : World) (hg : Glob w) (keep : Int) (vg : Value) (gl : List Nat) (hgl : Seg w vg gl) (hgb : Byts gl) (x : SnV) (hs : SnSeg w.heap.size w (.slice x.am x.s.marks.length x.cm) (.slice x.ap x.s.panes.length x.cp) (.slice x.ac x.s.outs.length x.cc) x.s) (hp : ∀ o ∈ x.s.outs, 0 ≤ o.f.n) :
    Calls Tryz.prog 3 #[.int .i64 keep, vg, .agg #[.int .i64 x.s.task, .int .i64 x.s.off, .int .i64 x.s.mark, .slice x.am x.s.marks.length x.cm, .slice x.ap x.s.panes.length x.cp, .slice x.ac x.s.outs.length x.cc]] w fun e w' => e = .returned (.bool true) ∧ Below w.heap.size w w' := by
  have ba : Below w.heap.size w (w.alloc (.cells (snc x) 27)) := (Below.refl _ _).alloc (Nat.le_refl _) _
  have bx : BoxT 27 (w.alloc (.cells (snc x) 27)) w.heap.size (snc x) := BoxT.new _ _ _
  have hg1 : Glob (w.alloc (.cells (snc x) 27)) := hg.below ba hg.1
  have hkn := hide (known_any _ hg1)
  have HSS : Hid (SnOk w.heap.size w x) := hs
  have HPP := hide hp
  have HGL := hide hgl
  have BA := hide ba
  have BX := hide bx
  have lm : x.s.marks.length ≤ 140737488355328 := by obtain ⟨_, _, _, h, _⟩ := hs.m; exact h
  have lp : x.s.panes.length ≤ 140737488355328 := by obtain ⟨_, _, _, h, _⟩ := hs.p; exact h
  have lc : x.s.outs.length ≤ 140737488355328 := by obtain ⟨_, _, _, h, _⟩ := hs.c; exact h
  obtain ⟨ag, cg, rfl, hgc, hgc2, hgl2, -⟩ := hgl
  have XE := hide (show snc x = #[.int .i64 x.s.task, .int .i64 x.s.off, .int .i64 x.s.mark, .slice x.am x.s.marks.length x.cm, .slice x.ap x.s.panes.length x.cp, .slice x.ac x.s.outs.length x.cc] from rfl)
  rw [XE.out] at hkn BA BX
  clear ba bx hs hp hg1
  generalize hml : x.s.marks.length = ml at *
  generalize hpl : x.s.panes.length = pl at *
  generalize hol : x.s.outs.length = ol at *
  have HLN := hide (And.intro hml (And.intro hpl hol))
  have HLI : Hid (10 + ml + 4 * pl + 4 * ol ≤ 20000 → 10 + x.s.marks.length + 4 * x.s.panes.length + 4 * x.s.outs.length ≤ 20000) := fun h => by rw [hml, hpl, hol]; exact h
  clear hml hpl hol
  generalize x.s.task = t1 at *
  generalize x.s.off = t2 at *
  generalize x.s.mark = t3 at *
  generalize x.am = am at *
  generalize x.ap = ap at *
  generalize x.ac = ac at *
  generalize x.cm = cm at *
  generalize x.cp = cp at *
  generalize x.cc = cc at *
  go_enter Tryz.func3, Tryz.ntmps3
  go_wp2_with fail
  generalize w.alloc (.cells #[.int .i64 t1, .int .i64 t2, .int .i64 t3, .slice am ml cm, .slice ap pl cp, .slice ac ol cc] 27) = w1 at *
  go_at_call 9
  refine hkn.out.mono ?_
  rintro e w2 ⟨rfl, b2⟩
  have BX2 := hide (BX.out.belowT b2)
  have B2 := hide (BA.out.trans (b2.mono BA.out.size))
  clear b2 hkn BX BA
  by_cases h60 : gl.length ≤ 60
  rotate_left
  · go_wp2
    go_ret
    exact ⟨rfl, B2.out⟩
  have h60' : (gl.length : Int) ≤ 60 := by omega
  obtain ⟨f0, f1, f2, f3, f4, f5⟩ := BX2.out.cells6
  go_wp2_with fail
  have a3 : Below w2.heap.size w2 ((w2.alloc (.cells #[.int .i64 t1, .int .i64 t2, .int .i64 t3, .slice am ml cm, .slice ap pl cp, .slice ac ol cc] 27)).alloc (.cells #[.int .i64 0, .int .i64 0, .slice (some ⟨w2.heap.size, 0, none⟩) 1 1, .slice none 0 0, .slice none 0 0] 33)) := ((Below.refl _ _).alloc (Nat.le_refl _) _).alloc (by simp) _
  have g1 : BoxT 27 ((w2.alloc (.cells #[.int .i64 t1, .int .i64 t2, .int .i64 t3, .slice am ml cm, .slice ap pl cp, .slice ac ol cc] 27)).alloc (.cells #[.int .i64 0, .int .i64 0, .slice (some ⟨w2.heap.size, 0, none⟩) 1 1, .slice none 0 0, .slice none 0 0] 33)) w2.heap.size #[.int .i64 t1, .int .i64 t2, .int .i64 t3, .slice am ml cm, .slice ap pl cp, .slice ac ol cc] := (BoxT.new _ _ _).alloc _
  have g2 : BoxT 33 ((w2.alloc (.cells #[.int .i64 t1, .int .i64 t2, .int .i64 t3, .slice am ml cm, .slice ap pl cp, .slice ac ol cc] 27)).alloc (.cells #[.int .i64 0, .int .i64 0, .slice (some ⟨w2.heap.size, 0, none⟩) 1 1, .slice none 0 0, .slice none 0 0] 33)) (w2.heap.size + 1) #[.int .i64 0, .int .i64 0, .slice (some ⟨w2.heap.size, 0, none⟩) 1 1, .slice none 0 0, .slice none 0 0] := BoxT.new_at (by simp)
  refine (light1 g2 g1 lm lp lc).mono ?_
  rintro e w3 ⟨rfl, b3⟩
  have B3 := hide (B2.out.trans ((a3.trans (b3.mono a3.size)).mono B2.out.size))
  have BX3 := hide (BX2.out.belowT (a3.trans (b3.mono a3.size)))
  clear a3 g1 g2 b3 f0 f1 f2 f3 f4 f5 BX2 B2
  by_cases hli : 10 + ml + 4 * pl + 4 * ol ≤ 20000
  rotate_left
  · simp only [hli, decide_false]
    go_wp2
    go_ret
    exact ⟨rfl, B3.out⟩
  simp only [hli, decide_true]
  have hk1 : -4 < keep.tmod 4 := by have := Int.lt_tmod_of_pos keep (show (0 : Int) < 4 by decide); omega
  have hk2 : keep.tmod 4 < 4 := Int.tmod_lt_of_pos keep (by decide)
  obtain ⟨r, hr⟩ : ∃ r, keep.tmod 4 = r := ⟨_, rfl⟩
  rw [hr] at hk1 hk2
  have hk3 : (r + 4).tmod 4 = (r + 4) % 4 := Int.tmod_eq_emod_of_nonneg (by omega)
  obtain ⟨kp, hkp⟩ : ∃ kp : Nat, 1 + (r + 4) % 4 = (kp : Int) := ⟨(1 + (r + 4) % 4).toNat, by omega⟩
  have hkp1 : 1 ≤ kp := by omega
  have hkp4 : kp ≤ 4 := by omega
  have hw0 : IntKind.i64.wrap r = r := by rw [IntKind.wrap_i64]; omega
  have hw1 : IntKind.i64.wrap (r + 4) = r + 4 := by rw [IntKind.wrap_i64]; omega
  have hw2 : IntKind.i64.wrap ((r + 4) % 4) = (r + 4) % 4 := by rw [IntKind.wrap_i64]; omega
  have hw3 : IntKind.i64.wrap (1 + (r + 4) % 4) = (kp : Int) := by rw [IntKind.wrap_i64]; omega
  have hv0 : wrap64 r = r := by unfold wrap64; omega
  have hv1 : wrap64 (r + 4) = r + 4 := by unfold wrap64; omega
  have hv2 : wrap64 ((r + 4) % 4) = (r + 4) % 4 := by unfold wrap64; omega
  have hv3 : wrap64 (1 + (r + 4) % 4) = (kp : Int) := by unfold wrap64; omega
  have hnew := hide (kNew w w3 B3.out 1048576 (by decide))
  go_wp2_with (first | (go_at_call 11; refine hnew.out.mono ?_; rintro e w4 ⟨k, b, rfl, h4, hk, hb, b4⟩; have H4 := hide h4; have BX4 := hide (BX3.out.belowT b4); clear b4) | fail)
  rw [show (1 + r % 4 : Int) = (kp : Int) by omega]
  rw [show (max 1048576 0 : Int) = 1048576 from rfl] at H4
  refine (VOpen_any H4.out hg (kp : Int) (by decide) (fun s hs => by cases hs) (by simp) (fun y hy => by cases hy)).mono ?_
  rintro e w5 ⟨V, vt, vw, th, rfl, v5, p5, r5, b5⟩
  have hth : th = [] := by
    have := p5.length_eq
    simp [foundS] at this
    exact this
  subst hth
  rw [show max (kp : Int) 1 = (kp : Int) by omega] at v5
  obtain ⟨c, hc⟩ : ∃ c, sealed (sOut x.s) = c := ⟨_, rfl⟩
  have HK0 : Hid (VK w w5 w.heap.size k V b 0 kp c [] (.slice none 0 0) x) := ⟨⟨vt, vw, [], _, by simp, v5, ⟨by simp [FF], rfl, by simp [FF]⟩, rfl⟩, by rw [XE.out]; exact BX4.out.belowT b5, Row.nil _ _ _ _ _⟩
  have HC := hide hc
  clear hw0 hw1 hw2 hw3 hv0 hv1 hv2 hv3 hr hk1 hk2 hk3 hkp hnew v5 p5 r5 b5 hk hb H4 h4 BX4 BX3 B3 hc
  generalize hS0 : w.heap.size = S0 at *
  go_wp2_with fail
  clear h60'
  go_loopw [10, 11, 12, 13] (fun nv uv av iv wr => ∃ (i nn us : Nat) (al : List Nat), i ≤ gl.length ∧ nv = .int .u64 (nn : Int) ∧ uv = .int .i64 (us : Int) ∧ iv = .int .i64 i ∧ al.length = i ∧ nn ≤ 5 * i ∧ (∀ m ∈ al, m ≤ nn) ∧ al.Pairwise (· < ·) ∧ (kp + 1 ≤ i → kp * (sealed c).length ≤ us ∧ us ≤ 1048576) ∧ Hid (VK w wr S0 k V b (3000 * i) kp c al av x)) (fun _ _ _ iv _ => gl.length - (intOf iv).toNat)
  case atStart => exact ⟨0, 0, 0, [], Nat.zero_le _, rfl, rfl, rfl, rfl, by omega, by simp, List.Pairwise.nil, fun h => by omega, HK0.out⟩
  case round =>
    clear HK0
    obtain ⟨i, nn, us, al, hi, rfl, rfl, rfl, hal, hnn, hle, hpw, hus, HK⟩ := hrel
    by_cases hlt : i < gl.length
    · obtain ⟨gb, hgb1⟩ : ∃ g, gl[i]? = some g := ⟨_, List.getElem?_eq_getElem hlt⟩
      have hgb2 : gb < 256 := hgb i gb hgb1
      obtain ⟨av, cv, hva⟩ := HK.out.row.shape
      subst hva
      rw [hal] at HK
      obtain ⟨_, _, e, _, _, _, hcell⟩ := HGL.out.below HK.out.since
      cases e
      rcases hcell with hcell | ⟨gb0, goff, rfl, hgbl, hcell⟩
      · rw [hcell] at hlt; simp at hlt
      have c1 := hcell i gb hgb1
      have hmd : Int.tmod (gb : Int) 5 = ((gb % 5 : Nat) : Int) := tmod_nat gb 5
      obtain ⟨n', hn'⟩ : ∃ n', nn + 1 + gb % 5 = n' := ⟨_, rfl⟩
      obtain ⟨f0, f1, f2, f3, f4, f5⟩ := (XE.out ▸ HK.out.sn).cells6
      have hvn : (nn : Int) + 1 + (gl[i] : Int) % 5 = (n' : Int) := by
        have : gl[i] = gb := (List.getElem?_eq_some_iff.1 hgb1).2
        omega
      have HLJ := hide (HLI.out hli)
      have ba : Below wr.heap.size wr (wr.alloc (.cells #[.int .i64 t1, .int .i64 t2, .int .i64 t3, .slice am ml cm, .slice ap pl cp, .slice ac ol cc] 27)) := (Below.refl _ _).alloc (Nat.le_refl _) _
      have bn : BoxT 27 (wr.alloc (.cells #[.int .i64 t1, .int .i64 t2, .int .i64 t3, .slice am ml cm, .slice ap pl cp, .slice ac ol cc] 27)) wr.heap.size (snc x) := by rw [XE.out]; exact BoxT.new _ _ _
      have HK1 := hide (HK.out.below ba)
      have HSI := hide (HSS.out.in_ (hS0 ▸ HK1.out.since) (hS0 ▸ HK1.out.since.size) bn HPP.out)
      have h300 : nn ≤ 300 := by omega
      have HM := hide hle
      clear ba bn hle
      go_wp2_with fail
      generalize wr.alloc (.cells #[.int .i64 t1, .int .i64 t2, .int .i64 t3, .slice am ml cm, .slice ap pl cp, .slice ac ol cc] 27) = w6 at *
      by_cases hx0 : sEr x.s = 0
      rotate_left
      · refine (HK1.out.bad hg hx0 HC.out HLJ.out hkp4 (fun m hm => by have := HM.out m hm; omega) n' (by omega) HSI.out (by omega) rfl rfl).mono ?_
        rintro e w7 ⟨rfl, b7⟩
        have B7 := hide b7
        clear b7 HK HK1 HSI f0 f1 f2 f3 f4 f5 hcell c1
        rcases sEr_three x.s with h | h | h
        · exact absurd h hx0
        · rw [h]
          go_wp2
          go_ret
          exact ⟨rfl, B7.out⟩
        · rw [h]
          go_wp2
          go_ret
          exact ⟨rfl, B7.out⟩
      refine (HK1.out.put hg hx0 HC.out HLJ.out hkp1 hkp4 n' (by omega) (fun m hm => by have := HM.out m hm; omega) (by omega) HSI.out (by omega) rfl rfl).mono ?_
      rintro e w7 ⟨rfl, v7, s7, r7⟩
      have V7 := hide v7
      have S7 := hide s7
      have ba : Below w7.heap.size w7 (w7.alloc (.cells #[.int .u64 (n' : Int)] 41)) := (Below.refl _ _).alloc (Nat.le_refl _) _
      have BA7 := hide ba
      have R7 := hide (r7.below ba)
      have hz7 : w.heap.size ≤ (w7.alloc (.cells #[.int .u64 (n' : Int)] 41)).heap.size := by
        obtain ⟨_, _, _, _, _, g, _⟩ := v7
        exact Nat.le_trans g.st.since.size ba.size
      have hall : al.length ≤ 1000000 := by omega
      clear ba v7 s7 r7 HK HK1 HSI f0 f1 f2 f3 f4 f5 hcell c1
      go_wp2_with (first | (at_builtin; refine app_row Tryz.info41 Tryz.underlying42 rfl (by decide) (by decide) u64cs_len u64cs_one rfl _ _ rfl w.heap.size _ al rfl R7.out ⟨w7.heap.size, 0, none⟩ 1 n' rfl (fun j u hu => by match j, hu with | 0, hu => simp [u64cs] at hu; subst hu; simp [Addr.add]) hall hz7 ?_) | fail)
      intro v8 w8 hr8 hg8 _
      have H8 : Hid (VK w w8 S0 k V b (3000 * (i + 1)) kp c (al ++ [n']) v8 x) := VK.app V7.out S7.out BA7.out R7.out (by rw [hS0]; exact hr8) hg8
      have L8 : (al ++ [n']).length = i + 1 := by simp [hal]
      have P8 := hide (show (al ++ [n']).Pairwise (· < ·) from List.pairwise_append.2 ⟨hpw, List.pairwise_singleton _ _, fun a ha b hb => by rcases List.mem_singleton.1 hb with rfl; have := HM.out a ha; omega⟩)
      have M8 := hide (show ∀ m ∈ al ++ [n'], m ≤ n' from fun m hm => by
        rcases List.mem_append.1 hm with hm | hm
        · have := HM.out m hm; omega
        · rcases List.mem_singleton.1 hm with rfl; omega)
      clear hr8 hg8 V7 S7 BA7 R7 hz7 hall HM hpw
      generalize al ++ [n'] = al2 at H8 L8 P8 M8
      have hne : al2 ≠ [] := fun h => by rw [h] at L8; simp at L8
      obtain ⟨g8, o8, c8, e8, hgl8, hc8, hc8', cells8⟩ := H8.out.row.cells41 hne
      rw [L8] at e8 hc8
      subst e8
      obtain ⟨m, hm⟩ : ∃ m, i + 1 - kp = m := ⟨_, rfl⟩
      have hmi : m ≤ i := by omega
      have hmx : max (0 : Int) ((i : Int) + 1 - (kp : Int)) = (m : Int) := by omega
      have hm1 : (m : Int) ≤ (i : Int) + 1 := by omega
      have hm2 : (i : Int) + 1 ≤ (c8 : Int) := by omega
      have hm3 : (m : Int) ≤ (c8 : Int) := by omega
      have i60 : (i : Int) ≤ 60 := by omega
      have C8 := hide cells8
      have HUS := hide hus
      have hgl0 : gl.length ≤ 60 := h60
      clear cells8 hne hus hmd hvn hgb1 hgb2 hgbl HGL
      go_wp2_with fail
      refine (H8.out.list hkp4 m (by rw [L8]; exact hm)).mono ?_
      rintro e w9 ⟨rfl, b9, z9, cells9⟩
      rw [L8]
      have H9 := hide (H8.out.below b9)
      have D9 := hide cells9
      obtain ⟨d, hd⟩ : ∃ d, i + 1 - m = d := ⟨_, rfl⟩
      rw [hd]
      clear b9 cells9 H8 C8
      have hd2 : m + d = i + 1 := by omega
      have hdk : d ≤ 4 := by omega
      generalize w8.heap.size = B9 at *
      go_wp2_with fail
      go_loopw [17] (fun kv wr' => ∃ j : Nat, j ≤ d ∧ kv = .int .i64 j ∧ Hid (Below w9.heap.size w9 wr')) (fun kv _ => d - (intOf kv).toNat)
      case atStart => exact ⟨0, Nat.zero_le _, rfl, Below.refl _ _⟩
      case round =>
        obtain ⟨j, hj, rfl, b10⟩ := hrel
        have H10 := hide (H9.out.below b10.out)
        by_cases hjd : j < d
        · obtain ⟨y, hy⟩ : ∃ y, al2[m + j]? = some y := ⟨_, List.getElem?_eq_getElem (by omega)⟩
          have q1 := (Below.cell b10.out (p := ⟨B9, j, none⟩) z9).trans (D9.out j y hy)
          have q2 := H10.out.cells (m + j) y hy
          rw [← Nat.add_assoc] at q2
          have hgw : g8 < wr.heap.size := Nat.lt_of_lt_of_le (Nat.lt_trans hgl8 z9) b10.out.size
          have hBw : B9 < wr.heap.size := Nat.lt_of_lt_of_le z9 b10.out.size
          have hcall := hide ((H10.out.below ((Below.refl _ _).drew)).has hkp4 P8.out m (by rw [L8]; exact hm) (m + j) y hy rfl)
          rw [decide_eq_true (Nat.le_add_right m j)] at hcall
          have hj1 : (j : Int) < (d : Int) := by omega
          go_wp2_with fail
          go_region_held3 (fun w' => w'.cell? ⟨B9, j, none⟩ = some (.int .u64 (y : Int)) ∧ w'.cell? ⟨g8, o8 + m + j, none⟩ = some (.int .u64 (y : Int))) (first | go_keep | exact ⟨q1, q2⟩ | exact ⟨x1, x2⟩) (first | (go_at_call 15; refine hcall.out.mono ?_; clear hcall; rintro e w11 ⟨rfl, b11⟩; have B11 := hide b11; have x1 := (Below.cell b11 (p := ⟨B9, j, none⟩) hBw).trans q1; have x2 := (Below.cell b11 (p := ⟨g8, o8 + m + j, none⟩) hgw).trans q2; clear b11))
          have B12 := hide (b10.out.trans ((((Below.refl wr.heap.size wr).drew).trans B11.out).mono b10.out.size))
          clear x1 x2 q1 q2 B11 b10 H10
          go_wp2
          exact ⟨⟨j + 1, by omega, rfl, B12⟩, by simp only [intOf]; omega⟩
        · obtain rfl : j = d := by omega
          generalize HB : w9.heap.size = Z9 at *
          rcases Nat.lt_trichotomy i kp with hik | hik | hik
          · have k1 : ¬ (kp : Int) < (i : Int) + 1 := by omega
            have k2 : ¬ (i : Int) + 1 = (kp : Int) + 1 := by omega
            have k3 : ¬ (kp : Int) + 1 < (i : Int) + 1 := by omega
            go_wp2_with fail
            exact ⟨⟨i + 1, n', us, al2, by omega, rfl, rfl, rfl, L8, by omega, M8.out, P8.out, fun h => by omega, H10⟩, by simp only [intOf]; omega⟩
          · obtain ⟨e0, he0⟩ : ∃ e0, e0 + 1 = m := ⟨m - 1, by omega⟩
            have he : (i : Int) + 1 - (kp : Int) - 1 = (e0 : Int) := by omega
            have he2 : (e0 : Int) < (i : Int) + 1 := by omega
            obtain ⟨y, hy⟩ : ∃ y, al2[e0]? = some y := ⟨_, List.getElem?_eq_getElem (by omega)⟩
            have q1 := H10.out.cells e0 y hy
            have k1 : (kp : Int) < (i : Int) + 1 := by omega
            have k2 : ((i : Int) + 1 = (kp : Int) + 1) = True := eq_true (by omega)
            have k4 : ((i : Int) = (kp : Int)) = True := eq_true (by omega)
            have k5 : (i = kp) = True := eq_true hik
            have k3 : ¬ (kp : Int) + 1 < (i : Int) + 1 := by omega
            have HIK := hide hik
            have hcall := hide (H10.out.has hkp4 P8.out m (by rw [L8]; exact hm) e0 y hy rfl)
            rw [decide_eq_false (show ¬ m ≤ e0 by omega)] at hcall
            clear hik
            go_wp2_with (first | (go_at_call 15; refine hcall.out.mono ?_; clear hcall; rintro e w12 ⟨rfl, b12⟩; have H12 := hide (H10.out.below b12); have hus2 := hide (H12.out.used HC.out HLJ.out hkp4 (fun q hq => by have := M8.out q hq; omega) (by have := HIK.out; omega)); clear b12 q1) | (go_at_call 16; refine hus2.out.mono ?_; clear hus2; rintro e w13 ⟨us2, rfl, rfl, u1, u2, u3⟩) | fail)
            exact ⟨⟨i + 1, n', us2, al2, by omega, rfl, rfl, rfl, L8, by omega, M8.out, P8.out, fun _ => ⟨u1, u3⟩, H12⟩, by simp only [intOf]; omega⟩
          · obtain ⟨e0, he0⟩ : ∃ e0, e0 + 1 = m := ⟨m - 1, by omega⟩
            have he : (i : Int) + 1 - (kp : Int) - 1 = (e0 : Int) := by omega
            have he2 : (e0 : Int) < (i : Int) + 1 := by omega
            obtain ⟨y, hy⟩ : ∃ y, al2[e0]? = some y := ⟨_, List.getElem?_eq_getElem (by omega)⟩
            have q1 := H10.out.cells e0 y hy
            have k1 : (kp : Int) < (i : Int) + 1 := by omega
            have k2 : ¬ (i : Int) + 1 = (kp : Int) + 1 := by omega
            have k3 : (kp : Int) + 1 < (i : Int) + 1 := by omega
            have hcall := hide (H10.out.has hkp4 P8.out m (by rw [L8]; exact hm) e0 y hy rfl)
            rw [decide_eq_false (show ¬ m ≤ e0 by omega)] at hcall
            have hu1 := HUS.out (by omega)
            have hu2 : (us : Int) ≤ 1048576 := by omega
            go_wp2_with (first | (go_at_call 15; refine hcall.out.mono ?_; clear hcall; rintro e w12 ⟨rfl, b12⟩; have H12 := hide (H10.out.below b12); have hus2 := hide (H12.out.used HC.out HLJ.out hkp4 (fun q hq => by have := M8.out q hq; omega) (by omega)); clear b12 q1) | (go_at_call 16; refine hus2.out.mono ?_; clear hus2; rintro e w13 ⟨us2, rfl, rfl, u1, u2, u3⟩; have hu3 : ¬ (us : Int) + 4096 < (us2 : Int) := by omega) | fail)
            exact ⟨⟨i + 1, n', us, al2, by omega, rfl, rfl, rfl, L8, by omega, M8.out, P8.out, fun _ => hu1, H12⟩, by simp only [intOf]; omega⟩
    · obtain rfl : i = gl.length := by omega
      go_wp2
      go_ret
      exact ⟨rfl, HK.out.since⟩
end Go.Proofs.YtbfhcbihgleddaaGreatDoor
