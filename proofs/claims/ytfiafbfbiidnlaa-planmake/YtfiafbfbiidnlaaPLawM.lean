/-
  The document's Make; PlanMake, walked.
-/
import Derived.Test.YtfiafbfbiidnlaaPRKeyed
import Derived.Test.YtfiafbfbiidnlaaPCountP
namespace Go.Proofs.Ytfiafbfbiidnlaa
open Go.RowKit

theorem range_get {m a : Nat} (h : a < m) : (List.range m)[a]? = some a := List.getElem?_range h
set_option maxHeartbeats 8000000 in
set_option maxRecDepth 100000 in
theorem RMake_any {w : World} {v : Value} {ns : List Nd} (hj : JobIn w.heap.size w v ns) (hl : ns.length ≤ 1000) (hp : ∀ n ∈ ns, 0 ≤ n.par ∧ n.par ≤ 4) (hin : ∀ n ∈ ns, ∀ x ∈ n.ins, 0 ≤ x ∧ x < (ns.length : Int)) (hR : (chJ ns 0 ns).length ≤ 1000000) :
    Calls Try.prog 11 #[.agg #[v]] w fun e w' => ∃ tv cv, e = .returned (.agg #[tv, cv]) ∧ OwnL 42 2 Tk.cs w.heap.size w' tv (tksOf 0 ns) ∧ OwnL 40 3 Cn.cs w.heap.size w' cv (chJ ns 0 ns) ∧ Below w.heap.size w w' := by
  obtain ⟨na, ncp, rfl⟩ := hj.shape
  have HJ := hide hj
  have HP := hide hp
  have HIN := hide hin
  obtain ⟨R, hRe⟩ : ∃ R, chJ ns 0 ns = R := ⟨_, rfl⟩
  rw [hRe] at hR ⊢
  have HRE := hide hRe
  have HR := hide hR
  have m2 : ∀ W : World, (Instr.makeSlice 34 (.int .i64 (ns.length : Int)) (.int .i64 (ns.length : Int))).run Try.prog W = .ok (.slice (some ⟨W.heap.size, 0, none⟩) ns.length ns.length) (W.alloc (.cells ((List.replicate ns.length 0).map iN).toArray 3)) := fun W => mkN W ns.length (by omega)
  obtain ⟨cP, hcP⟩ : ∃ c, ((List.replicate ns.length 0).map iN).toArray = c := ⟨_, rfl⟩
  rw [hcP] at m2
  have H4 := hide (fourW w (.cells #[.slice na ns.length ncp] 24) (.cells #[.slice none 0 0, .slice none 0 0] 30) (.cells #[.slice none 0 0, .slice none 0 0] 30) (.cells cP 3))
  have HB4 : Hid (Below w.heap.size w ((((w.alloc (.cells #[.slice na ns.length ncp] 24)).alloc (.cells #[.slice none 0 0, .slice none 0 0] 30)).alloc (.cells #[.slice none 0 0, .slice none 0 0] 30)).alloc (.cells cP 3))) := ((((Below.refl _ _).alloc (Nat.le_refl _) _).alloc (by simp) _).alloc (by simp; omega) _).alloc (by simp; omega) _
  have HM0 : Hid (MS w ((((w.alloc (.cells #[.slice na ns.length ncp] 24)).alloc (.cells #[.slice none 0 0, .slice none 0 0] 30)).alloc (.cells #[.slice none 0 0, .slice none 0 0] 30)).alloc (.cells cP 3)) (.slice na ns.length ncp) (.slice none 0 0) (.slice none 0 0) [] [] (List.replicate ns.length 0)) :=
    ⟨H4.out.1, H4.out.2.1, H4.out.2.2.1, (show BoxT 3 _ _ _ by rw [hcP]; exact H4.out.2.2.2), OwnL.nil _ _ _ _ _, OwnL.nil _ _ _ _ _, HB4.out⟩
  clear hj hp hin hRe hR hcP H4 HB4
  go_enter Try.func11, Try.ntmps11
  go_wp2_with fail
  go_loopg [5] (ns.length + 1) (fun g iv wr => ∃ (i : Nat) (tv : Value) (fs : List Nat), iv = .int .i64 (i : Int) ∧ i ≤ ns.length ∧ ns.length + 1 ≤ g + i ∧ Hid (MS w wr (.slice na ns.length ncp) tv (.slice none 0 0) (tksOf 0 (ns.take i)) [] fs) ∧ Hid (fs.length = ns.length) ∧ Hid (∀ j < i, fs[j]? = some (off ns j)))
  case atStart => exact ⟨0, _, _, rfl, by omega, by omega, HM0, (show _ = _ by simp), (fun j hj => by omega)⟩
  case round =>
    clear HM0
    obtain ⟨i, tv, fs, rfl, hi, hg, GM, GL, GF⟩ := hrel
    obtain ⟨g1, rfl⟩ : ∃ go, gk = go + 1 := ⟨gk - 1, by omega⟩
    obtain ⟨wo, hwo⟩ : ∃ wo, wo = wr := ⟨_, rfl⟩
    subst hwo
    obtain ⟨ta, tc, htv⟩ := GM.out.ot.shape
    subst htv
    have cj : wo.cell? ⟨w.heap.size, 0, none⟩ = some (.slice na ns.length ncp) := by rw [GM.out.jx.cellAt]; rfl
    by_cases hil : i < ns.length
    · obtain ⟨n, hn⟩ := get_of_lt hil
      have bt : (i : Int) < (ns.length : Int) := by omega
      have bt0 : ¬ (i : Int) < 0 := by omega
      obtain ⟨o, hof⟩ : ∃ o, off ns i = o := ⟨_, rfl⟩
      have hof2 : (tksOf 0 (ns.take i)).length = o := hof
      have ct : wo.cell? ⟨w.heap.size + 1 + 1, 0, none⟩ = some (.slice ta o tc) := by rw [GM.out.px.cellAt, ← hof2]; rfl
      obtain ⟨y, hy⟩ := get_of_lt (l := fs) (i := i) (by rw [GL.out]; exact hil)
      have cf := iN_at GM.out.fx hy
      have ff := GM.out.fx.free i
      have hp4 := HP.out n (List.mem_of_getElem? hn)
      have HTK := hide (tksOf_take hn)
      have GM2 := hide (GM.out.first (i := i) (x := o))
      have GL2 : Hid ((fs.set i o).length = ns.length) := (show _ = _ by rw [List.length_set]; exact GL.out)
      have GF2 : Hid (∀ j < i + 1, (fs.set i o)[j]? = some (off ns j)) := fun j hj => by
        rw [get_set (by rw [GL.out]; exact hil)]
        split
        · rename_i e; subst e; rw [hof]
        · exact GF.out j (by omega)
      have hol : (tksOf 0 (ns.take i)).length ≤ 4 * i := by
        have := tksOf_len (ns.take i) (fun m hm => (HP.out m (List.mem_of_mem_take hm)).2) 0
        rw [List.length_take] at this
        omega
      have HOL := hide hol
      have HNI := hide hn
      clear hn hy hof hof2 hol GF GL
      obtain ⟨pn, hpn⟩ : ∃ pn : Nat, n.par = (pn : Int) := ⟨n.par.toNat, by omega⟩
      rw [show n.par.toNat = pn by omega] at HTK
      go_wp2_with fail
      go_loopg [6] (pn + 1) (fun g iv wr => ∃ (k : Nat) (tv : Value), iv = .int .i64 (k : Int) ∧ k ≤ pn ∧ pn + 1 ≤ g + k ∧ Hid (MS w wr (.slice na ns.length ncp) tv (.slice none 0 0) (tksOf 0 (ns.take i) ++ tkN i k) [] (fs.set i o)))
      case atStart => exact ⟨0, _, rfl, by omega, by omega, (show MS _ _ _ _ _ _ _ _ by simpa [tkN] using GM2.out)⟩
      case round =>
        clear GM GM2 cf ff ct cj
        obtain ⟨k, tv, rfl, hk, hgk, GM⟩ := hrel
        obtain ⟨g2, rfl⟩ : ∃ go, gk = go + 1 := ⟨gk - 1, by omega⟩
        have cj : wr.cell? ⟨w.heap.size, 0, none⟩ = some (.slice na ns.length ncp) := by rw [GM.out.jx.cellAt]; rfl
        obtain ⟨nb, no, hna, nlt, -, -, d2, -⟩ := (HJ.out.below GM.out.bl).at_ HNI.out
        subst hna
        rw [hpn] at d2
        by_cases hkp : k < pn
        · have bk : (k : Int) < (pn : Int) := by omega
          obtain ⟨ta2, tc2, htv⟩ := GM.out.ot.shape
          obtain ⟨tl, htl⟩ : ∃ l, (tksOf 0 (ns.take i) ++ tkN i k).length = l := ⟨_, rfl⟩
          rw [htl] at htv
          subst htv
          have ct : wr.cell? ⟨w.heap.size + 1 + 1, 0, none⟩ = some (.slice ta2 tl tc2) := by rw [GM.out.px.cellAt]; rfl
          have HNW : Hid (∀ (j : Nat) (u : Value), (Tk.cs ⟨i, k⟩)[j]? = some u → (wr.alloc (.cells #[.int .i64 (i : Int), .int .i64 (k : Int)] 42)).cell? ((⟨wr.heap.size, 0, none⟩ : Addr).add j) = some u) := fun j u hu => by
            rw [add_plain2, (BoxT.new 42 wr _).cellAt, Nat.zero_add]
            simpa [Tk.cs] using hu
          have HBS : Hid (w.heap.size ≤ (wr.alloc (.cells #[.int .i64 (i : Int), .int .i64 (k : Int)] 42)).heap.size) := (show _ ≤ _ by have := GM.out.bl.size; simp; omega)
          have HLL : Hid ((tksOf 0 (ns.take i) ++ tkN i k).length ≤ 1000000) := (show _ ≤ _ by rw [List.length_append, tkN_len]; have := HOL.out; omega)
          clear htl
          go_wp2_with (at_builtin; refine app_L Try.info42' (by kernel_rfl) rfl (by omega) (by omega) Tk.cs_len Tk.cs_one rfl _ _ rfl w.heap.size (.slice ta2 tl tc2) _ rfl (GM.out.ot.alloc _) ⟨wr.heap.size, 0, none⟩ 1 ⟨i, k⟩ rfl HNW.out HLL.out HBS.out ?_; intro v4 w4 h4 g4 n4
                       have kp := keepBox GM.out.px GM.out.ot (by decide) g4
                       have cp : w4.cell? ⟨w.heap.size + 1 + 1, 0, none⟩ = some (.slice ta2 tl tc2) := (by rw [kp.cellAt]; rfl)
                       have fp := kp.free 0
                       obtain ⟨ta4, tc4, hv4⟩ := h4.shape
                       obtain ⟨l4, hl4⟩ : ∃ l, (tksOf 0 (ns.take i) ++ tkN i k ++ [(⟨(i : Int), (k : Int)⟩ : Tk)]).length = l := ⟨_, rfl⟩
                       rw [hl4] at hv4
                       subst hv4
                       clear hl4
                       clear kp)
          go_roundg g2
          case rel => exact ⟨k + 1, _, by go_num, by omega, by omega, (show MS _ _ _ _ _ _ _ _ by rw [tkN_succ, ← List.append_assoc]; exact GM.out.task h4 g4)⟩
          case measure => omega
        · have bk : ¬ (k : Int) < (pn : Int) := by omega
          have hke : k = pn := by omega
          have GM5 : Hid (MS w wr (.slice (some ⟨nb, no, none⟩) ns.length ncp) tv (.slice none 0 0) (tksOf 0 (ns.take (i + 1))) [] (fs.set i o)) := (show MS _ _ _ _ _ _ _ _ by rw [HTK.out, ← hke]; exact GM.out)
          clear hke
          go_wp2_with fail
          go_roundg g1
          case rel => exact ⟨i + 1, tv, _, by go_num, by omega, by omega, GM5, GL2, GF2⟩
          case measure => omega
    · have bt : ¬ (i : Int) < (ns.length : Int) := by omega
      have hie : i = ns.length := by omega
      have GM6 : Hid (MS w wo (.slice na ns.length ncp) (.slice ta (tksOf 0 ns).length tc) (.slice none 0 0) (tksOf 0 ns) [] fs) := (show MS _ _ _ _ _ _ _ _ by have := GM.out; rw [hie, List.take_length] at this; exact this)
      have GF6 : Hid (∀ j < ns.length, fs[j]? = some (off ns j)) := (by rw [← hie]; exact GF)
      obtain ⟨tl, htl⟩ : ∃ l, (tksOf 0 ns).length = l := ⟨_, rfl⟩
      rw [htl] at GM6
      clear hie htl GM GF GL hg hi bt
      go_wp2_with fail
      go_loopg [7] (ns.length + 1) (fun g iv wr => ∃ (i : Nat) (cv : Value) (cur : List Cn), iv = .int .i64 (i : Int) ∧ i ≤ ns.length ∧ ns.length + 1 ≤ g + i ∧ Hid (MS w wr (.slice na ns.length ncp) (.slice ta tl tc) cv (tksOf 0 ns) cur fs) ∧ Hid (cur ++ chJ ns i (ns.drop i) = R))
      case atStart => exact ⟨0, _, [], rfl, by omega, by omega, GM6, (show _ = R by simpa using HRE.out)⟩
      case round =>
        clear GM6 cj
        obtain ⟨i, cv, cur, rfl, hi, hg, GM, GR⟩ := hrel
        obtain ⟨g1, rfl⟩ : ∃ go, gk = go + 1 := ⟨gk - 1, by omega⟩
        obtain ⟨wo, hwo⟩ : ∃ wo, wo = wr := ⟨_, rfl⟩
        subst hwo
        have cj : wo.cell? ⟨w.heap.size, 0, none⟩ = some (.slice na ns.length ncp) := by rw [GM.out.jx.cellAt]; rfl
        by_cases hil : i < ns.length
        · obtain ⟨n, hn⟩ := get_of_lt hil
          have bt : (i : Int) < (ns.length : Int) := by omega
          obtain ⟨nb, no, hna, nlt, d0, d1, d2, d3, d4, d5, d6, d7, d8, d9⟩ := (HJ.out.below GM.out.bl).at_ hn
          subst hna
          have hmem := List.mem_of_getElem? hn
          have HII := hide (HJ.out.ins n hmem)
          have HXR := hide (HIN.out n hmem)
          have hp4 := HP.out n hmem
          have HBX := hide (below_box wo (.cells n.cs.toArray 54))
          have hr1 := GR.out
          rw [drop_of hn, chJ] at hr1
          obtain ⟨X1, hX1⟩ : ∃ X, chJ ns (i + 1) (ns.drop (i + 1)) = X := ⟨_, rfl⟩
          rw [hX1] at hr1
          have GR1 := hide hr1
          have HX1 := hide hX1
          have hfi := GF6.out i hil
          have hoff : off ns i ≤ 4 * i := by
            have := tksOf_len (ns.take i) (fun m hm => (HP.out m (List.mem_of_mem_take hm)).2) 0
            rw [List.length_take] at this
            unfold off
            omega
          have hpN := parN_at hn
          have HKI := hide (ndAt_in hn)
          obtain ⟨oi, hoi⟩ : ∃ o, off ns i = o := ⟨_, rfl⟩
          rw [hoi] at hfi hoff
          have HFI := hide hfi
          have HOI := hide hoi
          clear hn hmem hr1 hX1 GR hfi hoi nlt
          obtain ⟨kd, ia, icp, ins, par, ⟨eo, en, ea, ec, el⟩, ag, wk, ws, wl⟩ := n
          unfold Nd.cs at HBX
          simp only at d0 d1 d2 d3 d4 d5 d6 d7 d8 d9 HII HXR hp4 HBX GR1 hpN HKI
          obtain ⟨pp, hpp⟩ : ∃ pp : Nat, par = (pp : Int) := ⟨par.toNat, by omega⟩
          subst hpp
          rw [Int.toNat_natCast] at hpN
          have HPN := hide hpN
          have hp5 : pp ≤ 4 := by omega
          clear hpN hp4
          obtain ⟨CS1, hCS1⟩ : ∃ C : Array Value, (#[.int .i64 kd, .slice ia ins.length icp, .int .i64 (pp : Int), .int .i64 eo, .int .i64 en, .slice ea el.length ec, .int .i64 ag, .int .i64 wk, .int .i64 ws, .int .i64 wl] : Array Value) = C := ⟨_, rfl⟩
          have HC1 := hide hCS1
          have HG1 : Hid (BoxT 54 (wo.alloc (.cells #[.int .i64 kd, .slice ia ins.length icp, .int .i64 (pp : Int), .int .i64 eo, .int .i64 en, .slice ea el.length ec, .int .i64 ag, .int .i64 wk, .int .i64 ws, .int .i64 wl] 54)) wo.heap.size CS1) := (show BoxT _ _ _ _ by rw [← hCS1]; exact BoxT.new 54 wo _)
          have hil2 := HII.out.len
          clear hCS1
          go_wp2_with fail
          go_loopg [9] (ins.length + 1) (fun g iv wr => ∃ (k : Nat) (cv : Value) (cur : List Cn), iv = .int .i64 (k : Int) ∧ k ≤ ins.length ∧ ins.length + 1 ≤ g + k ∧ Hid (MS w wr (.slice (some ⟨nb, no, none⟩) ns.length ncp) (.slice ta tl tc) cv (tksOf 0 ns) cur fs) ∧ Hid (BoxT 54 wr wo.heap.size CS1) ∧ Hid (cur ++ (chI ns i k (ins.drop k) ++ X1) = R))
          case atStart => exact ⟨0, cv, cur, rfl, by omega, by omega, GM.out.below HBX.out, HG1, (show _ = R by simpa using GR1.out)⟩
          case round =>
            clear GM GR1 HBX HG1 d0 d1 d2 d3 d4 d5 d6 d7 d8 d9 cj
            obtain ⟨k, cv, cur, rfl, hk, hgk, GM, G1, GR⟩ := hrel
            obtain ⟨g2, rfl⟩ : ∃ go, gk = go + 1 := ⟨gk - 1, by omega⟩
            obtain ⟨wp, hwp⟩ : ∃ wp, wp = wr := ⟨_, rfl⟩
            subst hwp
            have cj : wp.cell? ⟨w.heap.size, 0, none⟩ = some (.slice (some ⟨nb, no, none⟩) ns.length ncp) := by rw [GM.out.jx.cellAt]; rfl
            by_cases hkl : k < ins.length
            · obtain ⟨xi, hx⟩ := get_of_lt hkl
              have bk : (k : Int) < (ins.length : Int) := by omega
              have hxr := HXR.out xi (List.mem_of_getElem? hx)
              obtain ⟨x, rfl⟩ : ∃ x : Nat, xi = (x : Int) := ⟨xi.toNat, by omega⟩
              obtain ⟨ib, io, hia, ilt, ci⟩ := (HII.out.below GM.out.bl).num hx
              subst hia
              have HCI : Hid (∀ w', Below w.heap.size w w' → w'.cell? ⟨ib, io + k, none⟩ = some (.int .i64 (x : Int))) := fun w' hb => by
                obtain ⟨ib', io', e, _, c⟩ := (HII.out.below hb).num hx
                cases e
                exact c
              have G1E := G1
              rw [← HC1.out] at G1E
              obtain ⟨s0, s1, s2, -⟩ := G1E.out.cells10
              have bx : (x : Int) < (ns.length : Int) := hxr.2
              obtain ⟨nx, hnx⟩ := get_of_lt (l := ns) (i := x) (by omega)
              obtain ⟨nb2, no2, hna2, nlt2, f0, f1, f2, f3, f4, f5, f6, f7, f8, f9⟩ := (HJ.out.below GM.out.bl).at_ hnx
              cases hna2
              have hpx := HP.out nx (List.mem_of_getElem? hnx)
              have hfx := GF6.out x (by omega)
              have hpN2 := parN_at hnx
              have HKX := hide (ndAt_in hnx)
              have hoffx : off ns x ≤ 4 * x := by
                have := tksOf_len (ns.take x) (fun m hm => (HP.out m (List.mem_of_mem_take hm)).2) 0
                rw [List.length_take] at this
                unfold off
                omega
              obtain ⟨ox, hox⟩ : ∃ o, off ns x = o := ⟨_, rfl⟩
              rw [hox] at hfx hoffx
              have HFX := hide hfx
              have hr2 := GR.out
              rw [drop_of hx, chI, Int.toNat_natCast, List.append_assoc] at hr2
              obtain ⟨X2, hX2⟩ : ∃ X, chI ns i (k + 1) (ins.drop (k + 1)) ++ X1 = X := ⟨_, rfl⟩
              rw [hX2] at hr2
              have GRX := hide hr2
              have HX2 := hide hX2
              have hbx : Below wp.heap.size wp (wp.drew.alloc (.cells nx.cs.toArray 54)) := (Below.refl _ _).drew.alloc (Nat.le_refl _) _
              have GM18 := hide (GM.out.below hbx)
              have G118 := hide (G1.out.below hbx)
              have hb18 := GM.out.bl.trans (hbx.mono GM.out.bl.size)
              have HKY := hide (RKeyed_any ((HJ.out.below hb18).mono hb18.size) (i : Int))
              have G2X : Hid (BoxT 54 (wp.drew.alloc (.cells nx.cs.toArray 54)) wp.heap.size nx.cs.toArray) := BoxT.new 54 wp.drew _
              have G1X : Hid (BoxT 54 (wp.drew.alloc (.cells nx.cs.toArray 54)) wo.heap.size #[.int .i64 kd, .slice (some ⟨ib, io, none⟩) ins.length icp, .int .i64 (pp : Int), .int .i64 eo, .int .i64 en, .slice ea el.length ec, .int .i64 ag, .int .i64 wk, .int .i64 ws, .int .i64 wl]) := G1E.out.below hbx
              obtain ⟨kd2, ia2, icp2, ins2, par2, ⟨eo2, en2, ea2, ec2, el2⟩, ag2, wk2, ws2, wl2⟩ := nx
              unfold Nd.cs at *
              simp only at f0 f1 f2 f3 f4 f5 f6 f7 f8 f9 hpx hpN2 HKX GM18 G118 HKY G1X G2X
              obtain ⟨px, hpx0⟩ : ∃ px : Nat, par2 = (px : Int) := ⟨par2.toNat, by omega⟩
              subst hpx0
              rw [Int.toNat_natCast] at hpN2
              have hpx4 : px ≤ 4 := by omega
              have bz1 : wo.heap.size < wp.heap.size := G1.out.lt
              have bz2 : w.heap.size < wp.heap.size := GM.out.jx.lt
              have bz3 : nb < wp.heap.size := by omega
              have bz4 : ib < wp.heap.size := by omega
              have HCHX : Hid (chX ns i k x = (List.range px).flatMap fun a => ((List.range pp).filter fun b => fdAll ns (x : Int) (i : Int) || decide (a = b)).map fun b => (⟨((ox + a : Nat) : Int), ((oi + b : Nat) : Int), (k : Int)⟩ : Cn)) := (show _ = _ by unfold chX; rw [hpN2, HPN.out, hox, HOI.out])
              have hfd : fdAll ns (x : Int) (i : Int) = (kyd ns (i : Int) || decide (px ≠ pp)) := by
                unfold fdAll
                rw [HKX.out, HKI.out]
                congr 1
                by_cases h : px = pp
                · subst h; simp
                · rw [decide_eq_true h, decide_eq_true (show (px : Int) ≠ (pp : Int) by omega)]
              obtain ⟨CS2, hCS2⟩ : ∃ C : Array Value, (#[.int .i64 kd2, .slice ia2 ins2.length icp2, .int .i64 (px : Int), .int .i64 eo2, .int .i64 en2, .slice ea2 el2.length ec2, .int .i64 ag2, .int .i64 wk2, .int .i64 ws2, .int .i64 wl2] : Array Value) = C := ⟨_, rfl⟩
              have HC2 := hide hCS2
              have G218 : Hid (BoxT 54 (wp.drew.alloc (.cells #[.int .i64 kd2, .slice ia2 ins2.length icp2, .int .i64 (px : Int), .int .i64 eo2, .int .i64 en2, .slice ea2 el2.length ec2, .int .i64 ag2, .int .i64 wk2, .int .i64 ws2, .int .i64 wl2] 54)) wp.heap.size CS2) := (show BoxT _ _ _ _ by rw [← hCS2]; exact G2X.out)
              clear hx hnx hr2 hX2 hbx hb18 GR hfx hxr hpN2 hox hCS2 nlt2 ilt hpx
              cases hky : kyd ns (i : Int) with
              | true =>
                rw [hky] at HKY hfd
                clear hky
                have hAL : fdAll ns (x : Int) (i : Int) = true := by rw [hfd]; rfl
                clear hfd
                have GR2 : Hid (cur ++ (((List.range px).flatMap fun a => ((List.range pp).filter fun b => true || decide (a = b)).map fun b => (⟨((ox + a : Nat) : Int), ((oi + b : Nat) : Int), (k : Int)⟩ : Cn)) ++ X2) = R) := (show _ = R by rw [← GRX.out, HCHX.out, hAL])
                clear hAL GRX HCHX
                as_aux_lemma =>
                go_wp2_with fail
                go_region
                all_goals
                  go_wp2_with (go_at_call 19; refine HKY.out.mono ?_; rintro e wK ⟨rfl, bK⟩
                               obtain ⟨-, -, u2, -⟩ := (G1X.out.below bK).cells10
                               obtain ⟨-, -, t2, -⟩ := (G2X.out.below bK).cells10)
                  go_loopg [12] (px + 1) (fun g iv wr => ∃ (a : Nat) (cv : Value) (cur : List Cn), iv = .int .i64 (a : Int) ∧ a ≤ px ∧ px + 1 ≤ g + a ∧ Hid (MS w wr (.slice (some ⟨nb, no, none⟩) ns.length ncp) (.slice ta tl tc) cv (tksOf 0 ns) cur fs) ∧ Hid (BoxT 54 wr wo.heap.size CS1) ∧ Hid (BoxT 54 wr wp.heap.size CS2) ∧ Hid (cur ++ (((List.range px).drop a).flatMap (fun a => ((List.range pp).filter fun b => true || decide (a = b)).map fun b => (⟨((ox + a : Nat) : Int), ((oi + b : Nat) : Int), (k : Int)⟩ : Cn)) ++ X2) = R))
                  case atStart => exact ⟨0, cv, cur, rfl, by omega, by omega, GM18.out.below bK, G118.out.below bK, G218.out.below bK, (show _ = R by simpa using GR2.out)⟩
                  case round =>
                    clear GM GR2 G1 GM18 G118 G218 bK
                    obtain ⟨a, cv, cur, rfl, ha, hga, GM, G1, G2, GR⟩ := hrel
                    obtain ⟨g3, rfl⟩ : ∃ go, gk = go + 1 := ⟨gk - 1, by omega⟩
                    have G2E := G2
                    rw [← HC2.out] at G2E
                    obtain ⟨-, -, q2, -⟩ := G2E.out.cells10
                    by_cases hal : a < px
                    · have ba : (a : Int) < (px : Int) := by omega
                      have hr3 := GR.out
                      rw [drop_of (range_get hal), List.flatMap_cons, List.append_assoc] at hr3
                      obtain ⟨X3, hX3⟩ : ∃ X, ((List.range px).drop (a + 1)).flatMap (fun a => ((List.range pp).filter fun b => true || decide (a = b)).map fun b => (⟨((ox + a : Nat) : Int), ((oi + b : Nat) : Int), (k : Int)⟩ : Cn)) ++ X2 = X := ⟨_, rfl⟩
                      rw [hX3] at hr3
                      have GR3 := hide hr3
                      have HX3 := hide hX3
                      clear hr3 hX3 GR G2E
                      go_wp2_with fail
                      go_loopg [13] (pp + 1) (fun g iv wr => ∃ (b : Nat) (cv : Value) (cur : List Cn), iv = .int .i64 (b : Int) ∧ b ≤ pp ∧ pp + 1 ≤ g + b ∧ Hid (MS w wr (.slice (some ⟨nb, no, none⟩) ns.length ncp) (.slice ta tl tc) cv (tksOf 0 ns) cur fs) ∧ Hid (BoxT 54 wr wo.heap.size CS1) ∧ Hid (BoxT 54 wr wp.heap.size CS2) ∧ Hid (cur ++ ((((List.range pp).drop b).filter fun b => true || decide (a = b)).map (fun b => (⟨((ox + a : Nat) : Int), ((oi + b : Nat) : Int), (k : Int)⟩ : Cn)) ++ X3) = R))
                      case atStart => exact ⟨0, cv, cur, rfl, by omega, by omega, GM, G1, G2, (show _ = R by simpa using GR3.out)⟩
                      case round =>
                        clear GM G1 G2 GR3 q2
                        obtain ⟨b, cv, cur, rfl, hb, hgb, GM, G1, G2, GR⟩ := hrel
                        obtain ⟨g4, rfl⟩ : ∃ go, gk = go + 1 := ⟨gk - 1, by omega⟩
                        have G1E := G1
                        rw [← HC1.out] at G1E
                        obtain ⟨-, s1, s2, -⟩ := G1E.out.cells10
                        by_cases hbl : b < pp
                        · have bb : (b : Int) < (pp : Int) := by omega
                          have hr4 := GR.out
                          rw [drop_of (range_get hbl)] at hr4
                          have GR4 : Hid ((cur ++ [(⟨(ox : Int) + (a : Int), (oi : Int) + (b : Int), (k : Int)⟩ : Cn)]) ++ ((((List.range pp).drop (b + 1)).filter fun b => true || decide (a = b)).map (fun b => (⟨((ox + a : Nat) : Int), ((oi + b : Nat) : Int), (k : Int)⟩ : Cn)) ++ X3) = R) := (show _ = R by rw [← hr4, List.filter_cons, if_pos (by simp ), List.map_cons]; simp)
                          have HLL : Hid (cur.length ≤ 1000000) := (show _ ≤ _ by
                            have h1 := HR.out
                            rw [← GR.out, List.length_append] at h1
                            omega)
                          obtain ⟨ca, cc, hcv⟩ := GM.out.oc.shape
                          obtain ⟨cl, hcl⟩ : ∃ l, cur.length = l := ⟨_, rfl⟩
                          rw [hcl] at hcv
                          subst hcv
                          have HNW : Hid (∀ (j : Nat) (u : Value), (Cn.cs ⟨(ox : Int) + (a : Int), (oi : Int) + (b : Int), (k : Int)⟩)[j]? = some u → (wr.alloc (.cells #[.int .i64 ((ox : Int) + (a : Int)), .int .i64 ((oi : Int) + (b : Int)), .int .i64 (k : Int)] 40)).drew.cell? ((⟨wr.heap.size, 0, none⟩ : Addr).add j) = some u) := fun j u hu => by
                            have hbn : BoxT 40 (wr.alloc (.cells #[.int .i64 ((ox : Int) + (a : Int)), .int .i64 ((oi : Int) + (b : Int)), .int .i64 (k : Int)] 40)).drew wr.heap.size _ := (BoxT.new 40 wr _).drew
                            rw [add_plain2, hbn.cellAt, Nat.zero_add]
                            simpa [Cn.cs] using hu
                          have HBS : Hid (w.heap.size ≤ (wr.alloc (.cells #[.int .i64 ((ox : Int) + (a : Int)), .int .i64 ((oi : Int) + (b : Int)), .int .i64 (k : Int)] 40)).drew.heap.size) := (show _ ≤ _ by have := GM.out.bl.size; simp; omega)
                          have KC : Hid (∀ w' : World, Below wr.heap.size wr w' → w'.cell? ⟨w.heap.size + 1 + 1, 1, none⟩ = some (.slice ca cl cc) ∧ w'.cell? ⟨wo.heap.size, 1, none⟩ = some (.slice (some ⟨ib, io, none⟩) ins.length icp) ∧ w'.cell? ⟨ib, io + k, none⟩ = some (.int .i64 (x : Int)) ∧ w'.cell? ⟨w.heap.size + 1 + 1 + 1, x, none⟩ = some (.int .i64 (ox : Int)) ∧ w'.cell? ⟨w.heap.size + 1 + 1 + 1, i, none⟩ = some (.int .i64 (oi : Int)) ∧ w'.frozen? ⟨w.heap.size + 1 + 1, 1, none⟩ = false) := fun w' h => ⟨(by rw [(GM.out.px.below h).cellAt]; rfl), (by rw [(G1E.out.below h).cellAt]; rfl), HCI.out _ (GM.out.bl.trans (h.mono GM.out.bl.size)), iN_at (GM.out.fx.below h) HFX.out, iN_at (GM.out.fx.below h) HFI.out, (GM.out.px.below h).free 1⟩
                          have KG : Hid (∀ w' : World, (wr.alloc (.cells #[.int .i64 ((ox : Int) + (a : Int)), .int .i64 ((oi : Int) + (b : Int)), .int .i64 (k : Int)] 40)).grownBy w' (Value.slice ca cl cc).ownBlock → w'.cell? ⟨w.heap.size + 1 + 1, 1, none⟩ = some (.slice ca cl cc) ∧ w'.cell? ⟨wo.heap.size, 1, none⟩ = some (.slice (some ⟨ib, io, none⟩) ins.length icp) ∧ w'.cell? ⟨ib, io + k, none⟩ = some (.int .i64 (x : Int)) ∧ w'.cell? ⟨w.heap.size + 1 + 1 + 1, x, none⟩ = some (.int .i64 (ox : Int)) ∧ w'.cell? ⟨w.heap.size + 1 + 1 + 1, i, none⟩ = some (.int .i64 (oi : Int)) ∧ w'.frozen? ⟨w.heap.size + 1 + 1, 1, none⟩ = false) := fun w' h => ⟨(by rw [(keepBox GM.out.px GM.out.oc (by decide) h).cellAt]; rfl), (by rw [(keepBox G1E.out GM.out.oc (by decide) h).cellAt]; rfl), HCI.out _ ((GM.out.bl.alloc GM.out.bl.size _).grown h (by have := GM.out.bl.size; simp; omega) (fun k e => GM.out.oc.at k e)), iN_at (keepBox GM.out.fx GM.out.oc (by decide) h) HFX.out, iN_at (keepBox GM.out.fx GM.out.oc (by decide) h) HFI.out, (keepBox GM.out.px GM.out.oc (by decide) h).free 1⟩
                          have hw1 : IntKind.i64.wrap ((ox : Int) + (a : Int)) = (ox : Int) + (a : Int) := by rw [IntKind.wrap_i64]; omega
                          have hw2 : IntKind.i64.wrap ((oi : Int) + (b : Int)) = (oi : Int) + (b : Int) := by rw [IntKind.wrap_i64]; omega
                          clear hr4 GR s1 hcl
                          as_aux_lemma =>
                          go_wp2_with fail
                          have B1 : Hid (Below (wr).heap.size (wr) (wr).drew) := (Below.refl _ _).drew
                          refine wp_region_M (S := fun w' => w'.cell? ⟨w.heap.size + 1 + 1, 1, none⟩ = some (.slice ca cl cc) ∧ w'.cell? ⟨wo.heap.size, 1, none⟩ = some (.slice (some ⟨ib, io, none⟩) ins.length icp) ∧ w'.cell? ⟨ib, io + k, none⟩ = some (.int .i64 (x : Int)) ∧ w'.cell? ⟨w.heap.size + 1 + 1 + 1, x, none⟩ = some (.int .i64 (ox : Int)) ∧ w'.cell? ⟨w.heap.size + 1 + 1 + 1, i, none⟩ = some (.int .i64 (oi : Int)) ∧ w'.frozen? ⟨w.heap.size + 1 + 1, 1, none⟩ = false) (late := [23]) (by kernel_rfl) (KC.out _ B1.out) (fun hHeld => ?_)
                          (try simp only [List.size_toArray, List.length_cons, List.length_nil, Nat.zero_add, Nat.reduceAdd, Array.replicate, List.replicate])
                          refine wpAnyM_take (i := 0) (oi := ⟨_, _, _, _, _, _⟩) (v := ?_) rfl (by kernel_rfl) (by kernel_rfl) (by kernel_rfl) (by kernel_rfl) (fun _ _ _ h => h) (Or.inl ⟨by rfl, ?_⟩) hHeld ?_
                          rotate_left
                          · (intro w' hSw; (try dsimp only at hSw); go_simp; try (with_reducible rfl))
                          (try simp only [Act.put, List.setIfInBounds_toArray, List.set_cons_zero, List.set_cons_succ])
                          refine wpAnyM_take (i := 1) (oi := ⟨_, _, _, _, _, _⟩) (v := ?_) rfl (by kernel_rfl) (by kernel_rfl) (by kernel_rfl) (by kernel_rfl) (fun _ _ _ h => h) (Or.inl ⟨by rfl, ?_⟩) hHeld ?_
                          rotate_left
                          · (intro w' hSw; (try dsimp only at hSw); go_simp; try (with_reducible rfl))
                          (try simp only [Act.put, List.setIfInBounds_toArray, List.set_cons_zero, List.set_cons_succ])
                          refine wpAnyM_take (i := 2) (oi := ⟨_, _, _, _, _, _⟩) (v := ?_) rfl (by kernel_rfl) (by kernel_rfl) (by kernel_rfl) (by kernel_rfl) (fun _ _ _ h => h) (Or.inl ⟨by rfl, ?_⟩) hHeld ?_
                          rotate_left
                          · (intro w' hSw; (try dsimp only at hSw); go_simp; try (with_reducible rfl))
                          (try simp only [Act.put, List.setIfInBounds_toArray, List.set_cons_zero, List.set_cons_succ])
                          refine wpAnyM_take (i := 3) (oi := ⟨_, _, _, _, _, _⟩) (v := ?_) rfl (by kernel_rfl) (by kernel_rfl) (by kernel_rfl) (by kernel_rfl) (fun _ _ _ h => h) (Or.inl ⟨by rfl, ?_⟩) hHeld ?_
                          rotate_left
                          · (intro w' hSw; (try dsimp only at hSw); go_simp; try (with_reducible rfl))
                          (try simp only [Act.put, List.setIfInBounds_toArray, List.set_cons_zero, List.set_cons_succ])
                          refine wpAnyM_take (i := 4) (oi := ⟨_, _, _, _, _, _⟩) (v := ?_) rfl (by kernel_rfl) (by kernel_rfl) (by kernel_rfl) (by kernel_rfl) (fun _ _ _ h => h) (Or.inl ⟨by rfl, ?_⟩) hHeld ?_
                          rotate_left
                          · (intro w' hSw; (try dsimp only at hSw); go_simp; try (with_reducible rfl))
                          (try simp only [Act.put, List.setIfInBounds_toArray, List.set_cons_zero, List.set_cons_succ])
                          refine wpAnyM_take (i := 5) (oi := ⟨_, _, _, _, _, _⟩) (v := ?_) rfl (by kernel_rfl) (by kernel_rfl) (by kernel_rfl) (by kernel_rfl) (fun _ _ _ h => h) (Or.inl ⟨by rfl, ?_⟩) hHeld ?_
                          rotate_left
                          · (intro w' hSw; (try dsimp only at hSw); go_simp; try (with_reducible rfl))
                          (try simp only [Act.put, List.setIfInBounds_toArray, List.set_cons_zero, List.set_cons_succ])
                          refine wpAnyM_take (i := 6) (oi := ⟨_, _, _, _, _, _⟩) (v := ?_) rfl (by kernel_rfl) (by kernel_rfl) (by kernel_rfl) (by kernel_rfl) (fun _ _ _ h => h) (Or.inl ⟨by rfl, ?_⟩) hHeld ?_
                          rotate_left
                          · (intro w' hSw; (try dsimp only at hSw); go_simp; try (with_reducible rfl))
                          (try simp only [Act.put, List.setIfInBounds_toArray, List.set_cons_zero, List.set_cons_succ])
                          refine wpAnyM_take (i := 7) (oi := ⟨_, _, _, _, _, _⟩) (v := ?_) rfl (by kernel_rfl) (by kernel_rfl) (by kernel_rfl) (by kernel_rfl) (fun _ _ _ h => h) (Or.inl ⟨by rfl, ?_⟩) hHeld ?_
                          rotate_left
                          · (intro w' hSw; (try dsimp only at hSw); go_simp; try (with_reducible rfl))
                          (try simp only [Act.put, List.setIfInBounds_toArray, List.set_cons_zero, List.set_cons_succ])
                          refine wpAnyM_take (i := 8) (oi := ⟨_, _, _, _, _, _⟩) (v := ?_) rfl (by kernel_rfl) (by kernel_rfl) (by kernel_rfl) (by kernel_rfl) (fun _ _ _ h => h) (Or.inl ⟨by rfl, ?_⟩) hHeld ?_
                          rotate_left
                          · (intro w' hSw; (try dsimp only at hSw); go_simp; try (with_reducible rfl))
                          (try simp only [Act.put, List.setIfInBounds_toArray, List.set_cons_zero, List.set_cons_succ])
                          refine wpAnyM_take (i := 9) (oi := ⟨_, _, _, _, _, _⟩) (v := ?_) rfl (by kernel_rfl) (by kernel_rfl) (by kernel_rfl) (by kernel_rfl) (fun _ _ _ h => h) (Or.inl ⟨by rfl, ?_⟩) hHeld ?_
                          rotate_left
                          · (intro w' hSw; (try dsimp only at hSw); go_simp; try (with_reducible rfl))
                          (try simp only [Act.put, List.setIfInBounds_toArray, List.set_cons_zero, List.set_cons_succ])
                          refine wpAnyM_take (i := 10) (oi := ⟨_, _, _, _, _, _⟩) (v := ?_) rfl (by kernel_rfl) (by kernel_rfl) (by kernel_rfl) (by kernel_rfl) (fun _ _ _ h => h) (Or.inl ⟨by rfl, ?_⟩) hHeld ?_
                          rotate_left
                          · (intro w' hSw; (try dsimp only at hSw); go_simp; try (with_reducible rfl))
                          (try simp only [Act.put, List.setIfInBounds_toArray, List.set_cons_zero, List.set_cons_succ])
                          refine wpAnyM_take (i := 11) (oi := ⟨_, _, _, _, _, _⟩) (v := ?_) rfl (by kernel_rfl) (by kernel_rfl) (by kernel_rfl) (by kernel_rfl) (fun _ _ _ h => h) (Or.inl ⟨by rfl, ?_⟩) hHeld ?_
                          rotate_left
                          · (intro w' hSw; (try dsimp only at hSw); go_simp; try (with_reducible rfl))
                          (try simp only [Act.put, List.setIfInBounds_toArray, List.set_cons_zero, List.set_cons_succ])
                          refine wpAnyM_take (i := 12) (oi := ⟨_, _, _, _, _, _⟩) (v := ?_) rfl (by kernel_rfl) (by kernel_rfl) (by kernel_rfl) (by kernel_rfl) (fun _ _ _ h => h) (Or.inl ⟨by rfl, ?_⟩) hHeld ?_
                          rotate_left
                          · (intro w' hSw; (try dsimp only at hSw); go_simp; try (with_reducible rfl))
                          (try simp only [Act.put, List.setIfInBounds_toArray, List.set_cons_zero, List.set_cons_succ])
                          refine wpAnyM_take (i := 13) (oi := ⟨_, _, _, _, _, _⟩) (v := ?_) rfl (by kernel_rfl) (by kernel_rfl) (by kernel_rfl) (by kernel_rfl) (fun _ _ _ h => h) (Or.inl ⟨by rfl, ?_⟩) hHeld ?_
                          rotate_left
                          · (intro w' hSw; (try dsimp only at hSw); go_simp; try (with_reducible rfl))
                          (try simp only [Act.put, List.setIfInBounds_toArray, List.set_cons_zero, List.set_cons_succ])
                          refine wpAnyM_take (i := 14) (oi := ⟨_, _, _, _, _, _⟩) (v := ?_) rfl (by kernel_rfl) (by kernel_rfl) (by kernel_rfl) (by kernel_rfl) (fun _ _ _ h => h) (Or.inl ⟨by rfl, ?_⟩) hHeld ?_
                          rotate_left
                          · (intro w' hSw; (try dsimp only at hSw); go_simp; try (with_reducible rfl))
                          (try simp only [Act.put, List.setIfInBounds_toArray, List.set_cons_zero, List.set_cons_succ])
                          refine wpAnyM_take (i := 15) (oi := ⟨_, _, _, _, _, _⟩) (v := ?_) rfl (by kernel_rfl) (by kernel_rfl) (by kernel_rfl) (by kernel_rfl) (fun _ _ _ h => h) (Or.inl ⟨by rfl, ?_⟩) hHeld ?_
                          rotate_left
                          · (intro w' hSw; (try dsimp only at hSw); go_simp; try (with_reducible rfl))
                          (try simp only [Act.put, List.setIfInBounds_toArray, List.set_cons_zero, List.set_cons_succ])
                          refine wpAnyM_take (i := 16) (oi := ⟨_, _, _, _, _, _⟩) (v := ?_) rfl (by kernel_rfl) (by kernel_rfl) (by kernel_rfl) (by kernel_rfl) (fun _ _ _ h => h) (Or.inl ⟨by rfl, ?_⟩) hHeld ?_
                          rotate_left
                          · (intro w' hSw; (try dsimp only at hSw); go_simp; try (with_reducible rfl))
                          (try simp only [Act.put, List.setIfInBounds_toArray, List.set_cons_zero, List.set_cons_succ])
                          refine wpAnyM_take (i := 17) (oi := ⟨_, _, _, _, _, _⟩) (v := ?_) rfl (by kernel_rfl) (by kernel_rfl) (by kernel_rfl) (by kernel_rfl) (fun _ _ _ h => h) (Or.inl ⟨by rfl, ?_⟩) hHeld ?_
                          rotate_left
                          · (intro w' hSw; (try dsimp only at hSw); go_simp; try (with_reducible rfl))
                          (try simp only [Act.put, List.setIfInBounds_toArray, List.set_cons_zero, List.set_cons_succ])
                          refine wpAnyM_take (i := 18) (oi := ⟨_, _, _, _, _, _⟩) (v := ?_) rfl (by kernel_rfl) (by kernel_rfl) (by kernel_rfl) (by kernel_rfl) (fun _ _ _ h => h) (Or.inl ⟨by rfl, ?_⟩) hHeld ?_
                          rotate_left
                          · (intro w' hSw; (try dsimp only at hSw); go_simp; try (with_reducible rfl))
                          (try simp only [Act.put, List.setIfInBounds_toArray, List.set_cons_zero, List.set_cons_succ])
                          refine wpAnyM_take (i := 19) (oi := ⟨_, _, _, _, _, _⟩) (v := ?_) rfl (by kernel_rfl) (by kernel_rfl) (by kernel_rfl) (by kernel_rfl) (fun _ _ _ h => h) (Or.inl ⟨by rfl, ?_⟩) hHeld ?_
                          rotate_left
                          · (intro w' hSw; (try dsimp only at hSw); go_simp; try (with_reducible rfl))
                          (try simp only [Act.put, List.setIfInBounds_toArray, List.set_cons_zero, List.set_cons_succ])
                          refine wpAnyM_one (i := 20) (o := ⟨_, _, _, _, _, _⟩) (by kernel_rfl) rfl (fun K hK => ?_)
                          go_simp
                          have BA : Below wr.heap.size wr (wr.alloc (.cells #[.int .i64 ((ox : Int) + (a : Int)), .int .i64 ((oi : Int) + (b : Int)), .int .i64 (k : Int)] 40)).drew := ((Below.refl _ _).alloc (Nat.le_refl _) _).drew
                          refine hK.out _ _ (KC.out _ BA) (fun hHeld => ?_)
                          clear hK K BA
                          (try simp only [List.setIfInBounds_toArray, List.set_cons_zero, List.set_cons_succ])
                          refine wpAnyM_one (i := 21) (o := ⟨_, _, _, _, _, _⟩) (by kernel_rfl) rfl (fun K hK => ?_)
                          refine step_L Try.info40' (by kernel_rfl) rfl (by omega) (by omega) Cn.cs_len Cn.cs_one rfl _ _ rfl w.heap.size (.slice ca cl cc) cur rfl (GM.out.oc.alloc _).drew ⟨wr.heap.size, 0, none⟩ 1 ⟨(ox : Int) + (a : Int), (oi : Int) + (b : Int), (k : Int)⟩ rfl HNW.out HLL.out HBS.out ?_
                          intro v4 w4 h4 q4 n4
                          obtain ⟨ca4, cc4, hv4⟩ := h4.shape
                          obtain ⟨l4, hl4⟩ : ∃ l, (cur ++ [(⟨(ox : Int) + (a : Int), (oi : Int) + (b : Int), (k : Int)⟩ : Cn)]).length = l := ⟨_, rfl⟩
                          rw [hl4] at hv4
                          subst hv4
                          clear hl4
                          have q5 : (wr.alloc (.cells #[.int .i64 ((ox : Int) + (a : Int)), .int .i64 ((oi : Int) + (b : Int)), .int .i64 (k : Int)] 40)).grownBy w4 (Value.slice ca cl cc).ownBlock := ⟨q4.os, q4.tape, q4.output, q4.size, q4.block⟩
                          clear q4
                          refine hK.out _ _ (KG.out _ q5) (fun hHeld => ?_)
                          clear hK K
                          (try simp only [Act.put, List.setIfInBounds_toArray, List.set_cons_zero, List.set_cons_succ])
                          refine wpAnyM_take (i := 22) (oi := ⟨_, _, _, _, _, _⟩) (v := ?_) rfl (by kernel_rfl) (by kernel_rfl) (by kernel_rfl) (by kernel_rfl) (fun _ _ _ h => h) (Or.inl ⟨by rfl, ?_⟩) hHeld ?_
                          rotate_left
                          · (intro w' hSw; (try dsimp only at hSw); go_simp; try (with_reducible rfl))
                          (try simp only [Act.put, List.setIfInBounds_toArray, List.set_cons_zero, List.set_cons_succ])
                          refine wpAnyM_last (i := 23) (o := ⟨_, _, _, _, _, _⟩) (by kernel_rfl) (by rfl) rfl (fun K hK => ?_)
                          obtain ⟨hq1, hq2, hq3, hq4, hq5, hq6⟩ := hHeld
                          go_simp
                          refine hK.out _ _ ?_
                          clear hK K
                          (try simp only [List.setIfInBounds_toArray, List.set_cons_zero, List.set_cons_succ])
                          refine wpAnyM_done (by kernel_rfl) ?_ _
                          go_wp2_with fail
                          go_roundg g4
                          case rel =>
                            have kp := keepBox GM.out.px GM.out.oc (by decide) q5
                            have k1 := keepBox G1.out GM.out.oc (by decide) q5
                            have k2 := keepBox G2.out GM.out.oc (by decide) q5
                            exact ⟨b + 1, _, _, by go_num, by omega, by omega, GM.out.chan h4 q5, k1.other _ _ (k1.ne kp (by decide)), k2.other _ _ (k2.ne kp (by decide)), GR4⟩
                          case measure => omega
                        · have bb : ¬ (b : Int) < (pp : Int) := by omega
                          have GR5 : Hid (cur ++ (((List.range px).drop (a + 1)).flatMap (fun a => ((List.range pp).filter fun b => true || decide (a = b)).map fun b => (⟨((ox + a : Nat) : Int), ((oi + b : Nat) : Int), (k : Int)⟩ : Cn)) ++ X2) = R) := (show _ = R by
                            have := GR.out
                            rw [List.drop_eq_nil_of_le (by rw [List.length_range]; omega)] at this
                            rw [HX3.out]
                            exact this)
                          go_wp2_with fail
                          go_roundg g3
                          case rel => exact ⟨a + 1, cv, cur, by go_num, by omega, by omega, GM, G1, G2, GR5⟩
                          case measure => omega
                    · have ba : ¬ (a : Int) < (px : Int) := by omega
                      have GR5 : Hid (cur ++ (chI ns i (k + 1) (ins.drop (k + 1)) ++ X1) = R) := (show _ = R by
                        have := GR.out
                        rw [List.drop_eq_nil_of_le (by rw [List.length_range]; omega)] at this
                        rw [HX2.out]
                        exact this)
                      go_wp2_with fail
                      go_roundg g2
                      case rel => exact ⟨k + 1, cv, cur, by go_num, by omega, by omega, GM, G1, GR5⟩
                      case measure => omega
              | false =>
                rw [hky] at HKY hfd
                clear hky
                by_cases hpe : px = pp
                · have gp : ((px : Int) != (pp : Int)) = false := by simp [hpe]
                  have gp2 : (px != pp) = false := by simp [hpe]
                  have hAL : fdAll ns (x : Int) (i : Int) = false := by rw [hfd]; simp [hpe]
                  clear hfd hpe
                  have GR2 : Hid (cur ++ (((List.range px).flatMap fun a => ((List.range pp).filter fun b => false || decide (a = b)).map fun b => (⟨((ox + a : Nat) : Int), ((oi + b : Nat) : Int), (k : Int)⟩ : Cn)) ++ X2) = R) := (show _ = R by rw [← GRX.out, HCHX.out, hAL])
                  clear hAL GRX HCHX
                  as_aux_lemma =>
                  go_wp2_with fail
                  go_region
                  all_goals
                    go_wp2_with (go_at_call 19; refine HKY.out.mono ?_; rintro e wK ⟨rfl, bK⟩
                                 obtain ⟨-, -, u2, -⟩ := (G1X.out.below bK).cells10
                                 obtain ⟨-, -, t2, -⟩ := (G2X.out.below bK).cells10)
                    go_loopg [12] (px + 1) (fun g iv wr => ∃ (a : Nat) (cv : Value) (cur : List Cn), iv = .int .i64 (a : Int) ∧ a ≤ px ∧ px + 1 ≤ g + a ∧ Hid (MS w wr (.slice (some ⟨nb, no, none⟩) ns.length ncp) (.slice ta tl tc) cv (tksOf 0 ns) cur fs) ∧ Hid (BoxT 54 wr wo.heap.size CS1) ∧ Hid (BoxT 54 wr wp.heap.size CS2) ∧ Hid (cur ++ (((List.range px).drop a).flatMap (fun a => ((List.range pp).filter fun b => false || decide (a = b)).map fun b => (⟨((ox + a : Nat) : Int), ((oi + b : Nat) : Int), (k : Int)⟩ : Cn)) ++ X2) = R))
                    case atStart => exact ⟨0, cv, cur, rfl, by omega, by omega, GM18.out.below bK, G118.out.below bK, G218.out.below bK, (show _ = R by simpa using GR2.out)⟩
                    case round =>
                      clear GM GR2 G1 GM18 G118 G218 bK
                      obtain ⟨a, cv, cur, rfl, ha, hga, GM, G1, G2, GR⟩ := hrel
                      obtain ⟨g3, rfl⟩ : ∃ go, gk = go + 1 := ⟨gk - 1, by omega⟩
                      have G2E := G2
                      rw [← HC2.out] at G2E
                      obtain ⟨-, -, q2, -⟩ := G2E.out.cells10
                      by_cases hal : a < px
                      · have ba : (a : Int) < (px : Int) := by omega
                        have hr3 := GR.out
                        rw [drop_of (range_get hal), List.flatMap_cons, List.append_assoc] at hr3
                        obtain ⟨X3, hX3⟩ : ∃ X, ((List.range px).drop (a + 1)).flatMap (fun a => ((List.range pp).filter fun b => false || decide (a = b)).map fun b => (⟨((ox + a : Nat) : Int), ((oi + b : Nat) : Int), (k : Int)⟩ : Cn)) ++ X2 = X := ⟨_, rfl⟩
                        rw [hX3] at hr3
                        have GR3 := hide hr3
                        have HX3 := hide hX3
                        clear hr3 hX3 GR G2E
                        go_wp2_with fail
                        go_loopg [13] (pp + 1) (fun g iv wr => ∃ (b : Nat) (cv : Value) (cur : List Cn), iv = .int .i64 (b : Int) ∧ b ≤ pp ∧ pp + 1 ≤ g + b ∧ Hid (MS w wr (.slice (some ⟨nb, no, none⟩) ns.length ncp) (.slice ta tl tc) cv (tksOf 0 ns) cur fs) ∧ Hid (BoxT 54 wr wo.heap.size CS1) ∧ Hid (BoxT 54 wr wp.heap.size CS2) ∧ Hid (cur ++ ((((List.range pp).drop b).filter fun b => false || decide (a = b)).map (fun b => (⟨((ox + a : Nat) : Int), ((oi + b : Nat) : Int), (k : Int)⟩ : Cn)) ++ X3) = R))
                        case atStart => exact ⟨0, cv, cur, rfl, by omega, by omega, GM, G1, G2, (show _ = R by simpa using GR3.out)⟩
                        case round =>
                          clear GM G1 G2 GR3 q2
                          obtain ⟨b, cv, cur, rfl, hb, hgb, GM, G1, G2, GR⟩ := hrel
                          obtain ⟨g4, rfl⟩ : ∃ go, gk = go + 1 := ⟨gk - 1, by omega⟩
                          have G1E := G1
                          rw [← HC1.out] at G1E
                          obtain ⟨-, s1, s2, -⟩ := G1E.out.cells10
                          by_cases hbl : b < pp
                          · have bb : (b : Int) < (pp : Int) := by omega
                            have hr4 := GR.out
                            rw [drop_of (range_get hbl)] at hr4
                            by_cases hab : a = b
                            · have gab : ((a : Int) == (b : Int)) = true := by simp [hab]
                              have gab2 : (a == b) = true := by simp [hab]
                              have GR4 : Hid ((cur ++ [(⟨(ox : Int) + (a : Int), (oi : Int) + (b : Int), (k : Int)⟩ : Cn)]) ++ ((((List.range pp).drop (b + 1)).filter fun b => false || decide (a = b)).map (fun b => (⟨((ox + a : Nat) : Int), ((oi + b : Nat) : Int), (k : Int)⟩ : Cn)) ++ X3) = R) := (show _ = R by rw [← hr4, List.filter_cons, if_pos (by simp [hab]), List.map_cons]; simp)
                              have HLL : Hid (cur.length ≤ 1000000) := (show _ ≤ _ by
                                have h1 := HR.out
                                rw [← GR.out, List.length_append] at h1
                                omega)
                              obtain ⟨ca, cc, hcv⟩ := GM.out.oc.shape
                              obtain ⟨cl, hcl⟩ : ∃ l, cur.length = l := ⟨_, rfl⟩
                              rw [hcl] at hcv
                              subst hcv
                              have HNW : Hid (∀ (j : Nat) (u : Value), (Cn.cs ⟨(ox : Int) + (a : Int), (oi : Int) + (b : Int), (k : Int)⟩)[j]? = some u → (wr.alloc (.cells #[.int .i64 ((ox : Int) + (a : Int)), .int .i64 ((oi : Int) + (b : Int)), .int .i64 (k : Int)] 40)).drew.cell? ((⟨wr.heap.size, 0, none⟩ : Addr).add j) = some u) := fun j u hu => by
                                have hbn : BoxT 40 (wr.alloc (.cells #[.int .i64 ((ox : Int) + (a : Int)), .int .i64 ((oi : Int) + (b : Int)), .int .i64 (k : Int)] 40)).drew wr.heap.size _ := (BoxT.new 40 wr _).drew
                                rw [add_plain2, hbn.cellAt, Nat.zero_add]
                                simpa [Cn.cs] using hu
                              have HBS : Hid (w.heap.size ≤ (wr.alloc (.cells #[.int .i64 ((ox : Int) + (a : Int)), .int .i64 ((oi : Int) + (b : Int)), .int .i64 (k : Int)] 40)).drew.heap.size) := (show _ ≤ _ by have := GM.out.bl.size; simp; omega)
                              have KC : Hid (∀ w' : World, Below wr.heap.size wr w' → w'.cell? ⟨w.heap.size + 1 + 1, 1, none⟩ = some (.slice ca cl cc) ∧ w'.cell? ⟨wo.heap.size, 1, none⟩ = some (.slice (some ⟨ib, io, none⟩) ins.length icp) ∧ w'.cell? ⟨ib, io + k, none⟩ = some (.int .i64 (x : Int)) ∧ w'.cell? ⟨w.heap.size + 1 + 1 + 1, x, none⟩ = some (.int .i64 (ox : Int)) ∧ w'.cell? ⟨w.heap.size + 1 + 1 + 1, i, none⟩ = some (.int .i64 (oi : Int)) ∧ w'.frozen? ⟨w.heap.size + 1 + 1, 1, none⟩ = false) := fun w' h => ⟨(by rw [(GM.out.px.below h).cellAt]; rfl), (by rw [(G1E.out.below h).cellAt]; rfl), HCI.out _ (GM.out.bl.trans (h.mono GM.out.bl.size)), iN_at (GM.out.fx.below h) HFX.out, iN_at (GM.out.fx.below h) HFI.out, (GM.out.px.below h).free 1⟩
                              have KG : Hid (∀ w' : World, (wr.alloc (.cells #[.int .i64 ((ox : Int) + (a : Int)), .int .i64 ((oi : Int) + (b : Int)), .int .i64 (k : Int)] 40)).grownBy w' (Value.slice ca cl cc).ownBlock → w'.cell? ⟨w.heap.size + 1 + 1, 1, none⟩ = some (.slice ca cl cc) ∧ w'.cell? ⟨wo.heap.size, 1, none⟩ = some (.slice (some ⟨ib, io, none⟩) ins.length icp) ∧ w'.cell? ⟨ib, io + k, none⟩ = some (.int .i64 (x : Int)) ∧ w'.cell? ⟨w.heap.size + 1 + 1 + 1, x, none⟩ = some (.int .i64 (ox : Int)) ∧ w'.cell? ⟨w.heap.size + 1 + 1 + 1, i, none⟩ = some (.int .i64 (oi : Int)) ∧ w'.frozen? ⟨w.heap.size + 1 + 1, 1, none⟩ = false) := fun w' h => ⟨(by rw [(keepBox GM.out.px GM.out.oc (by decide) h).cellAt]; rfl), (by rw [(keepBox G1E.out GM.out.oc (by decide) h).cellAt]; rfl), HCI.out _ ((GM.out.bl.alloc GM.out.bl.size _).grown h (by have := GM.out.bl.size; simp; omega) (fun k e => GM.out.oc.at k e)), iN_at (keepBox GM.out.fx GM.out.oc (by decide) h) HFX.out, iN_at (keepBox GM.out.fx GM.out.oc (by decide) h) HFI.out, (keepBox GM.out.px GM.out.oc (by decide) h).free 1⟩
                              have hw1 : IntKind.i64.wrap ((ox : Int) + (a : Int)) = (ox : Int) + (a : Int) := by rw [IntKind.wrap_i64]; omega
                              have hw2 : IntKind.i64.wrap ((oi : Int) + (b : Int)) = (oi : Int) + (b : Int) := by rw [IntKind.wrap_i64]; omega
                              clear hr4 GR s1 hcl hab
                              as_aux_lemma =>
                              go_wp2_with fail
                              have B1 : Hid (Below (wr).heap.size (wr) (wr).drew) := (Below.refl _ _).drew
                              refine wp_region_M (S := fun w' => w'.cell? ⟨w.heap.size + 1 + 1, 1, none⟩ = some (.slice ca cl cc) ∧ w'.cell? ⟨wo.heap.size, 1, none⟩ = some (.slice (some ⟨ib, io, none⟩) ins.length icp) ∧ w'.cell? ⟨ib, io + k, none⟩ = some (.int .i64 (x : Int)) ∧ w'.cell? ⟨w.heap.size + 1 + 1 + 1, x, none⟩ = some (.int .i64 (ox : Int)) ∧ w'.cell? ⟨w.heap.size + 1 + 1 + 1, i, none⟩ = some (.int .i64 (oi : Int)) ∧ w'.frozen? ⟨w.heap.size + 1 + 1, 1, none⟩ = false) (late := [23]) (by kernel_rfl) (KC.out _ B1.out) (fun hHeld => ?_)
                              (try simp only [List.size_toArray, List.length_cons, List.length_nil, Nat.zero_add, Nat.reduceAdd, Array.replicate, List.replicate])
                              refine wpAnyM_take (i := 0) (oi := ⟨_, _, _, _, _, _⟩) (v := ?_) rfl (by kernel_rfl) (by kernel_rfl) (by kernel_rfl) (by kernel_rfl) (fun _ _ _ h => h) (Or.inl ⟨by rfl, ?_⟩) hHeld ?_
                              rotate_left
                              · (intro w' hSw; (try dsimp only at hSw); go_simp; try (with_reducible rfl))
                              (try simp only [Act.put, List.setIfInBounds_toArray, List.set_cons_zero, List.set_cons_succ])
                              refine wpAnyM_take (i := 1) (oi := ⟨_, _, _, _, _, _⟩) (v := ?_) rfl (by kernel_rfl) (by kernel_rfl) (by kernel_rfl) (by kernel_rfl) (fun _ _ _ h => h) (Or.inl ⟨by rfl, ?_⟩) hHeld ?_
                              rotate_left
                              · (intro w' hSw; (try dsimp only at hSw); go_simp; try (with_reducible rfl))
                              (try simp only [Act.put, List.setIfInBounds_toArray, List.set_cons_zero, List.set_cons_succ])
                              refine wpAnyM_take (i := 2) (oi := ⟨_, _, _, _, _, _⟩) (v := ?_) rfl (by kernel_rfl) (by kernel_rfl) (by kernel_rfl) (by kernel_rfl) (fun _ _ _ h => h) (Or.inl ⟨by rfl, ?_⟩) hHeld ?_
                              rotate_left
                              · (intro w' hSw; (try dsimp only at hSw); go_simp; try (with_reducible rfl))
                              (try simp only [Act.put, List.setIfInBounds_toArray, List.set_cons_zero, List.set_cons_succ])
                              refine wpAnyM_take (i := 3) (oi := ⟨_, _, _, _, _, _⟩) (v := ?_) rfl (by kernel_rfl) (by kernel_rfl) (by kernel_rfl) (by kernel_rfl) (fun _ _ _ h => h) (Or.inl ⟨by rfl, ?_⟩) hHeld ?_
                              rotate_left
                              · (intro w' hSw; (try dsimp only at hSw); go_simp; try (with_reducible rfl))
                              (try simp only [Act.put, List.setIfInBounds_toArray, List.set_cons_zero, List.set_cons_succ])
                              refine wpAnyM_take (i := 4) (oi := ⟨_, _, _, _, _, _⟩) (v := ?_) rfl (by kernel_rfl) (by kernel_rfl) (by kernel_rfl) (by kernel_rfl) (fun _ _ _ h => h) (Or.inl ⟨by rfl, ?_⟩) hHeld ?_
                              rotate_left
                              · (intro w' hSw; (try dsimp only at hSw); go_simp; try (with_reducible rfl))
                              (try simp only [Act.put, List.setIfInBounds_toArray, List.set_cons_zero, List.set_cons_succ])
                              refine wpAnyM_take (i := 5) (oi := ⟨_, _, _, _, _, _⟩) (v := ?_) rfl (by kernel_rfl) (by kernel_rfl) (by kernel_rfl) (by kernel_rfl) (fun _ _ _ h => h) (Or.inl ⟨by rfl, ?_⟩) hHeld ?_
                              rotate_left
                              · (intro w' hSw; (try dsimp only at hSw); go_simp; try (with_reducible rfl))
                              (try simp only [Act.put, List.setIfInBounds_toArray, List.set_cons_zero, List.set_cons_succ])
                              refine wpAnyM_take (i := 6) (oi := ⟨_, _, _, _, _, _⟩) (v := ?_) rfl (by kernel_rfl) (by kernel_rfl) (by kernel_rfl) (by kernel_rfl) (fun _ _ _ h => h) (Or.inl ⟨by rfl, ?_⟩) hHeld ?_
                              rotate_left
                              · (intro w' hSw; (try dsimp only at hSw); go_simp; try (with_reducible rfl))
                              (try simp only [Act.put, List.setIfInBounds_toArray, List.set_cons_zero, List.set_cons_succ])
                              refine wpAnyM_take (i := 7) (oi := ⟨_, _, _, _, _, _⟩) (v := ?_) rfl (by kernel_rfl) (by kernel_rfl) (by kernel_rfl) (by kernel_rfl) (fun _ _ _ h => h) (Or.inl ⟨by rfl, ?_⟩) hHeld ?_
                              rotate_left
                              · (intro w' hSw; (try dsimp only at hSw); go_simp; try (with_reducible rfl))
                              (try simp only [Act.put, List.setIfInBounds_toArray, List.set_cons_zero, List.set_cons_succ])
                              refine wpAnyM_take (i := 8) (oi := ⟨_, _, _, _, _, _⟩) (v := ?_) rfl (by kernel_rfl) (by kernel_rfl) (by kernel_rfl) (by kernel_rfl) (fun _ _ _ h => h) (Or.inl ⟨by rfl, ?_⟩) hHeld ?_
                              rotate_left
                              · (intro w' hSw; (try dsimp only at hSw); go_simp; try (with_reducible rfl))
                              (try simp only [Act.put, List.setIfInBounds_toArray, List.set_cons_zero, List.set_cons_succ])
                              refine wpAnyM_take (i := 9) (oi := ⟨_, _, _, _, _, _⟩) (v := ?_) rfl (by kernel_rfl) (by kernel_rfl) (by kernel_rfl) (by kernel_rfl) (fun _ _ _ h => h) (Or.inl ⟨by rfl, ?_⟩) hHeld ?_
                              rotate_left
                              · (intro w' hSw; (try dsimp only at hSw); go_simp; try (with_reducible rfl))
                              (try simp only [Act.put, List.setIfInBounds_toArray, List.set_cons_zero, List.set_cons_succ])
                              refine wpAnyM_take (i := 10) (oi := ⟨_, _, _, _, _, _⟩) (v := ?_) rfl (by kernel_rfl) (by kernel_rfl) (by kernel_rfl) (by kernel_rfl) (fun _ _ _ h => h) (Or.inl ⟨by rfl, ?_⟩) hHeld ?_
                              rotate_left
                              · (intro w' hSw; (try dsimp only at hSw); go_simp; try (with_reducible rfl))
                              (try simp only [Act.put, List.setIfInBounds_toArray, List.set_cons_zero, List.set_cons_succ])
                              refine wpAnyM_take (i := 11) (oi := ⟨_, _, _, _, _, _⟩) (v := ?_) rfl (by kernel_rfl) (by kernel_rfl) (by kernel_rfl) (by kernel_rfl) (fun _ _ _ h => h) (Or.inl ⟨by rfl, ?_⟩) hHeld ?_
                              rotate_left
                              · (intro w' hSw; (try dsimp only at hSw); go_simp; try (with_reducible rfl))
                              (try simp only [Act.put, List.setIfInBounds_toArray, List.set_cons_zero, List.set_cons_succ])
                              refine wpAnyM_take (i := 12) (oi := ⟨_, _, _, _, _, _⟩) (v := ?_) rfl (by kernel_rfl) (by kernel_rfl) (by kernel_rfl) (by kernel_rfl) (fun _ _ _ h => h) (Or.inl ⟨by rfl, ?_⟩) hHeld ?_
                              rotate_left
                              · (intro w' hSw; (try dsimp only at hSw); go_simp; try (with_reducible rfl))
                              (try simp only [Act.put, List.setIfInBounds_toArray, List.set_cons_zero, List.set_cons_succ])
                              refine wpAnyM_take (i := 13) (oi := ⟨_, _, _, _, _, _⟩) (v := ?_) rfl (by kernel_rfl) (by kernel_rfl) (by kernel_rfl) (by kernel_rfl) (fun _ _ _ h => h) (Or.inl ⟨by rfl, ?_⟩) hHeld ?_
                              rotate_left
                              · (intro w' hSw; (try dsimp only at hSw); go_simp; try (with_reducible rfl))
                              (try simp only [Act.put, List.setIfInBounds_toArray, List.set_cons_zero, List.set_cons_succ])
                              refine wpAnyM_take (i := 14) (oi := ⟨_, _, _, _, _, _⟩) (v := ?_) rfl (by kernel_rfl) (by kernel_rfl) (by kernel_rfl) (by kernel_rfl) (fun _ _ _ h => h) (Or.inl ⟨by rfl, ?_⟩) hHeld ?_
                              rotate_left
                              · (intro w' hSw; (try dsimp only at hSw); go_simp; try (with_reducible rfl))
                              (try simp only [Act.put, List.setIfInBounds_toArray, List.set_cons_zero, List.set_cons_succ])
                              refine wpAnyM_take (i := 15) (oi := ⟨_, _, _, _, _, _⟩) (v := ?_) rfl (by kernel_rfl) (by kernel_rfl) (by kernel_rfl) (by kernel_rfl) (fun _ _ _ h => h) (Or.inl ⟨by rfl, ?_⟩) hHeld ?_
                              rotate_left
                              · (intro w' hSw; (try dsimp only at hSw); go_simp; try (with_reducible rfl))
                              (try simp only [Act.put, List.setIfInBounds_toArray, List.set_cons_zero, List.set_cons_succ])
                              refine wpAnyM_take (i := 16) (oi := ⟨_, _, _, _, _, _⟩) (v := ?_) rfl (by kernel_rfl) (by kernel_rfl) (by kernel_rfl) (by kernel_rfl) (fun _ _ _ h => h) (Or.inl ⟨by rfl, ?_⟩) hHeld ?_
                              rotate_left
                              · (intro w' hSw; (try dsimp only at hSw); go_simp; try (with_reducible rfl))
                              (try simp only [Act.put, List.setIfInBounds_toArray, List.set_cons_zero, List.set_cons_succ])
                              refine wpAnyM_take (i := 17) (oi := ⟨_, _, _, _, _, _⟩) (v := ?_) rfl (by kernel_rfl) (by kernel_rfl) (by kernel_rfl) (by kernel_rfl) (fun _ _ _ h => h) (Or.inl ⟨by rfl, ?_⟩) hHeld ?_
                              rotate_left
                              · (intro w' hSw; (try dsimp only at hSw); go_simp; try (with_reducible rfl))
                              (try simp only [Act.put, List.setIfInBounds_toArray, List.set_cons_zero, List.set_cons_succ])
                              refine wpAnyM_take (i := 18) (oi := ⟨_, _, _, _, _, _⟩) (v := ?_) rfl (by kernel_rfl) (by kernel_rfl) (by kernel_rfl) (by kernel_rfl) (fun _ _ _ h => h) (Or.inl ⟨by rfl, ?_⟩) hHeld ?_
                              rotate_left
                              · (intro w' hSw; (try dsimp only at hSw); go_simp; try (with_reducible rfl))
                              (try simp only [Act.put, List.setIfInBounds_toArray, List.set_cons_zero, List.set_cons_succ])
                              refine wpAnyM_take (i := 19) (oi := ⟨_, _, _, _, _, _⟩) (v := ?_) rfl (by kernel_rfl) (by kernel_rfl) (by kernel_rfl) (by kernel_rfl) (fun _ _ _ h => h) (Or.inl ⟨by rfl, ?_⟩) hHeld ?_
                              rotate_left
                              · (intro w' hSw; (try dsimp only at hSw); go_simp; try (with_reducible rfl))
                              (try simp only [Act.put, List.setIfInBounds_toArray, List.set_cons_zero, List.set_cons_succ])
                              refine wpAnyM_one (i := 20) (o := ⟨_, _, _, _, _, _⟩) (by kernel_rfl) rfl (fun K hK => ?_)
                              go_simp
                              have BA : Below wr.heap.size wr (wr.alloc (.cells #[.int .i64 ((ox : Int) + (a : Int)), .int .i64 ((oi : Int) + (b : Int)), .int .i64 (k : Int)] 40)).drew := ((Below.refl _ _).alloc (Nat.le_refl _) _).drew
                              refine hK.out _ _ (KC.out _ BA) (fun hHeld => ?_)
                              clear hK K BA
                              (try simp only [List.setIfInBounds_toArray, List.set_cons_zero, List.set_cons_succ])
                              refine wpAnyM_one (i := 21) (o := ⟨_, _, _, _, _, _⟩) (by kernel_rfl) rfl (fun K hK => ?_)
                              refine step_L Try.info40' (by kernel_rfl) rfl (by omega) (by omega) Cn.cs_len Cn.cs_one rfl _ _ rfl w.heap.size (.slice ca cl cc) cur rfl (GM.out.oc.alloc _).drew ⟨wr.heap.size, 0, none⟩ 1 ⟨(ox : Int) + (a : Int), (oi : Int) + (b : Int), (k : Int)⟩ rfl HNW.out HLL.out HBS.out ?_
                              intro v4 w4 h4 q4 n4
                              obtain ⟨ca4, cc4, hv4⟩ := h4.shape
                              obtain ⟨l4, hl4⟩ : ∃ l, (cur ++ [(⟨(ox : Int) + (a : Int), (oi : Int) + (b : Int), (k : Int)⟩ : Cn)]).length = l := ⟨_, rfl⟩
                              rw [hl4] at hv4
                              subst hv4
                              clear hl4
                              have q5 : (wr.alloc (.cells #[.int .i64 ((ox : Int) + (a : Int)), .int .i64 ((oi : Int) + (b : Int)), .int .i64 (k : Int)] 40)).grownBy w4 (Value.slice ca cl cc).ownBlock := ⟨q4.os, q4.tape, q4.output, q4.size, q4.block⟩
                              clear q4
                              refine hK.out _ _ (KG.out _ q5) (fun hHeld => ?_)
                              clear hK K
                              (try simp only [Act.put, List.setIfInBounds_toArray, List.set_cons_zero, List.set_cons_succ])
                              refine wpAnyM_take (i := 22) (oi := ⟨_, _, _, _, _, _⟩) (v := ?_) rfl (by kernel_rfl) (by kernel_rfl) (by kernel_rfl) (by kernel_rfl) (fun _ _ _ h => h) (Or.inl ⟨by rfl, ?_⟩) hHeld ?_
                              rotate_left
                              · (intro w' hSw; (try dsimp only at hSw); go_simp; try (with_reducible rfl))
                              (try simp only [Act.put, List.setIfInBounds_toArray, List.set_cons_zero, List.set_cons_succ])
                              refine wpAnyM_last (i := 23) (o := ⟨_, _, _, _, _, _⟩) (by kernel_rfl) (by rfl) rfl (fun K hK => ?_)
                              obtain ⟨hq1, hq2, hq3, hq4, hq5, hq6⟩ := hHeld
                              go_simp
                              refine hK.out _ _ ?_
                              clear hK K
                              (try simp only [List.setIfInBounds_toArray, List.set_cons_zero, List.set_cons_succ])
                              refine wpAnyM_done (by kernel_rfl) ?_ _
                              go_wp2_with fail
                              go_roundg g4
                              case rel =>
                                have kp := keepBox GM.out.px GM.out.oc (by decide) q5
                                have k1 := keepBox G1.out GM.out.oc (by decide) q5
                                have k2 := keepBox G2.out GM.out.oc (by decide) q5
                                exact ⟨b + 1, _, _, by go_num, by omega, by omega, GM.out.chan h4 q5, k1.other _ _ (k1.ne kp (by decide)), k2.other _ _ (k2.ne kp (by decide)), GR4⟩
                              case measure => omega
                            · have gab : ((a : Int) == (b : Int)) = false := by simp; omega
                              have gab2 : (a == b) = false := by simp [hab]
                              have GR4 : Hid (cur ++ ((((List.range pp).drop (b + 1)).filter fun b => false || decide (a = b)).map (fun b => (⟨((ox + a : Nat) : Int), ((oi + b : Nat) : Int), (k : Int)⟩ : Cn)) ++ X3) = R) := (show _ = R by rw [← hr4, List.filter_cons, if_neg (by simp [hab])])
                              clear hr4 GR s1 hab
                              go_wp2_with fail
                              go_roundg g4
                              case rel => exact ⟨b + 1, cv, cur, by go_num, by omega, by omega, GM, G1, G2, GR4⟩
                              case measure => omega
                          · have bb : ¬ (b : Int) < (pp : Int) := by omega
                            have GR5 : Hid (cur ++ (((List.range px).drop (a + 1)).flatMap (fun a => ((List.range pp).filter fun b => false || decide (a = b)).map fun b => (⟨((ox + a : Nat) : Int), ((oi + b : Nat) : Int), (k : Int)⟩ : Cn)) ++ X2) = R) := (show _ = R by
                              have := GR.out
                              rw [List.drop_eq_nil_of_le (by rw [List.length_range]; omega)] at this
                              rw [HX3.out]
                              exact this)
                            go_wp2_with fail
                            go_roundg g3
                            case rel => exact ⟨a + 1, cv, cur, by go_num, by omega, by omega, GM, G1, G2, GR5⟩
                            case measure => omega
                      · have ba : ¬ (a : Int) < (px : Int) := by omega
                        have GR5 : Hid (cur ++ (chI ns i (k + 1) (ins.drop (k + 1)) ++ X1) = R) := (show _ = R by
                          have := GR.out
                          rw [List.drop_eq_nil_of_le (by rw [List.length_range]; omega)] at this
                          rw [HX2.out]
                          exact this)
                        go_wp2_with fail
                        go_roundg g2
                        case rel => exact ⟨k + 1, cv, cur, by go_num, by omega, by omega, GM, G1, GR5⟩
                        case measure => omega
                · have gp : ((px : Int) != (pp : Int)) = true := by simp; omega
                  have gp2 : (px != pp) = true := by simp [hpe]
                  have hAL : fdAll ns (x : Int) (i : Int) = true := by rw [hfd]; simp [hpe]
                  clear hfd hpe
                  have GR2 : Hid (cur ++ (((List.range px).flatMap fun a => ((List.range pp).filter fun b => true || decide (a = b)).map fun b => (⟨((ox + a : Nat) : Int), ((oi + b : Nat) : Int), (k : Int)⟩ : Cn)) ++ X2) = R) := (show _ = R by rw [← GRX.out, HCHX.out, hAL])
                  clear hAL GRX HCHX
                  as_aux_lemma =>
                  go_wp2_with fail
                  go_region
                  all_goals
                    go_wp2_with (go_at_call 19; refine HKY.out.mono ?_; rintro e wK ⟨rfl, bK⟩
                                 obtain ⟨-, -, u2, -⟩ := (G1X.out.below bK).cells10
                                 obtain ⟨-, -, t2, -⟩ := (G2X.out.below bK).cells10)
                    go_loopg [12] (px + 1) (fun g iv wr => ∃ (a : Nat) (cv : Value) (cur : List Cn), iv = .int .i64 (a : Int) ∧ a ≤ px ∧ px + 1 ≤ g + a ∧ Hid (MS w wr (.slice (some ⟨nb, no, none⟩) ns.length ncp) (.slice ta tl tc) cv (tksOf 0 ns) cur fs) ∧ Hid (BoxT 54 wr wo.heap.size CS1) ∧ Hid (BoxT 54 wr wp.heap.size CS2) ∧ Hid (cur ++ (((List.range px).drop a).flatMap (fun a => ((List.range pp).filter fun b => true || decide (a = b)).map fun b => (⟨((ox + a : Nat) : Int), ((oi + b : Nat) : Int), (k : Int)⟩ : Cn)) ++ X2) = R))
                    case atStart => exact ⟨0, cv, cur, rfl, by omega, by omega, GM18.out.below bK, G118.out.below bK, G218.out.below bK, (show _ = R by simpa using GR2.out)⟩
                    case round =>
                      clear GM GR2 G1 GM18 G118 G218 bK
                      obtain ⟨a, cv, cur, rfl, ha, hga, GM, G1, G2, GR⟩ := hrel
                      obtain ⟨g3, rfl⟩ : ∃ go, gk = go + 1 := ⟨gk - 1, by omega⟩
                      have G2E := G2
                      rw [← HC2.out] at G2E
                      obtain ⟨-, -, q2, -⟩ := G2E.out.cells10
                      by_cases hal : a < px
                      · have ba : (a : Int) < (px : Int) := by omega
                        have hr3 := GR.out
                        rw [drop_of (range_get hal), List.flatMap_cons, List.append_assoc] at hr3
                        obtain ⟨X3, hX3⟩ : ∃ X, ((List.range px).drop (a + 1)).flatMap (fun a => ((List.range pp).filter fun b => true || decide (a = b)).map fun b => (⟨((ox + a : Nat) : Int), ((oi + b : Nat) : Int), (k : Int)⟩ : Cn)) ++ X2 = X := ⟨_, rfl⟩
                        rw [hX3] at hr3
                        have GR3 := hide hr3
                        have HX3 := hide hX3
                        clear hr3 hX3 GR G2E
                        go_wp2_with fail
                        go_loopg [13] (pp + 1) (fun g iv wr => ∃ (b : Nat) (cv : Value) (cur : List Cn), iv = .int .i64 (b : Int) ∧ b ≤ pp ∧ pp + 1 ≤ g + b ∧ Hid (MS w wr (.slice (some ⟨nb, no, none⟩) ns.length ncp) (.slice ta tl tc) cv (tksOf 0 ns) cur fs) ∧ Hid (BoxT 54 wr wo.heap.size CS1) ∧ Hid (BoxT 54 wr wp.heap.size CS2) ∧ Hid (cur ++ ((((List.range pp).drop b).filter fun b => true || decide (a = b)).map (fun b => (⟨((ox + a : Nat) : Int), ((oi + b : Nat) : Int), (k : Int)⟩ : Cn)) ++ X3) = R))
                        case atStart => exact ⟨0, cv, cur, rfl, by omega, by omega, GM, G1, G2, (show _ = R by simpa using GR3.out)⟩
                        case round =>
                          clear GM G1 G2 GR3 q2
                          obtain ⟨b, cv, cur, rfl, hb, hgb, GM, G1, G2, GR⟩ := hrel
                          obtain ⟨g4, rfl⟩ : ∃ go, gk = go + 1 := ⟨gk - 1, by omega⟩
                          have G1E := G1
                          rw [← HC1.out] at G1E
                          obtain ⟨-, s1, s2, -⟩ := G1E.out.cells10
                          by_cases hbl : b < pp
                          · have bb : (b : Int) < (pp : Int) := by omega
                            have hr4 := GR.out
                            rw [drop_of (range_get hbl)] at hr4
                            have GR4 : Hid ((cur ++ [(⟨(ox : Int) + (a : Int), (oi : Int) + (b : Int), (k : Int)⟩ : Cn)]) ++ ((((List.range pp).drop (b + 1)).filter fun b => true || decide (a = b)).map (fun b => (⟨((ox + a : Nat) : Int), ((oi + b : Nat) : Int), (k : Int)⟩ : Cn)) ++ X3) = R) := (show _ = R by rw [← hr4, List.filter_cons, if_pos (by simp ), List.map_cons]; simp)
                            have HLL : Hid (cur.length ≤ 1000000) := (show _ ≤ _ by
                              have h1 := HR.out
                              rw [← GR.out, List.length_append] at h1
                              omega)
                            obtain ⟨ca, cc, hcv⟩ := GM.out.oc.shape
                            obtain ⟨cl, hcl⟩ : ∃ l, cur.length = l := ⟨_, rfl⟩
                            rw [hcl] at hcv
                            subst hcv
                            have HNW : Hid (∀ (j : Nat) (u : Value), (Cn.cs ⟨(ox : Int) + (a : Int), (oi : Int) + (b : Int), (k : Int)⟩)[j]? = some u → (wr.alloc (.cells #[.int .i64 ((ox : Int) + (a : Int)), .int .i64 ((oi : Int) + (b : Int)), .int .i64 (k : Int)] 40)).drew.cell? ((⟨wr.heap.size, 0, none⟩ : Addr).add j) = some u) := fun j u hu => by
                              have hbn : BoxT 40 (wr.alloc (.cells #[.int .i64 ((ox : Int) + (a : Int)), .int .i64 ((oi : Int) + (b : Int)), .int .i64 (k : Int)] 40)).drew wr.heap.size _ := (BoxT.new 40 wr _).drew
                              rw [add_plain2, hbn.cellAt, Nat.zero_add]
                              simpa [Cn.cs] using hu
                            have HBS : Hid (w.heap.size ≤ (wr.alloc (.cells #[.int .i64 ((ox : Int) + (a : Int)), .int .i64 ((oi : Int) + (b : Int)), .int .i64 (k : Int)] 40)).drew.heap.size) := (show _ ≤ _ by have := GM.out.bl.size; simp; omega)
                            have KC : Hid (∀ w' : World, Below wr.heap.size wr w' → w'.cell? ⟨w.heap.size + 1 + 1, 1, none⟩ = some (.slice ca cl cc) ∧ w'.cell? ⟨wo.heap.size, 1, none⟩ = some (.slice (some ⟨ib, io, none⟩) ins.length icp) ∧ w'.cell? ⟨ib, io + k, none⟩ = some (.int .i64 (x : Int)) ∧ w'.cell? ⟨w.heap.size + 1 + 1 + 1, x, none⟩ = some (.int .i64 (ox : Int)) ∧ w'.cell? ⟨w.heap.size + 1 + 1 + 1, i, none⟩ = some (.int .i64 (oi : Int)) ∧ w'.frozen? ⟨w.heap.size + 1 + 1, 1, none⟩ = false) := fun w' h => ⟨(by rw [(GM.out.px.below h).cellAt]; rfl), (by rw [(G1E.out.below h).cellAt]; rfl), HCI.out _ (GM.out.bl.trans (h.mono GM.out.bl.size)), iN_at (GM.out.fx.below h) HFX.out, iN_at (GM.out.fx.below h) HFI.out, (GM.out.px.below h).free 1⟩
                            have KG : Hid (∀ w' : World, (wr.alloc (.cells #[.int .i64 ((ox : Int) + (a : Int)), .int .i64 ((oi : Int) + (b : Int)), .int .i64 (k : Int)] 40)).grownBy w' (Value.slice ca cl cc).ownBlock → w'.cell? ⟨w.heap.size + 1 + 1, 1, none⟩ = some (.slice ca cl cc) ∧ w'.cell? ⟨wo.heap.size, 1, none⟩ = some (.slice (some ⟨ib, io, none⟩) ins.length icp) ∧ w'.cell? ⟨ib, io + k, none⟩ = some (.int .i64 (x : Int)) ∧ w'.cell? ⟨w.heap.size + 1 + 1 + 1, x, none⟩ = some (.int .i64 (ox : Int)) ∧ w'.cell? ⟨w.heap.size + 1 + 1 + 1, i, none⟩ = some (.int .i64 (oi : Int)) ∧ w'.frozen? ⟨w.heap.size + 1 + 1, 1, none⟩ = false) := fun w' h => ⟨(by rw [(keepBox GM.out.px GM.out.oc (by decide) h).cellAt]; rfl), (by rw [(keepBox G1E.out GM.out.oc (by decide) h).cellAt]; rfl), HCI.out _ ((GM.out.bl.alloc GM.out.bl.size _).grown h (by have := GM.out.bl.size; simp; omega) (fun k e => GM.out.oc.at k e)), iN_at (keepBox GM.out.fx GM.out.oc (by decide) h) HFX.out, iN_at (keepBox GM.out.fx GM.out.oc (by decide) h) HFI.out, (keepBox GM.out.px GM.out.oc (by decide) h).free 1⟩
                            have hw1 : IntKind.i64.wrap ((ox : Int) + (a : Int)) = (ox : Int) + (a : Int) := by rw [IntKind.wrap_i64]; omega
                            have hw2 : IntKind.i64.wrap ((oi : Int) + (b : Int)) = (oi : Int) + (b : Int) := by rw [IntKind.wrap_i64]; omega
                            clear hr4 GR s1 hcl
                            as_aux_lemma =>
                            go_wp2_with fail
                            have B1 : Hid (Below (wr).heap.size (wr) (wr).drew) := (Below.refl _ _).drew
                            refine wp_region_M (S := fun w' => w'.cell? ⟨w.heap.size + 1 + 1, 1, none⟩ = some (.slice ca cl cc) ∧ w'.cell? ⟨wo.heap.size, 1, none⟩ = some (.slice (some ⟨ib, io, none⟩) ins.length icp) ∧ w'.cell? ⟨ib, io + k, none⟩ = some (.int .i64 (x : Int)) ∧ w'.cell? ⟨w.heap.size + 1 + 1 + 1, x, none⟩ = some (.int .i64 (ox : Int)) ∧ w'.cell? ⟨w.heap.size + 1 + 1 + 1, i, none⟩ = some (.int .i64 (oi : Int)) ∧ w'.frozen? ⟨w.heap.size + 1 + 1, 1, none⟩ = false) (late := [23]) (by kernel_rfl) (KC.out _ B1.out) (fun hHeld => ?_)
                            (try simp only [List.size_toArray, List.length_cons, List.length_nil, Nat.zero_add, Nat.reduceAdd, Array.replicate, List.replicate])
                            refine wpAnyM_take (i := 0) (oi := ⟨_, _, _, _, _, _⟩) (v := ?_) rfl (by kernel_rfl) (by kernel_rfl) (by kernel_rfl) (by kernel_rfl) (fun _ _ _ h => h) (Or.inl ⟨by rfl, ?_⟩) hHeld ?_
                            rotate_left
                            · (intro w' hSw; (try dsimp only at hSw); go_simp; try (with_reducible rfl))
                            (try simp only [Act.put, List.setIfInBounds_toArray, List.set_cons_zero, List.set_cons_succ])
                            refine wpAnyM_take (i := 1) (oi := ⟨_, _, _, _, _, _⟩) (v := ?_) rfl (by kernel_rfl) (by kernel_rfl) (by kernel_rfl) (by kernel_rfl) (fun _ _ _ h => h) (Or.inl ⟨by rfl, ?_⟩) hHeld ?_
                            rotate_left
                            · (intro w' hSw; (try dsimp only at hSw); go_simp; try (with_reducible rfl))
                            (try simp only [Act.put, List.setIfInBounds_toArray, List.set_cons_zero, List.set_cons_succ])
                            refine wpAnyM_take (i := 2) (oi := ⟨_, _, _, _, _, _⟩) (v := ?_) rfl (by kernel_rfl) (by kernel_rfl) (by kernel_rfl) (by kernel_rfl) (fun _ _ _ h => h) (Or.inl ⟨by rfl, ?_⟩) hHeld ?_
                            rotate_left
                            · (intro w' hSw; (try dsimp only at hSw); go_simp; try (with_reducible rfl))
                            (try simp only [Act.put, List.setIfInBounds_toArray, List.set_cons_zero, List.set_cons_succ])
                            refine wpAnyM_take (i := 3) (oi := ⟨_, _, _, _, _, _⟩) (v := ?_) rfl (by kernel_rfl) (by kernel_rfl) (by kernel_rfl) (by kernel_rfl) (fun _ _ _ h => h) (Or.inl ⟨by rfl, ?_⟩) hHeld ?_
                            rotate_left
                            · (intro w' hSw; (try dsimp only at hSw); go_simp; try (with_reducible rfl))
                            (try simp only [Act.put, List.setIfInBounds_toArray, List.set_cons_zero, List.set_cons_succ])
                            refine wpAnyM_take (i := 4) (oi := ⟨_, _, _, _, _, _⟩) (v := ?_) rfl (by kernel_rfl) (by kernel_rfl) (by kernel_rfl) (by kernel_rfl) (fun _ _ _ h => h) (Or.inl ⟨by rfl, ?_⟩) hHeld ?_
                            rotate_left
                            · (intro w' hSw; (try dsimp only at hSw); go_simp; try (with_reducible rfl))
                            (try simp only [Act.put, List.setIfInBounds_toArray, List.set_cons_zero, List.set_cons_succ])
                            refine wpAnyM_take (i := 5) (oi := ⟨_, _, _, _, _, _⟩) (v := ?_) rfl (by kernel_rfl) (by kernel_rfl) (by kernel_rfl) (by kernel_rfl) (fun _ _ _ h => h) (Or.inl ⟨by rfl, ?_⟩) hHeld ?_
                            rotate_left
                            · (intro w' hSw; (try dsimp only at hSw); go_simp; try (with_reducible rfl))
                            (try simp only [Act.put, List.setIfInBounds_toArray, List.set_cons_zero, List.set_cons_succ])
                            refine wpAnyM_take (i := 6) (oi := ⟨_, _, _, _, _, _⟩) (v := ?_) rfl (by kernel_rfl) (by kernel_rfl) (by kernel_rfl) (by kernel_rfl) (fun _ _ _ h => h) (Or.inl ⟨by rfl, ?_⟩) hHeld ?_
                            rotate_left
                            · (intro w' hSw; (try dsimp only at hSw); go_simp; try (with_reducible rfl))
                            (try simp only [Act.put, List.setIfInBounds_toArray, List.set_cons_zero, List.set_cons_succ])
                            refine wpAnyM_take (i := 7) (oi := ⟨_, _, _, _, _, _⟩) (v := ?_) rfl (by kernel_rfl) (by kernel_rfl) (by kernel_rfl) (by kernel_rfl) (fun _ _ _ h => h) (Or.inl ⟨by rfl, ?_⟩) hHeld ?_
                            rotate_left
                            · (intro w' hSw; (try dsimp only at hSw); go_simp; try (with_reducible rfl))
                            (try simp only [Act.put, List.setIfInBounds_toArray, List.set_cons_zero, List.set_cons_succ])
                            refine wpAnyM_take (i := 8) (oi := ⟨_, _, _, _, _, _⟩) (v := ?_) rfl (by kernel_rfl) (by kernel_rfl) (by kernel_rfl) (by kernel_rfl) (fun _ _ _ h => h) (Or.inl ⟨by rfl, ?_⟩) hHeld ?_
                            rotate_left
                            · (intro w' hSw; (try dsimp only at hSw); go_simp; try (with_reducible rfl))
                            (try simp only [Act.put, List.setIfInBounds_toArray, List.set_cons_zero, List.set_cons_succ])
                            refine wpAnyM_take (i := 9) (oi := ⟨_, _, _, _, _, _⟩) (v := ?_) rfl (by kernel_rfl) (by kernel_rfl) (by kernel_rfl) (by kernel_rfl) (fun _ _ _ h => h) (Or.inl ⟨by rfl, ?_⟩) hHeld ?_
                            rotate_left
                            · (intro w' hSw; (try dsimp only at hSw); go_simp; try (with_reducible rfl))
                            (try simp only [Act.put, List.setIfInBounds_toArray, List.set_cons_zero, List.set_cons_succ])
                            refine wpAnyM_take (i := 10) (oi := ⟨_, _, _, _, _, _⟩) (v := ?_) rfl (by kernel_rfl) (by kernel_rfl) (by kernel_rfl) (by kernel_rfl) (fun _ _ _ h => h) (Or.inl ⟨by rfl, ?_⟩) hHeld ?_
                            rotate_left
                            · (intro w' hSw; (try dsimp only at hSw); go_simp; try (with_reducible rfl))
                            (try simp only [Act.put, List.setIfInBounds_toArray, List.set_cons_zero, List.set_cons_succ])
                            refine wpAnyM_take (i := 11) (oi := ⟨_, _, _, _, _, _⟩) (v := ?_) rfl (by kernel_rfl) (by kernel_rfl) (by kernel_rfl) (by kernel_rfl) (fun _ _ _ h => h) (Or.inl ⟨by rfl, ?_⟩) hHeld ?_
                            rotate_left
                            · (intro w' hSw; (try dsimp only at hSw); go_simp; try (with_reducible rfl))
                            (try simp only [Act.put, List.setIfInBounds_toArray, List.set_cons_zero, List.set_cons_succ])
                            refine wpAnyM_take (i := 12) (oi := ⟨_, _, _, _, _, _⟩) (v := ?_) rfl (by kernel_rfl) (by kernel_rfl) (by kernel_rfl) (by kernel_rfl) (fun _ _ _ h => h) (Or.inl ⟨by rfl, ?_⟩) hHeld ?_
                            rotate_left
                            · (intro w' hSw; (try dsimp only at hSw); go_simp; try (with_reducible rfl))
                            (try simp only [Act.put, List.setIfInBounds_toArray, List.set_cons_zero, List.set_cons_succ])
                            refine wpAnyM_take (i := 13) (oi := ⟨_, _, _, _, _, _⟩) (v := ?_) rfl (by kernel_rfl) (by kernel_rfl) (by kernel_rfl) (by kernel_rfl) (fun _ _ _ h => h) (Or.inl ⟨by rfl, ?_⟩) hHeld ?_
                            rotate_left
                            · (intro w' hSw; (try dsimp only at hSw); go_simp; try (with_reducible rfl))
                            (try simp only [Act.put, List.setIfInBounds_toArray, List.set_cons_zero, List.set_cons_succ])
                            refine wpAnyM_take (i := 14) (oi := ⟨_, _, _, _, _, _⟩) (v := ?_) rfl (by kernel_rfl) (by kernel_rfl) (by kernel_rfl) (by kernel_rfl) (fun _ _ _ h => h) (Or.inl ⟨by rfl, ?_⟩) hHeld ?_
                            rotate_left
                            · (intro w' hSw; (try dsimp only at hSw); go_simp; try (with_reducible rfl))
                            (try simp only [Act.put, List.setIfInBounds_toArray, List.set_cons_zero, List.set_cons_succ])
                            refine wpAnyM_take (i := 15) (oi := ⟨_, _, _, _, _, _⟩) (v := ?_) rfl (by kernel_rfl) (by kernel_rfl) (by kernel_rfl) (by kernel_rfl) (fun _ _ _ h => h) (Or.inl ⟨by rfl, ?_⟩) hHeld ?_
                            rotate_left
                            · (intro w' hSw; (try dsimp only at hSw); go_simp; try (with_reducible rfl))
                            (try simp only [Act.put, List.setIfInBounds_toArray, List.set_cons_zero, List.set_cons_succ])
                            refine wpAnyM_take (i := 16) (oi := ⟨_, _, _, _, _, _⟩) (v := ?_) rfl (by kernel_rfl) (by kernel_rfl) (by kernel_rfl) (by kernel_rfl) (fun _ _ _ h => h) (Or.inl ⟨by rfl, ?_⟩) hHeld ?_
                            rotate_left
                            · (intro w' hSw; (try dsimp only at hSw); go_simp; try (with_reducible rfl))
                            (try simp only [Act.put, List.setIfInBounds_toArray, List.set_cons_zero, List.set_cons_succ])
                            refine wpAnyM_take (i := 17) (oi := ⟨_, _, _, _, _, _⟩) (v := ?_) rfl (by kernel_rfl) (by kernel_rfl) (by kernel_rfl) (by kernel_rfl) (fun _ _ _ h => h) (Or.inl ⟨by rfl, ?_⟩) hHeld ?_
                            rotate_left
                            · (intro w' hSw; (try dsimp only at hSw); go_simp; try (with_reducible rfl))
                            (try simp only [Act.put, List.setIfInBounds_toArray, List.set_cons_zero, List.set_cons_succ])
                            refine wpAnyM_take (i := 18) (oi := ⟨_, _, _, _, _, _⟩) (v := ?_) rfl (by kernel_rfl) (by kernel_rfl) (by kernel_rfl) (by kernel_rfl) (fun _ _ _ h => h) (Or.inl ⟨by rfl, ?_⟩) hHeld ?_
                            rotate_left
                            · (intro w' hSw; (try dsimp only at hSw); go_simp; try (with_reducible rfl))
                            (try simp only [Act.put, List.setIfInBounds_toArray, List.set_cons_zero, List.set_cons_succ])
                            refine wpAnyM_take (i := 19) (oi := ⟨_, _, _, _, _, _⟩) (v := ?_) rfl (by kernel_rfl) (by kernel_rfl) (by kernel_rfl) (by kernel_rfl) (fun _ _ _ h => h) (Or.inl ⟨by rfl, ?_⟩) hHeld ?_
                            rotate_left
                            · (intro w' hSw; (try dsimp only at hSw); go_simp; try (with_reducible rfl))
                            (try simp only [Act.put, List.setIfInBounds_toArray, List.set_cons_zero, List.set_cons_succ])
                            refine wpAnyM_one (i := 20) (o := ⟨_, _, _, _, _, _⟩) (by kernel_rfl) rfl (fun K hK => ?_)
                            go_simp
                            have BA : Below wr.heap.size wr (wr.alloc (.cells #[.int .i64 ((ox : Int) + (a : Int)), .int .i64 ((oi : Int) + (b : Int)), .int .i64 (k : Int)] 40)).drew := ((Below.refl _ _).alloc (Nat.le_refl _) _).drew
                            refine hK.out _ _ (KC.out _ BA) (fun hHeld => ?_)
                            clear hK K BA
                            (try simp only [List.setIfInBounds_toArray, List.set_cons_zero, List.set_cons_succ])
                            refine wpAnyM_one (i := 21) (o := ⟨_, _, _, _, _, _⟩) (by kernel_rfl) rfl (fun K hK => ?_)
                            refine step_L Try.info40' (by kernel_rfl) rfl (by omega) (by omega) Cn.cs_len Cn.cs_one rfl _ _ rfl w.heap.size (.slice ca cl cc) cur rfl (GM.out.oc.alloc _).drew ⟨wr.heap.size, 0, none⟩ 1 ⟨(ox : Int) + (a : Int), (oi : Int) + (b : Int), (k : Int)⟩ rfl HNW.out HLL.out HBS.out ?_
                            intro v4 w4 h4 q4 n4
                            obtain ⟨ca4, cc4, hv4⟩ := h4.shape
                            obtain ⟨l4, hl4⟩ : ∃ l, (cur ++ [(⟨(ox : Int) + (a : Int), (oi : Int) + (b : Int), (k : Int)⟩ : Cn)]).length = l := ⟨_, rfl⟩
                            rw [hl4] at hv4
                            subst hv4
                            clear hl4
                            have q5 : (wr.alloc (.cells #[.int .i64 ((ox : Int) + (a : Int)), .int .i64 ((oi : Int) + (b : Int)), .int .i64 (k : Int)] 40)).grownBy w4 (Value.slice ca cl cc).ownBlock := ⟨q4.os, q4.tape, q4.output, q4.size, q4.block⟩
                            clear q4
                            refine hK.out _ _ (KG.out _ q5) (fun hHeld => ?_)
                            clear hK K
                            (try simp only [Act.put, List.setIfInBounds_toArray, List.set_cons_zero, List.set_cons_succ])
                            refine wpAnyM_take (i := 22) (oi := ⟨_, _, _, _, _, _⟩) (v := ?_) rfl (by kernel_rfl) (by kernel_rfl) (by kernel_rfl) (by kernel_rfl) (fun _ _ _ h => h) (Or.inl ⟨by rfl, ?_⟩) hHeld ?_
                            rotate_left
                            · (intro w' hSw; (try dsimp only at hSw); go_simp; try (with_reducible rfl))
                            (try simp only [Act.put, List.setIfInBounds_toArray, List.set_cons_zero, List.set_cons_succ])
                            refine wpAnyM_last (i := 23) (o := ⟨_, _, _, _, _, _⟩) (by kernel_rfl) (by rfl) rfl (fun K hK => ?_)
                            obtain ⟨hq1, hq2, hq3, hq4, hq5, hq6⟩ := hHeld
                            go_simp
                            refine hK.out _ _ ?_
                            clear hK K
                            (try simp only [List.setIfInBounds_toArray, List.set_cons_zero, List.set_cons_succ])
                            refine wpAnyM_done (by kernel_rfl) ?_ _
                            go_wp2_with fail
                            go_roundg g4
                            case rel =>
                              have kp := keepBox GM.out.px GM.out.oc (by decide) q5
                              have k1 := keepBox G1.out GM.out.oc (by decide) q5
                              have k2 := keepBox G2.out GM.out.oc (by decide) q5
                              exact ⟨b + 1, _, _, by go_num, by omega, by omega, GM.out.chan h4 q5, k1.other _ _ (k1.ne kp (by decide)), k2.other _ _ (k2.ne kp (by decide)), GR4⟩
                            case measure => omega
                          · have bb : ¬ (b : Int) < (pp : Int) := by omega
                            have GR5 : Hid (cur ++ (((List.range px).drop (a + 1)).flatMap (fun a => ((List.range pp).filter fun b => true || decide (a = b)).map fun b => (⟨((ox + a : Nat) : Int), ((oi + b : Nat) : Int), (k : Int)⟩ : Cn)) ++ X2) = R) := (show _ = R by
                              have := GR.out
                              rw [List.drop_eq_nil_of_le (by rw [List.length_range]; omega)] at this
                              rw [HX3.out]
                              exact this)
                            go_wp2_with fail
                            go_roundg g3
                            case rel => exact ⟨a + 1, cv, cur, by go_num, by omega, by omega, GM, G1, G2, GR5⟩
                            case measure => omega
                      · have ba : ¬ (a : Int) < (px : Int) := by omega
                        have GR5 : Hid (cur ++ (chI ns i (k + 1) (ins.drop (k + 1)) ++ X1) = R) := (show _ = R by
                          have := GR.out
                          rw [List.drop_eq_nil_of_le (by rw [List.length_range]; omega)] at this
                          rw [HX2.out]
                          exact this)
                        go_wp2_with fail
                        go_roundg g2
                        case rel => exact ⟨k + 1, cv, cur, by go_num, by omega, by omega, GM, G1, GR5⟩
                        case measure => omega
            · have bk : ¬ (k : Int) < (ins.length : Int) := by omega
              have G1E := G1
              rw [← HC1.out] at G1E
              obtain ⟨s0, s1, s2, -⟩ := G1E.out.cells10
              have GR5 : Hid (cur ++ chJ ns (i + 1) (ns.drop (i + 1)) = R) := (show _ = R by
                have := GR.out
                rw [List.drop_eq_nil_of_le (by omega)] at this
                rw [HX1.out]
                exact this)
              go_wp2_with fail
              go_roundg g1
              case rel => exact ⟨i + 1, cv, cur, by go_num, by omega, by omega, GM, GR5⟩
              case measure => omega
        · have bt : ¬ (i : Int) < (ns.length : Int) := by omega
          have HE : Hid (cur = R) := (show cur = R by
            have := GR.out
            rw [List.drop_eq_nil_of_le (by omega)] at this
            simpa [chJ] using this)
          obtain ⟨ca, cc, hcv⟩ := GM.out.oc.shape
          obtain ⟨cl, hcl⟩ : ∃ l, cur.length = l := ⟨_, rfl⟩
          rw [hcl] at hcv
          subst hcv
          have p0 : wo.cell? ⟨w.heap.size + 1 + 1, 0, none⟩ = some (.slice ta tl tc) := by rw [GM.out.px.cellAt]; rfl
          have p1 : wo.cell? ⟨w.heap.size + 1 + 1, 1, none⟩ = some (.slice ca cl cc) := by rw [GM.out.px.cellAt]; rfl
          have r0 : wo.cell? ⟨w.heap.size + 1, 0, none⟩ = some (.slice none 0 0) := by rw [GM.out.rx.cellAt]; rfl
          have r1 : wo.cell? ⟨w.heap.size + 1, 1, none⟩ = some (.slice none 0 0) := by rw [GM.out.rx.cellAt]; rfl
          have fr0 := GM.out.rx.free 0
          have fr1 := GM.out.rx.free 1
          clear hcl
          go_wp2_with fail
          have hfin : BoxT 30 ((wo.setCell ⟨w.heap.size + 1, 0, none⟩ (.slice ta tl tc)).setCell ⟨w.heap.size + 1, 1, none⟩ (.slice ca cl cc)) (w.heap.size + 1) #[.slice ta tl tc, .slice ca cl cc] := by
            have := (GM.out.rx.set 0 (.slice ta tl tc)).set 1 (.slice ca cl cc)
            simpa using this
          have z0 := hfin.cellAt 0
          have z1 := hfin.cellAt 1
          simp at z0 z1
          refine bodyPost_ret (v := .agg #[.slice ta tl tc, .slice ca cl cc]) (by simp [results, Try.results11, go_sem, z0, z1]) rfl ⟨_, _, rfl, ?_, ?_, ?_⟩
          · exact OwnL.set2 (t' := 30) GM.out.ot (by decide) GM.out.rx
          · rw [← HE.out]; exact OwnL.set2 (t' := 30) GM.out.oc (by decide) GM.out.rx
          · exact (GM.out.bl.setCell (p := ⟨w.heap.size + 1, 0, none⟩) (by simp) _).setCell (p := ⟨w.heap.size + 1, 1, none⟩) (by simp) _
section
variable {P : Program} {ops : Array Oper} {Q : Exit → Act → World → Prop} {md : Region.Mode} {S : World → Prop} {late : List Nat}
/-- Three may come up, none of them late. -/
theorem wpAnyM_three {i j k : Nat} {oi oj ok : Oper} {fuel : Nat} {listed : Array Bool} {a : Act} {w : World} (hr : Region.ready md ops listed = [i, j, k]) (hoi : ops[i]? = some oi) (hoj : ops[j]? = some oj) (hok : ops[k]? = some ok)
    (hi : ∀ K' : Act → World → Prop, Shut (∀ a w, S w → (S w → wpAnyM P md ops Q S late fuel (listed.setIfInBounds i true) a w) → K' a w) → if Region.wanted oi (yielded ops a.tmps) = true then Oper.wp P oi a w K' Q else K' (a.put oi.dst undef) w)
    (hj : ∀ K' : Act → World → Prop, Shut (∀ a w, S w → (S w → wpAnyM P md ops Q S late fuel (listed.setIfInBounds j true) a w) → K' a w) → if Region.wanted oj (yielded ops a.tmps) = true then Oper.wp P oj a w K' Q else K' (a.put oj.dst undef) w)
    (hk : ∀ K' : Act → World → Prop, Shut (∀ a w, S w → (S w → wpAnyM P md ops Q S late fuel (listed.setIfInBounds k true) a w) → K' a w) → if Region.wanted ok (yielded ops a.tmps) = true then Oper.wp P ok a w K' Q else K' (a.put ok.dst undef) w) :
    wpAnyM P md ops Q S late (fuel + 1) listed a w := by
  refine ⟨fun h0 => absurd (hr ▸ h0) (by simp), fun m hm => ?_⟩
  rw [hr, List.mem_cons, List.mem_cons, List.mem_singleton] at hm
  rcases hm with rfl | rfl | rfl
  · exact wpOp_step hoi (fun K' hK => hi K' (fun a w hS hW => hK a w ⟨fun _ => hS, hW hS⟩))
  · exact wpOp_step hoj (fun K' hK => hj K' (fun a w hS hW => hK a w ⟨fun _ => hS, hW hS⟩))
  · exact wpOp_step hok (fun K' hK => hk K' (fun a w hS hW => hK a w ⟨fun _ => hS, hW hS⟩))
end
/-- The two plans side by side. -/
structure PQ (w wx : World) (v va vb vc vd : Value) (T3 T4 : Nat) (ts : List Tk) (cs : List Cn) : Prop where
  jx : BoxT 24 wx w.heap.size #[v]
  x3 : BoxT 30 wx T3 #[va, vb]
  x4 : BoxT 30 wx T4 #[vc, vd]
  a1 : OwnL 42 2 Tk.cs w.heap.size wx va ts
  a2 : OwnL 40 3 Cn.cs w.heap.size wx vb cs
  b1 : OwnL 42 2 Tk.cs w.heap.size wx vc ts
  b2 : OwnL 40 3 Cn.cs w.heap.size wx vd cs
  bl : Below w.heap.size w wx
section
variable {w wx w' w2 u : World} {v va vb vc vd : Value} {T3 T4 : Nat} {ts : List Tk} {cs : List Cn}
theorem PQ.below (h : PQ w wx v va vb vc vd T3 T4 ts cs) (hb : Below wx.heap.size wx w') : PQ w w' v va vb vc vd T3 T4 ts cs :=
  ⟨h.jx.below hb, h.x3.below hb, h.x4.below hb, h.a1.below hb, h.a2.below hb, h.b1.below hb, h.b2.below hb, h.bl.trans (hb.mono h.bl.size)⟩
theorem PQ.make (hb : Below w2.heap.size w2 u) (hx : BoxT 24 w2 w.heap.size #[v]) (hb2 : Below w.heap.size w w2) (x3 : BoxT 30 u T3 #[.slice none 0 0, .slice none 0 0]) (x4 : BoxT 30 u T4 #[.slice none 0 0, .slice none 0 0]) (hne : T4 ≠ T3)
    (a1 : OwnL 42 2 Tk.cs w.heap.size u va ts) (a2 : OwnL 40 3 Cn.cs w.heap.size u vb cs) (b1 : OwnL 42 2 Tk.cs w.heap.size u vc ts) (b2 : OwnL 40 3 Cn.cs w.heap.size u vd cs) :
    w2.heap.size ≤ T3 → w2.heap.size ≤ T4 → PQ w ((((u.setCell ⟨T3, 0, none⟩ va).setCell ⟨T3, 1, none⟩ vb).setCell ⟨T4, 0, none⟩ vc).setCell ⟨T4, 1, none⟩ vd) v va vb vc vd T3 T4 ts cs := by
  intro h3 h4
  have hs := hb2.size
  have jx := hx.below hb
  have y3 : BoxT 30 ((u.setCell ⟨T3, 0, none⟩ va).setCell ⟨T3, 1, none⟩ vb) T3 #[va, vb] := by simpa using (x3.set 0 va).set 1 vb
  have y4 : BoxT 30 ((u.setCell ⟨T3, 0, none⟩ va).setCell ⟨T3, 1, none⟩ vb) T4 #[.slice none 0 0, .slice none 0 0] := (x4.other _ _ hne).other _ _ hne
  refine ⟨(((jx.other _ _ (jx.ne x3 (by decide))).other _ _ (jx.ne x3 (by decide))).other _ _ (jx.ne x4 (by decide))).other _ _ (jx.ne x4 (by decide)), (y3.other _ _ hne.symm).other _ _ hne.symm, by simpa using (y4.set 0 vc).set 1 vd, ?_, ?_, ?_, ?_, ?_⟩
  · exact OwnL.set2 (t' := 30) (OwnL.set2 (t' := 30) a1 (by decide) x3) (by decide) y4
  · exact OwnL.set2 (t' := 30) (OwnL.set2 (t' := 30) a2 (by decide) x3) (by decide) y4
  · exact OwnL.set2 (t' := 30) (OwnL.set2 (t' := 30) b1 (by decide) x3) (by decide) y4
  · exact OwnL.set2 (t' := 30) (OwnL.set2 (t' := 30) b2 (by decide) x3) (by decide) y4
  · have b0 := hb2.trans (hb.mono hs)
    exact (((b0.setCell (p := ⟨T3, 0, none⟩) (show w.heap.size ≤ T3 by omega) _).setCell (p := ⟨T3, 1, none⟩) (show w.heap.size ≤ T3 by omega) _).setCell (p := ⟨T4, 0, none⟩) (show w.heap.size ≤ T4 by omega) _).setCell (p := ⟨T4, 1, none⟩) (show w.heap.size ≤ T4 by omega) _
end
set_option maxHeartbeats 8000000 in
set_option maxRecDepth 100000 in
theorem PlanMake_walk {w : World} {v : Value} {ns : List Nd} (hj : JobIn w.heap.size w v ns) (hE : ExIn w ns) :
    Calls Try.prog 3 #[.agg #[v]] w fun e w' => e = .returned (.bool true) ∧ Below w.heap.size w w' := by
  obtain ⟨na, ncp, rfl⟩ := hj.shape
  have hb0 := below_box w (.cells #[.slice na ns.length ncp] 24)
  have HB0 := hide hb0
  have HX0 := hide (BoxT.new 24 w #[.slice na ns.length ncp])
  have HKN := hide (known_any (w.alloc (.cells #[.slice na ns.length ncp] 24)))
  have HJ := hide hj
  have HEX := hide hE
  clear hj hE hb0
  go_enter Try.func3, Try.ntmps3
  go_wp2_with fail
  refine HKN.out.mono ?_
  rintro e w1 ⟨rfl, b1⟩
  have B1 := hide (HB0.out.trans (b1.mono HB0.out.size))
  have X1 := hide (HX0.out.below b1)
  have c1 : w1.cell? ⟨w.heap.size, 0, none⟩ = some (.slice na ns.length ncp) := by rw [X1.out.cellAt]; rfl
  have HFT := hide (fit_any ((HJ.out.below B1.out).mono B1.out.size) (HEX.out.below B1.out))
  clear b1
  go_wp2_with fail
  refine HFT.out.mono ?_
  rintro e w2 ⟨u, rfl, hu, b2⟩
  have B2 := hide (B1.out.trans (b2.mono B1.out.size))
  have X2 := hide (X1.out.below b2)
  clear b2 c1 HFT HKN HB0 HX0
  rcases hu with rfl | ⟨rfl, -, -, hok⟩
  · as_aux_lemma =>
    go_wp2_with fail
    go_ret
    exact ⟨rfl, B2.out⟩
  have hpar : ∀ n ∈ ns, 1 ≤ n.par ∧ n.par ≤ 4 := fun n hn => ck_par (hok.lt.ck n hn)
  have hin : ∀ n ∈ ns, ∀ x ∈ n.ins, 0 ≤ x ∧ x < (ns.length : Int) := fun n hn => (ck_fine (hok.lt.ck n hn)).ins
  have hin4 : ∀ n ∈ ns, n.ins.length ≤ 4 ∧ ∀ x ∈ n.ins, 0 ≤ x ∧ x < (ns.length : Int) := fun n hn => ⟨(ck_fine (hok.lt.ck n hn)).len, hin n hn⟩
  have hl12 := hok.lt.l2
  have hceq := chOf_eq hin
  have hclen : (chJ ns 0 ns).length ≤ 768 := by
    have := chJ_len hpar hin4 ns 0 rfl
    omega
  have htlen : (tksOf 0 ns).length ≤ 48 := by have := tksOf_len ns (fun n hn => (hpar n hn).2) 0; omega
  obtain ⟨nt, hnt⟩ : ∃ l, (tksOf 0 ns).length = l := ⟨_, rfl⟩
  obtain ⟨nc, hnc⟩ : ∃ l, (chJ ns 0 ns).length = l := ⟨_, rfl⟩
  have HMK : Hid (∀ w', Below w2.heap.size w2 w' → Calls Try.prog 10 #[.agg #[.slice na ns.length ncp]] w' fun e w'' => ∃ t k c j, e = .returned (.agg #[.slice t nt k, .slice c nc j]) ∧ OwnL 42 2 Tk.cs w.heap.size w'' (.slice t nt k) (tksOf 0 ns) ∧ OwnL 40 3 Cn.cs w.heap.size w'' (.slice c nc j) (chJ ns 0 ns) ∧ Below w'.heap.size w' w'') := fun w' hb => by
    have hb2 := B2.out.trans (hb.mono B2.out.size)
    refine (Make_any ((HJ.out.below hb2).mono hb2.size) (by omega) (fun n hn => (hpar n hn).2) (by rw [hceq]; omega) (fun w'' hb3 => by
      have hbb := hb2.trans (hb3.mono hb2.size)
      have := Check_any ((HJ.out.below hbb).mono hbb.size) (hok.exOk (HEX.out.below hbb))
      rw [hok.errJ] at this
      exact this)).mono ?_
    rintro e w'' ⟨tv, cv, rfl, o1, o2, b⟩
    rw [hceq] at o2
    obtain ⟨t, k, rfl⟩ := o1.shape
    obtain ⟨c, j, rfl⟩ := o2.shape
    rw [hnt] at o1 ⊢
    rw [hnc] at o2 ⊢
    exact ⟨t, k, c, j, rfl, o1.mono hb2.size, o2.mono hb2.size, b⟩
  have HRK : Hid (∀ w', Below w2.heap.size w2 w' → Calls Try.prog 11 #[.agg #[.slice na ns.length ncp]] w' fun e w'' => ∃ t k c j, e = .returned (.agg #[.slice t nt k, .slice c nc j]) ∧ OwnL 42 2 Tk.cs w.heap.size w'' (.slice t nt k) (tksOf 0 ns) ∧ OwnL 40 3 Cn.cs w.heap.size w'' (.slice c nc j) (chJ ns 0 ns) ∧ Below w'.heap.size w' w'') := fun w' hb => by
    have hb2 := B2.out.trans (hb.mono B2.out.size)
    refine (RMake_any ((HJ.out.below hb2).mono hb2.size) (by omega) (fun n hn => ⟨by have := hpar n hn; omega, (hpar n hn).2⟩) hin (by omega)).mono ?_
    rintro e w'' ⟨tv, cv, rfl, o1, o2, b⟩
    obtain ⟨t, k, rfl⟩ := o1.shape
    obtain ⟨c, j, rfl⟩ := o2.shape
    rw [hnt] at o1 ⊢
    rw [hnc] at o2 ⊢
    exact ⟨t, k, c, j, rfl, o1.mono hb2.size, o2.mono hb2.size, b⟩
  have HNT := hide hnt
  have HNC := hide hnc
  rw [hnt] at htlen
  rw [hnc] at hclen
  clear hok hceq hpar hin hin4 hnt hnc
  as_aux_lemma =>
  go_upto_region 5 with fail
  go_cut [3, 4] from 12 to 15 (fun p q wx => ∃ T3 T4 tA kA cA jA tB kB cB jB, p = .pointer (some ⟨T3, 0, none⟩) ∧ q = .pointer (some ⟨T4, 0, none⟩) ∧ Hid (PQ w wx (.slice na ns.length ncp) (.slice tA nt kA) (.slice cA nc jA) (.slice tB nt kB) (.slice cB nc jB) T3 T4 (tksOf 0 ns) (chJ ns 0 ns)))
  case first =>
    have BD : Hid (Below w2.heap.size w2 w2.drew) := (Below.refl _ _).drew
    refine wp_region_M (S := fun w' => w'.cell? ⟨w.heap.size, 0, none⟩ = some (.slice na ns.length ncp) ∧ Hid (Below w2.heap.size w2 w')) (late := []) (by kernel_rfl) ⟨(by rw [(X2.out.below BD.out).cellAt]; rfl), BD⟩ (fun hHeld => ?_)
    (try simp only [List.size_toArray, List.length_cons, List.length_nil, Nat.zero_add, Nat.reduceAdd, Array.replicate, List.replicate])
    refine wpAnyM_take (i := 0) (oi := ⟨_, _, _, _, _, _⟩) (v := ?_) rfl (by kernel_rfl) (by kernel_rfl) (by kernel_rfl) (by kernel_rfl) (fun _ _ _ h => h) (Or.inl ⟨by rfl, ?_⟩) hHeld ?_
    rotate_left
    · (intro w' hSw; (try dsimp only at hSw); go_simp; try (with_reducible rfl))
    (try simp only [Act.put, List.setIfInBounds_toArray, List.set_cons_zero, List.set_cons_succ])
    refine wpAnyM_take (i := 2) (oi := ⟨_, _, _, _, _, _⟩) (v := ?_) rfl (by kernel_rfl) (by kernel_rfl) (by kernel_rfl) (by kernel_rfl) (fun _ _ _ h => h) (Or.inl ⟨by rfl, ?_⟩) hHeld ?_
    rotate_left
    · (intro w' hSw; (try dsimp only at hSw); go_simp; try (with_reducible rfl))
    (try simp only [Act.put, List.setIfInBounds_toArray, List.set_cons_zero, List.set_cons_succ])
    obtain ⟨u0, hu0⟩ : ∃ u, w2.drew = u := ⟨_, rfl⟩
    rw [hu0] at hHeld ⊢
    clear hu0 BD
    refine wpAnyM_three (i := 1) (j := 4) (k := 5) (oi := ⟨_, _, _, _, _, _⟩) (oj := ⟨_, _, _, _, _, _⟩) (ok := ⟨_, _, _, _, _, _⟩) (by kernel_rfl) rfl rfl rfl (fun K hK => ?_) (fun K hK => ?_) (fun K hK => ?_)
    · go_simp
      go_at_call 10
      refine (HMK.out _ hHeld.2.out).mono ?_
      rintro e u1 ⟨tA, kA, cA, jA, rfl, o1, o2, bs⟩
      have OA1 := hide o1
      have OA2 := hide o2
      have BN := hide (hHeld.2.out.trans (bs.mono hHeld.2.out.size))
      clear hHeld o1 o2
      refine hK.out _ _ ⟨(by rw [(X2.out.below BN.out).cellAt]; rfl), BN⟩ (fun hHeld => ?_)
      clear hK K bs BN
      (try simp only [List.setIfInBounds_toArray, List.set_cons_zero, List.set_cons_succ])
      refine wpAnyM_three (i := 3) (j := 4) (k := 5) (oi := ⟨_, _, _, _, _, _⟩) (oj := ⟨_, _, _, _, _, _⟩) (ok := ⟨_, _, _, _, _, _⟩) (by kernel_rfl) rfl rfl rfl (fun K hK => ?_) (fun K hK => ?_) (fun K hK => ?_)
      · go_simp
        go_at_call 11
        refine (HRK.out _ hHeld.2.out).mono ?_
        rintro e u2 ⟨tB, kB, cB, jB, rfl, o1, o2, bs⟩
        have OA1 := hide (OA1.out.below bs)
        have OA2 := hide (OA2.out.below bs)
        have OB1 := hide o1
        have OB2 := hide o2
        have BN := hide (hHeld.2.out.trans (bs.mono hHeld.2.out.size))
        clear hHeld o1 o2
        refine hK.out _ _ ⟨(by rw [(X2.out.below BN.out).cellAt]; rfl), BN⟩ (fun hHeld => ?_)
        clear hK K bs BN
        (try simp only [List.setIfInBounds_toArray, List.set_cons_zero, List.set_cons_succ])
        refine wpAnyM_two (i := 4) (j := 5) (oi := ⟨_, _, _, _, _, _⟩) (oj := ⟨_, _, _, _, _, _⟩) (by kernel_rfl) rfl rfl (fun K hK => ?_) (fun K hK => ?_)
        · go_simp
          have bs := below_box u2 (.cells #[.slice none 0 0, .slice none 0 0] 30)
          have XC := hide (BoxT.new 30 u2 #[.slice none 0 0, .slice none 0 0])
          have OA1 := hide (OA1.out.below bs)
          have OA2 := hide (OA2.out.below bs)
          have OB1 := hide (OB1.out.below bs)
          have OB2 := hide (OB2.out.below bs)
          have BN := hide (hHeld.2.out.trans (bs.mono hHeld.2.out.size))
          have hsz := hHeld.2.out.size
          clear hHeld
          refine hK.out _ _ ⟨(by rw [(X2.out.below BN.out).cellAt]; rfl), BN⟩ (fun hHeld => ?_)
          clear hK K bs BN
          obtain ⟨u3, hu⟩ : ∃ u, u2.alloc (.cells #[.slice none 0 0, .slice none 0 0] 30) = u := ⟨_, rfl⟩
          rw [hu] at OA1 OA2 OB1 OB2 XC hHeld ⊢
          obtain ⟨TC, hTC⟩ : ∃ T, u2.heap.size = T := ⟨_, rfl⟩
          rw [hTC] at XC hsz ⊢
          have hgC : w2.heap.size ≤ TC := hsz
          clear hTC hu hsz
          (try simp only [List.setIfInBounds_toArray, List.set_cons_zero, List.set_cons_succ])
          have XCL : Hid (TC < u3.heap.size) := XC.out.lt
          refine wpAnyM_one (i := 5) (o := ⟨_, _, _, _, _, _⟩) (by kernel_rfl) rfl (fun K hK => ?_)
          go_simp
          have bs := below_box u3 (.cells #[.slice none 0 0, .slice none 0 0] 30)
          have XD := hide (BoxT.new 30 u3 #[.slice none 0 0, .slice none 0 0])
          have OA1 := hide (OA1.out.below bs)
          have OA2 := hide (OA2.out.below bs)
          have OB1 := hide (OB1.out.below bs)
          have OB2 := hide (OB2.out.below bs)
          have XC := hide (XC.out.below bs)
          have BN := hide (hHeld.2.out.trans (bs.mono hHeld.2.out.size))
          have hsz := hHeld.2.out.size
          clear hHeld
          refine hK.out _ _ ⟨(by rw [(X2.out.below BN.out).cellAt]; rfl), BN⟩ (fun hHeld => ?_)
          clear hK K bs BN
          have hCD : TC ≠ u3.heap.size := Nat.ne_of_lt XCL.out
          obtain ⟨u4, hu⟩ : ∃ u, u3.alloc (.cells #[.slice none 0 0, .slice none 0 0] 30) = u := ⟨_, rfl⟩
          rw [hu] at OA1 OA2 OB1 OB2 XC XD hHeld ⊢
          obtain ⟨TD, hTD⟩ : ∃ T, u3.heap.size = T := ⟨_, rfl⟩
          rw [hTD] at XD hsz hCD ⊢
          have hgD : w2.heap.size ≤ TD := hsz
          clear hTD hu hsz
          (try simp only [List.setIfInBounds_toArray, List.set_cons_zero, List.set_cons_succ])
          have XCL : Hid (TC < u4.heap.size) := XC.out.lt
          have XDL : Hid (TD < u4.heap.size) := XD.out.lt
          have FN := hide (PQ.make (hHeld.2.out) X2.out B2.out XC.out XD.out (by first | exact hCD | exact hCD.symm) OA1.out OA2.out OB1.out OB2.out (by omega) (by omega))
          have c0 : u4.cell? ⟨TC, 0, none⟩ = some (.slice none 0 0) := by rw [XC.out.cellAt]; rfl
          have c1 : u4.cell? ⟨TC, 1, none⟩ = some (.slice none 0 0) := by rw [XC.out.cellAt]; rfl
          have e0 := XC.out.free 0
          have e1 := XC.out.free 1
          have XD6 := ((XD.out.other (k' := TC) 0 (.slice tA nt kA) (by first | exact hCD | exact hCD.symm)).other (k' := TC) 1 (.slice cA nc jA) (by first | exact hCD | exact hCD.symm))
          have d0 : ((u4.setCell ⟨TC, 0, none⟩ (.slice tA nt kA)).setCell ⟨TC, 1, none⟩ (.slice cA nc jA)).cell? ⟨TD, 0, none⟩ = some (.slice none 0 0) := by rw [XD6.cellAt]; rfl
          have d1 : ((u4.setCell ⟨TC, 0, none⟩ (.slice tA nt kA)).setCell ⟨TC, 1, none⟩ (.slice cA nc jA)).cell? ⟨TD, 1, none⟩ = some (.slice none 0 0) := by rw [XD6.cellAt]; rfl
          have f0 := XD6.free 0
          have f1 := XD6.free 1
          have b6 := ((hHeld.2.out.setCell (p := ⟨TC, 0, none⟩) hgC (.slice tA nt kA)).setCell (p := ⟨TC, 1, none⟩) hgC (.slice cA nc jA))
          have b7 := ((b6.setCell (p := ⟨TD, 0, none⟩) hgD (.slice tB nt kB)).setCell (p := ⟨TD, 1, none⟩) hgD (.slice cB nc jB))
          have B6 := hide b6
          have B7 := hide b7
          clear XC XD XCL XDL OA1 OA2 OB1 OB2 XD6 hCD hHeld hgC hgD b6 b7
          refine wpAnyM_one (i := 6) (o := ⟨_, _, _, _, _, _⟩) (by kernel_rfl) rfl (fun K hK => ?_)
          go_simp
          refine hK.out _ _ ⟨(by rw [(X2.out.below B6.out).cellAt]; rfl), B6⟩ (fun hHeld => ?_)
          clear hK K hHeld
          (try simp only [List.setIfInBounds_toArray, List.set_cons_zero, List.set_cons_succ])
          refine wpAnyM_one (i := 7) (o := ⟨_, _, _, _, _, _⟩) (by kernel_rfl) rfl (fun K hK => ?_)
          go_simp
          refine hK.out _ _ ⟨(by rw [(X2.out.below B7.out).cellAt]; rfl), B7⟩ (fun hHeld => ?_)
          clear hK K hHeld
          (try simp only [List.setIfInBounds_toArray, List.set_cons_zero, List.set_cons_succ])
          refine wpAnyM_done (by kernel_rfl) ?_ _
          go_wp2_with fail
          go_meet
          exact ⟨TC, TD, tA, kA, cA, jA, tB, kB, cB, jB, rfl, rfl, FN⟩
        · go_simp
          have bs := below_box u2 (.cells #[.slice none 0 0, .slice none 0 0] 30)
          have XD := hide (BoxT.new 30 u2 #[.slice none 0 0, .slice none 0 0])
          have OA1 := hide (OA1.out.below bs)
          have OA2 := hide (OA2.out.below bs)
          have OB1 := hide (OB1.out.below bs)
          have OB2 := hide (OB2.out.below bs)
          have BN := hide (hHeld.2.out.trans (bs.mono hHeld.2.out.size))
          have hsz := hHeld.2.out.size
          clear hHeld
          refine hK.out _ _ ⟨(by rw [(X2.out.below BN.out).cellAt]; rfl), BN⟩ (fun hHeld => ?_)
          clear hK K bs BN
          obtain ⟨u3, hu⟩ : ∃ u, u2.alloc (.cells #[.slice none 0 0, .slice none 0 0] 30) = u := ⟨_, rfl⟩
          rw [hu] at OA1 OA2 OB1 OB2 XD hHeld ⊢
          obtain ⟨TD, hTD⟩ : ∃ T, u2.heap.size = T := ⟨_, rfl⟩
          rw [hTD] at XD hsz ⊢
          have hgD : w2.heap.size ≤ TD := hsz
          clear hTD hu hsz
          (try simp only [List.setIfInBounds_toArray, List.set_cons_zero, List.set_cons_succ])
          have XDL : Hid (TD < u3.heap.size) := XD.out.lt
          refine wpAnyM_one (i := 4) (o := ⟨_, _, _, _, _, _⟩) (by kernel_rfl) rfl (fun K hK => ?_)
          go_simp
          have bs := below_box u3 (.cells #[.slice none 0 0, .slice none 0 0] 30)
          have XC := hide (BoxT.new 30 u3 #[.slice none 0 0, .slice none 0 0])
          have OA1 := hide (OA1.out.below bs)
          have OA2 := hide (OA2.out.below bs)
          have OB1 := hide (OB1.out.below bs)
          have OB2 := hide (OB2.out.below bs)
          have XD := hide (XD.out.below bs)
          have BN := hide (hHeld.2.out.trans (bs.mono hHeld.2.out.size))
          have hsz := hHeld.2.out.size
          clear hHeld
          refine hK.out _ _ ⟨(by rw [(X2.out.below BN.out).cellAt]; rfl), BN⟩ (fun hHeld => ?_)
          clear hK K bs BN
          have hCD : TD ≠ u3.heap.size := Nat.ne_of_lt XDL.out
          obtain ⟨u4, hu⟩ : ∃ u, u3.alloc (.cells #[.slice none 0 0, .slice none 0 0] 30) = u := ⟨_, rfl⟩
          rw [hu] at OA1 OA2 OB1 OB2 XD XC hHeld ⊢
          obtain ⟨TC, hTC⟩ : ∃ T, u3.heap.size = T := ⟨_, rfl⟩
          rw [hTC] at XC hsz hCD ⊢
          have hgC : w2.heap.size ≤ TC := hsz
          clear hTC hu hsz
          (try simp only [List.setIfInBounds_toArray, List.set_cons_zero, List.set_cons_succ])
          have XDL : Hid (TD < u4.heap.size) := XD.out.lt
          have XCL : Hid (TC < u4.heap.size) := XC.out.lt
          have FN := hide (PQ.make (hHeld.2.out) X2.out B2.out XC.out XD.out (by first | exact hCD | exact hCD.symm) OA1.out OA2.out OB1.out OB2.out (by omega) (by omega))
          have c0 : u4.cell? ⟨TC, 0, none⟩ = some (.slice none 0 0) := by rw [XC.out.cellAt]; rfl
          have c1 : u4.cell? ⟨TC, 1, none⟩ = some (.slice none 0 0) := by rw [XC.out.cellAt]; rfl
          have e0 := XC.out.free 0
          have e1 := XC.out.free 1
          have XD6 := ((XD.out.other (k' := TC) 0 (.slice tA nt kA) (by first | exact hCD | exact hCD.symm)).other (k' := TC) 1 (.slice cA nc jA) (by first | exact hCD | exact hCD.symm))
          have d0 : ((u4.setCell ⟨TC, 0, none⟩ (.slice tA nt kA)).setCell ⟨TC, 1, none⟩ (.slice cA nc jA)).cell? ⟨TD, 0, none⟩ = some (.slice none 0 0) := by rw [XD6.cellAt]; rfl
          have d1 : ((u4.setCell ⟨TC, 0, none⟩ (.slice tA nt kA)).setCell ⟨TC, 1, none⟩ (.slice cA nc jA)).cell? ⟨TD, 1, none⟩ = some (.slice none 0 0) := by rw [XD6.cellAt]; rfl
          have f0 := XD6.free 0
          have f1 := XD6.free 1
          have b6 := ((hHeld.2.out.setCell (p := ⟨TC, 0, none⟩) hgC (.slice tA nt kA)).setCell (p := ⟨TC, 1, none⟩) hgC (.slice cA nc jA))
          have b7 := ((b6.setCell (p := ⟨TD, 0, none⟩) hgD (.slice tB nt kB)).setCell (p := ⟨TD, 1, none⟩) hgD (.slice cB nc jB))
          have B6 := hide b6
          have B7 := hide b7
          clear XC XD XCL XDL OA1 OA2 OB1 OB2 XD6 hCD hHeld hgC hgD b6 b7
          refine wpAnyM_one (i := 6) (o := ⟨_, _, _, _, _, _⟩) (by kernel_rfl) rfl (fun K hK => ?_)
          go_simp
          refine hK.out _ _ ⟨(by rw [(X2.out.below B6.out).cellAt]; rfl), B6⟩ (fun hHeld => ?_)
          clear hK K hHeld
          (try simp only [List.setIfInBounds_toArray, List.set_cons_zero, List.set_cons_succ])
          refine wpAnyM_one (i := 7) (o := ⟨_, _, _, _, _, _⟩) (by kernel_rfl) rfl (fun K hK => ?_)
          go_simp
          refine hK.out _ _ ⟨(by rw [(X2.out.below B7.out).cellAt]; rfl), B7⟩ (fun hHeld => ?_)
          clear hK K hHeld
          (try simp only [List.setIfInBounds_toArray, List.set_cons_zero, List.set_cons_succ])
          refine wpAnyM_done (by kernel_rfl) ?_ _
          go_wp2_with fail
          go_meet
          exact ⟨TC, TD, tA, kA, cA, jA, tB, kB, cB, jB, rfl, rfl, FN⟩
      · go_simp
        have bs := below_box u1 (.cells #[.slice none 0 0, .slice none 0 0] 30)
        have XC := hide (BoxT.new 30 u1 #[.slice none 0 0, .slice none 0 0])
        have OA1 := hide (OA1.out.below bs)
        have OA2 := hide (OA2.out.below bs)
        have BN := hide (hHeld.2.out.trans (bs.mono hHeld.2.out.size))
        have hsz := hHeld.2.out.size
        clear hHeld
        refine hK.out _ _ ⟨(by rw [(X2.out.below BN.out).cellAt]; rfl), BN⟩ (fun hHeld => ?_)
        clear hK K bs BN
        obtain ⟨u2, hu⟩ : ∃ u, u1.alloc (.cells #[.slice none 0 0, .slice none 0 0] 30) = u := ⟨_, rfl⟩
        rw [hu] at OA1 OA2 XC hHeld ⊢
        obtain ⟨TC, hTC⟩ : ∃ T, u1.heap.size = T := ⟨_, rfl⟩
        rw [hTC] at XC hsz ⊢
        have hgC : w2.heap.size ≤ TC := hsz
        clear hTC hu hsz
        (try simp only [List.setIfInBounds_toArray, List.set_cons_zero, List.set_cons_succ])
        have XCL : Hid (TC < u2.heap.size) := XC.out.lt
        refine wpAnyM_two (i := 3) (j := 5) (oi := ⟨_, _, _, _, _, _⟩) (oj := ⟨_, _, _, _, _, _⟩) (by kernel_rfl) rfl rfl (fun K hK => ?_) (fun K hK => ?_)
        · go_simp
          go_at_call 11
          refine (HRK.out _ hHeld.2.out).mono ?_
          rintro e u3 ⟨tB, kB, cB, jB, rfl, o1, o2, bs⟩
          have OA1 := hide (OA1.out.below bs)
          have OA2 := hide (OA2.out.below bs)
          have XC := hide (XC.out.below bs)
          have OB1 := hide o1
          have OB2 := hide o2
          have BN := hide (hHeld.2.out.trans (bs.mono hHeld.2.out.size))
          clear hHeld o1 o2
          refine hK.out _ _ ⟨(by rw [(X2.out.below BN.out).cellAt]; rfl), BN⟩ (fun hHeld => ?_)
          clear hK K bs BN
          (try simp only [List.setIfInBounds_toArray, List.set_cons_zero, List.set_cons_succ])
          have XCL : Hid (TC < u3.heap.size) := XC.out.lt
          refine wpAnyM_one (i := 5) (o := ⟨_, _, _, _, _, _⟩) (by kernel_rfl) rfl (fun K hK => ?_)
          go_simp
          have bs := below_box u3 (.cells #[.slice none 0 0, .slice none 0 0] 30)
          have XD := hide (BoxT.new 30 u3 #[.slice none 0 0, .slice none 0 0])
          have OA1 := hide (OA1.out.below bs)
          have OA2 := hide (OA2.out.below bs)
          have XC := hide (XC.out.below bs)
          have OB1 := hide (OB1.out.below bs)
          have OB2 := hide (OB2.out.below bs)
          have BN := hide (hHeld.2.out.trans (bs.mono hHeld.2.out.size))
          have hsz := hHeld.2.out.size
          clear hHeld
          refine hK.out _ _ ⟨(by rw [(X2.out.below BN.out).cellAt]; rfl), BN⟩ (fun hHeld => ?_)
          clear hK K bs BN
          have hCD : TC ≠ u3.heap.size := Nat.ne_of_lt XCL.out
          obtain ⟨u4, hu⟩ : ∃ u, u3.alloc (.cells #[.slice none 0 0, .slice none 0 0] 30) = u := ⟨_, rfl⟩
          rw [hu] at OA1 OA2 XC OB1 OB2 XD hHeld ⊢
          obtain ⟨TD, hTD⟩ : ∃ T, u3.heap.size = T := ⟨_, rfl⟩
          rw [hTD] at XD hsz hCD ⊢
          have hgD : w2.heap.size ≤ TD := hsz
          clear hTD hu hsz
          (try simp only [List.setIfInBounds_toArray, List.set_cons_zero, List.set_cons_succ])
          have XCL : Hid (TC < u4.heap.size) := XC.out.lt
          have XDL : Hid (TD < u4.heap.size) := XD.out.lt
          have FN := hide (PQ.make (hHeld.2.out) X2.out B2.out XC.out XD.out (by first | exact hCD | exact hCD.symm) OA1.out OA2.out OB1.out OB2.out (by omega) (by omega))
          have c0 : u4.cell? ⟨TC, 0, none⟩ = some (.slice none 0 0) := by rw [XC.out.cellAt]; rfl
          have c1 : u4.cell? ⟨TC, 1, none⟩ = some (.slice none 0 0) := by rw [XC.out.cellAt]; rfl
          have e0 := XC.out.free 0
          have e1 := XC.out.free 1
          have XD6 := ((XD.out.other (k' := TC) 0 (.slice tA nt kA) (by first | exact hCD | exact hCD.symm)).other (k' := TC) 1 (.slice cA nc jA) (by first | exact hCD | exact hCD.symm))
          have d0 : ((u4.setCell ⟨TC, 0, none⟩ (.slice tA nt kA)).setCell ⟨TC, 1, none⟩ (.slice cA nc jA)).cell? ⟨TD, 0, none⟩ = some (.slice none 0 0) := by rw [XD6.cellAt]; rfl
          have d1 : ((u4.setCell ⟨TC, 0, none⟩ (.slice tA nt kA)).setCell ⟨TC, 1, none⟩ (.slice cA nc jA)).cell? ⟨TD, 1, none⟩ = some (.slice none 0 0) := by rw [XD6.cellAt]; rfl
          have f0 := XD6.free 0
          have f1 := XD6.free 1
          have b6 := ((hHeld.2.out.setCell (p := ⟨TC, 0, none⟩) hgC (.slice tA nt kA)).setCell (p := ⟨TC, 1, none⟩) hgC (.slice cA nc jA))
          have b7 := ((b6.setCell (p := ⟨TD, 0, none⟩) hgD (.slice tB nt kB)).setCell (p := ⟨TD, 1, none⟩) hgD (.slice cB nc jB))
          have B6 := hide b6
          have B7 := hide b7
          clear XC XD XCL XDL OA1 OA2 OB1 OB2 XD6 hCD hHeld hgC hgD b6 b7
          refine wpAnyM_one (i := 6) (o := ⟨_, _, _, _, _, _⟩) (by kernel_rfl) rfl (fun K hK => ?_)
          go_simp
          refine hK.out _ _ ⟨(by rw [(X2.out.below B6.out).cellAt]; rfl), B6⟩ (fun hHeld => ?_)
          clear hK K hHeld
          (try simp only [List.setIfInBounds_toArray, List.set_cons_zero, List.set_cons_succ])
          refine wpAnyM_one (i := 7) (o := ⟨_, _, _, _, _, _⟩) (by kernel_rfl) rfl (fun K hK => ?_)
          go_simp
          refine hK.out _ _ ⟨(by rw [(X2.out.below B7.out).cellAt]; rfl), B7⟩ (fun hHeld => ?_)
          clear hK K hHeld
          (try simp only [List.setIfInBounds_toArray, List.set_cons_zero, List.set_cons_succ])
          refine wpAnyM_done (by kernel_rfl) ?_ _
          go_wp2_with fail
          go_meet
          exact ⟨TC, TD, tA, kA, cA, jA, tB, kB, cB, jB, rfl, rfl, FN⟩
        · go_simp
          have bs := below_box u2 (.cells #[.slice none 0 0, .slice none 0 0] 30)
          have XD := hide (BoxT.new 30 u2 #[.slice none 0 0, .slice none 0 0])
          have OA1 := hide (OA1.out.below bs)
          have OA2 := hide (OA2.out.below bs)
          have XC := hide (XC.out.below bs)
          have BN := hide (hHeld.2.out.trans (bs.mono hHeld.2.out.size))
          have hsz := hHeld.2.out.size
          clear hHeld
          refine hK.out _ _ ⟨(by rw [(X2.out.below BN.out).cellAt]; rfl), BN⟩ (fun hHeld => ?_)
          clear hK K bs BN
          have hCD : TC ≠ u2.heap.size := Nat.ne_of_lt XCL.out
          obtain ⟨u3, hu⟩ : ∃ u, u2.alloc (.cells #[.slice none 0 0, .slice none 0 0] 30) = u := ⟨_, rfl⟩
          rw [hu] at OA1 OA2 XC XD hHeld ⊢
          obtain ⟨TD, hTD⟩ : ∃ T, u2.heap.size = T := ⟨_, rfl⟩
          rw [hTD] at XD hsz hCD ⊢
          have hgD : w2.heap.size ≤ TD := hsz
          clear hTD hu hsz
          (try simp only [List.setIfInBounds_toArray, List.set_cons_zero, List.set_cons_succ])
          have XCL : Hid (TC < u3.heap.size) := XC.out.lt
          have XDL : Hid (TD < u3.heap.size) := XD.out.lt
          refine wpAnyM_one (i := 3) (o := ⟨_, _, _, _, _, _⟩) (by kernel_rfl) rfl (fun K hK => ?_)
          go_simp
          go_at_call 11
          refine (HRK.out _ hHeld.2.out).mono ?_
          rintro e u4 ⟨tB, kB, cB, jB, rfl, o1, o2, bs⟩
          have OA1 := hide (OA1.out.below bs)
          have OA2 := hide (OA2.out.below bs)
          have XC := hide (XC.out.below bs)
          have XD := hide (XD.out.below bs)
          have OB1 := hide o1
          have OB2 := hide o2
          have BN := hide (hHeld.2.out.trans (bs.mono hHeld.2.out.size))
          clear hHeld o1 o2
          refine hK.out _ _ ⟨(by rw [(X2.out.below BN.out).cellAt]; rfl), BN⟩ (fun hHeld => ?_)
          clear hK K bs BN
          (try simp only [List.setIfInBounds_toArray, List.set_cons_zero, List.set_cons_succ])
          have XCL : Hid (TC < u4.heap.size) := XC.out.lt
          have XDL : Hid (TD < u4.heap.size) := XD.out.lt
          have FN := hide (PQ.make (hHeld.2.out) X2.out B2.out XC.out XD.out (by first | exact hCD | exact hCD.symm) OA1.out OA2.out OB1.out OB2.out (by omega) (by omega))
          have c0 : u4.cell? ⟨TC, 0, none⟩ = some (.slice none 0 0) := by rw [XC.out.cellAt]; rfl
          have c1 : u4.cell? ⟨TC, 1, none⟩ = some (.slice none 0 0) := by rw [XC.out.cellAt]; rfl
          have e0 := XC.out.free 0
          have e1 := XC.out.free 1
          have XD6 := ((XD.out.other (k' := TC) 0 (.slice tA nt kA) (by first | exact hCD | exact hCD.symm)).other (k' := TC) 1 (.slice cA nc jA) (by first | exact hCD | exact hCD.symm))
          have d0 : ((u4.setCell ⟨TC, 0, none⟩ (.slice tA nt kA)).setCell ⟨TC, 1, none⟩ (.slice cA nc jA)).cell? ⟨TD, 0, none⟩ = some (.slice none 0 0) := by rw [XD6.cellAt]; rfl
          have d1 : ((u4.setCell ⟨TC, 0, none⟩ (.slice tA nt kA)).setCell ⟨TC, 1, none⟩ (.slice cA nc jA)).cell? ⟨TD, 1, none⟩ = some (.slice none 0 0) := by rw [XD6.cellAt]; rfl
          have f0 := XD6.free 0
          have f1 := XD6.free 1
          have b6 := ((hHeld.2.out.setCell (p := ⟨TC, 0, none⟩) hgC (.slice tA nt kA)).setCell (p := ⟨TC, 1, none⟩) hgC (.slice cA nc jA))
          have b7 := ((b6.setCell (p := ⟨TD, 0, none⟩) hgD (.slice tB nt kB)).setCell (p := ⟨TD, 1, none⟩) hgD (.slice cB nc jB))
          have B6 := hide b6
          have B7 := hide b7
          clear XC XD XCL XDL OA1 OA2 OB1 OB2 XD6 hCD hHeld hgC hgD b6 b7
          refine wpAnyM_one (i := 6) (o := ⟨_, _, _, _, _, _⟩) (by kernel_rfl) rfl (fun K hK => ?_)
          go_simp
          refine hK.out _ _ ⟨(by rw [(X2.out.below B6.out).cellAt]; rfl), B6⟩ (fun hHeld => ?_)
          clear hK K hHeld
          (try simp only [List.setIfInBounds_toArray, List.set_cons_zero, List.set_cons_succ])
          refine wpAnyM_one (i := 7) (o := ⟨_, _, _, _, _, _⟩) (by kernel_rfl) rfl (fun K hK => ?_)
          go_simp
          refine hK.out _ _ ⟨(by rw [(X2.out.below B7.out).cellAt]; rfl), B7⟩ (fun hHeld => ?_)
          clear hK K hHeld
          (try simp only [List.setIfInBounds_toArray, List.set_cons_zero, List.set_cons_succ])
          refine wpAnyM_done (by kernel_rfl) ?_ _
          go_wp2_with fail
          go_meet
          exact ⟨TC, TD, tA, kA, cA, jA, tB, kB, cB, jB, rfl, rfl, FN⟩
      · go_simp
        have bs := below_box u1 (.cells #[.slice none 0 0, .slice none 0 0] 30)
        have XD := hide (BoxT.new 30 u1 #[.slice none 0 0, .slice none 0 0])
        have OA1 := hide (OA1.out.below bs)
        have OA2 := hide (OA2.out.below bs)
        have BN := hide (hHeld.2.out.trans (bs.mono hHeld.2.out.size))
        have hsz := hHeld.2.out.size
        clear hHeld
        refine hK.out _ _ ⟨(by rw [(X2.out.below BN.out).cellAt]; rfl), BN⟩ (fun hHeld => ?_)
        clear hK K bs BN
        obtain ⟨u2, hu⟩ : ∃ u, u1.alloc (.cells #[.slice none 0 0, .slice none 0 0] 30) = u := ⟨_, rfl⟩
        rw [hu] at OA1 OA2 XD hHeld ⊢
        obtain ⟨TD, hTD⟩ : ∃ T, u1.heap.size = T := ⟨_, rfl⟩
        rw [hTD] at XD hsz ⊢
        have hgD : w2.heap.size ≤ TD := hsz
        clear hTD hu hsz
        (try simp only [List.setIfInBounds_toArray, List.set_cons_zero, List.set_cons_succ])
        have XDL : Hid (TD < u2.heap.size) := XD.out.lt
        refine wpAnyM_two (i := 3) (j := 4) (oi := ⟨_, _, _, _, _, _⟩) (oj := ⟨_, _, _, _, _, _⟩) (by kernel_rfl) rfl rfl (fun K hK => ?_) (fun K hK => ?_)
        · go_simp
          go_at_call 11
          refine (HRK.out _ hHeld.2.out).mono ?_
          rintro e u3 ⟨tB, kB, cB, jB, rfl, o1, o2, bs⟩
          have OA1 := hide (OA1.out.below bs)
          have OA2 := hide (OA2.out.below bs)
          have XD := hide (XD.out.below bs)
          have OB1 := hide o1
          have OB2 := hide o2
          have BN := hide (hHeld.2.out.trans (bs.mono hHeld.2.out.size))
          clear hHeld o1 o2
          refine hK.out _ _ ⟨(by rw [(X2.out.below BN.out).cellAt]; rfl), BN⟩ (fun hHeld => ?_)
          clear hK K bs BN
          (try simp only [List.setIfInBounds_toArray, List.set_cons_zero, List.set_cons_succ])
          have XDL : Hid (TD < u3.heap.size) := XD.out.lt
          refine wpAnyM_one (i := 4) (o := ⟨_, _, _, _, _, _⟩) (by kernel_rfl) rfl (fun K hK => ?_)
          go_simp
          have bs := below_box u3 (.cells #[.slice none 0 0, .slice none 0 0] 30)
          have XC := hide (BoxT.new 30 u3 #[.slice none 0 0, .slice none 0 0])
          have OA1 := hide (OA1.out.below bs)
          have OA2 := hide (OA2.out.below bs)
          have XD := hide (XD.out.below bs)
          have OB1 := hide (OB1.out.below bs)
          have OB2 := hide (OB2.out.below bs)
          have BN := hide (hHeld.2.out.trans (bs.mono hHeld.2.out.size))
          have hsz := hHeld.2.out.size
          clear hHeld
          refine hK.out _ _ ⟨(by rw [(X2.out.below BN.out).cellAt]; rfl), BN⟩ (fun hHeld => ?_)
          clear hK K bs BN
          have hCD : TD ≠ u3.heap.size := Nat.ne_of_lt XDL.out
          obtain ⟨u4, hu⟩ : ∃ u, u3.alloc (.cells #[.slice none 0 0, .slice none 0 0] 30) = u := ⟨_, rfl⟩
          rw [hu] at OA1 OA2 XD OB1 OB2 XC hHeld ⊢
          obtain ⟨TC, hTC⟩ : ∃ T, u3.heap.size = T := ⟨_, rfl⟩
          rw [hTC] at XC hsz hCD ⊢
          have hgC : w2.heap.size ≤ TC := hsz
          clear hTC hu hsz
          (try simp only [List.setIfInBounds_toArray, List.set_cons_zero, List.set_cons_succ])
          have XDL : Hid (TD < u4.heap.size) := XD.out.lt
          have XCL : Hid (TC < u4.heap.size) := XC.out.lt
          have FN := hide (PQ.make (hHeld.2.out) X2.out B2.out XC.out XD.out (by first | exact hCD | exact hCD.symm) OA1.out OA2.out OB1.out OB2.out (by omega) (by omega))
          have c0 : u4.cell? ⟨TC, 0, none⟩ = some (.slice none 0 0) := by rw [XC.out.cellAt]; rfl
          have c1 : u4.cell? ⟨TC, 1, none⟩ = some (.slice none 0 0) := by rw [XC.out.cellAt]; rfl
          have e0 := XC.out.free 0
          have e1 := XC.out.free 1
          have XD6 := ((XD.out.other (k' := TC) 0 (.slice tA nt kA) (by first | exact hCD | exact hCD.symm)).other (k' := TC) 1 (.slice cA nc jA) (by first | exact hCD | exact hCD.symm))
          have d0 : ((u4.setCell ⟨TC, 0, none⟩ (.slice tA nt kA)).setCell ⟨TC, 1, none⟩ (.slice cA nc jA)).cell? ⟨TD, 0, none⟩ = some (.slice none 0 0) := by rw [XD6.cellAt]; rfl
          have d1 : ((u4.setCell ⟨TC, 0, none⟩ (.slice tA nt kA)).setCell ⟨TC, 1, none⟩ (.slice cA nc jA)).cell? ⟨TD, 1, none⟩ = some (.slice none 0 0) := by rw [XD6.cellAt]; rfl
          have f0 := XD6.free 0
          have f1 := XD6.free 1
          have b6 := ((hHeld.2.out.setCell (p := ⟨TC, 0, none⟩) hgC (.slice tA nt kA)).setCell (p := ⟨TC, 1, none⟩) hgC (.slice cA nc jA))
          have b7 := ((b6.setCell (p := ⟨TD, 0, none⟩) hgD (.slice tB nt kB)).setCell (p := ⟨TD, 1, none⟩) hgD (.slice cB nc jB))
          have B6 := hide b6
          have B7 := hide b7
          clear XC XD XCL XDL OA1 OA2 OB1 OB2 XD6 hCD hHeld hgC hgD b6 b7
          refine wpAnyM_one (i := 6) (o := ⟨_, _, _, _, _, _⟩) (by kernel_rfl) rfl (fun K hK => ?_)
          go_simp
          refine hK.out _ _ ⟨(by rw [(X2.out.below B6.out).cellAt]; rfl), B6⟩ (fun hHeld => ?_)
          clear hK K hHeld
          (try simp only [List.setIfInBounds_toArray, List.set_cons_zero, List.set_cons_succ])
          refine wpAnyM_one (i := 7) (o := ⟨_, _, _, _, _, _⟩) (by kernel_rfl) rfl (fun K hK => ?_)
          go_simp
          refine hK.out _ _ ⟨(by rw [(X2.out.below B7.out).cellAt]; rfl), B7⟩ (fun hHeld => ?_)
          clear hK K hHeld
          (try simp only [List.setIfInBounds_toArray, List.set_cons_zero, List.set_cons_succ])
          refine wpAnyM_done (by kernel_rfl) ?_ _
          go_wp2_with fail
          go_meet
          exact ⟨TC, TD, tA, kA, cA, jA, tB, kB, cB, jB, rfl, rfl, FN⟩
        · go_simp
          have bs := below_box u2 (.cells #[.slice none 0 0, .slice none 0 0] 30)
          have XC := hide (BoxT.new 30 u2 #[.slice none 0 0, .slice none 0 0])
          have OA1 := hide (OA1.out.below bs)
          have OA2 := hide (OA2.out.below bs)
          have XD := hide (XD.out.below bs)
          have BN := hide (hHeld.2.out.trans (bs.mono hHeld.2.out.size))
          have hsz := hHeld.2.out.size
          clear hHeld
          refine hK.out _ _ ⟨(by rw [(X2.out.below BN.out).cellAt]; rfl), BN⟩ (fun hHeld => ?_)
          clear hK K bs BN
          have hCD : TD ≠ u2.heap.size := Nat.ne_of_lt XDL.out
          obtain ⟨u3, hu⟩ : ∃ u, u2.alloc (.cells #[.slice none 0 0, .slice none 0 0] 30) = u := ⟨_, rfl⟩
          rw [hu] at OA1 OA2 XD XC hHeld ⊢
          obtain ⟨TC, hTC⟩ : ∃ T, u2.heap.size = T := ⟨_, rfl⟩
          rw [hTC] at XC hsz hCD ⊢
          have hgC : w2.heap.size ≤ TC := hsz
          clear hTC hu hsz
          (try simp only [List.setIfInBounds_toArray, List.set_cons_zero, List.set_cons_succ])
          have XDL : Hid (TD < u3.heap.size) := XD.out.lt
          have XCL : Hid (TC < u3.heap.size) := XC.out.lt
          refine wpAnyM_one (i := 3) (o := ⟨_, _, _, _, _, _⟩) (by kernel_rfl) rfl (fun K hK => ?_)
          go_simp
          go_at_call 11
          refine (HRK.out _ hHeld.2.out).mono ?_
          rintro e u4 ⟨tB, kB, cB, jB, rfl, o1, o2, bs⟩
          have OA1 := hide (OA1.out.below bs)
          have OA2 := hide (OA2.out.below bs)
          have XD := hide (XD.out.below bs)
          have XC := hide (XC.out.below bs)
          have OB1 := hide o1
          have OB2 := hide o2
          have BN := hide (hHeld.2.out.trans (bs.mono hHeld.2.out.size))
          clear hHeld o1 o2
          refine hK.out _ _ ⟨(by rw [(X2.out.below BN.out).cellAt]; rfl), BN⟩ (fun hHeld => ?_)
          clear hK K bs BN
          (try simp only [List.setIfInBounds_toArray, List.set_cons_zero, List.set_cons_succ])
          have XDL : Hid (TD < u4.heap.size) := XD.out.lt
          have XCL : Hid (TC < u4.heap.size) := XC.out.lt
          have FN := hide (PQ.make (hHeld.2.out) X2.out B2.out XC.out XD.out (by first | exact hCD | exact hCD.symm) OA1.out OA2.out OB1.out OB2.out (by omega) (by omega))
          have c0 : u4.cell? ⟨TC, 0, none⟩ = some (.slice none 0 0) := by rw [XC.out.cellAt]; rfl
          have c1 : u4.cell? ⟨TC, 1, none⟩ = some (.slice none 0 0) := by rw [XC.out.cellAt]; rfl
          have e0 := XC.out.free 0
          have e1 := XC.out.free 1
          have XD6 := ((XD.out.other (k' := TC) 0 (.slice tA nt kA) (by first | exact hCD | exact hCD.symm)).other (k' := TC) 1 (.slice cA nc jA) (by first | exact hCD | exact hCD.symm))
          have d0 : ((u4.setCell ⟨TC, 0, none⟩ (.slice tA nt kA)).setCell ⟨TC, 1, none⟩ (.slice cA nc jA)).cell? ⟨TD, 0, none⟩ = some (.slice none 0 0) := by rw [XD6.cellAt]; rfl
          have d1 : ((u4.setCell ⟨TC, 0, none⟩ (.slice tA nt kA)).setCell ⟨TC, 1, none⟩ (.slice cA nc jA)).cell? ⟨TD, 1, none⟩ = some (.slice none 0 0) := by rw [XD6.cellAt]; rfl
          have f0 := XD6.free 0
          have f1 := XD6.free 1
          have b6 := ((hHeld.2.out.setCell (p := ⟨TC, 0, none⟩) hgC (.slice tA nt kA)).setCell (p := ⟨TC, 1, none⟩) hgC (.slice cA nc jA))
          have b7 := ((b6.setCell (p := ⟨TD, 0, none⟩) hgD (.slice tB nt kB)).setCell (p := ⟨TD, 1, none⟩) hgD (.slice cB nc jB))
          have B6 := hide b6
          have B7 := hide b7
          clear XC XD XCL XDL OA1 OA2 OB1 OB2 XD6 hCD hHeld hgC hgD b6 b7
          refine wpAnyM_one (i := 6) (o := ⟨_, _, _, _, _, _⟩) (by kernel_rfl) rfl (fun K hK => ?_)
          go_simp
          refine hK.out _ _ ⟨(by rw [(X2.out.below B6.out).cellAt]; rfl), B6⟩ (fun hHeld => ?_)
          clear hK K hHeld
          (try simp only [List.setIfInBounds_toArray, List.set_cons_zero, List.set_cons_succ])
          refine wpAnyM_one (i := 7) (o := ⟨_, _, _, _, _, _⟩) (by kernel_rfl) rfl (fun K hK => ?_)
          go_simp
          refine hK.out _ _ ⟨(by rw [(X2.out.below B7.out).cellAt]; rfl), B7⟩ (fun hHeld => ?_)
          clear hK K hHeld
          (try simp only [List.setIfInBounds_toArray, List.set_cons_zero, List.set_cons_succ])
          refine wpAnyM_done (by kernel_rfl) ?_ _
          go_wp2_with fail
          go_meet
          exact ⟨TC, TD, tA, kA, cA, jA, tB, kB, cB, jB, rfl, rfl, FN⟩
    · go_simp
      have bs := below_box u0 (.cells #[.slice none 0 0, .slice none 0 0] 30)
      have XC := hide (BoxT.new 30 u0 #[.slice none 0 0, .slice none 0 0])
      have BN := hide (hHeld.2.out.trans (bs.mono hHeld.2.out.size))
      have hsz := hHeld.2.out.size
      clear hHeld
      refine hK.out _ _ ⟨(by rw [(X2.out.below BN.out).cellAt]; rfl), BN⟩ (fun hHeld => ?_)
      clear hK K bs BN
      obtain ⟨u1, hu⟩ : ∃ u, u0.alloc (.cells #[.slice none 0 0, .slice none 0 0] 30) = u := ⟨_, rfl⟩
      rw [hu] at XC hHeld ⊢
      obtain ⟨TC, hTC⟩ : ∃ T, u0.heap.size = T := ⟨_, rfl⟩
      rw [hTC] at XC hsz ⊢
      have hgC : w2.heap.size ≤ TC := hsz
      clear hTC hu hsz
      (try simp only [List.setIfInBounds_toArray, List.set_cons_zero, List.set_cons_succ])
      have XCL : Hid (TC < u1.heap.size) := XC.out.lt
      refine wpAnyM_two (i := 1) (j := 5) (oi := ⟨_, _, _, _, _, _⟩) (oj := ⟨_, _, _, _, _, _⟩) (by kernel_rfl) rfl rfl (fun K hK => ?_) (fun K hK => ?_)
      · go_simp
        go_at_call 10
        refine (HMK.out _ hHeld.2.out).mono ?_
        rintro e u2 ⟨tA, kA, cA, jA, rfl, o1, o2, bs⟩
        have XC := hide (XC.out.below bs)
        have OA1 := hide o1
        have OA2 := hide o2
        have BN := hide (hHeld.2.out.trans (bs.mono hHeld.2.out.size))
        clear hHeld o1 o2
        refine hK.out _ _ ⟨(by rw [(X2.out.below BN.out).cellAt]; rfl), BN⟩ (fun hHeld => ?_)
        clear hK K bs BN
        (try simp only [List.setIfInBounds_toArray, List.set_cons_zero, List.set_cons_succ])
        have XCL : Hid (TC < u2.heap.size) := XC.out.lt
        refine wpAnyM_two (i := 3) (j := 5) (oi := ⟨_, _, _, _, _, _⟩) (oj := ⟨_, _, _, _, _, _⟩) (by kernel_rfl) rfl rfl (fun K hK => ?_) (fun K hK => ?_)
        · go_simp
          go_at_call 11
          refine (HRK.out _ hHeld.2.out).mono ?_
          rintro e u3 ⟨tB, kB, cB, jB, rfl, o1, o2, bs⟩
          have XC := hide (XC.out.below bs)
          have OA1 := hide (OA1.out.below bs)
          have OA2 := hide (OA2.out.below bs)
          have OB1 := hide o1
          have OB2 := hide o2
          have BN := hide (hHeld.2.out.trans (bs.mono hHeld.2.out.size))
          clear hHeld o1 o2
          refine hK.out _ _ ⟨(by rw [(X2.out.below BN.out).cellAt]; rfl), BN⟩ (fun hHeld => ?_)
          clear hK K bs BN
          (try simp only [List.setIfInBounds_toArray, List.set_cons_zero, List.set_cons_succ])
          have XCL : Hid (TC < u3.heap.size) := XC.out.lt
          refine wpAnyM_one (i := 5) (o := ⟨_, _, _, _, _, _⟩) (by kernel_rfl) rfl (fun K hK => ?_)
          go_simp
          have bs := below_box u3 (.cells #[.slice none 0 0, .slice none 0 0] 30)
          have XD := hide (BoxT.new 30 u3 #[.slice none 0 0, .slice none 0 0])
          have XC := hide (XC.out.below bs)
          have OA1 := hide (OA1.out.below bs)
          have OA2 := hide (OA2.out.below bs)
          have OB1 := hide (OB1.out.below bs)
          have OB2 := hide (OB2.out.below bs)
          have BN := hide (hHeld.2.out.trans (bs.mono hHeld.2.out.size))
          have hsz := hHeld.2.out.size
          clear hHeld
          refine hK.out _ _ ⟨(by rw [(X2.out.below BN.out).cellAt]; rfl), BN⟩ (fun hHeld => ?_)
          clear hK K bs BN
          have hCD : TC ≠ u3.heap.size := Nat.ne_of_lt XCL.out
          obtain ⟨u4, hu⟩ : ∃ u, u3.alloc (.cells #[.slice none 0 0, .slice none 0 0] 30) = u := ⟨_, rfl⟩
          rw [hu] at XC OA1 OA2 OB1 OB2 XD hHeld ⊢
          obtain ⟨TD, hTD⟩ : ∃ T, u3.heap.size = T := ⟨_, rfl⟩
          rw [hTD] at XD hsz hCD ⊢
          have hgD : w2.heap.size ≤ TD := hsz
          clear hTD hu hsz
          (try simp only [List.setIfInBounds_toArray, List.set_cons_zero, List.set_cons_succ])
          have XCL : Hid (TC < u4.heap.size) := XC.out.lt
          have XDL : Hid (TD < u4.heap.size) := XD.out.lt
          have FN := hide (PQ.make (hHeld.2.out) X2.out B2.out XC.out XD.out (by first | exact hCD | exact hCD.symm) OA1.out OA2.out OB1.out OB2.out (by omega) (by omega))
          have c0 : u4.cell? ⟨TC, 0, none⟩ = some (.slice none 0 0) := by rw [XC.out.cellAt]; rfl
          have c1 : u4.cell? ⟨TC, 1, none⟩ = some (.slice none 0 0) := by rw [XC.out.cellAt]; rfl
          have e0 := XC.out.free 0
          have e1 := XC.out.free 1
          have XD6 := ((XD.out.other (k' := TC) 0 (.slice tA nt kA) (by first | exact hCD | exact hCD.symm)).other (k' := TC) 1 (.slice cA nc jA) (by first | exact hCD | exact hCD.symm))
          have d0 : ((u4.setCell ⟨TC, 0, none⟩ (.slice tA nt kA)).setCell ⟨TC, 1, none⟩ (.slice cA nc jA)).cell? ⟨TD, 0, none⟩ = some (.slice none 0 0) := by rw [XD6.cellAt]; rfl
          have d1 : ((u4.setCell ⟨TC, 0, none⟩ (.slice tA nt kA)).setCell ⟨TC, 1, none⟩ (.slice cA nc jA)).cell? ⟨TD, 1, none⟩ = some (.slice none 0 0) := by rw [XD6.cellAt]; rfl
          have f0 := XD6.free 0
          have f1 := XD6.free 1
          have b6 := ((hHeld.2.out.setCell (p := ⟨TC, 0, none⟩) hgC (.slice tA nt kA)).setCell (p := ⟨TC, 1, none⟩) hgC (.slice cA nc jA))
          have b7 := ((b6.setCell (p := ⟨TD, 0, none⟩) hgD (.slice tB nt kB)).setCell (p := ⟨TD, 1, none⟩) hgD (.slice cB nc jB))
          have B6 := hide b6
          have B7 := hide b7
          clear XC XD XCL XDL OA1 OA2 OB1 OB2 XD6 hCD hHeld hgC hgD b6 b7
          refine wpAnyM_one (i := 6) (o := ⟨_, _, _, _, _, _⟩) (by kernel_rfl) rfl (fun K hK => ?_)
          go_simp
          refine hK.out _ _ ⟨(by rw [(X2.out.below B6.out).cellAt]; rfl), B6⟩ (fun hHeld => ?_)
          clear hK K hHeld
          (try simp only [List.setIfInBounds_toArray, List.set_cons_zero, List.set_cons_succ])
          refine wpAnyM_one (i := 7) (o := ⟨_, _, _, _, _, _⟩) (by kernel_rfl) rfl (fun K hK => ?_)
          go_simp
          refine hK.out _ _ ⟨(by rw [(X2.out.below B7.out).cellAt]; rfl), B7⟩ (fun hHeld => ?_)
          clear hK K hHeld
          (try simp only [List.setIfInBounds_toArray, List.set_cons_zero, List.set_cons_succ])
          refine wpAnyM_done (by kernel_rfl) ?_ _
          go_wp2_with fail
          go_meet
          exact ⟨TC, TD, tA, kA, cA, jA, tB, kB, cB, jB, rfl, rfl, FN⟩
        · go_simp
          have bs := below_box u2 (.cells #[.slice none 0 0, .slice none 0 0] 30)
          have XD := hide (BoxT.new 30 u2 #[.slice none 0 0, .slice none 0 0])
          have XC := hide (XC.out.below bs)
          have OA1 := hide (OA1.out.below bs)
          have OA2 := hide (OA2.out.below bs)
          have BN := hide (hHeld.2.out.trans (bs.mono hHeld.2.out.size))
          have hsz := hHeld.2.out.size
          clear hHeld
          refine hK.out _ _ ⟨(by rw [(X2.out.below BN.out).cellAt]; rfl), BN⟩ (fun hHeld => ?_)
          clear hK K bs BN
          have hCD : TC ≠ u2.heap.size := Nat.ne_of_lt XCL.out
          obtain ⟨u3, hu⟩ : ∃ u, u2.alloc (.cells #[.slice none 0 0, .slice none 0 0] 30) = u := ⟨_, rfl⟩
          rw [hu] at XC OA1 OA2 XD hHeld ⊢
          obtain ⟨TD, hTD⟩ : ∃ T, u2.heap.size = T := ⟨_, rfl⟩
          rw [hTD] at XD hsz hCD ⊢
          have hgD : w2.heap.size ≤ TD := hsz
          clear hTD hu hsz
          (try simp only [List.setIfInBounds_toArray, List.set_cons_zero, List.set_cons_succ])
          have XCL : Hid (TC < u3.heap.size) := XC.out.lt
          have XDL : Hid (TD < u3.heap.size) := XD.out.lt
          refine wpAnyM_one (i := 3) (o := ⟨_, _, _, _, _, _⟩) (by kernel_rfl) rfl (fun K hK => ?_)
          go_simp
          go_at_call 11
          refine (HRK.out _ hHeld.2.out).mono ?_
          rintro e u4 ⟨tB, kB, cB, jB, rfl, o1, o2, bs⟩
          have XC := hide (XC.out.below bs)
          have OA1 := hide (OA1.out.below bs)
          have OA2 := hide (OA2.out.below bs)
          have XD := hide (XD.out.below bs)
          have OB1 := hide o1
          have OB2 := hide o2
          have BN := hide (hHeld.2.out.trans (bs.mono hHeld.2.out.size))
          clear hHeld o1 o2
          refine hK.out _ _ ⟨(by rw [(X2.out.below BN.out).cellAt]; rfl), BN⟩ (fun hHeld => ?_)
          clear hK K bs BN
          (try simp only [List.setIfInBounds_toArray, List.set_cons_zero, List.set_cons_succ])
          have XCL : Hid (TC < u4.heap.size) := XC.out.lt
          have XDL : Hid (TD < u4.heap.size) := XD.out.lt
          have FN := hide (PQ.make (hHeld.2.out) X2.out B2.out XC.out XD.out (by first | exact hCD | exact hCD.symm) OA1.out OA2.out OB1.out OB2.out (by omega) (by omega))
          have c0 : u4.cell? ⟨TC, 0, none⟩ = some (.slice none 0 0) := by rw [XC.out.cellAt]; rfl
          have c1 : u4.cell? ⟨TC, 1, none⟩ = some (.slice none 0 0) := by rw [XC.out.cellAt]; rfl
          have e0 := XC.out.free 0
          have e1 := XC.out.free 1
          have XD6 := ((XD.out.other (k' := TC) 0 (.slice tA nt kA) (by first | exact hCD | exact hCD.symm)).other (k' := TC) 1 (.slice cA nc jA) (by first | exact hCD | exact hCD.symm))
          have d0 : ((u4.setCell ⟨TC, 0, none⟩ (.slice tA nt kA)).setCell ⟨TC, 1, none⟩ (.slice cA nc jA)).cell? ⟨TD, 0, none⟩ = some (.slice none 0 0) := by rw [XD6.cellAt]; rfl
          have d1 : ((u4.setCell ⟨TC, 0, none⟩ (.slice tA nt kA)).setCell ⟨TC, 1, none⟩ (.slice cA nc jA)).cell? ⟨TD, 1, none⟩ = some (.slice none 0 0) := by rw [XD6.cellAt]; rfl
          have f0 := XD6.free 0
          have f1 := XD6.free 1
          have b6 := ((hHeld.2.out.setCell (p := ⟨TC, 0, none⟩) hgC (.slice tA nt kA)).setCell (p := ⟨TC, 1, none⟩) hgC (.slice cA nc jA))
          have b7 := ((b6.setCell (p := ⟨TD, 0, none⟩) hgD (.slice tB nt kB)).setCell (p := ⟨TD, 1, none⟩) hgD (.slice cB nc jB))
          have B6 := hide b6
          have B7 := hide b7
          clear XC XD XCL XDL OA1 OA2 OB1 OB2 XD6 hCD hHeld hgC hgD b6 b7
          refine wpAnyM_one (i := 6) (o := ⟨_, _, _, _, _, _⟩) (by kernel_rfl) rfl (fun K hK => ?_)
          go_simp
          refine hK.out _ _ ⟨(by rw [(X2.out.below B6.out).cellAt]; rfl), B6⟩ (fun hHeld => ?_)
          clear hK K hHeld
          (try simp only [List.setIfInBounds_toArray, List.set_cons_zero, List.set_cons_succ])
          refine wpAnyM_one (i := 7) (o := ⟨_, _, _, _, _, _⟩) (by kernel_rfl) rfl (fun K hK => ?_)
          go_simp
          refine hK.out _ _ ⟨(by rw [(X2.out.below B7.out).cellAt]; rfl), B7⟩ (fun hHeld => ?_)
          clear hK K hHeld
          (try simp only [List.setIfInBounds_toArray, List.set_cons_zero, List.set_cons_succ])
          refine wpAnyM_done (by kernel_rfl) ?_ _
          go_wp2_with fail
          go_meet
          exact ⟨TC, TD, tA, kA, cA, jA, tB, kB, cB, jB, rfl, rfl, FN⟩
      · go_simp
        have bs := below_box u1 (.cells #[.slice none 0 0, .slice none 0 0] 30)
        have XD := hide (BoxT.new 30 u1 #[.slice none 0 0, .slice none 0 0])
        have XC := hide (XC.out.below bs)
        have BN := hide (hHeld.2.out.trans (bs.mono hHeld.2.out.size))
        have hsz := hHeld.2.out.size
        clear hHeld
        refine hK.out _ _ ⟨(by rw [(X2.out.below BN.out).cellAt]; rfl), BN⟩ (fun hHeld => ?_)
        clear hK K bs BN
        have hCD : TC ≠ u1.heap.size := Nat.ne_of_lt XCL.out
        obtain ⟨u2, hu⟩ : ∃ u, u1.alloc (.cells #[.slice none 0 0, .slice none 0 0] 30) = u := ⟨_, rfl⟩
        rw [hu] at XC XD hHeld ⊢
        obtain ⟨TD, hTD⟩ : ∃ T, u1.heap.size = T := ⟨_, rfl⟩
        rw [hTD] at XD hsz hCD ⊢
        have hgD : w2.heap.size ≤ TD := hsz
        clear hTD hu hsz
        (try simp only [List.setIfInBounds_toArray, List.set_cons_zero, List.set_cons_succ])
        have XCL : Hid (TC < u2.heap.size) := XC.out.lt
        have XDL : Hid (TD < u2.heap.size) := XD.out.lt
        refine wpAnyM_one (i := 1) (o := ⟨_, _, _, _, _, _⟩) (by kernel_rfl) rfl (fun K hK => ?_)
        go_simp
        go_at_call 10
        refine (HMK.out _ hHeld.2.out).mono ?_
        rintro e u3 ⟨tA, kA, cA, jA, rfl, o1, o2, bs⟩
        have XC := hide (XC.out.below bs)
        have XD := hide (XD.out.below bs)
        have OA1 := hide o1
        have OA2 := hide o2
        have BN := hide (hHeld.2.out.trans (bs.mono hHeld.2.out.size))
        clear hHeld o1 o2
        refine hK.out _ _ ⟨(by rw [(X2.out.below BN.out).cellAt]; rfl), BN⟩ (fun hHeld => ?_)
        clear hK K bs BN
        (try simp only [List.setIfInBounds_toArray, List.set_cons_zero, List.set_cons_succ])
        have XCL : Hid (TC < u3.heap.size) := XC.out.lt
        have XDL : Hid (TD < u3.heap.size) := XD.out.lt
        refine wpAnyM_one (i := 3) (o := ⟨_, _, _, _, _, _⟩) (by kernel_rfl) rfl (fun K hK => ?_)
        go_simp
        go_at_call 11
        refine (HRK.out _ hHeld.2.out).mono ?_
        rintro e u4 ⟨tB, kB, cB, jB, rfl, o1, o2, bs⟩
        have XC := hide (XC.out.below bs)
        have XD := hide (XD.out.below bs)
        have OA1 := hide (OA1.out.below bs)
        have OA2 := hide (OA2.out.below bs)
        have OB1 := hide o1
        have OB2 := hide o2
        have BN := hide (hHeld.2.out.trans (bs.mono hHeld.2.out.size))
        clear hHeld o1 o2
        refine hK.out _ _ ⟨(by rw [(X2.out.below BN.out).cellAt]; rfl), BN⟩ (fun hHeld => ?_)
        clear hK K bs BN
        (try simp only [List.setIfInBounds_toArray, List.set_cons_zero, List.set_cons_succ])
        have XCL : Hid (TC < u4.heap.size) := XC.out.lt
        have XDL : Hid (TD < u4.heap.size) := XD.out.lt
        have FN := hide (PQ.make (hHeld.2.out) X2.out B2.out XC.out XD.out (by first | exact hCD | exact hCD.symm) OA1.out OA2.out OB1.out OB2.out (by omega) (by omega))
        have c0 : u4.cell? ⟨TC, 0, none⟩ = some (.slice none 0 0) := by rw [XC.out.cellAt]; rfl
        have c1 : u4.cell? ⟨TC, 1, none⟩ = some (.slice none 0 0) := by rw [XC.out.cellAt]; rfl
        have e0 := XC.out.free 0
        have e1 := XC.out.free 1
        have XD6 := ((XD.out.other (k' := TC) 0 (.slice tA nt kA) (by first | exact hCD | exact hCD.symm)).other (k' := TC) 1 (.slice cA nc jA) (by first | exact hCD | exact hCD.symm))
        have d0 : ((u4.setCell ⟨TC, 0, none⟩ (.slice tA nt kA)).setCell ⟨TC, 1, none⟩ (.slice cA nc jA)).cell? ⟨TD, 0, none⟩ = some (.slice none 0 0) := by rw [XD6.cellAt]; rfl
        have d1 : ((u4.setCell ⟨TC, 0, none⟩ (.slice tA nt kA)).setCell ⟨TC, 1, none⟩ (.slice cA nc jA)).cell? ⟨TD, 1, none⟩ = some (.slice none 0 0) := by rw [XD6.cellAt]; rfl
        have f0 := XD6.free 0
        have f1 := XD6.free 1
        have b6 := ((hHeld.2.out.setCell (p := ⟨TC, 0, none⟩) hgC (.slice tA nt kA)).setCell (p := ⟨TC, 1, none⟩) hgC (.slice cA nc jA))
        have b7 := ((b6.setCell (p := ⟨TD, 0, none⟩) hgD (.slice tB nt kB)).setCell (p := ⟨TD, 1, none⟩) hgD (.slice cB nc jB))
        have B6 := hide b6
        have B7 := hide b7
        clear XC XD XCL XDL OA1 OA2 OB1 OB2 XD6 hCD hHeld hgC hgD b6 b7
        refine wpAnyM_one (i := 6) (o := ⟨_, _, _, _, _, _⟩) (by kernel_rfl) rfl (fun K hK => ?_)
        go_simp
        refine hK.out _ _ ⟨(by rw [(X2.out.below B6.out).cellAt]; rfl), B6⟩ (fun hHeld => ?_)
        clear hK K hHeld
        (try simp only [List.setIfInBounds_toArray, List.set_cons_zero, List.set_cons_succ])
        refine wpAnyM_one (i := 7) (o := ⟨_, _, _, _, _, _⟩) (by kernel_rfl) rfl (fun K hK => ?_)
        go_simp
        refine hK.out _ _ ⟨(by rw [(X2.out.below B7.out).cellAt]; rfl), B7⟩ (fun hHeld => ?_)
        clear hK K hHeld
        (try simp only [List.setIfInBounds_toArray, List.set_cons_zero, List.set_cons_succ])
        refine wpAnyM_done (by kernel_rfl) ?_ _
        go_wp2_with fail
        go_meet
        exact ⟨TC, TD, tA, kA, cA, jA, tB, kB, cB, jB, rfl, rfl, FN⟩
    · go_simp
      have bs := below_box u0 (.cells #[.slice none 0 0, .slice none 0 0] 30)
      have XD := hide (BoxT.new 30 u0 #[.slice none 0 0, .slice none 0 0])
      have BN := hide (hHeld.2.out.trans (bs.mono hHeld.2.out.size))
      have hsz := hHeld.2.out.size
      clear hHeld
      refine hK.out _ _ ⟨(by rw [(X2.out.below BN.out).cellAt]; rfl), BN⟩ (fun hHeld => ?_)
      clear hK K bs BN
      obtain ⟨u1, hu⟩ : ∃ u, u0.alloc (.cells #[.slice none 0 0, .slice none 0 0] 30) = u := ⟨_, rfl⟩
      rw [hu] at XD hHeld ⊢
      obtain ⟨TD, hTD⟩ : ∃ T, u0.heap.size = T := ⟨_, rfl⟩
      rw [hTD] at XD hsz ⊢
      have hgD : w2.heap.size ≤ TD := hsz
      clear hTD hu hsz
      (try simp only [List.setIfInBounds_toArray, List.set_cons_zero, List.set_cons_succ])
      have XDL : Hid (TD < u1.heap.size) := XD.out.lt
      refine wpAnyM_two (i := 1) (j := 4) (oi := ⟨_, _, _, _, _, _⟩) (oj := ⟨_, _, _, _, _, _⟩) (by kernel_rfl) rfl rfl (fun K hK => ?_) (fun K hK => ?_)
      · go_simp
        go_at_call 10
        refine (HMK.out _ hHeld.2.out).mono ?_
        rintro e u2 ⟨tA, kA, cA, jA, rfl, o1, o2, bs⟩
        have XD := hide (XD.out.below bs)
        have OA1 := hide o1
        have OA2 := hide o2
        have BN := hide (hHeld.2.out.trans (bs.mono hHeld.2.out.size))
        clear hHeld o1 o2
        refine hK.out _ _ ⟨(by rw [(X2.out.below BN.out).cellAt]; rfl), BN⟩ (fun hHeld => ?_)
        clear hK K bs BN
        (try simp only [List.setIfInBounds_toArray, List.set_cons_zero, List.set_cons_succ])
        have XDL : Hid (TD < u2.heap.size) := XD.out.lt
        refine wpAnyM_two (i := 3) (j := 4) (oi := ⟨_, _, _, _, _, _⟩) (oj := ⟨_, _, _, _, _, _⟩) (by kernel_rfl) rfl rfl (fun K hK => ?_) (fun K hK => ?_)
        · go_simp
          go_at_call 11
          refine (HRK.out _ hHeld.2.out).mono ?_
          rintro e u3 ⟨tB, kB, cB, jB, rfl, o1, o2, bs⟩
          have XD := hide (XD.out.below bs)
          have OA1 := hide (OA1.out.below bs)
          have OA2 := hide (OA2.out.below bs)
          have OB1 := hide o1
          have OB2 := hide o2
          have BN := hide (hHeld.2.out.trans (bs.mono hHeld.2.out.size))
          clear hHeld o1 o2
          refine hK.out _ _ ⟨(by rw [(X2.out.below BN.out).cellAt]; rfl), BN⟩ (fun hHeld => ?_)
          clear hK K bs BN
          (try simp only [List.setIfInBounds_toArray, List.set_cons_zero, List.set_cons_succ])
          have XDL : Hid (TD < u3.heap.size) := XD.out.lt
          refine wpAnyM_one (i := 4) (o := ⟨_, _, _, _, _, _⟩) (by kernel_rfl) rfl (fun K hK => ?_)
          go_simp
          have bs := below_box u3 (.cells #[.slice none 0 0, .slice none 0 0] 30)
          have XC := hide (BoxT.new 30 u3 #[.slice none 0 0, .slice none 0 0])
          have XD := hide (XD.out.below bs)
          have OA1 := hide (OA1.out.below bs)
          have OA2 := hide (OA2.out.below bs)
          have OB1 := hide (OB1.out.below bs)
          have OB2 := hide (OB2.out.below bs)
          have BN := hide (hHeld.2.out.trans (bs.mono hHeld.2.out.size))
          have hsz := hHeld.2.out.size
          clear hHeld
          refine hK.out _ _ ⟨(by rw [(X2.out.below BN.out).cellAt]; rfl), BN⟩ (fun hHeld => ?_)
          clear hK K bs BN
          have hCD : TD ≠ u3.heap.size := Nat.ne_of_lt XDL.out
          obtain ⟨u4, hu⟩ : ∃ u, u3.alloc (.cells #[.slice none 0 0, .slice none 0 0] 30) = u := ⟨_, rfl⟩
          rw [hu] at XD OA1 OA2 OB1 OB2 XC hHeld ⊢
          obtain ⟨TC, hTC⟩ : ∃ T, u3.heap.size = T := ⟨_, rfl⟩
          rw [hTC] at XC hsz hCD ⊢
          have hgC : w2.heap.size ≤ TC := hsz
          clear hTC hu hsz
          (try simp only [List.setIfInBounds_toArray, List.set_cons_zero, List.set_cons_succ])
          have XDL : Hid (TD < u4.heap.size) := XD.out.lt
          have XCL : Hid (TC < u4.heap.size) := XC.out.lt
          have FN := hide (PQ.make (hHeld.2.out) X2.out B2.out XC.out XD.out (by first | exact hCD | exact hCD.symm) OA1.out OA2.out OB1.out OB2.out (by omega) (by omega))
          have c0 : u4.cell? ⟨TC, 0, none⟩ = some (.slice none 0 0) := by rw [XC.out.cellAt]; rfl
          have c1 : u4.cell? ⟨TC, 1, none⟩ = some (.slice none 0 0) := by rw [XC.out.cellAt]; rfl
          have e0 := XC.out.free 0
          have e1 := XC.out.free 1
          have XD6 := ((XD.out.other (k' := TC) 0 (.slice tA nt kA) (by first | exact hCD | exact hCD.symm)).other (k' := TC) 1 (.slice cA nc jA) (by first | exact hCD | exact hCD.symm))
          have d0 : ((u4.setCell ⟨TC, 0, none⟩ (.slice tA nt kA)).setCell ⟨TC, 1, none⟩ (.slice cA nc jA)).cell? ⟨TD, 0, none⟩ = some (.slice none 0 0) := by rw [XD6.cellAt]; rfl
          have d1 : ((u4.setCell ⟨TC, 0, none⟩ (.slice tA nt kA)).setCell ⟨TC, 1, none⟩ (.slice cA nc jA)).cell? ⟨TD, 1, none⟩ = some (.slice none 0 0) := by rw [XD6.cellAt]; rfl
          have f0 := XD6.free 0
          have f1 := XD6.free 1
          have b6 := ((hHeld.2.out.setCell (p := ⟨TC, 0, none⟩) hgC (.slice tA nt kA)).setCell (p := ⟨TC, 1, none⟩) hgC (.slice cA nc jA))
          have b7 := ((b6.setCell (p := ⟨TD, 0, none⟩) hgD (.slice tB nt kB)).setCell (p := ⟨TD, 1, none⟩) hgD (.slice cB nc jB))
          have B6 := hide b6
          have B7 := hide b7
          clear XC XD XCL XDL OA1 OA2 OB1 OB2 XD6 hCD hHeld hgC hgD b6 b7
          refine wpAnyM_one (i := 6) (o := ⟨_, _, _, _, _, _⟩) (by kernel_rfl) rfl (fun K hK => ?_)
          go_simp
          refine hK.out _ _ ⟨(by rw [(X2.out.below B6.out).cellAt]; rfl), B6⟩ (fun hHeld => ?_)
          clear hK K hHeld
          (try simp only [List.setIfInBounds_toArray, List.set_cons_zero, List.set_cons_succ])
          refine wpAnyM_one (i := 7) (o := ⟨_, _, _, _, _, _⟩) (by kernel_rfl) rfl (fun K hK => ?_)
          go_simp
          refine hK.out _ _ ⟨(by rw [(X2.out.below B7.out).cellAt]; rfl), B7⟩ (fun hHeld => ?_)
          clear hK K hHeld
          (try simp only [List.setIfInBounds_toArray, List.set_cons_zero, List.set_cons_succ])
          refine wpAnyM_done (by kernel_rfl) ?_ _
          go_wp2_with fail
          go_meet
          exact ⟨TC, TD, tA, kA, cA, jA, tB, kB, cB, jB, rfl, rfl, FN⟩
        · go_simp
          have bs := below_box u2 (.cells #[.slice none 0 0, .slice none 0 0] 30)
          have XC := hide (BoxT.new 30 u2 #[.slice none 0 0, .slice none 0 0])
          have XD := hide (XD.out.below bs)
          have OA1 := hide (OA1.out.below bs)
          have OA2 := hide (OA2.out.below bs)
          have BN := hide (hHeld.2.out.trans (bs.mono hHeld.2.out.size))
          have hsz := hHeld.2.out.size
          clear hHeld
          refine hK.out _ _ ⟨(by rw [(X2.out.below BN.out).cellAt]; rfl), BN⟩ (fun hHeld => ?_)
          clear hK K bs BN
          have hCD : TD ≠ u2.heap.size := Nat.ne_of_lt XDL.out
          obtain ⟨u3, hu⟩ : ∃ u, u2.alloc (.cells #[.slice none 0 0, .slice none 0 0] 30) = u := ⟨_, rfl⟩
          rw [hu] at XD OA1 OA2 XC hHeld ⊢
          obtain ⟨TC, hTC⟩ : ∃ T, u2.heap.size = T := ⟨_, rfl⟩
          rw [hTC] at XC hsz hCD ⊢
          have hgC : w2.heap.size ≤ TC := hsz
          clear hTC hu hsz
          (try simp only [List.setIfInBounds_toArray, List.set_cons_zero, List.set_cons_succ])
          have XDL : Hid (TD < u3.heap.size) := XD.out.lt
          have XCL : Hid (TC < u3.heap.size) := XC.out.lt
          refine wpAnyM_one (i := 3) (o := ⟨_, _, _, _, _, _⟩) (by kernel_rfl) rfl (fun K hK => ?_)
          go_simp
          go_at_call 11
          refine (HRK.out _ hHeld.2.out).mono ?_
          rintro e u4 ⟨tB, kB, cB, jB, rfl, o1, o2, bs⟩
          have XD := hide (XD.out.below bs)
          have OA1 := hide (OA1.out.below bs)
          have OA2 := hide (OA2.out.below bs)
          have XC := hide (XC.out.below bs)
          have OB1 := hide o1
          have OB2 := hide o2
          have BN := hide (hHeld.2.out.trans (bs.mono hHeld.2.out.size))
          clear hHeld o1 o2
          refine hK.out _ _ ⟨(by rw [(X2.out.below BN.out).cellAt]; rfl), BN⟩ (fun hHeld => ?_)
          clear hK K bs BN
          (try simp only [List.setIfInBounds_toArray, List.set_cons_zero, List.set_cons_succ])
          have XDL : Hid (TD < u4.heap.size) := XD.out.lt
          have XCL : Hid (TC < u4.heap.size) := XC.out.lt
          have FN := hide (PQ.make (hHeld.2.out) X2.out B2.out XC.out XD.out (by first | exact hCD | exact hCD.symm) OA1.out OA2.out OB1.out OB2.out (by omega) (by omega))
          have c0 : u4.cell? ⟨TC, 0, none⟩ = some (.slice none 0 0) := by rw [XC.out.cellAt]; rfl
          have c1 : u4.cell? ⟨TC, 1, none⟩ = some (.slice none 0 0) := by rw [XC.out.cellAt]; rfl
          have e0 := XC.out.free 0
          have e1 := XC.out.free 1
          have XD6 := ((XD.out.other (k' := TC) 0 (.slice tA nt kA) (by first | exact hCD | exact hCD.symm)).other (k' := TC) 1 (.slice cA nc jA) (by first | exact hCD | exact hCD.symm))
          have d0 : ((u4.setCell ⟨TC, 0, none⟩ (.slice tA nt kA)).setCell ⟨TC, 1, none⟩ (.slice cA nc jA)).cell? ⟨TD, 0, none⟩ = some (.slice none 0 0) := by rw [XD6.cellAt]; rfl
          have d1 : ((u4.setCell ⟨TC, 0, none⟩ (.slice tA nt kA)).setCell ⟨TC, 1, none⟩ (.slice cA nc jA)).cell? ⟨TD, 1, none⟩ = some (.slice none 0 0) := by rw [XD6.cellAt]; rfl
          have f0 := XD6.free 0
          have f1 := XD6.free 1
          have b6 := ((hHeld.2.out.setCell (p := ⟨TC, 0, none⟩) hgC (.slice tA nt kA)).setCell (p := ⟨TC, 1, none⟩) hgC (.slice cA nc jA))
          have b7 := ((b6.setCell (p := ⟨TD, 0, none⟩) hgD (.slice tB nt kB)).setCell (p := ⟨TD, 1, none⟩) hgD (.slice cB nc jB))
          have B6 := hide b6
          have B7 := hide b7
          clear XC XD XCL XDL OA1 OA2 OB1 OB2 XD6 hCD hHeld hgC hgD b6 b7
          refine wpAnyM_one (i := 6) (o := ⟨_, _, _, _, _, _⟩) (by kernel_rfl) rfl (fun K hK => ?_)
          go_simp
          refine hK.out _ _ ⟨(by rw [(X2.out.below B6.out).cellAt]; rfl), B6⟩ (fun hHeld => ?_)
          clear hK K hHeld
          (try simp only [List.setIfInBounds_toArray, List.set_cons_zero, List.set_cons_succ])
          refine wpAnyM_one (i := 7) (o := ⟨_, _, _, _, _, _⟩) (by kernel_rfl) rfl (fun K hK => ?_)
          go_simp
          refine hK.out _ _ ⟨(by rw [(X2.out.below B7.out).cellAt]; rfl), B7⟩ (fun hHeld => ?_)
          clear hK K hHeld
          (try simp only [List.setIfInBounds_toArray, List.set_cons_zero, List.set_cons_succ])
          refine wpAnyM_done (by kernel_rfl) ?_ _
          go_wp2_with fail
          go_meet
          exact ⟨TC, TD, tA, kA, cA, jA, tB, kB, cB, jB, rfl, rfl, FN⟩
      · go_simp
        have bs := below_box u1 (.cells #[.slice none 0 0, .slice none 0 0] 30)
        have XC := hide (BoxT.new 30 u1 #[.slice none 0 0, .slice none 0 0])
        have XD := hide (XD.out.below bs)
        have BN := hide (hHeld.2.out.trans (bs.mono hHeld.2.out.size))
        have hsz := hHeld.2.out.size
        clear hHeld
        refine hK.out _ _ ⟨(by rw [(X2.out.below BN.out).cellAt]; rfl), BN⟩ (fun hHeld => ?_)
        clear hK K bs BN
        have hCD : TD ≠ u1.heap.size := Nat.ne_of_lt XDL.out
        obtain ⟨u2, hu⟩ : ∃ u, u1.alloc (.cells #[.slice none 0 0, .slice none 0 0] 30) = u := ⟨_, rfl⟩
        rw [hu] at XD XC hHeld ⊢
        obtain ⟨TC, hTC⟩ : ∃ T, u1.heap.size = T := ⟨_, rfl⟩
        rw [hTC] at XC hsz hCD ⊢
        have hgC : w2.heap.size ≤ TC := hsz
        clear hTC hu hsz
        (try simp only [List.setIfInBounds_toArray, List.set_cons_zero, List.set_cons_succ])
        have XDL : Hid (TD < u2.heap.size) := XD.out.lt
        have XCL : Hid (TC < u2.heap.size) := XC.out.lt
        refine wpAnyM_one (i := 1) (o := ⟨_, _, _, _, _, _⟩) (by kernel_rfl) rfl (fun K hK => ?_)
        go_simp
        go_at_call 10
        refine (HMK.out _ hHeld.2.out).mono ?_
        rintro e u3 ⟨tA, kA, cA, jA, rfl, o1, o2, bs⟩
        have XD := hide (XD.out.below bs)
        have XC := hide (XC.out.below bs)
        have OA1 := hide o1
        have OA2 := hide o2
        have BN := hide (hHeld.2.out.trans (bs.mono hHeld.2.out.size))
        clear hHeld o1 o2
        refine hK.out _ _ ⟨(by rw [(X2.out.below BN.out).cellAt]; rfl), BN⟩ (fun hHeld => ?_)
        clear hK K bs BN
        (try simp only [List.setIfInBounds_toArray, List.set_cons_zero, List.set_cons_succ])
        have XDL : Hid (TD < u3.heap.size) := XD.out.lt
        have XCL : Hid (TC < u3.heap.size) := XC.out.lt
        refine wpAnyM_one (i := 3) (o := ⟨_, _, _, _, _, _⟩) (by kernel_rfl) rfl (fun K hK => ?_)
        go_simp
        go_at_call 11
        refine (HRK.out _ hHeld.2.out).mono ?_
        rintro e u4 ⟨tB, kB, cB, jB, rfl, o1, o2, bs⟩
        have XD := hide (XD.out.below bs)
        have XC := hide (XC.out.below bs)
        have OA1 := hide (OA1.out.below bs)
        have OA2 := hide (OA2.out.below bs)
        have OB1 := hide o1
        have OB2 := hide o2
        have BN := hide (hHeld.2.out.trans (bs.mono hHeld.2.out.size))
        clear hHeld o1 o2
        refine hK.out _ _ ⟨(by rw [(X2.out.below BN.out).cellAt]; rfl), BN⟩ (fun hHeld => ?_)
        clear hK K bs BN
        (try simp only [List.setIfInBounds_toArray, List.set_cons_zero, List.set_cons_succ])
        have XDL : Hid (TD < u4.heap.size) := XD.out.lt
        have XCL : Hid (TC < u4.heap.size) := XC.out.lt
        have FN := hide (PQ.make (hHeld.2.out) X2.out B2.out XC.out XD.out (by first | exact hCD | exact hCD.symm) OA1.out OA2.out OB1.out OB2.out (by omega) (by omega))
        have c0 : u4.cell? ⟨TC, 0, none⟩ = some (.slice none 0 0) := by rw [XC.out.cellAt]; rfl
        have c1 : u4.cell? ⟨TC, 1, none⟩ = some (.slice none 0 0) := by rw [XC.out.cellAt]; rfl
        have e0 := XC.out.free 0
        have e1 := XC.out.free 1
        have XD6 := ((XD.out.other (k' := TC) 0 (.slice tA nt kA) (by first | exact hCD | exact hCD.symm)).other (k' := TC) 1 (.slice cA nc jA) (by first | exact hCD | exact hCD.symm))
        have d0 : ((u4.setCell ⟨TC, 0, none⟩ (.slice tA nt kA)).setCell ⟨TC, 1, none⟩ (.slice cA nc jA)).cell? ⟨TD, 0, none⟩ = some (.slice none 0 0) := by rw [XD6.cellAt]; rfl
        have d1 : ((u4.setCell ⟨TC, 0, none⟩ (.slice tA nt kA)).setCell ⟨TC, 1, none⟩ (.slice cA nc jA)).cell? ⟨TD, 1, none⟩ = some (.slice none 0 0) := by rw [XD6.cellAt]; rfl
        have f0 := XD6.free 0
        have f1 := XD6.free 1
        have b6 := ((hHeld.2.out.setCell (p := ⟨TC, 0, none⟩) hgC (.slice tA nt kA)).setCell (p := ⟨TC, 1, none⟩) hgC (.slice cA nc jA))
        have b7 := ((b6.setCell (p := ⟨TD, 0, none⟩) hgD (.slice tB nt kB)).setCell (p := ⟨TD, 1, none⟩) hgD (.slice cB nc jB))
        have B6 := hide b6
        have B7 := hide b7
        clear XC XD XCL XDL OA1 OA2 OB1 OB2 XD6 hCD hHeld hgC hgD b6 b7
        refine wpAnyM_one (i := 6) (o := ⟨_, _, _, _, _, _⟩) (by kernel_rfl) rfl (fun K hK => ?_)
        go_simp
        refine hK.out _ _ ⟨(by rw [(X2.out.below B6.out).cellAt]; rfl), B6⟩ (fun hHeld => ?_)
        clear hK K hHeld
        (try simp only [List.setIfInBounds_toArray, List.set_cons_zero, List.set_cons_succ])
        refine wpAnyM_one (i := 7) (o := ⟨_, _, _, _, _, _⟩) (by kernel_rfl) rfl (fun K hK => ?_)
        go_simp
        refine hK.out _ _ ⟨(by rw [(X2.out.below B7.out).cellAt]; rfl), B7⟩ (fun hHeld => ?_)
        clear hK K hHeld
        (try simp only [List.setIfInBounds_toArray, List.set_cons_zero, List.set_cons_succ])
        refine wpAnyM_done (by kernel_rfl) ?_ _
        go_wp2_with fail
        go_meet
        exact ⟨TC, TD, tA, kA, cA, jA, tB, kB, cB, jB, rfl, rfl, FN⟩
  case rest =>
    obtain ⟨T3, T4, tA, kA, cA, jA, tB, kB, cB, jB, rfl, rfl, GQ⟩ := hcut
    obtain ⟨z0, z1⟩ := GQ.out.x3.cells2
    obtain ⟨z2, z3⟩ := GQ.out.x4.cells2
    have htl : (tksOf 0 ns).length ≤ 1000000 := by rw [HNT.out]; omega
    have hcl' : (chJ ns 0 ns).length ≤ 1000000 := by rw [HNC.out]; omega
    have HPL := hide (HPlan_any (OwnL.lsegA' Tk.cs_len GQ.out.a1 htl) (OwnL.lsegA' Cn.cs_len GQ.out.a2 hcl') (OwnL.lsegA' Tk.cs_len GQ.out.b1 htl) (OwnL.lsegA' Cn.cs_len GQ.out.b2 hcl'))
    clear htl hcl' HMK HRK
    go_wp2_with (go_at_call 12; refine HPL.out.mono ?_; rintro e w4 ⟨rfl, b4⟩; have GQ4 := hide (GQ.out.below b4); clear b4)
    have hcl : (chJ ns 0 ns).length ≤ 100000 := by rw [HNC.out]; omega
    go_loopg [5] (nt + 3) (fun g iv wr => ∃ t : Nat, iv = .int .i64 ((t : Int) - 1) ∧ t ≤ nt + 2 ∧ nt + 3 ≤ g + t ∧ Hid (PQ w wr (.slice na ns.length ncp) (.slice tA nt kA) (.slice cA nc jA) (.slice tB nt kB) (.slice cB nc jB) T3 T4 (tksOf 0 ns) (chJ ns 0 ns)))
    case atStart => exact ⟨0, rfl, by omega, by omega, GQ4⟩
    case round =>
      clear GQ GQ4 z0 z1 z2 z3 HPL
      obtain ⟨t, rfl, ht, hgt, GQ⟩ := hrel
      obtain ⟨g1, rfl⟩ : ∃ go, gk = go + 1 := ⟨gk - 1, by omega⟩
      have z2 : wr.cell? ⟨T4, 0, none⟩ = some (.slice tB nt kB) := by rw [GQ.out.x4.cellAt]; rfl
      by_cases hlt : t ≤ nt + 1
      · have bt : (t : Int) - 1 ≤ (nt : Int) := by omega
        obtain ⟨tt, htt⟩ : ∃ tt : Int, (t : Int) - 1 = tt := ⟨_, rfl⟩
        have HTT := hide htt
        rw [htt] at bt ⊢
        have htr : -1 ≤ tt ∧ tt ≤ 48 := by omega
        have HCB : Hid (∀ w', Below wr.heap.size wr w' → LSeg 3 Cn.cs w'.heap.size w' (.slice cB nc jB) (chJ ns 0 ns)) := fun w' hb => OwnL.lsegA' Cn.cs_len (GQ.out.b2.below hb) (by omega)
        have hpl1 : (plc (fun c : Cn => decide (c.fr = tt)) 0 (chJ ns 0 ns)).length ≤ 1000 := Nat.le_trans (plc_len _ _ _) (by rw [HNC.out]; omega)
        have hpl2 : (plc (fun c : Cn => decide (c.tg = tt)) 0 (chJ ns 0 ns)).length ≤ 1000 := Nat.le_trans (plc_len _ _ _) (by rw [HNC.out]; omega)
        have KC : Hid (∀ w' : World, Below wr.heap.size wr w' → w'.cell? ⟨T4, 0, none⟩ = some (.slice tB nt kB) ∧ w'.cell? ⟨T4, 1, none⟩ = some (.slice cB nc jB)) := fun w' h => ⟨(by rw [(GQ.out.x4.below h).cellAt]; rfl), (by rw [(GQ.out.x4.below h).cellAt]; rfl)⟩
        clear htt
        as_aux_lemma =>
        go_wp2_with fail
        have B1 : Hid (Below (wr).heap.size (wr) (wr).drew) := (Below.refl _ _).drew
        refine wp_region_M (S := fun w' => w'.cell? ⟨T4, 0, none⟩ = some (.slice tB nt kB) ∧ w'.cell? ⟨T4, 1, none⟩ = some (.slice cB nc jB)) (late := []) (by kernel_rfl) (KC.out _ B1.out) (fun hHeld => ?_)
        (try simp only [List.size_toArray, List.length_cons, List.length_nil, Nat.zero_add, Nat.reduceAdd, Array.replicate, List.replicate])
        refine wpAnyM_take (i := 0) (oi := ⟨_, _, _, _, _, _⟩) (v := ?_) rfl (by kernel_rfl) (by kernel_rfl) (by kernel_rfl) (by kernel_rfl) (fun _ _ _ h => h) (Or.inl ⟨by rfl, ?_⟩) hHeld ?_
        rotate_left
        · (intro w' hSw; (try dsimp only at hSw); go_simp; try (with_reducible rfl))
        (try simp only [Act.put, List.setIfInBounds_toArray, List.set_cons_zero, List.set_cons_succ])
        refine wpAnyM_take (i := 1) (oi := ⟨_, _, _, _, _, _⟩) (v := ?_) rfl (by kernel_rfl) (by kernel_rfl) (by kernel_rfl) (by kernel_rfl) (fun _ _ _ h => h) (Or.inl ⟨by rfl, ?_⟩) hHeld ?_
        rotate_left
        · (intro w' hSw; (try dsimp only at hSw); go_simp; try (with_reducible rfl))
        (try simp only [Act.put, List.setIfInBounds_toArray, List.set_cons_zero, List.set_cons_succ])
        refine wpAnyM_take (i := 3) (oi := ⟨_, _, _, _, _, _⟩) (v := ?_) rfl (by kernel_rfl) (by kernel_rfl) (by kernel_rfl) (by kernel_rfl) (fun _ _ _ h => h) (Or.inl ⟨by rfl, ?_⟩) hHeld ?_
        rotate_left
        · (intro w' hSw; (try dsimp only at hSw); go_simp; try (with_reducible rfl))
        (try simp only [Act.put, List.setIfInBounds_toArray, List.set_cons_zero, List.set_cons_succ])
        refine wpAnyM_take (i := 4) (oi := ⟨_, _, _, _, _, _⟩) (v := ?_) rfl (by kernel_rfl) (by kernel_rfl) (by kernel_rfl) (by kernel_rfl) (fun _ _ _ h => h) (Or.inl ⟨by rfl, ?_⟩) hHeld ?_
        rotate_left
        · (intro w' hSw; (try dsimp only at hSw); go_simp; try (with_reducible rfl))
        (try simp only [Act.put, List.setIfInBounds_toArray, List.set_cons_zero, List.set_cons_succ])
        refine wpAnyM_one (i := 2) (o := ⟨_, _, _, _, _, _⟩) (by kernel_rfl) rfl (fun K hK => ?_)
        go_simp
        go_at_call 14
        refine (From_any (HCB.out _ B1.out) hcl (tt)).mono ?_
        rintro e w2 ⟨f1, rfl, o1, bb⟩
        have O1 := hide o1
        clear o1
        have B2 := hide (B1.out.trans (bb.mono B1.out.size))
        clear bb
        refine hK.out _ _ (KC.out _ B2.out) (fun hHeld => ?_)
        clear hK K
        (try simp only [List.setIfInBounds_toArray, List.set_cons_zero, List.set_cons_succ])
        refine wpAnyM_one (i := 5) (o := ⟨_, _, _, _, _, _⟩) (by kernel_rfl) rfl (fun K hK => ?_)
        go_simp
        go_at_call 15
        refine (RFrom_any (HCB.out _ B2.out) hcl (tt)).mono ?_
        rintro e w3 ⟨f2, rfl, o2, bb⟩
        have O1 := hide (OwnL.below O1.out bb)
        have O2 := hide o2
        clear o2
        have B3 := hide (B2.out.trans (bb.mono B2.out.size))
        clear bb
        refine hK.out _ _ (KC.out _ B3.out) (fun hHeld => ?_)
        clear hK K
        (try simp only [List.setIfInBounds_toArray, List.set_cons_zero, List.set_cons_succ])
        refine wpAnyM_one (i := 6) (o := ⟨_, _, _, _, _, _⟩) (by kernel_rfl) rfl (fun K hK => ?_)
        go_simp
        go_at_call 13
        refine (Ints_any (OwnN.lseg O1.out hpl1) (OwnN.lseg O2.out hpl1)).mono ?_
        rintro e w4 ⟨rfl, bb⟩
        clear O1 O2
        have B4 := hide (B3.out.trans (bb.mono B3.out.size))
        clear bb
        refine hK.out _ _ (KC.out _ B4.out) (fun hHeld => ?_)
        clear hK K
        (try simp only [List.setIfInBounds_toArray, List.set_cons_zero, List.set_cons_succ])
        refine wpAnyM_take (i := 7) (oi := ⟨_, _, _, _, _, _⟩) (v := ?_) rfl (by kernel_rfl) (by kernel_rfl) (by kernel_rfl) (by kernel_rfl) (fun _ _ _ h => h) (Or.inl ⟨by rfl, ?_⟩) hHeld ?_
        rotate_left
        · (intro w' hSw; (try dsimp only at hSw); go_simp; try (with_reducible rfl))
        (try simp only [Act.put, List.setIfInBounds_toArray, List.set_cons_zero, List.set_cons_succ])
        refine wpAnyM_take (i := 8) (oi := ⟨_, _, _, _, _, _⟩) (v := ?_) rfl (by kernel_rfl) (by kernel_rfl) (by kernel_rfl) (by kernel_rfl) (fun _ _ _ h => h) (Or.inl ⟨by rfl, ?_⟩) hHeld ?_
        rotate_left
        · (intro w' hSw; (try dsimp only at hSw); go_simp; try (with_reducible rfl))
        (try simp only [Act.put, List.setIfInBounds_toArray, List.set_cons_zero, List.set_cons_succ])
        refine wpAnyM_take (i := 9) (oi := ⟨_, _, _, _, _, _⟩) (v := ?_) rfl (by kernel_rfl) (by kernel_rfl) (by kernel_rfl) (by kernel_rfl) (fun _ _ _ h => h) (Or.inl ⟨by rfl, ?_⟩) hHeld ?_
        rotate_left
        · (intro w' hSw; (try dsimp only at hSw); go_simp; try (with_reducible rfl))
        (try simp only [Act.put, List.setIfInBounds_toArray, List.set_cons_zero, List.set_cons_succ])
        refine wpAnyM_take (i := 10) (oi := ⟨_, _, _, _, _, _⟩) (v := ?_) rfl (by kernel_rfl) (by kernel_rfl) (by kernel_rfl) (by kernel_rfl) (fun _ _ _ h => h) (Or.inl ⟨by rfl, ?_⟩) hHeld ?_
        rotate_left
        · (intro w' hSw; (try dsimp only at hSw); go_simp; try (with_reducible rfl))
        (try simp only [Act.put, List.setIfInBounds_toArray, List.set_cons_zero, List.set_cons_succ])
        refine wpAnyM_take (i := 12) (oi := ⟨_, _, _, _, _, _⟩) (v := ?_) rfl (by kernel_rfl) (by kernel_rfl) (by kernel_rfl) (by kernel_rfl) (fun _ _ _ h => h) (Or.inl ⟨by rfl, ?_⟩) hHeld ?_
        rotate_left
        · (intro w' hSw; (try dsimp only at hSw); go_simp; try (with_reducible rfl))
        (try simp only [Act.put, List.setIfInBounds_toArray, List.set_cons_zero, List.set_cons_succ])
        refine wpAnyM_take (i := 13) (oi := ⟨_, _, _, _, _, _⟩) (v := ?_) rfl (by kernel_rfl) (by kernel_rfl) (by kernel_rfl) (by kernel_rfl) (fun _ _ _ h => h) (Or.inl ⟨by rfl, ?_⟩) hHeld ?_
        rotate_left
        · (intro w' hSw; (try dsimp only at hSw); go_simp; try (with_reducible rfl))
        (try simp only [Act.put, List.setIfInBounds_toArray, List.set_cons_zero, List.set_cons_succ])
        refine wpAnyM_one (i := 11) (o := ⟨_, _, _, _, _, _⟩) (by kernel_rfl) rfl (fun K hK => ?_)
        go_simp
        go_at_call 16
        refine (To_any (HCB.out _ B4.out) hcl (tt)).mono ?_
        rintro e w5 ⟨f3, rfl, o3, bb⟩
        have O3 := hide o3
        clear o3
        have B5 := hide (B4.out.trans (bb.mono B4.out.size))
        clear bb
        refine hK.out _ _ (KC.out _ B5.out) (fun hHeld => ?_)
        clear hK K
        (try simp only [List.setIfInBounds_toArray, List.set_cons_zero, List.set_cons_succ])
        refine wpAnyM_one (i := 14) (o := ⟨_, _, _, _, _, _⟩) (by kernel_rfl) rfl (fun K hK => ?_)
        go_simp
        go_at_call 17
        refine (RTo_any (HCB.out _ B5.out) hcl (tt)).mono ?_
        rintro e w6 ⟨f4, rfl, o4, bb⟩
        have O3 := hide (OwnL.below O3.out bb)
        have O4 := hide o4
        clear o4
        have B6 := hide (B5.out.trans (bb.mono B5.out.size))
        clear bb
        refine hK.out _ _ (KC.out _ B6.out) (fun hHeld => ?_)
        clear hK K
        (try simp only [List.setIfInBounds_toArray, List.set_cons_zero, List.set_cons_succ])
        refine wpAnyM_one (i := 15) (o := ⟨_, _, _, _, _, _⟩) (by kernel_rfl) rfl (fun K hK => ?_)
        go_simp
        go_at_call 13
        refine (Ints_any (OwnN.lseg O3.out hpl2) (OwnN.lseg O4.out hpl2)).mono ?_
        rintro e w7 ⟨rfl, bb⟩
        clear O3 O4
        have B7 := hide (B6.out.trans (bb.mono B6.out.size))
        clear bb
        refine hK.out _ _ (KC.out _ B7.out) (fun hHeld => ?_)
        clear hK K
        (try simp only [List.setIfInBounds_toArray, List.set_cons_zero, List.set_cons_succ])
        refine wpAnyM_take (i := 16) (oi := ⟨_, _, _, _, _, _⟩) (v := ?_) rfl (by kernel_rfl) (by kernel_rfl) (by kernel_rfl) (by kernel_rfl) (fun _ _ _ h => h) (Or.inl ⟨by rfl, ?_⟩) hHeld ?_
        rotate_left
        · (intro w' hSw; (try dsimp only at hSw); go_simp; try (with_reducible rfl))
        (try simp only [Act.put, List.setIfInBounds_toArray, List.set_cons_zero, List.set_cons_succ])
        refine wpAnyM_take (i := 17) (oi := ⟨_, _, _, _, _, _⟩) (v := ?_) rfl (by kernel_rfl) (by kernel_rfl) (by kernel_rfl) (by kernel_rfl) (fun _ _ _ h => h) (Or.inl ⟨by rfl, ?_⟩) hHeld ?_
        rotate_left
        · (intro w' hSw; (try dsimp only at hSw); go_simp; try (with_reducible rfl))
        (try simp only [Act.put, List.setIfInBounds_toArray, List.set_cons_zero, List.set_cons_succ])
        refine wpAnyM_done (by kernel_rfl) ?_ _
        go_wp2_with fail
        go_roundg g1
        case rel => exact ⟨t + 1, (by rw [← HTT.out]; go_num), by omega, by omega, GQ.out.below B7.out⟩
        case measure => omega
      · have bt : ¬ (t : Int) - 1 ≤ (nt : Int) := by omega
        have GX0 : Hid (BoxT 24 wr w.heap.size #[.slice na ns.length ncp]) := GQ.out.jx
        have GB0 : Hid (Below w.heap.size w wr) := GQ.out.bl
        obtain ⟨wq, hwq⟩ : ∃ wq, wq = wr := ⟨_, rfl⟩
        subst hwq
        clear GQ ht hgt hlt
        go_wp2_with fail
        go_loopg [6] (ns.length + 3) (fun g iv wr => ∃ t : Nat, iv = .int .i64 ((t : Int) - 1) ∧ t ≤ ns.length + 2 ∧ ns.length + 3 ≤ g + t ∧ Hid (BoxT 24 wr w.heap.size #[.slice na ns.length ncp]) ∧ Hid (Below w.heap.size w wr))
        case atStart => exact ⟨0, rfl, by omega, by omega, GX0, GB0⟩
        case round =>
          clear GX0 GB0 z2 bt
          obtain ⟨t, rfl, ht, hgt, GX, GB⟩ := hrel
          obtain ⟨g2, rfl⟩ : ∃ go, gk = go + 1 := ⟨gk - 1, by omega⟩
          have cj : wr.cell? ⟨w.heap.size, 0, none⟩ = some (.slice na ns.length ncp) := by rw [GX.out.cellAt]; rfl
          by_cases hlt : t ≤ ns.length + 1
          · have bt : (t : Int) - 1 ≤ (ns.length : Int) := by omega
            obtain ⟨tt, htt⟩ : ∃ tt : Int, (t : Int) - 1 = tt := ⟨_, rfl⟩
            have HTT := hide htt
            rw [htt] at bt ⊢
            have htr : -1 ≤ tt ∧ tt ≤ 12 := by omega
            have hK18 := Keyed_all ((HJ.out.below GB.out).mono GB.out.size) tt
            have hK19 : ∀ w', Below wr.heap.size wr w' → Calls Try.prog 19 #[.agg #[.slice na ns.length ncp], .int .i64 tt] w' fun e w'' => e = .returned (.bool (kyd ns tt)) ∧ Below wr.heap.size wr w'' := fun w' hb => by
              have hbb := GB.out.trans (hb.mono GB.out.size)
              exact (RKeyed_any ((HJ.out.below hbb).mono hbb.size) tt).mono (fun _ _ ⟨h1, h2⟩ => ⟨h1, hb.trans (h2.mono hb.size)⟩)
            obtain ⟨kb, hkb⟩ : ∃ b, kyd ns tt = b := ⟨_, rfl⟩
            rw [hkb] at hK18 hK19
            have HK18 := hide hK18
            have HK19 := hide hK19
            have KC : Hid (∀ w' : World, Below wr.heap.size wr w' → w'.cell? ⟨w.heap.size, 0, none⟩ = some (.slice na ns.length ncp)) := fun w' h => (by rw [(GX.out.below h).cellAt]; rfl)
            clear htt hK18 hK19 hkb
            as_aux_lemma =>
            go_wp2_with fail
            have B1 : Hid (Below (wr).heap.size (wr) (wr).drew) := (Below.refl _ _).drew
            refine wp_region_M (S := fun w' => w'.cell? ⟨w.heap.size, 0, none⟩ = some (.slice na ns.length ncp)) (late := []) (by kernel_rfl) (KC.out _ B1.out) (fun hHeld => ?_)
            (try simp only [List.size_toArray, List.length_cons, List.length_nil, Nat.zero_add, Nat.reduceAdd, Array.replicate, List.replicate])
            refine wpAnyM_take (i := 0) (oi := ⟨_, _, _, _, _, _⟩) (v := ?_) rfl (by kernel_rfl) (by kernel_rfl) (by kernel_rfl) (by kernel_rfl) (fun _ _ _ h => h) (Or.inl ⟨by rfl, ?_⟩) hHeld ?_
            rotate_left
            · (intro w' hSw; (try dsimp only at hSw); go_simp; try (with_reducible rfl))
            (try simp only [Act.put, List.setIfInBounds_toArray, List.set_cons_zero, List.set_cons_succ])
            refine wpAnyM_take (i := 1) (oi := ⟨_, _, _, _, _, _⟩) (v := ?_) rfl (by kernel_rfl) (by kernel_rfl) (by kernel_rfl) (by kernel_rfl) (fun _ _ _ h => h) (Or.inl ⟨by rfl, ?_⟩) hHeld ?_
            rotate_left
            · (intro w' hSw; (try dsimp only at hSw); go_simp; try (with_reducible rfl))
            (try simp only [Act.put, List.setIfInBounds_toArray, List.set_cons_zero, List.set_cons_succ])
            refine wpAnyM_take (i := 3) (oi := ⟨_, _, _, _, _, _⟩) (v := ?_) rfl (by kernel_rfl) (by kernel_rfl) (by kernel_rfl) (by kernel_rfl) (fun _ _ _ h => h) (Or.inl ⟨by rfl, ?_⟩) hHeld ?_
            rotate_left
            · (intro w' hSw; (try dsimp only at hSw); go_simp; try (with_reducible rfl))
            (try simp only [Act.put, List.setIfInBounds_toArray, List.set_cons_zero, List.set_cons_succ])
            refine wpAnyM_take (i := 4) (oi := ⟨_, _, _, _, _, _⟩) (v := ?_) rfl (by kernel_rfl) (by kernel_rfl) (by kernel_rfl) (by kernel_rfl) (fun _ _ _ h => h) (Or.inl ⟨by rfl, ?_⟩) hHeld ?_
            rotate_left
            · (intro w' hSw; (try dsimp only at hSw); go_simp; try (with_reducible rfl))
            (try simp only [Act.put, List.setIfInBounds_toArray, List.set_cons_zero, List.set_cons_succ])
            refine wpAnyM_one (i := 2) (o := ⟨_, _, _, _, _, _⟩) (by kernel_rfl) rfl (fun K hK => ?_)
            go_simp
            go_at_call 18
            refine (HK18.out _ B1.out).mono ?_
            rintro e w2 ⟨rfl, hb⟩
            have B2 := hide hb
            refine hK.out _ _ (KC.out _ hb) (fun hHeld => ?_)
            clear hK K hb
            (try simp only [List.setIfInBounds_toArray, List.set_cons_zero, List.set_cons_succ])
            refine wpAnyM_one (i := 5) (o := ⟨_, _, _, _, _, _⟩) (by kernel_rfl) rfl (fun K hK => ?_)
            go_simp
            go_at_call 19
            refine (HK19.out _ B2.out).mono ?_
            rintro e w3 ⟨rfl, hb⟩
            have B3 := hide hb
            refine hK.out _ _ (KC.out _ hb) (fun hHeld => ?_)
            clear hK K hb
            (try simp only [List.setIfInBounds_toArray, List.set_cons_zero, List.set_cons_succ])
            refine wpAnyM_take (i := 6) (oi := ⟨_, _, _, _, _, _⟩) (v := ?_) rfl (by kernel_rfl) (by kernel_rfl) (by kernel_rfl) (by kernel_rfl) (fun _ _ _ h => h) (Or.inl ⟨by rfl, ?_⟩) hHeld ?_
            rotate_left
            · (intro w' hSw; (try dsimp only at hSw); go_simp; try (with_reducible rfl))
            (try simp only [Act.put, List.setIfInBounds_toArray, List.set_cons_zero, List.set_cons_succ])
            refine wpAnyM_done (by kernel_rfl) ?_ _
            go_wp2_with fail
            go_roundg g2
            case rel => exact ⟨t + 1, (by rw [← HTT.out]; go_num), by omega, by omega, GX.out.below B3.out, GB.out.trans (B3.out.mono GB.out.size)⟩
            case measure => omega
          · have bt : ¬ (t : Int) - 1 ≤ (ns.length : Int) := by omega
            go_wp2_with fail
            go_ret
            exact ⟨rfl, GB.out⟩
end Go.Proofs.Ytfiafbfbiidnlaa
