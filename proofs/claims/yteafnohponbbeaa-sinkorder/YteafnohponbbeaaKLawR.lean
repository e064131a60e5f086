/-
  SinkReplays.
-/
import Derived.Test.YteafnohponbbeaaKRepP
import Derived.Test.YteafnohponbbeaaKOpen
namespace Go.Proofs.Yteafnohponbbeaa
open Go.RowKit

/-- Values by their places. -/
def lvl (lv : List Int) (j : Nat) : Int := lv.getD j 0
def i64s (lv : List Int) : Array Value := (lv.map fun x => Value.int .i64 x).toArray
theorem i64s_at {lv : List Int} {j : Nat} (h : j < lv.length) : (i64s lv)[j]? = some (.int .i64 (lvl lv j)) := by
  unfold i64s lvl
  simp [h]
theorem i64s_set (lv : List Int) (j : Nat) (x : Int) : (i64s lv).setIfInBounds j (.int .i64 x) = i64s (lv.set j x) := by
  unfold i64s
  simp [List.map_set]
theorem lvl_set {lv : List Int} {j : Nat} {x : Int} (h : j < lv.length) (i : Nat) : lvl (lv.set j x) i = if i = j then x else lvl lv i := by
  unfold lvl
  by_cases e : i = j
  · subst e; rw [if_pos rfl]; simp [h]
  · rw [if_neg e]
    simp [Ne.symm e]
theorem i64s_get (l : List Int) (i : Nat) : (i64s l)[i]? = (l[i]?).map (Value.int .i64) := by simp [i64s]
theorem madeI (w : World) (n : Nat) (hn : n ≤ 1000000) : (Instr.makeSlice 53 (.int .i64 (n : Int)) (.int .i64 (n : Int))).run Try.prog w = .ok (.slice (some ⟨w.heap.size, 0, none⟩) n n) (w.alloc (.cells (i64s (List.replicate n 0)) 2)) := by
  obtain ⟨i0, hi, hz0, hz1, hz2⟩ := info_parts Try.info2'
  have := run_make (P := Try.prog) w 53 2 i0 (.int .i64 0) Try.underlying53 hi hz0 .i64 .i64 (n : Int) (n : Int) (by omega) (Int.le_refl _) (by rw [hz2]; omega) (by omega)
  rw [hz1, Nat.mul_one, Int.toNat_natCast] at this
  rw [this]
  congr 3
  apply Array.ext_getElem?
  intro i
  rw [i64s_get]
  by_cases h : i < n
  · simp [madeCells, Value.cells, h, Nat.mod_one]
  · simp [madeCells, h]
set_option maxHeartbeats 4000000 in
set_option maxRecDepth 100000 in
theorem SinkReplays_walk {w : World} {ao : Option Addr} {cap : Nat} {bs : List Nat} (hl : LSeg 1 u8cs w.heap.size w (.slice ao bs.length cap) bs) (hb8 : ∀ x ∈ bs, x < 256) (n0 : Int) :
    Calls Try.prog 6 #[.int .i64 n0, .slice ao bs.length cap] w fun e w' => e = .returned (.bool true) ∧ Below w.heap.size w w' := by
  have HL := hide hl
  have HB8 := hide hb8
  have HKN := hide (known_any w)
  have HPL := hide (fun w' : World => hPlace_any w' n0 (n := 30) (by omega) (by omega))
  have HPI := plc_in (i := n0) (n := 30) (by omega)
  generalize hT : plc n0 30 = T at *
  obtain ⟨n, hn⟩ : ∃ n : Nat, 1 + T = (n : Int) := ⟨(1 + T).toNat, by omega⟩
  have hw : wrap64 (1 + T) = (n : Int) := by rw [hn]; unfold wrap64; omega
  have hn1 : 1 ≤ n ∧ n ≤ 30 := by omega
  clear hT hl hn HPI hb8
  by_cases h20 : 20 < bs.length
  · have b20 : (20 : Int) < (bs.length : Int) := by omega
    go_enter Try.func6, Try.ntmps6
    go_wp2_with (first | (go_at_call 8; refine HKN.out.mono ?_; rintro e w1 ⟨rfl, b1⟩; have B1 := hide b1; clear b1) | (go_at_call 26; refine (HPL.out _).mono ?_; rintro e w2 ⟨rfl, rfl⟩) | fail)
    go_ret
    exact ⟨rfl, B1.out⟩
  · have b20 : ¬ (20 : Int) < (bs.length : Int) := by omega
    have hI : ∀ w' : World, (Instr.makeSlice 53 (.int .i64 ((n : Int) + 1)) (.int .i64 ((n : Int) + 1))).run Try.prog w' = .ok (.slice (some ⟨w'.heap.size, 0, none⟩) (n + 1) (n + 1)) (w'.alloc (.cells (i64s (List.replicate (n + 1) 0)) 2)) := fun w' => by
      have := madeI w' (n + 1) (by omega)
      rw [show (n : Int) + 1 = ((n + 1 : Nat) : Int) by omega]
      exact this
    have HLE : Hid (bs.length ≤ 20) := (show _ ≤ _ by omega)
    go_enter Try.func6, Try.ntmps6
    go_wp2_with (first | (go_at_call 8; refine HKN.out.mono ?_; rintro e w1 ⟨rfl, b1⟩; have B1 := hide b1; clear b1) | (go_at_call 26; refine (HPL.out _).mono ?_; rintro e w2 ⟨rfl, rfl⟩) | (go_at_call 10; refine (New_any _).mono ?_; rintro e w3 ⟨l, fp, rfl, h3, b3, n3⟩; have H3 := hide h3; have B3 := hide b3; have N3 := hide n3; clear h3 b3 n3) | fail)
    have G0 : Hid (G1 w (w3.alloc (.cells (i64s (List.replicate (n + 1) 0)) 2)) l (fun _ => emp) [] 0 w3.heap.size (i64s (List.replicate (n + 1) 0))) := by
      have s1 := B1.out.size
      have s2 := B3.out.size
      have hb := below_box w3 (.cells (i64s (List.replicate (n + 1) 0)) 2)
      exact ⟨fp, H3.out.below hb, fun i hi => by have := N3.out i hi; omega, (B1.out.trans (B3.out.mono B1.out.size)).trans (hb.mono (by omega)), BoxT.new _ _ _, fun e => by have := H3.out.flt _ e; omega, by omega⟩
    clear HKN HPL hw hI H3 B3 N3 B1 b20 h20
    have hin3 : In64 3 := by unfold In64; omega
    go_loopg [6, 7, 8, 10] 651 (fun gh av iv cv tv wr => ∃ (a li c W : Nat) (f : Int → PS) (o : List (List Rc)) (lv : List Int), av = .int .i64 (a : Int) ∧ iv = .int .i64 (li : Int) ∧ cv = .int .i64 (c : Int) ∧ c ≤ a ∧ a ≤ n ∧ li ≤ bs.length ∧ (bs.length - li) * 31 + (n - a) + 1 ≤ gh ∧ W + 2 * gh ≤ 1302 ∧ Hid (lv.length = n + 1) ∧ Hid (f 3 = rpS (lvl lv) c a) ∧ Hid (o = rpO (lvl lv) c) ∧ Hid (G1 w wr l f o W w3.heap.size (i64s lv)))
    case atStart => exact ⟨0, 0, 0, 0, fun _ => emp, [], List.replicate (n + 1) 0, rfl, rfl, rfl, by omega, by omega, by omega, by have := HLE.out; omega, by omega, (show _ = _ by simp), (show _ = _ by unfold rpS; rw [sq_nil]; rfl), (show _ = _ by unfold rpO; rw [sq_nil]; rfl), G0⟩
    case round =>
      clear G0
      obtain ⟨a, li, c, W, f, o, lv, rfl, rfl, rfl, hca, han, hli, hg, hW, HLV, HF, HO, HG⟩ := hrel
      obtain ⟨go, rfl⟩ : ∃ go, gk = go + 1 := ⟨gk - 1, by omega⟩
      have hle20 := HLE.out
      by_cases hlt : a < n
      · have bt : (a : Int) < (n : Int) := by omega
        obtain ⟨a1, ha1⟩ : ∃ a1, a + 1 = a1 := ⟨_, rfl⟩
        have he1 : (a : Int) + 1 = (a1 : Int) := by omega
        have hb1 : (a1 : Int) < (n : Int) + 1 := by omega
        have hb0 : (0 : Int) ≤ (a1 : Int) := by omega
        obtain ⟨L, hL⟩ : ∃ L : Nat, 1000 * li = L := ⟨_, rfl⟩
        have hL2 : L ≤ 20000 := by omega
        have hm0 : 1000 * (li : Int) = (L : Int) := by omega
        have HM0 := hide hm0
        clear hm0 hL
        have HLT : Hid (a1 < lv.length) := (show _ < _ by rw [HLV.out]; omega)
        have hc1 : wr.cell? ⟨w3.heap.size, a1, none⟩ = some (.int .i64 (lvl lv a1)) := by rw [HG.out.box.cellAt]; exact i64s_at HLT.out
        have fr1 := HG.out.box.free
        have HS1 := hide (HG.out.set a1 (.int .i64 ((L : Int) + (a1 : Int))))
        have HU : Hid ((lv.set a1 ((L : Int) + (a1 : Int))).length = n + 1) := (show _ = _ by rw [List.length_set]; exact HLV.out)
        have HUV : Hid (lvl (lv.set a1 ((L : Int) + (a1 : Int))) a1 = ((L : Int) + (a1 : Int))) := (show _ = _ by rw [lvl_set HLT.out, if_pos rfl])
        have HUJ : Hid (∀ j, j ≤ a → lvl (lv.set a1 ((L : Int) + (a1 : Int))) j = lvl lv j) := fun j hj => by rw [lvl_set HLT.out, if_neg (by omega)]
        have hc2 : (wr.setCell ⟨w3.heap.size, a1, none⟩ (.int .i64 ((L : Int) + (a1 : Int)))).cell? ⟨w3.heap.size, a1, none⟩ = some (.int .i64 ((L : Int) + (a1 : Int))) := by
          rw [HS1.out.box.cellAt, i64s_set]
          have := i64s_at (lv := lv.set a1 ((L : Int) + (a1 : Int))) (j := a1) (by rw [List.length_set]; exact HLT.out)
          rw [HUV.out] at this
          exact this
        have HG2 : Hid (G1 w ((wr.setCell ⟨w3.heap.size, a1, none⟩ (.int .i64 ((L : Int) + (a1 : Int)))).alloc (.cells #[.int .i64 (a1 : Int), .int .i64 0, .int .i64 ((L : Int) + (a1 : Int))] 39)) l f o W w3.heap.size (i64s (lv.set a1 ((L : Int) + (a1 : Int))))) := (show G1 _ _ _ _ _ _ _ _ by rw [← i64s_set]; exact HS1.out.below (below_box _ _))
        have HRV : Hid (LSeg 3 Rc.cs ((wr.setCell ⟨w3.heap.size, a1, none⟩ (.int .i64 ((L : Int) + (a1 : Int)))).alloc (.cells #[.int .i64 (a1 : Int), .int .i64 0, .int .i64 ((L : Int) + (a1 : Int))] 39)).heap.size ((wr.setCell ⟨w3.heap.size, a1, none⟩ (.int .i64 ((L : Int) + (a1 : Int)))).alloc (.cells #[.int .i64 (a1 : Int), .int .i64 0, .int .i64 ((L : Int) + (a1 : Int))] 39)) (.slice (some ⟨wr.heap.size, 0, none⟩) 1 1) [⟨(a1 : Int), 0, ((L : Int) + (a1 : Int))⟩]) := (show LSeg _ _ _ _ _ _ from by
          have := seg_one (B := ((wr.setCell ⟨w3.heap.size, a1, none⟩ (.int .i64 ((L : Int) + (a1 : Int)))).alloc (.cells #[.int .i64 (a1 : Int), .int .i64 0, .int .i64 ((L : Int) + (a1 : Int))] 39)).heap.size) (⟨(a1 : Int), 0, ((L : Int) + (a1 : Int))⟩ : Rc) (BoxT.new 39 (wr.setCell ⟨w3.heap.size, a1, none⟩ (.int .i64 ((L : Int) + (a1 : Int)))) #[.int .i64 (a1 : Int), .int .i64 0, .int .i64 ((L : Int) + (a1 : Int))]) (by simp) (cs := Rc.cs) (sz := 3) (fun j u hu => by simpa [Rc.cs] using hu) 1
          simpa using this)
        have HST := rp_stage (u := lvl (lv.set a1 ((L : Int) + (a1 : Int)))) hca HF.out HUJ.out
        rw [ha1, HUV.out] at HST
        have HST1 := hide HST
        have hW5 : W ≤ 500000 := by omega
        clear HST HS1 HF
        have hm0 := HM0.out
        go_upto_region 15 with (first | (have chk := HG2; clear chk; go_at_call 11; refine (HG2.out.stage hW5 hin3 a1 HRV.out (by simp)).mono ?_; rintro e w5 ⟨he, k5⟩; rw [HST1.out.1] at he; subst he; have HG3 := hide k5; clear k5 HG2 HRV) | fail)
        clear hm0 hc1 hc2
        have HF3 := hide HST1.out.2
        obtain ⟨F, hF⟩ : ∃ F, stF f 3 a1 [⟨(a1 : Int), 0, ((L : Int) + (a1 : Int))⟩] = F := ⟨_, rfl⟩
        rw [hF] at HF3 HG3
        have HO3 : Hid (o = rpO (lvl (lv.set a1 ((L : Int) + (a1 : Int)))) c) := (show _ = _ by
          rw [HO.out]; unfold rpO
          rw [sq_same (v := lvl lv) (u := lvl (lv.set a1 ((L : Int) + (a1 : Int)))) (fun j _ h2 => (HUJ.out j (by omega)).symm)])
        clear hF HST1 HO HUJ HG
        clear HUV HLT HLV
        generalize lv.set a1 ((L : Int) + (a1 : Int)) = lw at *
        have hW6 : W + [(⟨(a1 : Int), 0, (L : Int) + (a1 : Int)⟩ : Rc)].length + 1 = W + 2 := rfl
        rw [hW6] at HG3
        have hW7 : W + 2 ≤ 500000 := by omega
        clear hW6 hW5
        have hca1 : c ≤ a1 := by omega
        have han1 : a1 ≤ n := by omega
        have htm : Int.tmod (a1 : Int) 3 = ((a1 % 3 : Nat) : Int) := rfl
        obtain ⟨r, hr⟩ : ∃ r, a1 % 3 = r := ⟨_, rfl⟩
        rw [hr] at htm
        clear hr ha1
        by_cases hbk : li < bs.length ∧ r = 2
        · obtain ⟨hb1', hb2'⟩ := hbk
          have bli : (li : Int) < (bs.length : Int) := by omega
          have b2 : ((r : Int) == 2) = true := by rw [hb2']; rfl
          obtain ⟨b, hbb⟩ := get_of_lt hb1'
          obtain ⟨nb, no, rfl, _, _, d⟩ := (HL.out.below HG3.out.world).readAt hbb
          have e0 : w5.cell? ⟨nb, no + li, none⟩ = some (.int .u8 (b : Int)) := by have := d 0 _ rfl; simpa using this
          have hb8 := HB8.out b (List.mem_of_getElem? hbb)
          obtain ⟨dd, hdd⟩ : ∃ dd, a1 - c + 1 = dd := ⟨_, rfl⟩
          have hd1 : (a1 : Int) - (c : Int) + 1 = (dd : Int) := by omega
          have hdz : ¬ (dd : Int) = 0 := by omega
          have hbm : Int.tmod (b : Int) (dd : Int) = ((b % dd : Nat) : Int) := rfl
          have htl : b % dd < dd := Nat.mod_lt _ (by omega)
          obtain ⟨tt, htt⟩ : ∃ tt, b % dd = tt := ⟨_, rfl⟩
          rw [htt] at hbm htl
          obtain ⟨tz, hto⟩ : ∃ tz, c + tt = tz := ⟨_, rfl⟩
          have hto1 : (c : Int) + (tt : Int) = (tz : Int) := by omega
          have hct : c ≤ tz := by omega
          have hta : tz ≤ a1 := by omega
          clear d hbb htt hdd hto hb2'
          have hle2 : (c : Int) ≤ (tz : Int) := by omega
          have hmx : max (c : Int) (tz : Int) = (tz : Int) := by omega
          have RC := hide (rp_commit hct hta HF3.out o HO3.out)
          by_cases hgt : c < tz
          · have bgt : (c : Int) < (tz : Int) := by omega
            go_wp2_with (first | (have chk := HG3; clear chk; go_at_call 13; refine (HG3.out.commit hW7 hin3 tz).mono ?_; rintro e w6 ⟨he, k6⟩; rw [RC.out.1] at he; subst he; have HG4 := hide k6; clear k6 HG3) | (have chk := HG4; clear chk; go_at_call 15; refine (HG4.out.abort hW7 hin3 tz).mono ?_; rintro e w7 ⟨rfl, k7⟩; have HG5 := hide k7; clear k7 HG4) | fail)
            go_roundg go
            case rel => exact ⟨tz, li + 1, tz, W + 2, _, _, lw, rfl, by go_num, rfl, by omega, by omega, by omega, by omega, by omega, HU, (show _ = _ from rp_abort hta RC.out.2.1), (show _ = _ from RC.out.2.2), HG5⟩
            case measure => omega
          · have bgt : ¬ (c : Int) < (tz : Int) := by omega
            have htc : tz = c := by omega
            have HTC := hide htc
            clear htc
            go_wp2_with (first | (have chk := HG3; clear chk; go_at_call 15; refine (HG3.out.abort hW7 hin3 tz).mono ?_; rintro e w7 ⟨rfl, k7⟩; have HG5 := hide k7; clear k7 HG3) | fail)
            go_roundg go
            case rel => exact ⟨tz, li + 1, tz, W + 2, _, _, lw, rfl, by go_num, (by rw [HTC.out]), by omega, by omega, by omega, by omega, by omega, HU, (show _ = _ by have h1 := HF3.out; rw [← HTC.out] at h1; exact rp_abort hta h1), (show _ = _ by rw [HTC.out]; exact HO3.out), HG5⟩
            case measure => omega
        · by_cases hli2 : li < bs.length
          · have bli : (li : Int) < (bs.length : Int) := by omega
            have b2 : ((r : Int) == 2) = false := by simp; omega
            clear hbk
            go_wp2_with fail
            go_roundg go
            case rel => exact ⟨a1, li, c, W + 2, F, o, lw, rfl, rfl, rfl, by omega, by omega, by omega, by omega, by omega, HU, HF3, HO3, HG3⟩
            case measure => omega
          · have bli : ¬ (li : Int) < (bs.length : Int) := by omega
            clear hbk
            go_wp2_with fail
            go_roundg go
            case rel => exact ⟨a1, li, c, W + 2, F, o, lw, rfl, rfl, rfl, by omega, by omega, by omega, by omega, by omega, HU, HF3, HO3, HG3⟩
            case measure => omega
      · obtain rfl : a = n := by omega
        have bt : ¬ ((a : Nat) : Int) < (a : Int) := by omega
        have hW7 : W ≤ 500000 := by omega
        have RC := hide (rp_commit hca (Nat.le_refl a) HF.out o HO.out)
        have HLN : Hid ((o ++ cmO f 3 a).flatten.length = a) := (show _ = _ by rw [RC.out.2.2]; exact rp_len _ _)
        clear hg hW HF HO
        go_wp2_with (first | (have chk := HG; clear chk; go_at_call 13; refine (HG.out.commit hW7 hin3 a).mono ?_; rintro e w6 ⟨he, k6⟩; rw [RC.out.1] at he; subst he; have HG4 := hide k6; clear k6 HG) | (have chk := HG4; clear chk; go_at_call 18; refine (HG4.out.all hW7).mono ?_; rintro e w7 ⟨u, rfl, o7, k7⟩; obtain ⟨ua, uc, hu⟩ := o7.shape; rw [HLN.out] at hu; subst hu; have HO7 := hide o7; have HG5 := hide k7; clear o7 k7 HG4) | fail)
        have HSG : Hid (LSeg 3 Rc.cs w7.heap.size w7 (.slice ua a uc) (rpO (lvl lv) a).flatten) := (show LSeg _ _ _ _ _ _ by
          have h1 := HO7.out.seg Rc.cs_len (by rw [HLN.out]; omega)
          rw [RC.out.2.2] at h1
          exact h1)
        have HBX := hide HG5.out.box
        have HWD := hide HG5.out.world
        clear HO7 HG5 RC HLN
        go_loopg [12] (a + 1) (fun gh iv wr => ∃ i : Nat, iv = .int .i64 (i : Int) ∧ i ≤ a ∧ a + 1 ≤ gh + i ∧ Hid (∀ B, Below B w7 wr))
        case atStart => exact ⟨0, rfl, by omega, by omega, (show ∀ B, _ from fun B => Below.refl _ _)⟩
        case round =>
          obtain ⟨i, rfl, hi, hgi, HD⟩ := hrel
          obtain ⟨gi, rfl⟩ : ∃ gi, gk = gi + 1 := ⟨gk - 1, by omega⟩
          by_cases hilt : i < a
          · have bti : (i : Int) < (a : Int) := by omega
            obtain ⟨b1, o1, rfl, _, e0, e1, e2⟩ := (HSG.out.below (HD.out _)).rec (rp_at (lvl lv) hilt)
            simp only at e0 e1 e2
            have hcm : wr.cell? ⟨w3.heap.size, i + 1, none⟩ = some (.int .i64 (lvl lv (i + 1))) := by
              rw [(HBX.out.below (HD.out _)).cellAt]
              exact i64s_at (by rw [HLV.out]; omega)
            obtain ⟨i1, hi1⟩ : ∃ i1, i + 1 = i1 := ⟨_, rfl⟩
            rw [hi1] at e0 e2 hcm
            have hi2 : (i : Int) + 1 = (i1 : Int) := by omega
            have hi3 : (i1 : Int) < (a : Int) + 1 := by omega
            generalize lvl lv i1 = vv at *
            clear hi1
            go_wp2_with fail
            go_quiet (fail)
            go_wp2_with fail
            go_roundg gi
            case rel => exact ⟨i + 1, by go_num, by omega, by omega, (show ∀ B, _ from fun B => below_drewN (HD.out B) _)⟩
            case measure => omega
          · obtain rfl : i = a := by omega
            have bti : ¬ ((i : Nat) : Int) < (i : Int) := by omega
            go_wp2_with fail
            go_ret
            exact ⟨rfl, HWD.out.trans (HD.out _)⟩

end Go.Proofs.Yteafnohponbbeaa
