/-
  SinkParts.
-/
import Derived.Test.YteafnohponbbeaaKLawG
namespace Go.Proofs.Yteafnohponbbeaa
open Go.RowKit

theorem st_alike {f g : Int → PS} {k : Int} (h : f k = g k) (n : Nat) (rs : List Rc) : stE f k n = stE g k n ∧ stF f k n rs k = stF g k n rs k := by
  unfold stE stF
  rw [h]
  refine ⟨rfl, ?_⟩
  split
  · exact h
  · rw [upd_at, upd_at]
theorem cm_alike {f g : Int → PS} {k : Int} (h : f k = g k) (n : Nat) : cmE f k n = cmE g k n ∧ cmF f k n k = cmF g k n k := by
  unfold cmE cmF
  rw [h]
  refine ⟨rfl, ?_⟩
  split
  · exact h
  · split
    · rw [upd_at, upd_at]
    · exact h
theorem ab_alike {f g : Int → PS} {k : Int} (h : f k = g k) (n : Nat) : abF f k n k = abF g k n k := by
  unfold abF
  rw [upd_at, upd_at, h]
theorem upd_ne (f : Int → PS) {k j : Int} (h : j ≠ k) (s : PS) : upd f k s j = f j := by unfold upd; rw [if_neg h]
theorem st_ne (f : Int → PS) {k j : Int} (h : j ≠ k) (n : Nat) (rs : List Rc) : stF f k n rs j = f j := by
  unfold stF
  split
  · rfl
  · exact upd_ne f h _
theorem cm_ne (f : Int → PS) {k j : Int} (h : j ≠ k) (n : Nat) : cmF f k n j = f j := by
  unfold cmF
  split
  · rfl
  · split
    · exact upd_ne f h _
    · rfl
theorem ab_ne (f : Int → PS) {k j : Int} (h : j ≠ k) (n : Nat) : abF f k n j = f j := upd_ne f h _
set_option maxHeartbeats 4000000 in
set_option maxRecDepth 100000 in
theorem SinkParts_walk {w : World} {v : Value} {l : List Stp} (hl : StsIn w.heap.size w v l) :
    Calls Try.prog 5 #[v] w fun e w' => e = .returned (.bool true) ∧ Below w.heap.size w w' := by
  obtain ⟨ao, cap, rfl⟩ := hl.seg.shapeOf
  have HL := hide hl
  have HKN := hide (known_any w)
  have HLT : Hid (∀ w', Below w.heap.size w w' → Calls Try.prog 9 #[.slice ao l.length cap] w' fun e w'' => LtP e l ∧ w'' = w') := fun w' hb => light_any (hl.below hb)
  clear hl
  go_enter Try.func5, Try.ntmps5
  go_wp2_with (first | (go_at_call 8; refine HKN.out.mono ?_; rintro e w1 ⟨rfl, b1⟩; have B1 := hide b1; clear b1) | (go_at_call 9; refine (HLT.out _ B1.out).mono ?_; rintro e w2 ⟨⟨b, rfl, hb⟩, rfl⟩; have HB := hide hb; clear hb; cases b) | (have chk := A1; clear chk; go_at_call 10; refine (New_any _).mono ?_; rintro e w4 ⟨lb, fb, rfl, k2, b2, n2⟩; have G0 := hide (G2.start B1.out A1.out k2 b2 n2); clear k2 b2 n2 A1) | (go_at_call 10; refine (KW.new _).mono ?_; rintro e w3 ⟨la, rfl, k1⟩; have A1 := hide k1; clear k1) | fail)
  · go_ret
    exact ⟨rfl, B1.out⟩
  have HLQ := hide (HB.out trivial)
  clear HB HKN HLT B1
  have hl2 : l.length ≤ 200 := HLQ.out.1
  go_loopg [5, 6, 7, 8, 9] (l.length + 1) (fun gh iv xv ev fv mv wr => ∃ (i : Nat) (f g : Int → PS) (o o2 : List (List Rc)), iv = .int .i64 (i : Int) ∧ i ≤ l.length ∧ l.length + 1 ≤ gh + i ∧ Hid (f 1 = g 1) ∧ Hid (G2 w wr la lb f o g o2 (stW (l.take i)) (stW (l.take i)) (.slice none 0 0) [] none))
  case atStart => exact ⟨0, F0, F0, [], [], rfl, by omega, by omega, (show _ = _ from rfl), G0⟩
  case round =>
    clear G0
    obtain ⟨i, f, g, o, o2, rfl, hi, hg, HFG, HG⟩ := hrel
    obtain ⟨go, rfl⟩ : ∃ go, gk = go + 1 := ⟨gk - 1, by omega⟩
    by_cases hlt : i < l.length
    · obtain ⟨x, hx⟩ := get_of_lt hlt
      have bt : (i : Int) < (l.length : Int) := by omega
      have HL2 := HL.out.below HG.out.world
      obtain ⟨nb, no, rfl, nlt, e0, e1, e2, e3⟩ := HL2.seg.stp hx
      have HXO := hide (HL.out.ok x (List.mem_of_getElem? hx))
      have HSW := hide (stW_snoc hx)
      have HWB : Hid (stW (l.take (i + 1)) ≤ 3000) := (show _ ≤ _ by
        have h1 := HLQ.out.2
        have h2 : stW l = stW (l.take (i + 1)) + stW (l.drop (i + 1)) := by unfold stW; rw [← List.sum_append, ← List.map_append, List.take_append_drop]
        omega)
      obtain ⟨xw, hxw⟩ : ∃ xw, x.wh = xw := ⟨_, rfl⟩
      obtain ⟨xp, hxp⟩ : ∃ xp, x.pa = xp := ⟨_, rfl⟩
      obtain ⟨xn, hxn⟩ : ∃ xn, x.n = xn := ⟨_, rfl⟩
      obtain ⟨xa, hxa⟩ : ∃ xa, x.a = xa := ⟨_, rfl⟩
      obtain ⟨xc, hxc⟩ : ∃ xc, x.c = xc := ⟨_, rfl⟩
      obtain ⟨xl, hxl⟩ : ∃ xl, x.rs.length = xl := ⟨_, rfl⟩
      have hxv : x.v = .slice xa xl xc := by unfold Stp.v; rw [hxa, hxl, hxc]
      rw [hxw] at e0
      rw [hxp] at e1
      rw [hxn] at e2
      rw [hxv] at e3
      have HXW := hide hxw
      have HXP := hide hxp
      have HXN := hide hxn
      have HXV := hide hxv
      have HG2 := hide (HG.out.box #[.int .i64 xw, .int .i64 xp, .int .u64 (xn : Int), .slice xa xl xc])
      have HXL := hide hxl
      clear hx hxw hxp hxn hxv hxa hxc hxl HL2 nlt
      obtain ⟨mb, hmb⟩ : ∃ mb : Bool, (xp == 1) = mb := ⟨_, rfl⟩
      go_upto_block 2 with fail
      have HMB := hide hmb
      clear hmb
      have HRS : Hid (∀ w', Below w.heap.size w w' → LSeg 3 Rc.cs w.heap.size w' (.slice xa xl xc) x.rs) := fun w' hb => by
        rw [← HXV.out]
        exact HXO.out.rs.below hb
      have HPA : Hid (In64 xp) := (show In64 _ by rw [← HXP.out]; exact HXO.out.pa)
      have HRL : Hid (x.rs.length ≤ 3000 ∧ stW (l.take i) + x.rs.length + 1 = stW (l.take (i + 1))) := ⟨by have := HWB.out; have := HSW.out; omega, by have := HSW.out; omega⟩
      have hw1 : stW (l.take i) ≤ 500000 := by have := HWB.out; have := HSW.out; omega
      have hw2 : stW (l.take (i + 1)) ≤ 500000 := by have := HWB.out; omega
      obtain ⟨W0, hW0⟩ : ∃ W0, stW (l.take i) = W0 := ⟨_, rfl⟩
      obtain ⟨W3, hW3⟩ : ∃ W3, stW (l.take (i + 1)) = W3 := ⟨_, rfl⟩
      rw [hW0] at HG2 HRL hw1
      rw [hW3] at HRL hw2
      have HW3 := hide hW3
      clear hW0 hW3 HWB HSW HG
      clear HXO HLQ
      obtain ⟨z0, z1, z2, z3⟩ := HG2.out.cells.cells4
      go_cut [7, 8] from 32 to 83 (fun ev fv wx => ∃ (a b : Int) (g' : Int → PS) (o2' : List (List Rc)), ev = .int .i64 a ∧ fv = .int .i64 b ∧ Hid (xp = 1 → a = b) ∧ Hid (spF f x 1 = g' 1) ∧ Hid (G2 w wx la lb (spF f x) (o ++ spO f x) g' o2' W3 W3 (.slice none 0 0) [] none))
      case first =>
        have HEN : Hid (x.pa = xp ∧ x.n = xn) := ⟨HXP.out, HXN.out⟩
        by_cases h012 : xw = 0 ∨ xw = 1 ∨ xw = 2
        · have E := hide (sp_stage (f := f) (x := x) (by rw [HXW.out]; exact h012))
          cases mb
          case true =>
            have HM : Hid (xp = 1) := (show _ = _ by simpa using HMB.out)
            rcases h012 with rfl | rfl | rfl
            all_goals
              go_wp2_with (first | (have chk := HG2; clear chk; go_at_call 11; refine (HG2.out.stageA hw1 HPA.out xn (HRS.out _ HG2.out.world) (by have := HRL.out.1; omega)).mono ?_; rintro e w5 ⟨rfl, k5⟩; have HG3 := hide k5; clear k5 HG2 z0 z1 z2 z3; obtain ⟨z0, z1, z2, z3⟩ := HG3.out.cells.cells4) | (have chk := HG3; clear chk; go_at_call 11; refine (HG3.out.stageB hw1 HPA.out xn (HRS.out _ HG3.out.world) (by have := HRL.out.1; omega)).mono ?_; rintro e w5 ⟨rfl, k5⟩; have HG4 := hide k5; clear k5 HG3 z0 z1 z2 z3; obtain ⟨z0, z1, z2, z3⟩ := HG4.out.cells.cells4) | fail)
              go_meet
              case rel =>
                have h4 := HG4.out.nobox
                rw [HRL.out.2] at h4
                refine ⟨_, _, stF g xp xn x.rs, o2, rfl, rfl, (show _ → _ from fun _ => by rw [HM.out]; exact (st_alike HFG.out _ x.rs).1), (show _ = _ by rw [E.out.1, HXP.out, HXN.out, HM.out]; exact (st_alike HFG.out _ _).2), (show G2 _ _ _ _ _ _ _ _ _ _ _ _ _ by rw [E.out.1, E.out.2, List.append_nil, HXP.out, HXN.out]; exact h4)⟩
          case false =>
            have HM : Hid (¬ xp = 1) := (show ¬ _ by simpa using HMB.out)
            rcases h012 with rfl | rfl | rfl
            all_goals
              go_wp2_with (first | (have chk := HG2; clear chk; go_at_call 11; refine (HG2.out.stageA hw1 HPA.out xn (HRS.out _ HG2.out.world) (by have := HRL.out.1; omega)).mono ?_; rintro e w5 ⟨rfl, k5⟩; have HG3 := hide k5; clear k5 HG2 z0 z1 z2 z3; obtain ⟨z0, z1, z2, z3⟩ := HG3.out.cells.cells4) | (have chk := HG3; clear chk; go_at_call 11; refine (HG3.out.stageB hw1 HPA.out xn (HRS.out _ HG3.out.world) (by have := HRL.out.1; omega)).mono ?_; rintro e w5 ⟨rfl, k5⟩; have HG4 := hide k5; clear k5 HG3 z0 z1 z2 z3; obtain ⟨z0, z1, z2, z3⟩ := HG4.out.cells.cells4) | fail)
              go_meet
              case rel =>
                have h4 := HG3.out.nobox
                rw [HRL.out.2] at h4
                refine ⟨_, _, g, o2, rfl, rfl, (show _ → _ from fun e => absurd e HM.out), (show _ = _ by rw [E.out.1, HXP.out, HXN.out, st_ne f (fun e => HM.out e.symm)]; exact HFG.out), (show G2 _ _ _ _ _ _ _ _ _ _ _ _ _ by rw [E.out.1, E.out.2, List.append_nil, HXP.out, HXN.out]; exact h4.up (Nat.le_refl _) (by have := HRL.out.2; omega))⟩
        · by_cases h34 : xw = 3 ∨ xw = 4
          · have E := hide (sp_commit (f := f) (x := x) (by rw [HXW.out]; exact h34))
            clear h012
            cases mb
            case true =>
              have HM : Hid (xp = 1) := (show _ = _ by simpa using HMB.out)
              rcases h34 with rfl | rfl
              all_goals
                go_wp2_with (first | (have chk := HG2; clear chk; go_at_call 13; refine (HG2.out.commitA hw1 HPA.out xn).mono ?_; rintro e w5 ⟨rfl, k5⟩; have HG3 := hide k5; clear k5 HG2 z0 z1 z2 z3; obtain ⟨z0, z1, z2, z3⟩ := HG3.out.cells.cells4) | (have chk := HG3; clear chk; go_at_call 13; refine (HG3.out.commitB hw1 HPA.out xn).mono ?_; rintro e w5 ⟨rfl, k5⟩; have HG4 := hide k5; clear k5 HG3 z0 z1 z2 z3; obtain ⟨z0, z1, z2, z3⟩ := HG4.out.cells.cells4) | fail)
                go_meet
                case rel =>
                  have h4 := HG4.out.nobox.up (W1' := W3) (W2' := W3) (by have := HRL.out.2; omega) (by have := HRL.out.2; omega)
                  refine ⟨_, _, cmF g xp xn, o2 ++ cmO g xp xn, rfl, rfl, (show _ → _ from fun _ => by rw [HM.out]; exact (cm_alike HFG.out _).1), (show _ = _ by rw [E.out.1, HXP.out, HXN.out, HM.out]; exact (cm_alike HFG.out _).2), (show G2 _ _ _ _ _ _ _ _ _ _ _ _ _ by rw [E.out.1, E.out.2, HXP.out, HXN.out]; exact h4)⟩
            case false =>
              have HM : Hid (¬ xp = 1) := (show ¬ _ by simpa using HMB.out)
              rcases h34 with rfl | rfl
              all_goals
                go_wp2_with (first | (have chk := HG2; clear chk; go_at_call 13; refine (HG2.out.commitA hw1 HPA.out xn).mono ?_; rintro e w5 ⟨rfl, k5⟩; have HG3 := hide k5; clear k5 HG2 z0 z1 z2 z3; obtain ⟨z0, z1, z2, z3⟩ := HG3.out.cells.cells4) | (have chk := HG3; clear chk; go_at_call 13; refine (HG3.out.commitB hw1 HPA.out xn).mono ?_; rintro e w5 ⟨rfl, k5⟩; have HG4 := hide k5; clear k5 HG3 z0 z1 z2 z3; obtain ⟨z0, z1, z2, z3⟩ := HG4.out.cells.cells4) | fail)
                go_meet
                case rel =>
                  have h4 := HG3.out.nobox.up (W1' := W3) (W2' := W3) (by have := HRL.out.2; omega) (by have := HRL.out.2; omega)
                  refine ⟨_, _, g, o2, rfl, rfl, (show _ → _ from fun e => absurd e HM.out), (show _ = _ by rw [E.out.1, HXP.out, HXN.out, cm_ne f (fun e => HM.out e.symm)]; exact HFG.out), (show G2 _ _ _ _ _ _ _ _ _ _ _ _ _ by rw [E.out.1, E.out.2, HXP.out, HXN.out]; exact h4)⟩
          · by_cases h5 : xw = 5
            · have E := hide (sp_abort (f := f) (x := x) (by rw [HXW.out]; exact h5))
              clear h012 h34
              subst h5
              cases mb
              case true =>
                have HM : Hid (xp = 1) := (show _ = _ by simpa using HMB.out)
                go_wp2_with (first | (have chk := HG2; clear chk; go_at_call 15; refine (HG2.out.abortA hw1 HPA.out xn).mono ?_; rintro e w5 ⟨rfl, k5⟩; have HG3 := hide k5; clear k5 HG2 z0 z1 z2 z3; obtain ⟨z0, z1, z2, z3⟩ := HG3.out.cells.cells4) | (have chk := HG3; clear chk; go_at_call 15; refine (HG3.out.abortB hw1 HPA.out xn).mono ?_; rintro e w5 ⟨rfl, k5⟩; have HG4 := hide k5; clear k5 HG3 z0 z1 z2 z3; obtain ⟨z0, z1, z2, z3⟩ := HG4.out.cells.cells4) | fail)
                go_meet
                case rel =>
                  have h4 := HG4.out.nobox.up (W1' := W3) (W2' := W3) (by have := HRL.out.2; omega) (by have := HRL.out.2; omega)
                  refine ⟨_, _, abF g xp xn, o2, rfl, rfl, (show _ → _ from fun _ => rfl), (show _ = _ by rw [E.out.1, HXP.out, HXN.out, HM.out]; exact ab_alike HFG.out _), (show G2 _ _ _ _ _ _ _ _ _ _ _ _ _ by rw [E.out.1, E.out.2, List.append_nil, HXP.out, HXN.out]; exact h4)⟩
              case false =>
                have HM : Hid (¬ xp = 1) := (show ¬ _ by simpa using HMB.out)
                go_wp2_with (first | (have chk := HG2; clear chk; go_at_call 15; refine (HG2.out.abortA hw1 HPA.out xn).mono ?_; rintro e w5 ⟨rfl, k5⟩; have HG3 := hide k5; clear k5 HG2 z0 z1 z2 z3; obtain ⟨z0, z1, z2, z3⟩ := HG3.out.cells.cells4) | (have chk := HG3; clear chk; go_at_call 15; refine (HG3.out.abortB hw1 HPA.out xn).mono ?_; rintro e w5 ⟨rfl, k5⟩; have HG4 := hide k5; clear k5 HG3 z0 z1 z2 z3; obtain ⟨z0, z1, z2, z3⟩ := HG4.out.cells.cells4) | fail)
                go_meet
                case rel =>
                  have h4 := HG3.out.nobox.up (W1' := W3) (W2' := W3) (by have := HRL.out.2; omega) (by have := HRL.out.2; omega)
                  refine ⟨_, _, g, o2, rfl, rfl, (show _ → _ from fun e => absurd e HM.out), (show _ = _ by rw [E.out.1, HXP.out, HXN.out, ab_ne f (fun e => HM.out e.symm)]; exact HFG.out), (show G2 _ _ _ _ _ _ _ _ _ _ _ _ _ by rw [E.out.1, E.out.2, List.append_nil, HXP.out, HXN.out]; exact h4)⟩
            · have E := hide (sp_none (f := f) (x := x) (by rw [HXW.out]; exact h012) (by rw [HXW.out]; exact h34) (by rw [HXW.out]; exact h5))
              have n0 : (xw == 0) = false := by simp; omega
              have n1 : (xw == 1) = false := by simp; omega
              have n2 : (xw == 2) = false := by simp; omega
              have n3 : (xw == 3) = false := by simp; omega
              have n4 : (xw == 4) = false := by simp; omega
              have n5 : (xw == 5) = false := by simp; omega
              clear h012 h34 h5
              go_wp2_with fail
              go_meet
              case rel =>
                refine ⟨_, _, g, o2, rfl, rfl, (show _ → _ from fun _ => rfl), (show _ = _ by rw [E.out.1]; exact HFG.out), (show G2 _ _ _ _ _ _ _ _ _ _ _ _ _ by rw [E.out.1, E.out.2, List.append_nil]; exact HG2.out.nobox.up (by have := HRL.out.2; omega) (by have := HRL.out.2; omega))⟩
      case rest =>
        obtain ⟨a, b, g', o2', rfl, rfl, HAB, HF1, P0⟩ := hcut
        clear HG2 z0 z1 z2 z3
        obtain ⟨F9, hF9⟩ : ∃ F9, spF f x = F9 := ⟨_, rfl⟩
        obtain ⟨O9, hO9⟩ : ∃ O9, o ++ spO f x = O9 := ⟨_, rfl⟩
        rw [hF9] at HF1 P0
        rw [hO9] at P0
        clear hF9 hO9
        cases mb
        case true =>
          obtain rfl : a = b := HAB.out (by simpa using HMB.out)
          go_wp2_with (first | (have chk := P0; clear chk; go_at_call 19; refine (P0.out.lastA in1).mono ?_; rintro e w5 ⟨rfl, rfl⟩; have P1 := P0; clear P0) | (have chk := P1; clear chk; go_at_call 19; refine (P1.out.swap.lastA in1).mono ?_; rintro e w5 ⟨rfl, rfl⟩; rw [← HF1.out]; have P2 := P1; clear P1) | (have chk := P2; clear chk; go_at_call 22; refine (P2.out.stagedA hw2 in1).mono ?_; rintro e w5 ⟨u1, rfl, o5, b5⟩; have U1 := hide o5; have P3 := hide (P2.out.below b5); clear o5 b5 P2) | (have chk := P3; clear chk; go_at_call 22; refine (P3.out.swap.stagedA hw2 in1).mono ?_; rintro e w6 ⟨u2, rfl, o6, b6⟩; rw [← HF1.out] at o6; have U2 := hide o6; have U1b := hide (U1.out.below b6); have P4 := hide (P3.out.below b6); clear o6 b6 P3 U1) | (have chk := P4; clear chk; go_at_call 21; refine (hNums_any (U1b.out.seg u64cs_len (by rw [List.length_map]; have := (P4.out.part 1 0).1; omega)) (U2.out.seg u64cs_len (by rw [List.length_map]; have := (P4.out.part 1 0).1; omega)) (by rw [List.length_map]; have := (P4.out.part 1 0).1; omega)).mono ?_; rintro e w7 ⟨rfl, b7⟩; have P5 := hide (P4.out.below b7); clear b7 P4 U1b U2) | (have chk := P5; clear chk; go_at_call 24; refine (P5.out.uptoA hw2 in1 18446744073709551615).mono ?_; rintro e w5 ⟨u1, rfl, o5, b5⟩; have U1 := hide o5; have P6 := hide (P5.out.below b5); clear o5 b5 P5) | (have chk := P6; clear chk; go_at_call 24; refine (P6.out.swap.uptoA hw2 in1 18446744073709551615).mono ?_; rintro e w6 ⟨u2, rfl, o6, b6⟩; rw [← HF1.out] at o6; have U2 := hide o6; have U1b := hide (U1.out.below b6); have P7 := hide (P6.out.below b6); clear o6 b6 P6 U1) | (have chk := P7; clear chk; go_at_call 17; refine (hRecords_any (U1b.out.seg Rc.cs_len (by have := (P7.out.part 1 18446744073709551615).2; omega)) (U2.out.seg Rc.cs_len (by have := (P7.out.part 1 18446744073709551615).2; omega)) (by have := (P7.out.part 1 18446744073709551615).2; omega)).mono ?_; rintro e w7 ⟨rfl, b7⟩; have P8 := hide (P7.out.below b7); clear b7 P7 U1b U2) | fail)
          go_roundg go
          case rel => exact ⟨i + 1, F9, g', O9, o2', by go_num, by omega, by omega, HF1, (show G2 _ _ _ _ _ _ _ _ _ _ _ _ _ by rw [HW3.out]; exact P8.out)⟩
          case measure => omega
        case false =>
          go_wp2_with (first | (have chk := P0; clear chk; go_at_call 19; refine (P0.out.lastA in1).mono ?_; rintro e w5 ⟨rfl, rfl⟩; have P1 := P0; clear P0) | (have chk := P1; clear chk; go_at_call 19; refine (P1.out.swap.lastA in1).mono ?_; rintro e w5 ⟨rfl, rfl⟩; rw [← HF1.out]; have P2 := P1; clear P1) | (have chk := P2; clear chk; go_at_call 22; refine (P2.out.stagedA hw2 in1).mono ?_; rintro e w5 ⟨u1, rfl, o5, b5⟩; have U1 := hide o5; have P3 := hide (P2.out.below b5); clear o5 b5 P2) | (have chk := P3; clear chk; go_at_call 22; refine (P3.out.swap.stagedA hw2 in1).mono ?_; rintro e w6 ⟨u2, rfl, o6, b6⟩; rw [← HF1.out] at o6; have U2 := hide o6; have U1b := hide (U1.out.below b6); have P4 := hide (P3.out.below b6); clear o6 b6 P3 U1) | (have chk := P4; clear chk; go_at_call 21; refine (hNums_any (U1b.out.seg u64cs_len (by rw [List.length_map]; have := (P4.out.part 1 0).1; omega)) (U2.out.seg u64cs_len (by rw [List.length_map]; have := (P4.out.part 1 0).1; omega)) (by rw [List.length_map]; have := (P4.out.part 1 0).1; omega)).mono ?_; rintro e w7 ⟨rfl, b7⟩; have P5 := hide (P4.out.below b7); clear b7 P4 U1b U2) | (have chk := P5; clear chk; go_at_call 24; refine (P5.out.uptoA hw2 in1 18446744073709551615).mono ?_; rintro e w5 ⟨u1, rfl, o5, b5⟩; have U1 := hide o5; have P6 := hide (P5.out.below b5); clear o5 b5 P5) | (have chk := P6; clear chk; go_at_call 24; refine (P6.out.swap.uptoA hw2 in1 18446744073709551615).mono ?_; rintro e w6 ⟨u2, rfl, o6, b6⟩; rw [← HF1.out] at o6; have U2 := hide o6; have U1b := hide (U1.out.below b6); have P7 := hide (P6.out.below b6); clear o6 b6 P6 U1) | (have chk := P7; clear chk; go_at_call 17; refine (hRecords_any (U1b.out.seg Rc.cs_len (by have := (P7.out.part 1 18446744073709551615).2; omega)) (U2.out.seg Rc.cs_len (by have := (P7.out.part 1 18446744073709551615).2; omega)) (by have := (P7.out.part 1 18446744073709551615).2; omega)).mono ?_; rintro e w7 ⟨rfl, b7⟩; have P8 := hide (P7.out.below b7); clear b7 P7 U1b U2) | fail)
          go_roundg go
          case rel => exact ⟨i + 1, F9, g', O9, o2', by go_num, by omega, by omega, HF1, (show G2 _ _ _ _ _ _ _ _ _ _ _ _ _ by rw [HW3.out]; exact P8.out)⟩
          case measure => omega
    · obtain rfl : i = l.length := by omega
      have bt : ¬ ((l.length : Nat) : Int) < (l.length : Int) := by omega
      go_wp2_with fail
      go_ret
      exact ⟨rfl, HG.out.world⟩

end Go.Proofs.Yteafnohponbbeaa
