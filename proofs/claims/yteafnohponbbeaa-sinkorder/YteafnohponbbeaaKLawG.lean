/-
  SinkGrows.
-/
import Derived.Test.YteafnohponbbeaaKLaw
namespace Go.Proofs.Yteafnohponbbeaa
open Go.RowKit

theorem G2.start {w w1 w2 w3 : World} {la lb : Nat} {fb : Nat → Prop} (hb : Below w.heap.size w w1) (h1 : KW w1 w2 la F0 [] 0) (h2 : LA w3 lb fb (fun _ => emp) [] 0) (h3 : Below w2.heap.size w2 w3) (h4 : ∀ i, fb i → w2.heap.size ≤ i) : G2 w w3 la lb F0 [] F0 [] 0 0 (.slice none 0 0) [] none := by
  obtain ⟨fa, h5, h6, h7⟩ := h1
  have s1 := hb.size
  have s2 := h7.size
  exact ⟨fa, fb, h5.below h3, h2, fun i e1 e2 => by have := h5.flt i e1; have := h4 i e2; omega, fun i e => by have := h6 i e; omega, fun i e => by have := h4 i e; omega, (hb.trans (h7.mono hb.size)).trans (h3.mono (by omega)), OwnL.nil _ _ _ _ _, fun g e => by (cases e), fun k cs e => by cases e⟩
theorem sp_stage {f : Int → PS} {x : Stp} (h : x.wh = 0 ∨ x.wh = 1 ∨ x.wh = 2) : spF f x = stF f x.pa x.n x.rs ∧ spO f x = [] := by
  refine ⟨by unfold spF; rw [if_pos h], by unfold spO; rw [if_neg (by omega)]⟩
theorem sp_commit {f : Int → PS} {x : Stp} (h : x.wh = 3 ∨ x.wh = 4) : spF f x = cmF f x.pa x.n ∧ spO f x = cmO f x.pa x.n := by
  refine ⟨by unfold spF; rw [if_neg (by omega), if_pos h], by unfold spO; rw [if_pos h]⟩
theorem sp_abort {f : Int → PS} {x : Stp} (h : x.wh = 5) : spF f x = abF f x.pa x.n ∧ spO f x = [] := by
  refine ⟨by unfold spF; rw [if_neg (by omega), if_neg (by omega), if_pos h], by unfold spO; rw [if_neg (by omega)]⟩
theorem sp_none {f : Int → PS} {x : Stp} (h : ¬ (x.wh = 0 ∨ x.wh = 1 ∨ x.wh = 2)) (h2 : ¬ (x.wh = 3 ∨ x.wh = 4)) (h3 : ¬ x.wh = 5) : spF f x = f ∧ spO f x = [] := by
  refine ⟨by unfold spF; rw [if_neg h, if_neg h2, if_neg h3], by unfold spO; rw [if_neg h2]⟩
/-- Commits of one number, told j times. -/
def ctF (f : Int → PS) (k : Int) (n j : Nat) : Int → PS := if j = 0 then f else cmF f k n
def ctO (f : Int → PS) (o : List (List Rc)) (k : Int) (n j : Nat) : List (List Rc) := if j = 0 then o else o ++ cmO f k n
theorem ct_next (f : Int → PS) (o : List (List Rc)) (k : Int) (n j : Nat) : cmF (ctF f k n j) k n = ctF f k n (j + 1) ∧ ctO f o k n j ++ cmO (ctF f k n j) k n = ctO f o k n (j + 1) := by
  unfold ctF ctO
  by_cases h : j = 0
  · rw [if_pos h, if_neg (by omega), if_pos h, if_neg (by omega)]; exact ⟨rfl, rfl⟩
  · rw [if_neg h, if_neg (by omega), if_neg h, if_neg (by omega)]
    obtain ⟨h1, h2⟩ := cm_again f k n
    rw [h1, h2, List.append_nil]; exact ⟨rfl, rfl⟩
def atF (f : Int → PS) (k : Int) (n j : Nat) : Int → PS := if j = 0 then f else abF f k n
theorem at_next (f : Int → PS) (k : Int) (n j : Nat) : abF (atF f k n j) k n = atF f k n (j + 1) := by
  unfold atF
  by_cases h : j = 0
  · rw [if_pos h, if_neg (by omega)]
  · rw [if_neg h, if_neg (by omega), ab_again]
set_option maxHeartbeats 4000000 in
set_option maxRecDepth 100000 in
theorem SinkGrows_walk {w : World} {v : Value} {l : List Stp} (hl : StsIn w.heap.size w v l) (times : Int) :
    Calls Try.prog 4 #[v, .int .i64 times] w fun e w' => e = .returned (.bool true) ∧ Below w.heap.size w w' := by
  obtain ⟨ao, cap, rfl⟩ := hl.seg.shapeOf
  have HL := hide hl
  have HKN := hide (known_any w)
  have HPL := hide (fun w' : World => hPlace_any w' times (n := 4) (by omega) (by omega))
  have HPI := hide (plc_in (i := times) (n := 4) (by omega))
  have HLT : Hid (∀ w', Below w.heap.size w w' → Calls Try.prog 9 #[.slice ao l.length cap] w' fun e w'' => LtP e l ∧ w'' = w') := fun w' hb => light_any (hl.below hb)
  generalize hT : plc times 4 = T at *
  obtain ⟨t, ht⟩ : ∃ t : Nat, 1 + T = (t : Int) := ⟨(1 + T).toNat, by have := HPI.out; omega⟩
  have hw : wrap64 (1 + T) = (t : Int) := by rw [ht]; have := HPI.out; unfold wrap64; omega
  have HT1 : Hid (1 ≤ t ∧ t ≤ 4) := ⟨by have := HPI.out; omega, by have := HPI.out; omega⟩
  clear hT hl ht
  go_enter Try.func4, Try.ntmps4
  go_wp2_with (first | (go_at_call 8; refine HKN.out.mono ?_; rintro e w1 ⟨rfl, b1⟩; have B1 := hide b1; clear b1) | (go_at_call 9; refine (HLT.out _ B1.out).mono ?_; rintro e w2 ⟨⟨b, rfl, hb⟩, rfl⟩; have HB := hide hb; clear hb; cases b) | (go_at_call 26; refine (HPL.out _).mono ?_; rintro e w2 ⟨rfl, rfl⟩) | (have chk := A1; clear chk; go_at_call 10; refine (New_any _).mono ?_; rintro e w4 ⟨lb, fb, rfl, k2, b2, n2⟩; have G0 := hide (G2.start B1.out A1.out k2 b2 n2); clear k2 b2 n2 A1) | (go_at_call 10; refine (KW.new _).mono ?_; rintro e w3 ⟨la, rfl, k1⟩; have A1 := hide k1; clear k1) | fail)
  · go_ret
    exact ⟨rfl, B1.out⟩
  have HLQ := hide (HB.out trivial)
  clear HB HKN HPL HPI HLT B1 hw
  have hl2 : l.length ≤ 200 := HLQ.out.1
  go_loopg [7, 8, 9, 10, 11, 12] (l.length + 1) (fun gh wv iv xv kv k2v nv wr => ∃ (i : Nat) (f : Int → PS) (o : List (List Rc)), iv = .int .i64 (i : Int) ∧ i ≤ l.length ∧ l.length + 1 ≤ gh + i ∧ Hid (G2 w wr la lb f o f o (stW (l.take i)) (stW (l.take i)) wv o.flatten none))
  case atStart => exact ⟨0, F0, [], rfl, by omega, by omega, G0⟩
  case round =>
    clear G0
    obtain ⟨i, f, o, rfl, hi, hg, HG⟩ := hrel
    obtain ⟨go, rfl⟩ : ∃ go, gk = go + 1 := ⟨gk - 1, by omega⟩
    obtain ⟨wa, wc_, hwv⟩ := HG.out.row.shape
    obtain ⟨nw, hnw⟩ : ∃ nw, o.flatten.length = nw := ⟨_, rfl⟩
    rw [hnw] at hwv
    subst hwv
    have HNW := hide hnw
    clear hnw
    by_cases hlt : i < l.length
    · obtain ⟨x, hx⟩ := get_of_lt hlt
      have bt : (i : Int) < (l.length : Int) := by omega
      have HL2 := HL.out.below HG.out.world
      obtain ⟨nb, no, rfl, nlt, e0, e1, e2, e3⟩ := HL2.seg.stp hx
      have HXO := hide (HL.out.ok x (List.mem_of_getElem? hx))
      have HSW := hide (stW_snoc hx)
      have HWB : Hid (stW (l.take (i + 1)) ≤ 3000) := (show _ ≤ _ by
        have h1 := HLQ.out.2
        have h2 : stW l = stW (l.take (i + 1)) + stW (l.drop (i + 1)) := by unfold stW; rw [← List.sum_append, ← List.map_append, List.take_append_drop]
        omega)
      obtain ⟨xw, hxw⟩ : ∃ xw, x.wh = xw := ⟨_, rfl⟩
      obtain ⟨xp, hxp⟩ : ∃ xp, x.pa = xp := ⟨_, rfl⟩
      obtain ⟨xn, hxn⟩ : ∃ xn, x.n = xn := ⟨_, rfl⟩
      obtain ⟨xa, hxa⟩ : ∃ xa, x.a = xa := ⟨_, rfl⟩
      obtain ⟨xc, hxc⟩ : ∃ xc, x.c = xc := ⟨_, rfl⟩
      obtain ⟨xl, hxl⟩ : ∃ xl, x.rs.length = xl := ⟨_, rfl⟩
      have hxv : x.v = .slice xa xl xc := by unfold Stp.v; rw [hxa, hxl, hxc]
      rw [hxw] at e0
      rw [hxp] at e1
      rw [hxn] at e2
      rw [hxv] at e3
      have HXW := hide hxw
      have HXP := hide hxp
      have HXN := hide hxn
      have HXV := hide hxv
      have HG2 := hide (HG.out.box #[.int .i64 xw, .int .i64 xp, .int .u64 (xn : Int), .slice xa xl xc])
      have HXL := hide hxl
      clear hx hxw hxp hxn hxv hxa hxc hxl HL2 nlt
      go_upto_block 2 with fail
      have HRS : Hid (∀ w', Below w.heap.size w w' → LSeg 3 Rc.cs w.heap.size w' (.slice xa xl xc) x.rs) := fun w' hb => by
        rw [← HXV.out]
        exact HXO.out.rs.below hb
      have HPA : Hid (In64 xp) := (show In64 _ by rw [← HXP.out]; exact HXO.out.pa)
      have HRL : Hid (x.rs.length ≤ 3000 ∧ stW (l.take i) + x.rs.length + 1 = stW (l.take (i + 1))) := ⟨by have := HWB.out; have := HSW.out; omega, by have := HSW.out; omega⟩
      have hw1 : stW (l.take i) ≤ 500000 := by have := HWB.out; have := HSW.out; omega
      have hw2 : stW (l.take (i + 1)) ≤ 500000 := by have := HWB.out; omega
      obtain ⟨W0, hW0⟩ : ∃ W0, stW (l.take i) = W0 := ⟨_, rfl⟩
      obtain ⟨W3, hW3⟩ : ∃ W3, stW (l.take (i + 1)) = W3 := ⟨_, rfl⟩
      rw [hW0] at HG2 HRL hw1
      rw [hW3] at HRL hw2
      have HW3 := hide hW3
      clear hW0 hW3 HWB HSW HG
      clear HXO HLQ
      obtain ⟨wo, rfl⟩ : ∃ wo, wo = wr := ⟨_, rfl⟩
      obtain ⟨z0, z1, z2, z3⟩ := HG2.out.cells.cells4
      go_cut [10, 11] from 35 to 93 (fun _ _ wx => Hid (G2 w wx la lb (spF f x) (o ++ spO f x) (spF f x) (o ++ spO f x) W3 W3 (.slice wa nw wc_) o.flatten none))
      case first =>
        by_cases h012 : xw = 0 ∨ xw = 1 ∨ xw = 2
        · have E := hide (sp_stage (f := f) (x := x) (by rw [HXW.out]; exact h012))
          rcases h012 with rfl | rfl | rfl
          all_goals
            go_wp2_with (first | (have chk := HG2; clear chk; go_at_call 11; refine (HG2.out.stageA hw1 HPA.out xn (HRS.out _ HG2.out.world) (by have := HRL.out.1; omega)).mono ?_; rintro e w5 ⟨rfl, k5⟩; have HG3 := hide k5; clear k5 HG2 z0 z1 z2 z3; obtain ⟨z0, z1, z2, z3⟩ := HG3.out.cells.cells4) | (have chk := HG3; clear chk; go_at_call 11; refine (HG3.out.stageB hw1 HPA.out xn (HRS.out _ HG3.out.world) (by have := HRL.out.1; omega)).mono ?_; rintro e w6 ⟨rfl, k6⟩; have HG4 := hide k6; clear k6 HG3) | fail)
            go_meet
            case rel =>
              have h4 := HG4.out.nobox
              rw [HRL.out.2] at h4
              show G2 _ _ _ _ _ _ _ _ _ _ _ _ _
              rw [E.out.1, E.out.2, List.append_nil, HXP.out, HXN.out]
              exact h4
        · by_cases h34 : xw = 3 ∨ xw = 4
          · have E := hide (sp_commit (f := f) (x := x) (by rw [HXW.out]; exact h34))
            clear h012
            rcases h34 with rfl | rfl
            all_goals
              go_wp2_with (first | (have chk := HG2; clear chk; go_at_call 13; refine (HG2.out.commitA hw1 HPA.out xn).mono ?_; rintro e w5 ⟨rfl, k5⟩; have HG3 := hide k5; clear k5 HG2 z0 z1 z2 z3) | fail)
              go_loopg [10] (t + 1) (fun gh kv wr => ∃ j : Nat, kv = .int .i64 (j : Int) ∧ j ≤ t ∧ t + 1 ≤ gh + j ∧ Hid (G2 w wr la lb (cmF f xp xn) (o ++ cmO f xp xn) (ctF f xp xn j) (ctO f o xp xn j) W0 W0 (.slice wa nw wc_) o.flatten (some (wo.heap.size, #[.int .i64 _, .int .i64 xp, .int .u64 (xn : Int), .slice xa xl xc]))))
              case atStart => exact ⟨0, rfl, by omega, by omega, HG3⟩
              case round =>
                clear HG3
                obtain ⟨j, rfl, hj, hgj, HJ⟩ := hrel
                obtain ⟨gi, rfl⟩ : ∃ gi, gk = gi + 1 := ⟨gk - 1, by omega⟩
                have ht4 := HT1.out
                by_cases hjt : j < t
                · have btj : (j : Int) < (t : Int) := by omega
                  obtain ⟨z0, z1, z2, z3⟩ := HJ.out.cells.cells4
                  go_wp2_with (first | (go_at_call 13; refine (HJ.out.commitB hw1 HPA.out xn).mono ?_; rintro e w6 ⟨rfl, k6⟩; rw [(ct_next f o xp xn j).1, (ct_next f o xp xn j).2] at k6; have HJ2 := hide k6; clear k6) | fail)
                  go_roundg gi
                  case rel => exact ⟨j + 1, by go_num, by omega, by omega, HJ2⟩
                  case measure => omega
                · obtain rfl : j = t := by omega
                  have btj : ¬ ((j : Nat) : Int) < (j : Int) := by omega
                  go_wp2_with fail
                  go_meet
                  case rel =>
                    have h4 := HJ.out.nobox
                    have hj0 : ¬ j = 0 := by omega
                    unfold ctF ctO at h4
                    rw [if_neg hj0, if_neg hj0] at h4
                    show G2 _ _ _ _ _ _ _ _ _ _ _ _ _
                    rw [E.out.1, E.out.2, HXP.out, HXN.out]
                    exact h4.up (by have := HRL.out.2; omega) (by have := HRL.out.2; omega)
          · by_cases h5 : xw = 5
            · have E := hide (sp_abort (f := f) (x := x) (by rw [HXW.out]; exact h5))
              clear h012 h34
              subst h5
              go_wp2_with (first | (have chk := HG2; clear chk; go_at_call 15; refine (HG2.out.abortA hw1 HPA.out xn).mono ?_; rintro e w5 ⟨rfl, k5⟩; have HG3 := hide k5; clear k5 HG2 z0 z1 z2 z3) | fail)
              go_loopg [11] (t + 1) (fun gh kv wr => ∃ j : Nat, kv = .int .i64 (j : Int) ∧ j ≤ t ∧ t + 1 ≤ gh + j ∧ Hid (G2 w wr la lb (abF f xp xn) o (atF f xp xn j) o W0 W0 (.slice wa nw wc_) o.flatten (some (wo.heap.size, #[.int .i64 _, .int .i64 xp, .int .u64 (xn : Int), .slice xa xl xc]))))
              case atStart => exact ⟨0, rfl, by omega, by omega, HG3⟩
              case round =>
                clear HG3
                obtain ⟨j, rfl, hj, hgj, HJ⟩ := hrel
                obtain ⟨gi, rfl⟩ : ∃ gi, gk = gi + 1 := ⟨gk - 1, by omega⟩
                have ht4 := HT1.out
                by_cases hjt : j < t
                · have btj : (j : Int) < (t : Int) := by omega
                  obtain ⟨z0, z1, z2, z3⟩ := HJ.out.cells.cells4
                  go_wp2_with (first | (go_at_call 15; refine (HJ.out.abortB hw1 HPA.out xn).mono ?_; rintro e w6 ⟨rfl, k6⟩; rw [at_next f xp xn j] at k6; have HJ2 := hide k6; clear k6) | fail)
                  go_roundg gi
                  case rel => exact ⟨j + 1, by go_num, by omega, by omega, HJ2⟩
                  case measure => omega
                · obtain rfl : j = t := by omega
                  have btj : ¬ ((j : Nat) : Int) < (j : Int) := by omega
                  go_wp2_with fail
                  go_meet
                  case rel =>
                    have h4 := HJ.out.nobox
                    have hj0 : ¬ j = 0 := by omega
                    unfold atF at h4
                    rw [if_neg hj0] at h4
                    show G2 _ _ _ _ _ _ _ _ _ _ _ _ _
                    rw [E.out.1, E.out.2, List.append_nil, HXP.out, HXN.out]
                    exact h4.up (by have := HRL.out.2; omega) (by have := HRL.out.2; omega)
            · have E := hide (sp_none (f := f) (x := x) (by rw [HXW.out]; exact h012) (by rw [HXW.out]; exact h34) (by rw [HXW.out]; exact h5))
              have n0 : (xw == 0) = false := by simp; omega
              have n1 : (xw == 1) = false := by simp; omega
              have n2 : (xw == 2) = false := by simp; omega
              have n3 : (xw == 3) = false := by simp; omega
              have n4 : (xw == 4) = false := by simp; omega
              have n5 : (xw == 5) = false := by simp; omega
              clear h012 h34 h5
              go_wp2_with fail
              go_meet
              case rel =>
                show G2 _ _ _ _ _ _ _ _ _ _ _ _ _
                rw [E.out.1, E.out.2, List.append_nil]
                exact HG2.out.nobox.up (by have := HRL.out.2; omega) (by have := HRL.out.2; omega)
      case rest =>
        clear HG2 z0 z1 z2 z3
        have HQ := hcut
        obtain ⟨n2, hn2⟩ : ∃ n2, (o ++ spO f x).flatten.length = n2 := ⟨_, rfl⟩
        have HN2 := hide hn2
        have hle : nw ≤ n2 := by
          rw [← hn2, ← HNW.out, List.flatten_append, List.length_append]; omega
        have hn7 : n2 ≤ 500000 := by
          have h1 := HQ.out.flat
          have h2 := HRL.out
          have h3 := HW3.out
          omega
        clear hn2 hcut
        have HT : Hid ((o ++ spO f x).flatten.take nw = o.flatten) := (show _ = _ by
          rw [List.flatten_append, List.take_append_of_le_length (by have := HNW.out; omega), List.take_of_length_le (by have := HNW.out; omega)])
        have HPR : Hid (OwnL 39 3 Rc.cs w.heap.size wc (.slice wa nw wc_) o.flatten) := HQ.out.row
        have i0 : ¬ (n2 : Int) < (nw : Int) := by omega
        have i1 : (nw : Int) ≤ (n2 : Int) := by omega
        have i2 : (0 : Int) ≤ (nw : Int) := by omega
        go_wp2_with (first | (have chk := HQ; clear chk; go_at_call 18; refine (HQ.out.allA hw2).mono ?_; rintro e w6 ⟨u, rfl, o6, b6⟩; obtain ⟨ua, uc, hu⟩ := o6.shape; rw [HN2.out] at hu; subst hu; have hcap : n2 ≤ uc := (by have := (Row.of_own o6).own_shape.2; have := HN2.out; omega); have i3 : (nw : Int) ≤ (uc : Int) := (by omega); have HR := hide (HPR.out.below b6); have HU := hide o6; have HS := hide (HQ.out.rows b6 o6); clear o6 b6 HQ) | (have chk := HR; clear chk; go_at_call 17; refine (hRecords_any (LSeg.take (HU.out.seg Rc.cs_len (by have := HN2.out; omega)) (by have := HN2.out; omega)) (by rw [HT.out]; exact HR.out.seg Rc.cs_len (by have := HNW.out; omega)) (by rw [HT.out]; have := HNW.out; omega)).mono ?_; rintro e w7 ⟨rfl, b7⟩; have HS7 := hide (HS.out.below b7); clear b7 HR HS HU HPR) | (have chk := HS7; clear chk; go_at_call 18; refine (HS7.out.swap.allA hw2).mono ?_; rintro e w8 ⟨u2, rfl, o8, b8⟩; have HU8 := hide o8; have HS8 := hide (HS7.out.below b8); clear o8 b8 HS7) | (have chk := HS8; clear chk; go_at_call 17; refine (hRecords_any (HU8.out.seg Rc.cs_len (by have := HN2.out; omega)) (HS8.out.row.seg Rc.cs_len (by have := HN2.out; omega)) (by have := HN2.out; omega)).mono ?_; rintro e w9 ⟨rfl, b9⟩; have HS9 := hide (HS8.out.below b9); clear b9 HS8 HU8) | fail)
        go_roundg go
        case rel => exact ⟨i + 1, spF f x, o ++ spO f x, by go_num, by omega, by omega, (show G2 _ _ _ _ _ _ _ _ _ _ _ _ _ by rw [HW3.out]; exact HS9.out)⟩
        case measure => omega
    · obtain rfl : i = l.length := by omega
      have bt : ¬ ((l.length : Nat) : Int) < (l.length : Int) := by omega
      go_wp2_with fail
      go_ret
      exact ⟨rfl, HG.out.world⟩

end Go.Proofs.Yteafnohponbbeaa
