/-
  The document's LogsOf and Whole.
-/
import Derived.Test.YtecaghjddoajmaaJLight
namespace Go.Proofs.Ytecaghjddoajmaa
open Go.RowKit

def rcB (i : It) : Bool := decide (i.kind = 1) && (decide (i.mark = 0) && tmB i.time)
def mrB (i : It) : Bool := decide (i.kind = 2) && (recB i.key i.time i.val && (mkB9 i.mark || tmB i.mark))
theorem none_ref (i : It) : noneB i = (!rcB i && !mrB i) := by
  unfold noneB rcB mrB
  by_cases h1 : i.kind = 1
  · rw [if_pos h1]
    have h2 : ¬ i.kind = 2 := by omega
    simp [h1]
  · rw [if_neg h1]
    by_cases h2 : i.kind = 2
    · rw [if_pos h2]
      simp only [h2]
      cases recB i.key i.time i.val <;> cases tmB i.mark <;> cases mkB9 i.mark <;> simp
    · rw [if_neg h2]
      simp [h1, h2]
theorem fitB_eq (k par : Int) (ps : List Pt) : fitB k par ps = (decide ((ps.length : Int) = if k = 1 then par else 0) && ps.all partOk) := by
  unfold fitB
  by_cases h : k = 1
  · rw [if_pos h, if_pos h]
  · rw [if_neg h, if_neg h]
    cases ps with
    | nil => simp
    | cons x r => simp; omega
set_option maxHeartbeats 8000000 in
set_option maxRecDepth 100000 in
theorem LogsOf_any {w : World} {v u : Value} {ns : List Nd} {ls : List En} (hj : JobIn w.heap.size w v ns) (hl : LogIn w.heap.size w u ls) :
    Calls Try.prog 18 #[.agg #[v], u] w fun e w' => e = .returned (.int .i64 (logE ns ls)) ∧ Below w.heap.size w w' := by
  obtain ⟨na, ncp, rfl⟩ := hj.shape
  obtain ⟨la, lcp, rfl⟩ := hl.seg.shape
  have hlen := hl.seg.len
  have hnlen := hj.seg.len
  have hb : Below w.heap.size w (w.alloc (.cells #[.slice na ns.length ncp] 24)) := (Below.refl _ _).alloc (Nat.le_refl _) _
  have HB := hide hb
  have HX := hide (BoxT.new 24 w #[.slice na ns.length ncp])
  have HJ := hide hj
  have HL := hide hl
  clear hb hj hl
  unfold logE
  by_cases hln : ls.length = ns.length
  · rw [if_pos hln]
    have hq : ((ls.length : Int) != (ns.length : Int)) = false := by simp [hln]
    obtain ⟨R, hR⟩ : ∃ R, fitsL ns ls = R := ⟨_, rfl⟩
    rw [hR]
    have HR : Hid (fitsL (ns.drop 0) (ls.drop 0) = R) := hR
    have HLN := hide hln
    obtain ⟨X, hX⟩ : ∃ X : Int, (if R = true then 0 else 89) = X := ⟨_, rfl⟩
    rw [hX]
    have HXX := hide hX
    have HNO : Hid (false = R → (89 : Int) = X) := fun h => by rw [← hX, ← h]; rfl
    clear hR hln hX
    go_enter Try.func18, Try.ntmps18
    go_wp2_with fail
    go_loopg [5] (ls.length + 1) (fun g iv wr => ∃ t : Nat, iv = .int .i64 (t : Int) ∧ t ≤ ls.length ∧ ls.length + 1 ≤ g + t ∧ Hid (fitsL (ns.drop t) (ls.drop t) = R) ∧ Hid (Below w.heap.size w wr) ∧ Hid (BoxT 24 wr w.heap.size #[.slice na ns.length ncp]))
    case atStart => exact ⟨0, rfl, by omega, by omega, HR, HB, HX⟩
    case round =>
      obtain ⟨t, rfl, ht, hg, GF, GB, GX⟩ := hrel
      obtain ⟨go, rfl⟩ : ∃ go, gk = go + 1 := ⟨gk - 1, by omega⟩
      have cx : wr.cell? ⟨w.heap.size, 0, none⟩ = some (.slice na ns.length ncp) := by rw [GX.out.cellAt]; rfl
      by_cases hlt : t < ls.length
      · obtain ⟨n, hn⟩ := get_of_lt (l := ns) (i := t) (by rw [← HLN.out]; exact hlt)
        obtain ⟨e, he⟩ := get_of_lt hlt
        have bt : (t : Int) < (ls.length : Int) := by omega
        have bn : (t : Int) < (ns.length : Int) := by have := lt_of_get hn; omega
        obtain ⟨nb, no, rfl, nlt, d0, d1, d2, d3, d4, d5, d6, d7, d8, d9⟩ := (HJ.out.below GB.out).at_ hn
        obtain ⟨lb, lo, rfl, llt, e0⟩ := LSeg.one (f := fun e : En => Value.slice e.a e.pts.length e.c) (HL.out.below GB.out).seg he
        have hf := GF.out
        rw [fitsL_at hn he, fitB_eq] at hf
        have HP := hide (HL.out.pts e (List.mem_of_getElem? he))
        have hplen := HP.out.seg.len
        have HE0 : Hid (∀ W, Below w.heap.size w W → W.cell? ⟨lb, lo + t, none⟩ = some (.slice e.a e.pts.length e.c)) := fun W hW => by
          obtain ⟨lb', lo', h1, _, h2⟩ := LSeg.one (f := fun e : En => Value.slice e.a e.pts.length e.c) (HL.out.below hW).seg he
          cases h1
          exact h2
        clear hn he
        obtain ⟨kd, ia, icp, ins, par, ⟨eo, en, ea, ec, el⟩, ag, wk, ws, wl⟩ := n
        obtain ⟨ya, yc, yp⟩ := e
        simp only at d0 d1 d2 d3 d4 d5 d6 d7 d8 d9 e0 hf HP hplen HE0
        obtain ⟨wt, hwt⟩ : ∃ wt : Int, (if kd = 1 then par else 0) = wt := ⟨_, rfl⟩
        rw [hwt] at hf
        have key : (kd = 1 ∧ par = wt) ∨ ((kd == 1) = false ∧ wt = 0) := by
          by_cases k1 : kd = 1
          · rw [if_pos k1] at hwt; exact .inl ⟨k1, hwt⟩
          · rw [if_neg k1] at hwt; exact .inr ⟨by simp [k1], hwt.symm⟩
        clear hwt
        by_cases hpl : (yp.length : Int) = wt
        · have hd : decide ((yp.length : Int) = wt) = true := by simp [hpl]
          rw [hd, Bool.true_and] at hf
          have hne : ((yp.length : Int) != wt) = false := by simp [hpl]
          have HPL := hide hpl
          obtain ⟨Q, hQ⟩ : ∃ Q, yp.all partOk = Q := ⟨_, rfl⟩
          rw [hQ] at hf
          have HQ := hide hQ
          have HF := hide hf
          clear hd hQ hf hpl
          rcases key with ⟨rfl, rfl⟩ | ⟨k1, rfl⟩
          · obtain rfl : par = (yp.length : Int) := HPL.out.symm
            clear HPL hne
            have hne : ((yp.length : Int) != (yp.length : Int)) = false := by simp
            go_wp2_with fail
            go_loopg [7] (yp.length + 1) (fun g iv wi => ∃ s : Nat, iv = .int .i64 (s : Int) ∧ s ≤ yp.length ∧ yp.length + 1 ≤ g + s ∧ Hid ((yp.take s).all partOk = true) ∧ Hid (Below w.heap.size w wi) ∧ Hid (BoxT 24 wi w.heap.size #[.slice (some ⟨nb, no, none⟩) ns.length ncp]))
            case atStart => exact ⟨0, rfl, by omega, by omega, rfl, GB, GX⟩
            case round =>
              clear GB GX cx d0 d1 d2 d3 d4 d5 d6 d7 d8 d9 e0
              obtain ⟨s, rfl, hs, hgs, GS, GB, GX⟩ := hrel
              obtain ⟨gi, rfl⟩ : ∃ gi, gk = gi + 1 := ⟨gk - 1, by omega⟩
              have e0 := HE0.out _ GB.out
              by_cases hls : s < yp.length
              · obtain ⟨x, hx⟩ := get_of_lt hls
                have bs : (s : Int) < (yp.length : Int) := by omega
                obtain ⟨pb, po, rfl, -, d0⟩ := LSeg.one (f := fun p : Pt => Value.slice p.a p.its.length p.c) (HP.out.below GB.out).seg hx
                have HD0 : Hid (∀ W, Below w.heap.size w W → W.cell? ⟨pb, po + s, none⟩ = some (.slice x.a x.its.length x.c)) := fun W hW => by
                  obtain ⟨lb', lo', h1, _, h2⟩ := LSeg.one (f := fun p : Pt => Value.slice p.a p.its.length p.c) (HP.out.below hW).seg hx
                  cases h1
                  exact h2
                have HXI := hide (HP.out.its x (List.mem_of_getElem? hx))
                have hil := HXI.out.len
                have hall := hide (allP_take (f := partOk) hx GS.out)
                have hnot : Hid (partOk x = false → (89 : Int) = X) := fun h => HNO.out (by
                  have hq0 : Q = false := HQ.out.symm.trans (allP_not hx h)
                  rw [← HF.out, hq0]; rfl)
                have hpk : partOk x = (decide (x.its.length ≤ 4096) && !x.its.any noneB) := rfl
                rw [hpk] at hall hnot
                clear hpk hx
                obtain ⟨xa, xc, xi⟩ := x
                simp only at d0 hall hnot hil HD0 HXI
                by_cases h4 : xi.length ≤ 4096
                · have hd : decide (xi.length ≤ 4096) = true := by simp [h4]
                  rw [hd, Bool.true_and] at hall hnot
                  have c4 : (xi.length : Int) ≤ 4096 := by omega
                  obtain ⟨b, hb⟩ : ∃ b, xi.any noneB = b := ⟨_, rfl⟩
                  rw [hb] at hall hnot
                  have HBB := hide hb
                  have hnot2 : Hid (b = true → (89 : Int) = X) := fun h => hnot.out (by rw [h]; rfl)
                  have hall2 : Hid (b = false → (yp.take (s + 1)).all partOk = true) := fun h => by rw [hall.out, h]; rfl
                  clear hb hd h4 hnot hall
                  go_wp2_with fail
                  go_loopg [8] (xi.length + 1) (fun g iv wi => ∃ q : Nat, iv = .int .i64 (q : Int) ∧ q ≤ xi.length ∧ xi.length + 1 ≤ g + q ∧ Hid ((xi.take q).any noneB = false) ∧ Hid (Below w.heap.size w wi) ∧ Hid (BoxT 24 wi w.heap.size #[.slice (some ⟨nb, no, none⟩) ns.length ncp]))
                  case atStart => exact ⟨0, rfl, by omega, by omega, rfl, GB, GX⟩
                  case round =>
                    clear GB GX d0 e0
                    obtain ⟨q, rfl, hq, hgq, GQ, GB, GX⟩ := hrel
                    obtain ⟨gq, rfl⟩ : ∃ gq, gk = gq + 1 := ⟨gk - 1, by omega⟩
                    have e0 := HE0.out _ GB.out
                    have d0 := HD0.out _ GB.out
                    by_cases hlq : q < xi.length
                    · obtain ⟨y, hy⟩ := get_of_lt hlq
                      have bq : (q : Int) < (xi.length : Int) := by omega
                      obtain ⟨ib, io, rfl, -, f0, f1, f2, f3, f4⟩ := (HXI.out.below GB.out).item hy
                      have hany := hide (any_take (f := noneB) hy GQ.out)
                      have hbt : Hid (noneB y = true → (89 : Int) = X) := fun h => hnot2.out (HBB.out.symm.trans (List.any_eq_true.2 ⟨y, List.mem_of_getElem? hy, h⟩))
                      rw [none_ref] at hany hbt
                      clear hy
                      obtain ⟨r1, hr1⟩ : ∃ r1, rcB y = r1 := ⟨_, rfl⟩
                      obtain ⟨r2, hr2⟩ : ∃ r2, mrB y = r2 := ⟨_, rfl⟩
                      rw [hr1, hr2] at hany hbt
                      have HR1 := hide hr1
                      have HR2 := hide hr2
                      clear hr1 hr2
                      obtain ⟨kd, ky, ti, va, mk⟩ := y
                      unfold rcB at HR1
                      unfold mrB at HR2
                      simp only at f0 f1 f2 f3 f4 HR1 HR2
                      have hb3 : Below wr.heap.size wr (wr.alloc (.cells #[.int .i64 kd, .int .i64 ky, .int .i64 ti, .int .i64 va, .int .i64 mk] 57)) := (Below.refl _ _).alloc (Nat.le_refl _) _
                      have HB3 := hide (GB.out.trans (hb3.mono GB.out.size))
                      have HX3 := hide (GX.out.below hb3)
                      clear hb3
                      go_upto_region 20 with fail
                      go_cut [10] from 58 to 129 (fun b10 wx => b10 = .bool r1 ∧ wx = wr.alloc (.cells #[.int .i64 kd, .int .i64 ky, .int .i64 ti, .int .i64 va, .int .i64 mk] 57))
                      case first =>
                        by_cases k1 : kd = 1
                        · subst k1
                          by_cases m0 : mk = 0
                          · subst m0
                            by_cases t1 : -1099511627776 ≤ ti
                            · by_cases t2 : ti ≤ 1099511627776
                              · have hr : r1 = true := (show _ by rw [← HR1.out]; simp [tmB, t1, t2])
                                subst hr
                                go_wp2_with fail
                                all_goals
                                  go_meet
                                  exact ⟨by simp, rfl⟩
                              · have hr : r1 = false := (show _ by rw [← HR1.out]; simp [tmB, t2])
                                subst hr
                                go_wp2_with fail
                                all_goals
                                  go_meet
                                  exact ⟨by simp, rfl⟩
                            · have hr : r1 = false := (show _ by rw [← HR1.out]; simp [tmB, t1])
                              subst hr
                              go_wp2_with fail
                              all_goals
                                go_meet
                                exact ⟨by simp, rfl⟩
                          · have q0 : (mk == 0) = false := by simp [m0]
                            have hr : r1 = false := (show _ by rw [← HR1.out]; simp [m0])
                            subst hr
                            go_wp2_with fail
                            all_goals
                              go_meet
                              exact ⟨by simp, rfl⟩
                        · have q1 : (kd == 1) = false := by simp [k1]
                          have hr : r1 = false := (show _ by rw [← HR1.out]; simp [k1])
                          subst hr
                          go_wp2_with fail
                          all_goals
                            go_meet
                            exact ⟨by simp, rfl⟩
                      case rest =>
                      obtain ⟨rfl, rfl⟩ := hcut
                      go_upto_region 21 with fail
                      go_cut [11] from 58 to 129 (fun b11 wx => b11 = .bool r2 ∧ wx = wr.alloc (.cells #[.int .i64 kd, .int .i64 ky, .int .i64 ti, .int .i64 va, .int .i64 mk] 57))
                      case first =>
                        by_cases k2 : kd = 2
                        · subst k2
                          by_cases z1 : ky = 0
                          · subst z1
                            by_cases z2 : ti = 0
                            · subst z2
                              by_cases z3 : va = 0
                              · subst z3
                                by_cases m9 : mk = 9223372036854775807
                                · subst m9
                                  have hr : r2 = true := (show _ by rw [← HR2.out]; simp [recB, mkB9])
                                  subst hr
                                  go_wp2_with fail
                                  all_goals
                                    go_meet
                                    exact ⟨by simp, rfl⟩
                                · have q9 : (mk == 9223372036854775807) = false := by simp [m9]
                                  by_cases t1 : -1099511627776 ≤ mk
                                  · by_cases t2 : mk ≤ 1099511627776
                                    · have hr : r2 = true := (show _ by rw [← HR2.out]; simp [recB, tmB, t1, t2])
                                      subst hr
                                      go_wp2_with fail
                                      all_goals
                                        go_meet
                                        exact ⟨by simp, rfl⟩
                                    · have hr : r2 = false := (show _ by rw [← HR2.out]; simp [recB, mkB9, tmB, t2, m9])
                                      subst hr
                                      go_wp2_with fail
                                      all_goals
                                        go_meet
                                        exact ⟨by simp, rfl⟩
                                  · have hr : r2 = false := (show _ by rw [← HR2.out]; simp [recB, mkB9, tmB, t1, m9])
                                    subst hr
                                    go_wp2_with fail
                                    all_goals
                                      go_meet
                                      exact ⟨by simp, rfl⟩
                              · have qz : (va == 0) = false := by simp [z3]
                                have hr : r2 = false := (show _ by rw [← HR2.out]; simp [recB, z3])
                                subst hr
                                go_wp2_with fail
                                all_goals
                                  go_meet
                                  exact ⟨by simp, rfl⟩
                            · have qz : (ti == 0) = false := by simp [z2]
                              have hr : r2 = false := (show _ by rw [← HR2.out]; simp [recB, z2])
                              subst hr
                              go_wp2_with fail
                              all_goals
                                go_meet
                                exact ⟨by simp, rfl⟩
                          · have qz : (ky == 0) = false := by simp [z1]
                            have hr : r2 = false := (show _ by rw [← HR2.out]; simp [recB, z1])
                            subst hr
                            go_wp2_with fail
                            all_goals
                              go_meet
                              exact ⟨by simp, rfl⟩
                        · have q2 : (kd == 2) = false := by simp [k2]
                          have hr : r2 = false := (show _ by rw [← HR2.out]; simp [k2])
                          subst hr
                          go_wp2_with fail
                          all_goals
                            go_meet
                            exact ⟨by simp, rfl⟩
                      case rest =>
                      obtain ⟨rfl, rfl⟩ := hcut
                      cases r1 with
                      | true =>
                        clear hbt
                        go_wp2_with fail
                        go_roundg gq
                        case rel => exact ⟨q + 1, by go_num, by omega, by omega, hany, HB3, HX3⟩
                        case measure => omega
                      | false =>
                        cases r2 with
                        | true =>
                          clear hbt
                          go_wp2_with fail
                          go_roundg gq
                          case rel => exact ⟨q + 1, by go_num, by omega, by omega, hany, HB3, HX3⟩
                          case measure => omega
                        | false =>
                          have H89 := hide (hbt.out rfl)
                          clear hbt
                          go_wp2_with fail
                          go_ret
                          exact ⟨ret_int H89.out, HB3.out⟩
                    · have bq : ¬ (q : Int) < (xi.length : Int) := by omega
                      have hbf : b = false := by
                        have := GQ.out
                        rw [List.take_of_length_le (by omega)] at this
                        exact HBB.out.symm.trans this
                      have HA2 := hide (hall2.out hbf)
                      clear hall2 hnot2 hbf
                      go_wp2_with fail
                      go_roundg gi
                      case rel => exact ⟨s + 1, by go_num, by omega, by omega, HA2, GB, GX⟩
                      case measure => omega
                · have hd : decide (xi.length ≤ 4096) = false := by simp; omega
                  rw [hd, Bool.false_and] at hnot
                  have H89 := hide (hnot.out rfl)
                  have c4 : ¬ (xi.length : Int) ≤ 4096 := by omega
                  clear hd h4 hnot hall HNO
                  go_wp2_with fail
                  go_ret
                  exact ⟨ret_int H89.out, GB.out⟩
              · have bs : ¬ (s : Int) < (yp.length : Int) := by omega
                have HF2 : Hid (fitsL (ns.drop (t + 1)) (ls.drop (t + 1)) = R) := by
                  have := GS.out
                  rw [List.take_of_length_le (by omega)] at this
                  have h2 := HF.out
                  rw [← HQ.out, this, Bool.true_and] at h2
                  exact h2
                clear HNO
                go_wp2_with fail
                go_roundg go
                case rel => exact ⟨t + 1, by go_num, by omega, by omega, HF2, GB, GX⟩
                case measure => omega
          · have h0 : yp.length = 0 := by have := HPL.out; omega
            have HF2 : Hid (fitsL (ns.drop (t + 1)) (ls.drop (t + 1)) = R) := by
              have h2 := HF.out
              rw [← HQ.out, List.length_eq_zero_iff.1 h0] at h2
              exact h2
            have hne : (((yp.length : Int)) != 0) = false := by rw [h0]; rfl
            clear h0 HNO
            go_wp2_with fail
            go_loopg [7] 1 (fun _ iv wi => iv = .int .i64 0 ∧ wi = wr)
            case atStart => exact ⟨rfl, rfl⟩
            case round =>
              obtain ⟨rfl, rfl⟩ := hrel
              go_wp2_with fail
              go_roundg go
              case rel => exact ⟨t + 1, by go_num, by omega, by omega, HF2, GB, GX⟩
              case measure => omega
        · have hd : decide ((yp.length : Int) = wt) = false := by simp [hpl]
          rw [hd, Bool.false_and, Bool.false_and] at hf
          have hne : ((yp.length : Int) != wt) = true := by simp [hpl]
          have H89 := hide (HNO.out hf)
          clear hd hf hpl HNO
          rcases key with ⟨rfl, rfl⟩ | ⟨k1, rfl⟩
          · go_wp2_with fail
            go_ret
            exact ⟨ret_int H89.out, GB.out⟩
          · go_wp2_with fail
            go_ret
            exact ⟨ret_int H89.out, GB.out⟩
      · have bt : ¬ (t : Int) < (ls.length : Int) := by omega
        have HF2 : Hid (true = R) := by
          have := GF.out
          rw [List.drop_eq_nil_of_le (by have := HLN.out; omega)] at this
          exact this
        clear HNO
        go_wp2_with fail
        go_ret
        exact ⟨ret_int (by rw [← HXX.out, ← HF2.out]; rfl), GB.out⟩
  · rw [if_neg hln]
    have hq : ((ls.length : Int) != (ns.length : Int)) = true := by simp; omega
    clear hln
    go_enter Try.func18, Try.ntmps18
    go_wp2_with fail
    go_ret
    exact ⟨rfl, HB.out⟩
end Go.Proofs.Ytecaghjddoajmaa
