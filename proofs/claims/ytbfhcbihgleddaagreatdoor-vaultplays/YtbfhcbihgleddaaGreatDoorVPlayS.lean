/-
  The law's settle in a script without crashes.
-/
import Derived.Test.YtbfhcbihgleddaaGreatDoorVPlayU
namespace Go.Proofs.YtbfhcbihgleddaaGreatDoor
open Go.RowKit

theorem take_on {os : List OnV} {i : Nat} {o : OnV} (h : os[i]? = some o) : os.take (i + 1) = os.take i ++ [o] := by
  obtain ⟨h1, h2⟩ := List.getElem?_eq_some_iff.1 h
  rw [List.take_succ_eq_append_getElem h1, h2]
theorem num_ne {os : List OnV} (hr : os.Pairwise fun a b => a.n < b.n) {i k : Nat} {o x : OnV} (ho : os[i]? = some o) (hx : os[k]? = some x) (hne : k ≠ i) : x.n ≠ o.n := by
  obtain ⟨h1, rfl⟩ := List.getElem?_eq_some_iff.1 ho
  obtain ⟨h2, rfl⟩ := List.getElem?_eq_some_iff.1 hx
  rw [List.pairwise_iff_getElem] at hr
  rcases Nat.lt_or_gt_of_ne hne with h | h
  · have := hr k i h2 h1 h; omega
  · have := hr i k h1 h2 h; omega
set_option maxHeartbeats 16000000 in
set_option maxRecDepth 100000 in
theorem settle_w {w0 w : World} {B k V b nf kp : Nat} {p : Pd} {X : List Fi} {os : List OnV} {vt vw : Value} {th : List SpV} {la : Option Addr} {lc top : Nat} (h : LW w0 w B k V b nf kp p X os vt vw th la lc top) (hg : Glob w0) (hos : os.length ≤ 300) :
    Calls Tryz.prog 44 #[.pointer (some ⟨B, 0, none⟩)] w fun e w' => e = .returned (.tuple #[]) ∧ ∃ la' lc', LW w0 w' B k V b nf kp p X os vt vw th la' lc' top := by
  have htl := h.thl
  have hls := hide (list_any h.at_ (by omega))
  rw [htl] at hls
  obtain ⟨c0, c1, c2, c3, c4, c5, c6, c7, c8⟩ := wld_cells h.box
  have H0 := hide h
  clear h
  go_enter Tryz.func44, Tryz.ntmps44
  go_wp2_with fail
  go_at_call 14
  refine hls.out.mono ?_
  rintro e w8 ⟨rfl, hni⟩
  obtain ⟨ncs, hnb, hnz, hnc⟩ := hni.box
  have H8 := hide (H0.out.below hni.bel)
  have HNB := hide (show BoxT 41 w8 w.heap.size ncs from hnb)
  have HNC : Hid (∀ (j : Nat) (o : OnV), os[j]? = some o → ncs[j]? = some (.int .u64 (o.n : Int))) := fun j o hj => by
    have hjl := (List.getElem?_eq_some_iff.1 hj).1
    obtain ⟨x, hx⟩ : ∃ x, th[j]? = some x := ⟨_, List.getElem?_eq_getElem (by omega)⟩
    have h1 := hnc j x (by omega) hx
    have h2 := congrArg (fun l => l[j]?) H0.out.is
    simp only [List.getElem?_map, hx, hj, Option.map_some] at h2
    have h3 : x.n = o.n := congrArg Sp.n (Option.some.inj h2)
    rw [h1, h3]
  have B8 := hide hni.bel
  clear c0 c1 c2 c3 c4 c5 c6 c7 c8
  obtain ⟨c0, c1, c2, c3, c4, c5, c6, c7, c8⟩ := wld_cells H8.out.box
  have HLB : Hid (∀ w', Below w8.heap.size w8 w' → LSeg 3 OnV.cs w'.heap.size w' (.slice la os.length lc) os) := fun w' hb => (H8.out.row.below hb).lsegO (by omega)
  clear hni hls hnb hnc hnz H0
  go_wp2_with fail
  go_loopw [4, 5] (fun lv iv wr => ∃ (i : Nat) (a : Option Addr) (c : Nat), i ≤ os.length ∧ lv = .slice a (os.take i).length c ∧ iv = .int .i64 (i : Int) ∧ Hid (Row 59 3 OnV.cs w8.heap.size wr (.slice a (os.take i).length c) (os.take i)) ∧ Hid (Below w8.heap.size w8 wr)) (fun _ iv _ => os.length - (intOf iv).toNat)
  case atStart => exact ⟨0, none, 0, Nat.zero_le _, rfl, rfl, Row.nil _ _ _ _ _, Below.refl _ _⟩
  case round =>
    clear c0 c1 c2 c3 c4 c5 c6 c7 c8
    obtain ⟨i, a4, c4', hi, rfl, rfl, RI, BI⟩ := hrel
    by_cases hlt : i < os.length
    · have hlti : (i : Int) < (os.length : Int) := by omega
      obtain ⟨o, ho⟩ : ∃ o, os[i]? = some o := ⟨_, List.getElem?_eq_getElem hlt⟩
      have HO := hide ho
      obtain ⟨lb, lo, hla, -, -⟩ := (HLB.out wr BI.out).at_ ho
      subst hla
      clear ho
      have hti : (os.take i).length = i := by rw [List.length_take]; omega
      have hti1 : (os.take (i + 1)).length = i + 1 := by rw [List.length_take]; omega
      as_aux_lemma =>
      go_wp2_with fail
      go_loopw [4, 6] (fun lv kv wq => ∃ (m : Nat) (a : Option Addr) (c : Nat), m ≤ os.length ∧ lv = .slice a (os.take (if m ≤ i then i else i + 1)).length c ∧ kv = .int .i64 (m : Int) ∧ Hid (Row 59 3 OnV.cs w8.heap.size wq (.slice a (os.take (if m ≤ i then i else i + 1)).length c) (os.take (if m ≤ i then i else i + 1))) ∧ Hid (Below w8.heap.size w8 wq)) (fun _ kv _ => os.length - (intOf kv).toNat)
      case atStart => exact ⟨0, a4, c4', Nat.zero_le _, by rw [if_pos (Nat.zero_le _)], rfl, (show Row _ _ _ _ _ _ _ by rw [if_pos (Nat.zero_le _)]; exact RI.out), BI.out⟩
      case round =>
        obtain ⟨m, a5, c5', hm, rfl, rfl, RM, BM⟩ := hrel
        obtain ⟨q, hq⟩ : ∃ q, (if m ≤ i then i else i + 1) = q := ⟨_, rfl⟩
        rw [hq] at RM ⊢
        by_cases hmt : m < os.length
        rotate_left
        · have hmi : ¬ m ≤ i := by omega
          rw [if_neg hmi] at hq
          subst hq
          have hmti : ¬ (m : Int) < (os.length : Int) := by omega
          as_aux_lemma =>
          go_wp2
          go_roundw
          case rel => exact ⟨i + 1, a5, c5', by omega, rfl, by go_num, RM.out, BM.out⟩
          case measure => simp [intOf]; omega
        have hmti : (m : Int) < (os.length : Int) := by omega
        obtain ⟨x, hx⟩ : ∃ x, os[m]? = some x := ⟨_, List.getElem?_eq_getElem hmt⟩
        have q0 : wr.cell? ⟨w.heap.size, m, none⟩ = some (.int .u64 (x.n : Int)) := by rw [(HNB.out.belowT BM.out).cellAt]; exact HNC.out m x hx
        obtain ⟨_, _, e, -, hcl⟩ := (HLB.out wr BM.out).at_ HO.out
        cases e
        have r0 : wr.cell? ⟨lb, lo + i * 3, none⟩ = some (.int .u64 (o.n : Int)) := by simpa using hcl i o HO.out 0 _ rfl
        have r1 : wr.cell? ⟨lb, lo + i * 3 + 1, none⟩ = some (.int .u64 (o.ep : Int)) := by simpa using hcl i o HO.out 1 _ rfl
        have r2 : wr.cell? ⟨lb, lo + i * 3 + 2, none⟩ = some (.slice o.a o.l.length o.c) := by simpa using hcl i o HO.out 2 _ rfl
        clear hcl
        have BD : Hid (Below w8.heap.size w8 wr.drew) := BM.out.drew
        by_cases hmi : m = i
        · subst hmi
          obtain rfl : x = o := Option.some.inj (hx.symm.trans HO.out)
          rw [if_pos (Nat.le_refl _)] at hq
          subst hq
          have HTK := hide (take_on HO.out)
          as_aux_lemma =>
          go_wp2_with fail
          go_quiet (fail)
          have DN : Hid (Below w8.heap.size w8 (wr.drewN nq)) := below_drewN' BM.out nq
          have RN : Hid (Row 59 3 OnV.cs w8.heap.size (wr.drewN nq) (.slice a5 (os.take m).length c5') (os.take m)) := RM.out.below (below_drewN' (Below.refl _ _) nq)
          have hif : (if m + 1 ≤ m then m else m + 1) = m + 1 := if_neg (by omega)
          have htl6 : (os.take m).length ≤ 1000000 := by omega
          have HOX : Hid (∀ (W : World) (g : Nat), BoxT 59 W g #[.int .u64 (x.n : Int), .int .u64 (x.ep : Int), .slice x.a x.l.length x.c] → ∀ (j : Nat) (u : Value), (OnV.cs x)[j]? = some u → W.cell? ((⟨g, 0, none⟩ : Addr).add j) = some u) := fun W g hx j u hu => by
            rw [add_plain2, Nat.zero_add, hx.cellAt]
            match j, hu with
            | 0, hu | 1, hu | 2, hu => simpa [OnV.cs] using hu
          have DA : Hid (Below w8.heap.size w8 ((wr.drewN nq).alloc (.cells #[.int .u64 (x.n : Int), .int .u64 (x.ep : Int), .slice x.a x.l.length x.c] 59))) := DN.out.alloc DN.out.size _
          have HTL := hide (And.intro hti hti1)
          clear hti hti1
          go_wp2_with (at_builtin; refine app_row Tryz.info59' Tryz.underlying50 rfl (by decide) (by decide) OnV.cs_len OnV.cs_one rfl _ _ rfl w8.heap.size (.slice a5 (os.take m).length c5') (os.take m) rfl (RN.out.below ((Below.refl _ _).alloc (Nat.le_refl _) _)) _ 1 x rfl (HOX.out _ _ (BoxT.new 59 (wr.drewN nq) _)) htl6 DA.out.size ?_; intro v6 w6 r6 g6 _; have D6 : Hid (Below w8.heap.size w8 w6) := DA.out.grown g6 DA.out.size (fun k e => RN.out.at k e); rw [← HTK.out] at r6; obtain ⟨a6, c6, hv6⟩ := r6.shape; subst hv6; have R6 := hide r6; clear r6 g6)
          go_roundw
          case rel => exact ⟨m + 1, a6, c6, by omega, by rw [hif, List.length_take], by go_num, (show Row _ _ _ _ _ _ _ by rw [hif]; exact R6.out), D6.out⟩
          case measure => simp [intOf]; omega
        · have hne : ((x.n : Int) == (o.n : Int)) = false := by
            have := num_ne H8.out.rise HO.out hx hmi
            simp; omega
          have hif : (if m + 1 ≤ i then i else i + 1) = (if m ≤ i then i else i + 1) := by split <;> split <;> omega
          as_aux_lemma =>
          go_wp2_with fail
          go_quiet (fail)
          go_wp2_with fail
          go_roundw
          case rel => exact ⟨m + 1, a5, c5', by omega, by rw [hif, hq], by go_num, (show Row _ _ _ _ _ _ _ by rw [hif, hq]; exact RM.out), below_drewN' BM.out _⟩
          case measure => simp [intOf]; omega
    · obtain rfl : i = os.length := by omega
      rw [List.take_length] at RI ⊢
      have hirr : ¬ (os.length : Int) < (os.length : Int) := by omega
      have hbB : w0.heap.size ≤ w8.heap.size := Nat.le_of_lt (Nat.lt_of_le_of_lt H8.out.wB H8.out.box.lt)
      have W := hide (H8.out.below BI.out)
      have R : Hid (Row 59 3 OnV.cs w0.heap.size wr (.slice a4 os.length c4') os) := by
        rcases RI.out with h | ⟨g, off, cap, cur, e, h2, h3⟩
        · exact .inl h
        · exact .inr ⟨g, off, cap, cur, e, Nat.le_trans hbB h2, h3⟩
      have HHAS := hide (has_w W.out.box W.out.at_ hg W.out.srt W.out.is (R.out.lsegO (by omega)) W.out.ok (by omega))
      obtain ⟨c0, c1, c2, c3, c4, c5, c6, c7, c8⟩ := wld_cells W.out.box
      clear RI BI H8 HNB HNC B8 HLB hi hlt
      as_aux_lemma =>
      go_wp2_with (go_at_call 45; refine HHAS.out.mono ?_; rintro e w9 ⟨rfl, b9⟩; have W9 := hide (W.out.below b9); have R9 := hide (R.out.below b9); clear b9 c0 c1 c2 c3 c4 c5 c6 c7 c8 W R HHAS; obtain ⟨c0, c1, c2, c3, c4, c5, c6, c7, c8⟩ := wld_cells W9.out.box)
      go_loopw [7] (fun iv wr => ∃ i : Nat, i ≤ os.length ∧ iv = .int .i64 (i : Int) ∧ Hid (LW w0 wr B k V b nf kp p X os vt vw th la lc top) ∧ Hid (Row 59 3 OnV.cs w0.heap.size wr (.slice a4 os.length c4') os)) (fun iv _ => os.length - (intOf iv).toNat)
      case atStart => exact ⟨0, Nat.zero_le _, rfl, W9.out, R9.out⟩
      case round =>
        clear c0 c1 c2 c3 c4 c5 c6 c7 c8 W9 R9
        obtain ⟨i, hi, rfl, WI, RI⟩ := hrel
        obtain ⟨c0, c1, c2, c3, c4, c5, c6, c7, c8⟩ := wld_cells WI.out.box
        have ff := WI.out.box.free
        by_cases hlt : i < os.length
        · have hlti : (i : Int) < (os.length : Int) := by omega
          obtain ⟨o, ho⟩ : ∃ o, os[i]? = some o := ⟨_, List.getElem?_eq_getElem hlt⟩
          have HO := hide ho
          obtain ⟨lb, lo, hla, -, -⟩ := (WI.out.row.lsegO (by omega)).at_ ho
          subst hla
          obtain ⟨gb, go, hga, -, -⟩ := (RI.out.lsegO (by omega)).at_ ho
          subst hga
          clear ho
          as_aux_lemma =>
          go_wp2_with fail
          go_loopw [8, 9] (fun bv kv wq => ∃ m : Nat, m ≤ os.length ∧ bv = .bool (decide (i < m)) ∧ kv = .int .i64 (m : Int) ∧ Hid (LW w0 wq B k V b nf kp p X os vt vw th (some ⟨lb, lo, none⟩) lc top) ∧ Hid (Row 59 3 OnV.cs w0.heap.size wq (.slice (some ⟨gb, go, none⟩) os.length c4') os)) (fun _ kv _ => os.length - (intOf kv).toNat)
          case atStart => exact ⟨0, Nat.zero_le _, by simp, rfl, WI.out, RI.out⟩
          case round =>
            clear c0 c1 c2 c3 c4 c5 c6 c7 c8 ff WI RI
            obtain ⟨m, hm, rfl, rfl, WM, RM⟩ := hrel
            obtain ⟨c0, c1, c2, c3, c4, c5, c6, c7, c8⟩ := wld_cells WM.out.box
            have ff := WM.out.box.free
            by_cases hmt : m < os.length
            rotate_left
            · have hmti : ¬ (m : Int) < (os.length : Int) := by omega
              have hdec : decide (i < m) = true := by simp; omega
              rw [hdec]
              as_aux_lemma =>
              go_wp2
              go_roundw
              case rel =>
                have hT : Turned B B wr (wr.setCell ⟨B, 8, none⟩ (.bool true)) := Turned.set B B _ 8 _
                exact ⟨i + 1, by omega, by go_num, (show LW _ _ _ _ _ _ _ _ _ _ _ _ _ _ _ _ _ from { WM.out with box := by simpa [wld] using WM.out.box.set 8 (.bool true), at_ := WM.out.at_.law WM.out.box WM.out.wB hT (by decide) (by decide) (by decide) (by decide) (by decide) (by decide), row := WM.out.row.boxed WM.out.box hT (by decide) }), RM.out.boxed WM.out.box hT (by decide)⟩
              case measure => simp [intOf]; omega
            have hmti : (m : Int) < (os.length : Int) := by omega
            obtain ⟨x, hx⟩ : ∃ x, os[m]? = some x := ⟨_, List.getElem?_eq_getElem hmt⟩
            obtain ⟨_, _, e, -, hcl⟩ := (WM.out.row.lsegO (by omega)).at_ HO.out
            cases e
            have r0 : wr.cell? ⟨lb, lo + i * 3, none⟩ = some (.int .u64 (o.n : Int)) := by simpa using hcl i o HO.out 0 _ rfl
            clear hcl
            obtain ⟨_, _, e, -, hcl⟩ := (RM.out.lsegO (by omega)).at_ HO.out
            cases e
            have q0 : wr.cell? ⟨gb, go + m * 3, none⟩ = some (.int .u64 (x.n : Int)) := by simpa using hcl m x hx 0 _ rfl
            clear hcl
            rcases Nat.lt_trichotomy m i with hmi | hmi | hmi
            · have hdec : decide (i < m) = false := by simp; omega
              have hdec2 : decide (i < m + 1) = false := by simp; omega
              have hne : ((x.n : Int) == (o.n : Int)) = false := by
                have := num_ne WM.out.rise HO.out hx (by omega)
                simp; omega
              rw [hdec]
              as_aux_lemma =>
              go_wp2_with fail
              go_quiet (fail)
              go_wp2_with fail
              go_roundw
              case rel => exact ⟨m + 1, by omega, by rw [hdec2], by go_num, WM.out.below (below_drewN' (Below.refl _ _) _), RM.out.below (below_drewN' (Below.refl _ _) _)⟩
              case measure => simp [intOf]; omega
            · subst hmi
              obtain rfl : x = o := Option.some.inj (hx.symm.trans HO.out)
              have hdec : decide (m < m) = false := by simp
              have hdec2 : decide (m < m + 1) = true := by simp
              rw [hdec]
              as_aux_lemma =>
              go_wp2_with fail
              go_quiet (fail)
              go_wp2_with fail
              go_roundw
              case rel => exact ⟨m + 1, by omega, by rw [hdec2], by go_num, WM.out.below (below_drewN' (Below.refl _ _) _), RM.out.below (below_drewN' (Below.refl _ _) _)⟩
              case measure => simp [intOf]; omega
            · have hdec : decide (i < m) = true := by simp; omega
              have hdec2 : decide (i < m + 1) = true := by simp; omega
              rw [hdec]
              as_aux_lemma =>
              go_wp2_with fail
              go_quiet (fail)
              go_wp2_with fail
              go_roundw
              case rel => exact ⟨m + 1, by omega, by rw [hdec2], by go_num, WM.out.below (below_drewN' (Below.refl _ _) _), RM.out.below (below_drewN' (Below.refl _ _) _)⟩
              case measure => simp [intOf]; omega
        · have hlti : ¬ (i : Int) < (os.length : Int) := by omega
          as_aux_lemma =>
          go_wp2
          go_end0
          have hT : Turned B B wr ((wr.setCell ⟨B, 3, none⟩ (.slice a4 os.length c4')).setCell ⟨B, 4, none⟩ (.slice none 0 0)) := (Turned.set B B _ 3 _).trans (Turned.set B B _ 4 _)
          exact ⟨rfl, a4, c4', { WI.out with box := by simpa [wld] using (WI.out.box.set 3 (.slice a4 os.length c4')).set 4 (.slice none 0 0), at_ := WI.out.at_.law WI.out.box WI.out.wB hT (by decide) (by decide) (by decide) (by decide) (by decide) (by decide), row := RI.out.boxed WI.out.box hT (by decide) }⟩
end Go.Proofs.YtbfhcbihgleddaaGreatDoor
