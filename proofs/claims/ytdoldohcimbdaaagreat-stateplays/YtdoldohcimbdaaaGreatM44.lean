/-
  Texts in build order: SRSp.
-/
import Derived.Test.YtdoldohcimbdaaaGreatM41
/-
  The document's Spans, walked.
-/
namespace Go.Proofs.YtdoldohcimbdaaaGreat
open Go.RowKit

set_option maxHeartbeats 1000000 in
set_option maxRecDepth 100000 in
theorem rfloor_any (w : World) {t n : Int} (ht : TimeOk t) (h1 : 1 ≤ n) (h2 : n ≤ 68719476736) : Calls Tryz.prog 57 #[.int .i64 t, .int .i64 n] w fun e w' => e = .returned (.int .i64 (t - sinceOf n t)) ∧ w' = w := by
  obtain ⟨t1, t2⟩ := ht
  have hz : n ≠ 0 := by omega
  obtain ⟨k1, k2⟩ := since_in (t := t) h1
  have HS : Hid (sinceOf n t = (if t.tmod n < 0 then t.tmod n + n else t.tmod n)) := (show _ = _ from rfl)
  generalize sinceOf n t = s at *
  have f3 : wrap64 (t - s) = t - s := by unfold wrap64; omega
  by_cases hm : t.tmod n < 0
  · have hsm : t.tmod n + n = s := by rw [HS.out, if_pos hm]
    have f1 : wrap64 (t.tmod n + n) = s := by rw [hsm]; unfold wrap64; omega
    obtain ⟨tm, f0⟩ : ∃ tm, t.tmod n = tm := ⟨_, rfl⟩
    rw [f0] at f1 hm hsm
    clear HS hsm
    go_enter Tryz.func57, Tryz.ntmps57
    go_wp2_with fail
    go_ret
    exact ⟨ret_int (by first | exact f3 | rfl), rfl⟩
  · have f1 : t.tmod n = s := by rw [HS.out, if_neg hm]
    rw [f1] at hm
    clear HS
    go_enter Tryz.func57, Tryz.ntmps57
    go_wp2_with fail
    go_ret
    exact ⟨ret_int (by first | exact f3 | rfl), rfl⟩
/-- How many spans have a time. -/
theorem newSp2 (W : World) {n : Nat} (hn : n = W.heap.size) (x : Sp) (j : Nat) (u : Value) (hu : (Sp.cs x)[j]? = some u) : (W.alloc (.cells #[.int .i64 x.f, .int .i64 x.t] 68)).cell? ((⟨n, 0, none⟩ : Addr).add j) = some u := by
  have hb : BoxT 68 _ n _ := BoxT.new_at (t := 68) (w := W) (cs := #[.int .i64 x.f, .int .i64 x.t]) hn
  rw [add_plain2, hb.cellAt, Nat.zero_add]
  have hl := lt_of_get hu
  rw [Sp.cs_len] at hl
  match j, hu with
  | 0, hu | 1, hu => simp [Sp.cs] at hu; subst hu; rfl
theorem drop_rev_snoc {α : Type} {l : List α} {q : Nat} {y : α} (h : l[q]? = some y) : (l.drop (q + 1)).reverse ++ [y] = (l.drop q).reverse := by
  rw [drop_at h, List.reverse_cons]
set_option maxHeartbeats 8000000 in
set_option maxRecDepth 100000 in
theorem rSpans_any (w : World) {k size slide t : Int} (hw : FitW k size slide) (ht : TimeOk t) : Calls Tryz.prog 32 #[.agg #[.int .i64 k, .int .i64 size, .int .i64 slide], .int .i64 t] w fun e w' => ∃ u, e = .returned u ∧ OwnL 68 2 Sp.cs w.heap.size w' u (pSpans k size slide t) ∧ Below w.heap.size w w' := by
  have hs := fit_size hw
  have hb := below_box w (.cells #[.int .i64 k, .int .i64 size, .int .i64 slide] 23)
  have HB := hide hb
  obtain ⟨hk1, hk3, _, _, hrest⟩ := id hw
  by_cases k1 : k = 1
  · subst k1
    rw [spans_one hw ht]
    have HFL := hide (fun W => rfloor_any W ht hs.1 hs.2)
    obtain ⟨s1, s2⟩ := since_in (t := t) hs.1
    obtain ⟨h1, h2⟩ := hs
    unfold TimeOk at ht
    obtain ⟨t1, t2⟩ := ht
    generalize sinceOf size t = since at *
    obtain ⟨s, hsd⟩ : ∃ s, t - since = s := ⟨_, rfl⟩
    rw [hsd] at HFL ⊢
    have f1 : wrap64 (s + size) = s + size := by unfold wrap64; omega
    have HB2 : Hid (Below w.heap.size w ((w.alloc (.cells #[.int .i64 1, .int .i64 size, .int .i64 slide] 23)).alloc (.cells (Sp.cs ⟨s, s + size⟩).toArray 68))) := below_box2 w _ _
    clear hsd hw hrest hb
    go_enter Tryz.func32, Tryz.ntmps32
    go_wp2_with (go_at_call 57; refine (HFL.out _).mono ?_; rintro e w1 ⟨rfl, rfl⟩)
    go_ret
    exact ⟨_, rfl, own_one (t := 68) (cs := Sp.cs) ⟨s, s + size⟩ rfl (by simp) (by omega), HB2.out⟩
  by_cases k3 : k = 3
  · subst k3
    rw [spans_three hw ht]
    obtain ⟨h1, h2⟩ := hs
    unfold TimeOk at ht
    obtain ⟨t1, t2⟩ := ht
    have f1 : wrap64 (t + size) = t + size := by unfold wrap64; omega
    have HB2 : Hid (Below w.heap.size w ((w.alloc (.cells #[.int .i64 3, .int .i64 size, .int .i64 slide] 23)).alloc (.cells (Sp.cs ⟨t, t + size⟩).toArray 68))) := below_box2 w _ _
    clear hw hrest hb
    go_enter Tryz.func32, Tryz.ntmps32
    go_wp2_with fail
    go_ret
    exact ⟨_, rfl, own_one (t := 68) (cs := Sp.cs) ⟨t, t + size⟩ rfl (by simp) (by omega), HB2.out⟩
  obtain rfl : k = 2 := by omega
  rw [spans_two hw ht]
  have hcl := cnt_le (t := t) hw
  rcases hrest with ⟨_, l1, l2, _⟩ | ⟨l1, _⟩
  case inr => exact absurd rfl l1
  have HFL := hide (fun W => rfloor_any W ht l1 l2)
  obtain ⟨s1, s2⟩ := since_in (t := t) l1
  have HCI := hide (fun j => cnt_iff (size := size) (since := sinceOf slide t) l1 j)
  generalize cntOf size slide (sinceOf slide t) = c at *
  generalize hsn : sinceOf slide t = since at *
  clear hsn
  obtain ⟨h1, h2⟩ := hs
  unfold TimeOk at ht
  obtain ⟨t1, t2⟩ := ht
  obtain ⟨s0, hsd⟩ : ∃ s0, t - since = s0 := ⟨_, rfl⟩
  rw [hsd] at HFL ⊢
  have HSD := hide hsd
  have HBX := hide (BoxT.new 23 w #[.int .i64 2, .int .i64 size, .int .i64 slide])
  clear hsd hw hb
  go_enter Tryz.func32, Tryz.ntmps32
  go_wp2_with (go_at_call 57; refine (HFL.out _).mono ?_; rintro e w1 ⟨rfl, rfl⟩)
  clear HFL
  have HST : Hid (s0 - ((0 : Nat) : Int) * slide = s0) := (show _ = _ by rw [Int.natCast_zero, Int.zero_mul, Int.sub_zero])
  go_loopg [6, 7] (c + 1) (fun gh bv sv wr => ∃ j : Nat, sv = .int .i64 (s0 - (j : Int) * slide) ∧ j ≤ c ∧ c + 1 ≤ gh + j ∧ Hid (OwnL 68 2 Sp.cs w.heap.size wr bv (bkS size slide s0 j)) ∧ Hid (Below w.heap.size w wr) ∧ Hid (BoxT 23 wr w.heap.size #[.int .i64 2, .int .i64 size, .int .i64 slide]))
  case atStart => exact ⟨0, by rw [HST.out], by omega, by omega, OwnL.nil _ _ _ _ _, HB, HBX⟩
  case round =>
    obtain ⟨j, rfl, hj, hg, GO, GB, GX⟩ := hrel
    obtain ⟨go, rfl⟩ : ∃ go, gk = go + 1 := ⟨gk - 1, by omega⟩
    obtain ⟨y0, y1, y2⟩ := GX.out.cells3
    have hjc := HCI.out j
    have hz0 : 0 ≤ (j : Int) * slide := Int.mul_nonneg (by omega) (by omega)
    have hz1 : (j : Int) * slide < size - since + slide := by
      by_cases h0 : j = 0
      · subst h0; have := HSD.out; rw [Int.natCast_zero, Int.zero_mul]; by_cases hc0 : 0 < c
        · have := (HCI.out 0).1 hc0; rw [Int.natCast_zero, Int.zero_mul] at this; omega
        · omega
      · have h9 := (HCI.out (j - 1)).1 (by omega)
        have e : ((j - 1 : Nat) : Int) * slide = (j : Int) * slide - slide := by
          have : ((j - 1 : Nat) : Int) = (j : Int) - 1 := by omega
          rw [this, Int.sub_mul, Int.one_mul]
        omega
    have HN : Hid (s0 - ((j + 1 : Nat) : Int) * slide = s0 - (j : Int) * slide - slide) := (show _ = _ by rw [Int.natCast_succ, Int.add_mul, Int.one_mul]; omega)
    have HSNO := hide (bkS_snoc size slide s0 j)
    have HLN := hide (bkS_len size slide s0 j)
    have hsd := HSD.out
    obtain ⟨ba, bc, hbv⟩ := GO.out.shape
    rw [HLN.out] at hbv
    subst hbv
    by_cases hjl : j < c
    · have hlt := hjc.1 hjl
      generalize (j : Int) * slide = z at *
      obtain ⟨sj, hsj⟩ : ∃ sj, s0 - z = sj := ⟨_, rfl⟩
      rw [hsj] at HN HSNO ⊢
      have f1 : wrap64 (sj + size) = sj + size := by unfold wrap64; omega
      have f2 : wrap64 (sj - slide) = sj - slide := by unfold wrap64; omega
      have c1 : t < sj + size := by omega
      have c2 : (j : Int) < 200 := by omega
      have hbx := below_box wr (.cells #[.int .i64 sj, .int .i64 (sj + size)] 68)
      have HBX2 := hide hbx
      have HO2 := hide (GO.out.below hbx)
      have HB2 := hide (GB.out.trans (hbx.mono GB.out.size))
      have HSZ := hide HB2.out.size
      have HL2 : Hid ((bkS size slide s0 j).length ≤ 1000000) := (show _ ≤ _ by rw [HLN.out]; omega)
      have HX2 := hide (BoxT.below (t := 23) GX.out hbx)
      clear hbx hlt hjc hz0 hz1 hsd hsj
      generalize bkS size slide s0 j = bj at *
      go_wp2_with (at_builtin; refine app_L Tryz.infoSp Tryz.underlying79 rfl (by decide) (by decide) Sp.cs_len Sp.cs_one rfl _ _ rfl w.heap.size _ bj rfl HO2.out _ _ (⟨sj, sj + size⟩ : Sp) rfl (newSp2 wr rfl ⟨sj, sj + size⟩) HL2.out HSZ.out ?_; intro v5 w5 h5 g5 k5; have H5 := hide h5; have HB5 := hide (HB2.out.grown g5 HSZ.out (fun k e => GO.out.at k e)); have HX5 : Hid (BoxT 23 w5 w.heap.size #[.int .i64 2, .int .i64 size, .int .i64 slide]) := (by have h7 := HX2.out; have h8 := h7.lt; obtain ⟨cx, hcx⟩ : True ∧ True := ⟨trivial, trivial⟩; exact hide (by unfold BoxT at *; rw [g5.block _ h8 (fun e => by obtain ⟨cc, hcc⟩ := HO2.out.has _ e.symm; rw [h7] at hcc; simp at hcc)]; exact h7)); obtain ⟨x0, x1, x2⟩ := HX5.out.cells3; clear h5 g5 k5)
      go_roundg go
      case rel => exact ⟨j + 1, by rw [HN.out]; first | rfl | rw [f2], by omega, by omega, hide (by rw [HSNO.out]; exact H5.out), HB5, HX5⟩
      case measure => omega
    · have hlt : ¬ ((j : Int) * slide < size - since) := fun h => hjl (hjc.2 h)
      have hjc2 : j = c := by omega
      generalize (j : Int) * slide = z at *
      obtain ⟨sj, hsj⟩ : ∃ sj, s0 - z = sj := ⟨_, rfl⟩
      rw [hsj]
      have f1 : wrap64 (sj + size) = sj + size := by unfold wrap64; omega
      have c1 : ¬ (t < sj + size) := by omega
      have HGL : Hid (OwnL 68 2 Sp.cs w.heap.size wr (.slice ba j bc) (bkS size slide s0 c)) := (by rw [← hjc2]; exact GO)
      have HLC := hide (bkS_len size slide s0 c)
      have HSEG := hide (HGL.out.seg Sp.cs_len (by rw [HLC.out]; omega))
      generalize hlb : bkS size slide s0 c = l at *
      have HLB := hide hlb
      clear hlb
      have hll : l.length = j := by rw [HLC.out]; exact hjc2.symm
      have HLL := hide hll
      have HD0 : Hid ((l.drop l.length).reverse = []) := (show _ = _ by simp)
      have hjb : j ≤ 64 := by omega
      clear hlt hjc hz0 hz1 hsd hsj hjc2 HN HSNO HLN GO hjl hj hg HLC hll
      obtain ⟨wo, rfl⟩ : ∃ wo, wo = wr := ⟨wr, rfl⟩
      go_wp2_with fail
      go_loopg [8, 9] (j + 1) (fun gh ov iv wr => ∃ q : Nat, iv = .int .i64 ((q : Int) - 1) ∧ q ≤ j ∧ q + 1 ≤ gh ∧ Hid (OwnL 68 2 Sp.cs wo.heap.size wr ov (l.drop q).reverse) ∧ Hid (Below wo.heap.size wo wr))
      case atStart => exact ⟨j, rfl, by omega, by omega, hide (by rw [← HLL.out, HD0.out]; exact OwnL.nil _ _ _ _ _), Below.refl _ _⟩
      case round =>
        obtain ⟨q, rfl, hq, hgq, GQ, GBQ⟩ := hrel
        obtain ⟨gi, rfl⟩ : ∃ gi, gk = gi + 1 := ⟨gk - 1, by omega⟩
        by_cases hq0 : q = 0
        · subst hq0
          have bq : ¬ ((0 : Int) ≤ ((0 : Nat) : Int) - 1) := by omega
          have HFN := hide (GQ.out)
          rw [List.drop_zero] at HFN
          go_wp2_with fail
          go_ret
          exact ⟨_, rfl, by rw [HLB.out]; exact HFN.out.mono GB.out.size, GB.out.trans (GBQ.out.mono GB.out.size)⟩
        · obtain ⟨p, rfl⟩ : ∃ p, q = p + 1 := ⟨q - 1, by omega⟩
          have eq1 : (((p + 1 : Nat)) : Int) - 1 = (p : Int) := by omega
          rw [eq1]
          obtain ⟨x, hx⟩ := get_of_lt (show p < l.length by rw [HLL.out]; omega)
          have bq : (0 : Int) ≤ (p : Int) := by omega
          have bq2 : (p : Int) < (j : Int) := by omega
          obtain ⟨xb, xo, rfl, _, e0, e1⟩ := (HSEG.out.below GBQ.out).span hx
          have HRS := hide (drop_rev_snoc hx)
          have hbx := below_box wr (.cells #[.int .i64 x.f, .int .i64 x.t] 68)
          have HO2 := hide (GQ.out.below hbx)
          have HB2 := hide (GBQ.out.trans (hbx.mono GBQ.out.size))
          have HSZ := hide HB2.out.size
          have HL2 : Hid ((l.drop (p + 1)).reverse.length ≤ 1000000) := (show _ ≤ _ by rw [List.length_reverse, List.length_drop, HLL.out]; omega)
          clear hx hbx eq1
          obtain ⟨xf, xt⟩ := x
          simp only at e0 e1 HO2 HB2 HSZ
          generalize (l.drop (p + 1)).reverse = lp at *
          obtain ⟨oa, oc, hov⟩ := HO2.out.shape
          subst hov
          go_wp2_with (at_builtin; refine app_L Tryz.infoSp Tryz.underlying79 rfl (by decide) (by decide) Sp.cs_len Sp.cs_one rfl _ _ rfl wo.heap.size _ lp rfl HO2.out _ _ (⟨xf, xt⟩ : Sp) rfl (newSp2 wr rfl ⟨xf, xt⟩) HL2.out HSZ.out ?_; intro v5 w5 h5 g5 k5)
          go_roundg gi
          case rel => exact ⟨p, rfl, by omega, by omega, hide (by rw [← HRS.out]; exact h5), hide (HB2.out.grown g5 HSZ.out (fun k e => GQ.out.at k e))⟩
          case measure => omega
end Go.Proofs.YtdoldohcimbdaaaGreat
