/-
  Abort.
-/
import Derived.Test.YteafnohponbbeaaKStage
namespace Go.Proofs.Yteafnohponbbeaa
open Go.RowKit

def abortS (s : PS) (n : Nat) : PS := { s with stg := s.stg.filter (fun x => decide (x.1 ≤ n)) }
/-- A part's staged row has become v5, which holds S. -/
structure StgM (w wx : World) (p : Pt) (S : List Tx) (v5 : Value) : Prop where
  ft : FT (fun i => p.sv.ownBlock = some i) (fun i => p.sv.ownBlock = some i) w wx
  row : Row 69 2 Tx.cs 0 wx v5 S
  blk : ∀ g, v5.ownBlock = some g → p.sv.ownBlock = some g ∨ w.heap.size ≤ g
theorem StgM.lg {w wx : World} {l mm : Nat} {ov : Value} {fq : Nat → Prop} {O : List Tx} {p : Pt} {R : List Pt} {S : List Tx} {v5 : Value} (h : StgM w wx p S v5) (G : LG w l mm ov fq (p :: R) O) (hs : ∀ x ∈ S, x ∈ p.stg) (last : Nat) :
    LG wx l mm ov (fun i => fq i ∨ v5.ownBlock = some i) ({ p with sv := v5, stg := S, last := last } :: R) O ∧ FT (FP l mm fq) (FP l mm (fun i => fq i ∨ v5.ownBlock = some i)) w wx := by
  have hp := G.pts p (List.mem_cons_self ..)
  have hlt : ∀ i, fq i → i < w.heap.size := G.flt
  have hbl : ∀ i, i < w.heap.size → p.sv.ownBlock ≠ some i → wx.heap[i]? = w.heap[i]? := fun i hi hne => h.ft.block i hi hne
  have hty : ∀ i cur, BoxT 39 w i cur → wx.heap[i]? = w.heap[i]? := fun i cur hc => hbl i hc.lt (fun e => by
    obtain ⟨c2, h2⟩ := hp.sr.has i e
    exact BoxT.ne (t := 39) (t' := 69) hc h2 (by decide) rfl)
  have hx0 : ∀ y, TxOk w fq y → TxOk wx (fun i => fq i ∨ v5.ownBlock = some i) y := fun y hy => hy.back (fun i e => .inl e) hty
  have hn' : ∀ i, (fq i ∨ v5.ownBlock = some i) → fq i ∨ (w.heap.size ≤ i ∧ i < wx.heap.size) := fun i hi => by
    rcases hi with e | e
    · exact .inl e
    · rcases h.blk i e with e2 | e2
      · exact .inl (hp.fr i (.inr e2))
      · exact .inr ⟨e2, by obtain ⟨cur, hc⟩ := h.row.has i e; exact hc.lt⟩
  have hp' : PtOk wx (fun i => fq i ∨ v5.ownBlock = some i) { p with sv := v5, stg := S, last := last } := ⟨hp.cr.back (fun g e => hbl g (hlt g (hp.fr g (.inl e))) (hp.cs g e)), h.row, fun g e => by
      rcases e with e | e
      · exact .inl (hp.fr g (.inl e))
      · exact .inr e, fun g e1 e2 => by
      rcases h.blk g e2 with e3 | e3
      · exact hp.cs g e1 e3
      · have := hlt g (hp.fr g (.inl e1)); omega, fun y hy => hx0 y (hp.co y hy), fun y hy => hx0 y (hp.so y (hs y hy))⟩
  refine ⟨G.swap h.ft.size (fun i hi hne => hbl i hi (fun e => hne (.inr e))) (fun i e => .inl e) hn' hp' (fun i e => by
    rcases e with e | e
    · exact .inl (.inl e)
    · rcases h.blk i e with e2 | e2
      · exact .inl (.inr e2)
      · exact .inr e2), ⟨h.ft.os, h.ft.tape, h.ft.output, h.ft.size, fun i hi hne => hbl i hi (fun e => hne (.inr (.inr (hp.fr i (.inr e))))), fun i hi => ?_⟩⟩
  rcases hi with e | e | e
  · exact .inl (.inl e)
  · exact .inl (.inr (.inl e))
  · rcases hn' i e with e | ⟨e, _⟩
    · exact .inl (.inr (.inr e))
    · exact .inr e
theorem FT.turn {l mm : Nat} {fp fq : Nat → Prop} {w w' w'' : World} (h : FT fp (FP l mm fq) w w') (hm : MTurn w' w'' mm) : FT fp (FP l mm fq) w w'' := by
  have h2 : FT (FP l mm fq) (FP l mm fq) w' w'' := FT.grow hm.grown (fun g e => by cases e; exact .inr (.inl rfl))
  exact h.trans h2
theorem FT.drewP {fp fp' : Nat → Prop} {w w' : World} (h : FT fp fp' w w') : FT fp fp' w w'.drew := h.drew
theorem LG.tail {w : World} {l mm : Nat} {ov : Value} {fq : Nat → Prop} {p : Pt} {R : List Pt} {O : List Tx} (h : LG w l mm ov fq (p :: R) O) : LG w l mm ov fq R O :=
  { h with pts := fun q hq => h.pts q (List.mem_cons_of_mem _ hq), ap := (List.pairwise_cons.1 h.ap).2 }
theorem abort_ps (p : Pt) (n : Nat) (sv : Value) : Pt.ps { p with sv := sv, stg := p.stg.filter (fun x => decide (x.n ≤ n)) } = abortS p.ps n := by
  unfold abortS Pt.ps
  simp only
  rw [pr_filter]
theorem abort_lp {w : World} {l mm : Nat} {ov : Value} {fq : Nat → Prop} {f : Int → PS} {O : List Tx} {W : Nat} {k : Int} {p : Pt} {R : List Pt} (P : PickAt w l mm ov fq f O W k p R) (n : Nat) (sv : Value) : LP ({ p with sv := sv, stg := p.stg.filter (fun x => decide (x.n ≤ n)) } :: R) O W := by
  have hpp := P.pl.pp p (List.mem_cons_self ..)
  refine ⟨P.pl.keys, fun q hq => ?_, ?_, fun q hq => ?_⟩
  · rcases List.mem_cons.1 hq with rfl | hq
    · exact ⟨hpp.key, hpp.rc, hpp.rs.filter _, hpp.cl, fun y hy => hpp.ls y (List.mem_filter.1 hy).1⟩
    · exact P.pl.pp q (List.mem_cons_of_mem _ hq)
  · have := P.pl.wt
    rw [sumS_cons] at this ⊢
    have := sumw_filter (fun x => decide (x.n ≤ n)) p.stg
    show sumw O + (sumw (p.stg.filter _) + sumS R) ≤ _
    omega
  · rcases List.mem_cons.1 hq with rfl | hq
    · exact P.pl.cw p (List.mem_cons_self ..)
    · exact P.pl.cw q (List.mem_cons_of_mem _ hq)
/-- Nothing is left of a part without numbers. -/
theorem part_gone {p : Pt} (h : PtP p) (hg : gr p.last p.stg = 0) : p.ps = emp := by
  obtain ⟨g1, g2⟩ := gr_ge h
  have hl : p.last = 0 := by omega
  have hc : p.com = [] := List.eq_nil_iff_forall_not_mem.2 (fun x hx => by have := h.cl x hx; omega)
  have hs : p.stg = [] := List.eq_nil_iff_forall_not_mem.2 (fun x hx => by have := h.ls x hx; have := g2 x hx; omega)
  unfold Pt.ps emp
  rw [hc, hs, hl]; rfl
/-- Gone of what stands behind the first k, and ahead of it. -/
theorem gone_nil {w : World} {lv : Value} {ln : Nat} {a : Option Addr} : Gone w lv ln a 0 := .inl rfl
theorem gone_behind {w : World} {g off n c k : Nat} {S : List Tx} (h : Row 69 2 Tx.cs 0 w (.slice (some ⟨g, off, none⟩) n c) S) (hk : k ≤ S.length) : Gone w (.slice (some ⟨g, off, none⟩) k c) k (some ⟨g, off + k * 2, none⟩) (n - k) := by
  rcases h with ⟨e, rfl⟩ | ⟨g, off, cap, cur, e, h2, h3, h4, h5, h6, h7⟩
  · cases e
  · cases e
    refine .inr ⟨g, off + k * 2, cur, rfl, h3, by omega, off, c, rfl, .inl (Nat.le_refl _)⟩
theorem gone_ahead {w : World} {g off n c k : Nat} {S : List Tx} (h : Row 69 2 Tx.cs 0 w (.slice (some ⟨g, off, none⟩) n c) S) (hk : k ≤ S.length) : Gone w (.slice (some ⟨g, off + k * 2, none⟩) (n - k) (c - k)) (n - k) (some ⟨g, off, none⟩) k := by
  rcases h with ⟨e, rfl⟩ | ⟨g, off, cap, cur, e, h2, h3, h4, h5, h6, h7⟩
  · cases e
  · cases e
    refine .inr ⟨g, off, cur, rfl, h3, by omega, off + k * 2, c - k, rfl, .inr (Nat.le_refl _)⟩
theorem keep65 {w2 w3 : World} {K : Nat} {cs : Array Value} {v : Value} {xs : List Tx} (hb : BoxT 65 w2 K cs) (hr : Row 69 2 Tx.cs 0 w2 v xs) (hg : w2.grownBy w3 v.ownBlock) : BoxT 65 w3 K cs :=
  hb.back (hg.block _ hb.lt (fun e => by
    obtain ⟨cur, hc⟩ := hr.has _ e.symm
    exact BoxT.ne (t := 65) (t' := 69) hb hc (by decide) rfl))
theorem stg_fin {w w2 w3 : World} {p : Pt} {S : List Tx} {u c0 c1 c2 : Value} {b : Option Nat} (hF : FT (fun i => p.sv.ownBlock = some i) (fun i => p.sv.ownBlock = some i) w w2) (K3 : BoxT 65 w3 w.heap.size #[c0, c1, c2]) (o3 : Row 69 2 Tx.cs 0 w3 u S) (g3 : w2.grownBy w3 b) (hb : b = p.sv.ownBlock) (b3 : ∀ h, u.ownBlock = some h → b = some h ∨ w2.heap.size ≤ h) :
    StgM w (w3.setCell ⟨w.heap.size, 1, none⟩ u) p S u ∧ BoxT 65 (w3.setCell ⟨w.heap.size, 1, none⟩ u) w.heap.size #[c0, u, c2] := by
  subst hb
  have f2 := hF.trans (FT.grow g3 (fun g e => e))
  refine ⟨⟨⟨f2.os, f2.tape, f2.output, Nat.le_trans f2.size (by simp), fun i hi hne => ?_, fun i hi => .inl hi⟩, o3.back (fun g e => Below.heap_setCell w3 ⟨w.heap.size, 1, none⟩ _ g (fun e2 => ?_)), fun g e => ?_⟩, by have := K3.set 1 u; simpa using this⟩
  · rw [Below.heap_setCell w3 ⟨w.heap.size, 1, none⟩ _ i (by simp; omega)]
    exact f2.block i hi hne
  · obtain ⟨cur, hc⟩ := o3.has g e
    exact BoxT.ne (t := 69) (t' := 65) hc K3 (by decide) e2
  · rcases b3 g e with e | e
    · exact .inl e
    · exact .inr (Nat.le_trans hF.size e)
set_option maxHeartbeats 4000000 in
set_option maxRecDepth 100000 in
theorem Abort_any {w : World} {l mm : Nat} {ov : Value} {fq : Nat → Prop} {f : Int → PS} {O : List Tx} {W : Nat} {Ms : List Pt} (h : LX w l mm ov fq f O W Ms) (hW : W ≤ 500000) {k : Int} (hk : In64 k) (n : Nat) :
    Calls Try.prog 15 #[.pointer (some ⟨l, 0, none⟩), .int .i64 k, .int .u64 (n : Int)] w fun e w' => e = .returned (.tuple #[]) ∧ SPost w w' l mm fq (upd f k (abortS (f k) n)) O W := by
  obtain ⟨p, R, P⟩ := h.pick hk
  have hlook := P.look w rfl
  obtain ⟨c0, c1⟩ := P.g.box.cells2
  have hp := P.g.pts p (List.mem_cons_self ..)
  have hpp := P.pl.pp p (List.mem_cons_self ..)
  obtain ⟨ca, cc, sa, sc, hcv, hsv, hv⟩ := hp.shape
  rw [hv] at hlook
  have hstg := hp.sr
  rw [hsv] at hstg
  have hlen : p.stg.length ≤ 500000 := by
    have := P.pl.wt
    rw [sumS_cons] at this
    have := sumw_len p.stg
    omega
  have hsc := hstg.own_shape.2
  have segs := hstg.seg Tx.cs_len (by omega)
  obtain ⟨cn, hcn⟩ : ∃ cn, p.com.length = cn := ⟨_, rfl⟩
  rw [hcn] at hcv hlook
  obtain ⟨sn, hsn⟩ : ∃ sn, p.stg.length = sn := ⟨_, rfl⟩
  rw [hsn] at hsv hlook hstg segs hsc
  obtain ⟨la, hla⟩ : ∃ la : Int, (p.last : Int) = la := ⟨_, rfl⟩
  rw [hla] at hlook
  obtain ⟨W1, hW1⟩ : ∃ W1, W1 = w.alloc (.cells #[.slice ca cn cc, .slice sa sn sc, .int .u64 la] 65) := ⟨_, rfl⟩
  have hb1 : Below w.heap.size w W1 := by rw [hW1]; exact below_box w _
  have k0 : BoxT 65 W1 w.heap.size #[.slice ca cn cc, .slice sa sn sc, .int .u64 la] := by rw [hW1]; exact BoxT.new _ _ _
  have HU : Hid (Calls Try.prog 30 #[.slice sa sn sc, .int .u64 (n : Int)] W1 fun e w'' => (∃ k : Nat, e = .returned (.slice sa k sc) ∧ k ≤ p.stg.length ∧ p.stg.take k = p.stg.filter (fun x => decide (x.n ≤ n)) ∧ p.stg.drop k = p.stg.filter (fun x => decide (n < x.n))) ∧ Below W1.heap.size W1 w'') := upTo_any (segs.below hb1) hb1.size (by omega) (by omega) hpp.rs
  have HB1 := hide hb1
  have HP := hide P
  have HSV := hide hsv
  have HCV := hide hcv
  have HLA := hide hla
  have HST := hide hstg
  have HLE := hide hlen
  have HSN := hide hsn
  have HSC := hide hsc
  have HK0 := hide k0
  have hlw := P.g.box.lt
  clear h P hp hcv hsv hv hstg hlen segs hb1 hla k0 hpp hcn hsn hsc
  go_enter Try.func15, Try.ntmps15
  go_upto_region 2 with (first | (at_lookup; refine wp_lookM rfl _ _ 59 false rfl _ _ rfl rfl hlook ?_) | (go_at_call 30; rw [← hW1]; refine HU.out.mono ?_; rintro e w2 ⟨⟨k1, rfl, hk1, q1, q2⟩, b2⟩; have B2 := hide b2; have Q1 := hide q1; have HK1 := hide hk1; clear b2 q1 q2 hk1) | fail)
  clear hlook hW1 HU
  have K2 := hide (HK0.out.below B2.out)
  have R2 : Hid (Row 69 2 Tx.cs 0 w2 (.slice sa sn sc) p.stg) := HST.out.below (HB1.out.trans (B2.out.mono HB1.out.size))
  have F2 : Hid (FT (fun i => p.sv.ownBlock = some i) (fun i => p.sv.ownBlock = some i) w w2) := FT.of_below (HB1.out.trans (B2.out.mono HB1.out.size))
  clear HK0 HST
  go_cut [] from 18 to 25 (fun wx => ∃ v5, Hid (StgM w wx p (p.stg.take k1) v5) ∧ Hid (BoxT 65 wx w.heap.size #[.slice ca cn cc, v5, .int .u64 la]))
  case first =>
    obtain ⟨t0, t1, t2⟩ := K2.out.cells3
    have fr2 := K2.out.free
    have hk1 : k1 ≤ sn := by have := HK1.out; have := HSN.out; omega
    have hsc := HSC.out
    have hTK := hide (R2.out.take HK1.out)
    have hlt2 : (p.stg.take k1).length ≤ 1000000 := by rw [List.length_take]; have := HLE.out; omega
    have HK2 := hide hk1
    cases sa with
    | none =>
      obtain ⟨rfl, rfl, rfl⟩ : sn = 0 ∧ sc = 0 ∧ k1 = 0 := by
        rcases R2.out with ⟨e, e2⟩ | ⟨g, off, cap, cur, e, _⟩
        · cases e; exact ⟨rfl, rfl, by omega⟩
        · cases e
      have HWO := hide (without_any (gc := 0) hTK.out (gone_nil (a := none)) hlt2)
      clear hlt2 hk1 hsc
      go_wp2_with (first | (go_at_call 31; refine HWO.out.mono ?_; rintro e w3 ⟨u, rfl, o3, g3, b3⟩; obtain ⟨ua, uc, hu⟩ := o3.shape; obtain ⟨un, hun⟩ : ∃ un, (p.stg.take 0).length = un := ⟨_, rfl⟩; rw [hun] at hu; subst hu; have K3 := hide (keep65 K2.out hTK.out g3); have HF := hide (stg_fin F2.out K3.out o3 g3 (by rw [HSV.out]; try rfl) b3); obtain ⟨y0, y1, y2⟩ := K3.out.cells3; have fr3 := K3.out.free; clear o3 g3 b3 hun) | fail)
      go_meet
      case rel => exact ⟨_, HF.out.1, HF.out.2⟩
    | some ad =>
      obtain ⟨g, off, rfl⟩ : ∃ g off, ad = ⟨g, off, none⟩ := by
        rcases R2.out with ⟨e, e2⟩ | ⟨g, off, cap, cur, e, _⟩
        · cases e
        · cases e; exact ⟨g, off, rfl⟩
      have i0 : (0 : Int) ≤ (k1 : Int) := by omega
      have i1 : (k1 : Int) ≤ (sn : Int) := by omega
      have i2 : (sn : Int) ≤ (sc : Int) := by omega
      by_cases hkc : k1 = sc
      · obtain rfl : sn = sc := by omega
        obtain rfl : k1 = sn := hkc
        have HWO := hide (without_any (gc := 0) hTK.out (gone_nil (a := some ⟨g, off, none⟩)) hlt2)
        clear hlt2 hk1 hsc
        go_wp2_with (first | (go_at_call 31; refine HWO.out.mono ?_; rintro e w3 ⟨u, rfl, o3, g3, b3⟩; obtain ⟨ua, uc, hu⟩ := o3.shape; obtain ⟨un, hun⟩ : ∃ un, (p.stg.take k1).length = un := ⟨_, rfl⟩; rw [hun] at hu; subst hu; have K3 := hide (keep65 K2.out hTK.out g3); have HF := hide (stg_fin F2.out K3.out o3 g3 (by rw [HSV.out]; try rfl) b3); obtain ⟨y0, y1, y2⟩ := K3.out.cells3; have fr3 := K3.out.free; clear o3 g3 b3 hun) | fail)
        go_meet
        case rel => exact ⟨_, HF.out.1, HF.out.2⟩
      · have HWO := hide (without_any (gc := sc - k1) hTK.out (gone_behind R2.out HK1.out) hlt2)
        have i3 : ¬ (k1 : Int) = (sc : Int) := by omega
        have i4 : k1 ≤ sn := by omega
        have i5 : sn ≤ sc := by omega
        clear hlt2 hk1 hsc
        go_wp2_with (first | (go_at_call 31; refine HWO.out.mono ?_; rintro e w3 ⟨u, rfl, o3, g3, b3⟩; obtain ⟨ua, uc, hu⟩ := o3.shape; obtain ⟨un, hun⟩ : ∃ un, (p.stg.take k1).length = un := ⟨_, rfl⟩; rw [hun] at hu; subst hu; have K3 := hide (keep65 K2.out hTK.out g3); have HF := hide (stg_fin F2.out K3.out o3 g3 (by rw [HSV.out]; try rfl) b3); obtain ⟨y0, y1, y2⟩ := K3.out.cells3; have fr3 := K3.out.free; clear o3 g3 b3 hun) | fail)
        go_meet
        case rel => exact ⟨_, HF.out.1, HF.out.2⟩
  case rest =>
    obtain ⟨v5, HM, HB⟩ := hcut
    clear F2 R2 K2 B2 HB1
    obtain ⟨a5, c5, hv5⟩ := HM.out.row.shape
    obtain ⟨n5, hn5⟩ : ∃ n5, (p.stg.take k1).length = n5 := ⟨_, rfl⟩
    rw [hn5] at hv5
    subst hv5
    have HN5 := hide hn5
    clear hn5
    have HPM : Hid (¬ p.sv.ownBlock = some mm ∧ ¬ p.sv.ownBlock = some l) := ⟨fun e => HP.out.g.nm ((HP.out.g.pts p (List.mem_cons_self ..)).fr mm (.inr e)), fun e => HP.out.g.nl ((HP.out.g.pts p (List.mem_cons_self ..)).fr l (.inr e))⟩
    have HM6 : Hid (wc.heap[mm]? = w.heap[mm]?) := HM.out.ft.block mm HP.out.g.ml HPM.out.1
    have HL6 : Hid (BoxT 62 wc l #[.map (some mm), ov]) := HP.out.g.box.back (HM.out.ft.block l hlw HPM.out.2)
    obtain ⟨w7, hrun7, hm7, ht7⟩ := HP.out.store wc.drew (.agg #[.slice ca cn cc, .slice a5 n5 c5, .int .u64 la]) HM6.out
    have HMP := hide hm7
    have HT7 := hide ht7
    clear hm7 ht7
    have hL6 : wc.drew.cell? ⟨l, 0, none⟩ = some (.map (some mm)) := HL6.out.cells2.1
    obtain ⟨q0, q1, q2⟩ := BoxT.cells3 (t := 65) (w := wc.drew) HB.out
    go_wp2_with fail
    refine wp_region_M (S := fun w' => w' = wc.drew) (late := [6]) (by kernel_rfl) (rfl) (fun hHeld => ?_)
    (try simp only [List.size_toArray, List.length_cons, List.length_nil, Nat.zero_add, Nat.reduceAdd, Array.replicate, List.replicate])
    refine wpAnyM_take (i := 0) (oi := ⟨_, _, _, _, _, _⟩) (v := ?_) rfl (by kernel_rfl) (by kernel_rfl) (by kernel_rfl) (by kernel_rfl) (fun _ _ _ h => h) (Or.inl ⟨by rfl, ?_⟩) hHeld ?_
    rotate_left
    · (intro w' hSw; subst hSw; go_simp; try (with_reducible rfl))
    (try simp only [Act.put, List.setIfInBounds_toArray, List.set_cons_zero, List.set_cons_succ])
    refine wpAnyM_take (i := 1) (oi := ⟨_, _, _, _, _, _⟩) (v := ?_) rfl (by kernel_rfl) (by kernel_rfl) (by kernel_rfl) (by kernel_rfl) (fun _ _ _ h => h) (Or.inl ⟨by rfl, ?_⟩) hHeld ?_
    rotate_left
    · (intro w' hSw; subst hSw; go_simp; try (with_reducible rfl))
    (try simp only [Act.put, List.setIfInBounds_toArray, List.set_cons_zero, List.set_cons_succ])
    refine wpAnyM_take (i := 2) (oi := ⟨_, _, _, _, _, _⟩) (v := ?_) rfl (by kernel_rfl) (by kernel_rfl) (by kernel_rfl) (by kernel_rfl) (fun _ _ _ h => h) (Or.inl ⟨by rfl, ?_⟩) hHeld ?_
    rotate_left
    · (intro w' hSw; subst hSw; go_simp; try (with_reducible rfl))
    (try simp only [Act.put, List.setIfInBounds_toArray, List.set_cons_zero, List.set_cons_succ])
    refine wpAnyM_take (i := 3) (oi := ⟨_, _, _, _, _, _⟩) (v := ?_) rfl (by kernel_rfl) (by kernel_rfl) (by kernel_rfl) (by kernel_rfl) (fun _ _ _ h => h) (Or.inl ⟨by rfl, ?_⟩) hHeld ?_
    rotate_left
    · (intro w' hSw; subst hSw; go_simp; try (with_reducible rfl))
    (try simp only [Act.put, List.setIfInBounds_toArray, List.set_cons_zero, List.set_cons_succ])
    refine wpAnyM_take (i := 4) (oi := ⟨_, _, _, _, _, _⟩) (v := ?_) rfl (by kernel_rfl) (by kernel_rfl) (by kernel_rfl) (by kernel_rfl) (fun _ _ _ h => h) (Or.inl ⟨by rfl, ?_⟩) hHeld ?_
    rotate_left
    · (intro w' hSw; subst hSw; go_simp; try (with_reducible rfl))
    (try simp only [Act.put, List.setIfInBounds_toArray, List.set_cons_zero, List.set_cons_succ])
    refine wpAnyM_take (i := 5) (oi := ⟨_, _, _, _, _, _⟩) (v := ?_) rfl (by kernel_rfl) (by kernel_rfl) (by kernel_rfl) (by kernel_rfl) (fun _ _ _ h => h) (Or.inl ⟨by rfl, ?_⟩) hHeld ?_
    rotate_left
    · (intro w' hSw; subst hSw; go_simp; try (with_reducible rfl))
    (try simp only [Act.put, List.setIfInBounds_toArray, List.set_cons_zero, List.set_cons_succ])
    refine wpAnyM_last (i := 6) (o := ⟨_, _, _, _, _, _⟩) (by kernel_rfl) (by rfl) rfl (fun K hK => ?_)
    refine step_put_run rfl _ _ _ 59 rfl _ _ _ rfl rfl rfl hrun7 ?_
    refine hK.out _ _ ?_
    clear hK K
    (try simp only [List.setIfInBounds_toArray, List.set_cons_zero, List.set_cons_succ])
    refine wpAnyM_done (by kernel_rfl) ?_ _
    clear hrun7 q0 q1 q2 hL6
    have hkm : w.heap.size ≠ mm := by have := HP.out.g.ml; omega
    have K7 : Hid (BoxT 65 w7 w.heap.size #[.slice ca cn cc, .slice a5 n5 c5, .int .u64 la]) := HB.out.back (HT7.out.other hkm)
    have L7 : Hid (BoxT 62 w7 l #[.map (some mm), ov]) := HL6.out.back (HT7.out.other HP.out.g.lm)
    have G6 := hide (HM.out.lg HP.out.g (fun x hx => List.mem_of_mem_take hx) p.last)
    have G7 := hide ((G6.out.1.below (Below.refl _ _).drew).turn HT7.out)
    have F7 := hide (FT.turn G6.out.2.drewP HT7.out)
    have S7 : Hid (LSeg 2 Tx.cs w7.heap.size w7 (.slice a5 n5 c5) (p.stg.take k1)) := (G7.out.pts _ (List.mem_cons_self ..)).sr.seg Tx.cs_len (by show (p.stg.take k1).length ≤ _; rw [List.length_take]; have := HLE.out; omega)
    have HGR : Hid (Calls Try.prog 28 #[.agg #[.slice ca cn cc, .slice a5 n5 c5, .int .u64 la]] w7 fun e w' => e = .returned (.int .u64 (gr p.last (p.stg.take k1) : Int)) ∧ Below w7.heap.size w7 w') := by
      rw [← HLA.out]
      exact great_any S7.out (Nat.le_refl _)
    have HLP : Hid (LP ({ p with sv := .slice a5 n5 c5, stg := p.stg.take k1 } :: R) O W) := by
      rw [Q1.out]; exact abort_lp HP.out n _
    obtain ⟨z0, z1, z2⟩ := K7.out.cells3
    have HQQ : Hid (Pt.ps { p with sv := .slice a5 n5 c5, stg := p.stg.take k1 } = abortS (f k) n) := by
      rw [HP.out.ps, Q1.out]; exact abort_ps p n _
    have HSW := hide (HP.out.s.swap (p' := { p with sv := .slice a5 n5 c5, stg := p.stg.take k1 }) HP.out.pl.keys HP.out.key HP.out.key)
    obtain ⟨G, hG⟩ : ∃ G, gr p.last (p.stg.take k1) = G := ⟨_, rfl⟩
    rw [hG] at HGR
    have HG := hide hG
    clear hG S7
    by_cases hz : G = 0
    · have hb0 : (((G : Nat) : Int) == 0) = true := by rw [hz]; rfl
      have HZ := hide hz
      clear hz
      go_wp2_with (first | (go_at_call 28; refine HGR.out.mono ?_; rintro e w8 ⟨rfl, b8⟩; have B8 := hide b8; clear b8; obtain ⟨w9, hrun9, hm9, ht9⟩ := (HMP.out.back (B8.out.block mm G7.out.ml)).drop_hit Try.lawI Try.underlying59 (keyI hk) (.refl _) 0; have HM9 := hide hm9; have HT9 := hide ht9; clear hm9 ht9; have hL8 := (L7.out.below B8.out).cells2.1) | (at_builtin; refine wp_delM rfl _ _ 59 3 rfl _ _ rfl rfl hrun9 ?_) | fail)
      go_end0
      have hke := HP.out.pl.keys
      have hem : (abortS (f k) n) = emp := by
        rw [← HQQ.out]
        exact part_gone (HLP.out.pp _ (List.mem_cons_self ..)) (HG.out.trans HZ.out)
      refine ⟨rfl, ov, _, R, ⟨(G7.out.below B8.out).tail.turn HT9.out, ⟨?_, fun q hq => HLP.out.pp q (List.mem_cons_of_mem _ hq), ?_, fun q hq => HLP.out.cw q (List.mem_cons_of_mem _ hq)⟩, HM9.out, ?_⟩, FT.turn (F7.out.trans (FT.of_below B8.out)) HT9.out⟩
      · rw [List.map_cons, List.nodup_cons] at hke
        exact hke.2
      · have := HLP.out.wt
        rw [sumS_cons] at this
        omega
      · rw [hem]
        exact HP.out.s.gone hke HP.out.key
    · have hb0 : (((G : Nat) : Int) == 0) = false := by simpa using hz
      have HZ := hide hz
      clear hz
      go_wp2_with (first | (go_at_call 28; refine HGR.out.mono ?_; rintro e w8 ⟨rfl, b8⟩; have B8 := hide b8; clear b8) | fail)
      go_end0
      refine ⟨rfl, ov, _, _, ⟨G7.out.below B8.out, HLP.out, ?_, ?_⟩, F7.out.trans (FT.of_below B8.out)⟩
      · have h8 := HMP.out.back (B8.out.block mm G7.out.ml)
        rw [List.map_cons]
        have e : pEnt { p with sv := .slice a5 n5 c5, stg := p.stg.take k1 } = (.int .i64 k, .agg #[.slice ca cn cc, .slice a5 n5 c5, .int .u64 la]) := by
          show (Value.int .i64 p.k, Value.agg #[p.cv, _, .int .u64 (p.last : Int)]) = _
          rw [HP.out.key, HCV.out, HLA.out]
        rw [e]; exact h8
      · rw [← HQQ.out]; exact HSW.out

end Go.Proofs.Yteafnohponbbeaa
