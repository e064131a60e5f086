/-
  The law of readings, walked.
-/
import Derived.Test.YtaajjejgjnlbgaaDoorD3
import Derived.Test.YtaajjejgjnlbgaaDoorDManW
import Derived.Test.YtaajjejgjnlbgaaDoorDSnapW
import Derived.Test.YtaajjejgjnlbgaaDoorHelpS
import Derived.Test.YtaajjejgjnlbgaaDoorKnown
namespace Go.Proofs.YtaajjejgjnlbgaaDoor
open Go.RowKit

theorem flat_get {α : Type} {sz : Nat} {cs : α → List Value} (hcs : ∀ x, (cs x).length = sz) (xs : List α) : ∀ (i j : Nat) (x : α) (u : Value), xs[i]? = some x → (cs x)[j]? = some u → (xs.flatMap cs)[i * sz + j]? = some u := by
  induction xs with
  | nil => intro i j x u h; simp at h
  | cons y ys ih =>
    intro i j x u h hu
    have hj : j < sz := by rw [← hcs x]; exact (List.getElem?_eq_some_iff.1 hu).1
    rw [List.flatMap_cons]
    match i, h with
    | 0, h =>
      obtain rfl : y = x := by simpa using h
      rw [Nat.zero_mul, Nat.zero_add, List.getElem?_append_left (by rw [hcs]; exact hj)]; exact hu
    | i + 1, h =>
      rw [List.getElem?_append_right (by rw [hcs, Nat.succ_mul]; omega), hcs, show (i + 1) * sz + j - sz = i * sz + j by rw [Nat.succ_mul]; omega]
      exact ih i j x u (by simpa using h) hu
theorem OwnL.lseg {α : Type} {t sz base B : Nat} {cs : α → List Value} {w : World} {v : Value} {xs : List α} (h : OwnL t sz cs base w v xs) (hcs : ∀ x, (cs x).length = sz) (hl : xs.length ≤ 140737488355328) (hB : w.heap.size ≤ B) : LSeg sz cs B w v xs := by
  rcases h.2 with ⟨rfl, h0⟩ | ⟨g, cap, cur, rfl, h2, h3, h4, h5, _⟩
  · have : xs = [] := List.length_eq_zero_iff.1 h0
    subst this
    exact ⟨none, 0, rfl, by simp, .inl rfl⟩
  · refine ⟨_, cap, rfl, hl, .inr ⟨g, 0, rfl, by have := (Array.getElem?_eq_some_iff.1 h3).1; omega, fun i x hx j u hu => ?_⟩⟩
    have hg := flat_get hcs xs i j x u hx hu
    have hlt := (List.getElem?_eq_some_iff.1 hg).1
    have hlen : (xs.flatMap cs).length = xs.length * sz := h.1
    rw [Nat.zero_add, World.ownsRow.cellAt h (i * sz + j) (by omega)]
    exact hg
theorem OwnSn.seg {base B : Nat} {w : World} {vm vp vc : Value} {s : Sn} (h : OwnSn base w vm vp vc s) (hb : s.big = false) (hB : w.heap.size ≤ B) : SnSeg B w vm vp vc s := by
  obtain ⟨b1, b2, b3⟩ := (Sn.big_iff s).1 hb
  exact ⟨h.m.lseg (fun _ => rfl) (by omega) hB, h.p.lseg (fun _ => rfl) (by omega) hB, h.c.lseg (fun _ => rfl) (by omega) hB⟩
/-- In the midst of the law: that what was there is as it was. -/
structure LW (w W : World) : Prop where
  bel : Below w.heap.size w W
  gl : Glob W
theorem LW.step {w W W' : World} (h : LW w W) (hb : Below W.heap.size W W') : LW w W' := ⟨h.bel.trans (hb.mono h.bel.size), h.gl.below hb h.gl.1⟩
theorem OMPost.val {w w' : World} {ok : Bool} {m : Man} {e : Ending} (h : OMPost w ok m e w') : ∃ v, e = .returned (.tuple #[.agg #[.int .u64 ((if ok then m else ⟨0, 0, []⟩).n : Nat), .int .u64 ((if ok then m else ⟨0, 0, []⟩).ep : Nat), v], .int .i64 (if ok then 0 else 10)]) ∧ OwnS w.heap.size w' v (if ok then m else ⟨0, 0, []⟩).ss ∧ Below w.heap.size w w' := by
  obtain ⟨v, h1, h2, h3⟩ := h
  cases ok
  · exact ⟨v, h1, h2, h3⟩
  · exact ⟨v, h1, h2, h3⟩
theorem OpenPost.val {w w' : World} {r : Option (List Nat)} {e : Ending} (hl : ∀ x, r = some x → x.length ≤ 140737488355328) (h : OpenPost w r e w') : ∃ v', e = .returned (.tuple #[v', .int .i64 (if r.isSome then 8 + ((r.getD []).length : Int) else 0), .int .i64 (if r.isSome then 0 else 11)]) ∧ Seg w' v' (r.getD []) ∧ Below w.heap.size w w' := by
  rcases h with ⟨l, v', rfl, rfl, ho, hb⟩ | ⟨rfl, rfl, hb⟩
  · exact ⟨v', rfl, ho.seg (hl l rfl), hb⟩
  · exact ⟨_, rfl, Seg.nil _, hb⟩
theorem rOpen_len (l x : List Nat) (h : rOpen l = some x) : x.length ≤ 140737488355328 := by
  unfold rOpen at h
  split at h
  · rename_i hc
    obtain rfl := Option.some.inj h
    have := hc.1
    rw [List.length_take]
    omega
  · cases h
theorem rList_len {α : Type} (rd : (List Nat × Bool) → α × (List Nat × Bool)) (most : Nat) (s : List Nat × Bool) : (rList rd most s).1.length ≤ most := by
  unfold rList
  split
  · simp
  · have := rL_len rd (num 2 s).1 (num 2 s).2
    omega
theorem oSn_big (l : List Nat) : (oSn (rSnap (l, false))).big = false := by
  unfold oSn
  split
  · rw [Sn.big_iff]
    unfold rSnap
    dsimp only
    exact ⟨rList_len rPane 4096 _, rList_len rOut 4096 _, rList_len (fun s => (i64of (num 8 s).1, (num 8 s).2)) 65535 _⟩
  · rfl
theorem rMan_short (l : List Nat) (hb : Byts l) : (if done (rMan (l, false)).2 then (rMan (l, false)).1 else ⟨0, 0, []⟩).ss.length ≤ 140737488355328 := by
  split
  · unfold rMan
    dsimp only
    have h1 := rListS_len (num 2 (num 8 (num 8 (l, false)).2).2).1 (num 2 (num 8 (num 8 (l, false)).2).2).2
    have h2 : (num 2 (num 8 (num 8 (l, false)).2).2).1 < 256 ^ 2 := num_lt (byts_num _ _ (byts_num _ _ hb))
    omega
  · simp

set_option maxHeartbeats 16000000 in
set_option maxRecDepth 100000 in
theorem CodecReads_walk (vb : Value) (l : List Nat) (w : World) (hs : Seg w vb l) (hbl : Byts l) (hg : Glob w) :
    Calls Tryd.prog 6 #[vb] w fun e w' => e = .returned (.bool true) ∧ Below w.heap.size w w' := by
  have HB := hide hs
  obtain ⟨ab, cb, rfl, b1, b2, b3, _⟩ := hs
  have q : LW w w := ⟨Below.refl _ _, hg⟩
  have hw0 := hg.1
  clear hg
  obtain ⟨⟨kd, ke, ti, va, ma, fn, ov⟩, fer, hF⟩ : ∃ (f : Frm) (er : Int), (if done (rFrame (l, false)).2 then #[(rFrame (l, false)).1.val, Value.int .i64 0] else #[Frm.zero.val, Value.int .i64 10]) = #[f.val, Value.int .i64 er] := by
    split
    · exact ⟨_, _, rfl⟩
    · exact ⟨_, _, rfl⟩
  have hFD := frame_same l
  rw [hF] at hFD
  simp only [Frm.val, Frm.cs] at hF hFD
  obtain ⟨⟨ckd, cep, cn, ctk⟩, cer, hC⟩ : ∃ (c : Ctl) (er : Int), (if done (rControl (l, false)).2 then #[(rControl (l, false)).1.val, Value.int .i64 0] else #[Ctl.zero.val, Value.int .i64 10]) = #[c.val, Value.int .i64 er] := by
    split
    · exact ⟨_, _, rfl⟩
    · exact ⟨_, _, rfl⟩
  have hCD := control_same l hbl
  rw [hC] at hCD
  simp only [Ctl.val, Ctl.cs] at hC hCD
  have KF := fun (v : Value) (W : World) (h : Seg W v l) => OpenFrame_any v l W h hbl
  have KFD := fun (v : Value) (W : World) (h : Seg W v l) => OpenFrameD_any v l W h hbl
  have KC := fun (v : Value) (W : World) (h : Seg W v l) => OpenControl_any v l W h hbl
  have KCD := fun (v : Value) (W : World) (h : Seg W v l) => OpenControlD_any v l W h hbl
  simp only [Frm.val, Frm.cs, Ctl.val, Ctl.cs] at KF KFD KC KCD
  rw [hF] at KF
  rw [hFD] at KFD
  rw [hC] at KC
  rw [hCD] at KCD
  have KS := fun (v : Value) (W : World) (h : Seg W v l) => OpenSnap_any v l W h hbl
  have KSD := fun (v : Value) (W : World) (h : Seg W v l) => OpenSnapD_any v l W h hbl
  obtain ⟨hs1, hs2⟩ := snap_same l hbl
  rw [hs1, hs2] at KSD
  have HBIG := hide (oSn_big l)
  generalize oSn (rSnap (l, false)) = sn at KS KSD HBIG
  generalize oEr (rSnap (l, false)) = ser at KS KSD
  have KM := fun (v : Value) (W : World) (h : Seg W v l) => (OpenManifest_any v l W h hbl).mono (fun e w' hp => hp.val)
  have KMD := fun (v : Value) (W : World) (h : Seg W v l) => (OpenManifestD_any v l W h hbl).mono (fun e w' hp => hp.val)
  have hmd : (if (rManD l).isSome then (rManD l).getD ⟨0, 0, []⟩ else ⟨0, 0, []⟩) = (if done (rMan (l, false)).2 then (rMan (l, false)).1 else ⟨0, 0, []⟩) ∧ (if (rManD l).isSome then (0 : Int) else 10) = if done (rMan (l, false)).2 then 0 else 10 := by
    rw [man_same]
    rcases Bool.eq_false_or_eq_true (done (rMan (l, false)).2) with x | x <;> rw [x] <;> exact ⟨rfl, rfl⟩
  rw [hmd.1, hmd.2] at KMD
  have HMS := hide (rMan_short l hbl)
  generalize (if done (rMan (l, false)).2 then (rMan (l, false)).1 else (⟨0, 0, []⟩ : Man)) = mm at KM KMD HMS
  generalize (if done (rMan (l, false)).2 then (0 : Int) else 10) = mer at KM KMD
  have KO := fun (v : Value) (W : World) (h : Seg W v l) (hg : Glob W) => (Open_any v l W h hbl hg).mono (fun e w' hp => hp.val (rOpen_len l))
  have KOD := fun (v : Value) (W : World) (h : Seg W v l) => (OpenD_any v l W h hbl).mono (fun e w' hp => hp.val (by rw [open_same]; exact rOpen_len l))
  rw [open_same] at KOD
  generalize (rOpen l).getD [] = ol at KO KOD
  generalize (if (rOpen l).isSome then 8 + (ol.length : Int) else 0) = on at KO KOD
  generalize (if (rOpen l).isSome then (0 : Int) else 11) = oer at KO KOD
  obtain ⟨mn, mep, mss⟩ := mm
  obtain ⟨sta, soff, smk, sms, sps, sos⟩ := sn
  have HKF := hide KF
  have HKFD := hide KFD
  have HKC := hide KC
  have HKCD := hide KCD
  have HKS := hide KS
  have HKSD := hide KSD
  have HKM := hide KM
  have HKMD := hide KMD
  have HKO := hide KO
  have HKOD := hide KOD
  clear hF hFD hC hCD hs1 hs2 hmd KF KFD KC KCD KS KSD KM KMD KO KOD
  go_enter Tryd.func6, Tryd.ntmps6
  go_wp2_with fail
  refine (known_any _ q.gl).mono ?_
  rintro e w1 ⟨rfl, hb⟩
  have q := q.step hb
  have HB := hide (HB.out.below hb)
  clear hb
  by_cases h6 : 6000 < l.length
  · have hfin := q.bel
    go_wp2
    go_ret
    exact ⟨rfl, hfin⟩
  go_wp2_with fail
  refine (Copy_any _ l w1 HB.out (by omega)).mono ?_
  rintro e w2 ⟨vin, rfl, ho, hb⟩
  have q := q.step hb
  have HB := hide (HB.out.below hb)
  have HI : Hid (Seg w2 vin l) := ho.seg (by omega)
  clear hb ho
  go_wp2_with fail
  refine (HKF.out _ _ HI.out).mono ?_
  rintro e w3 ⟨rfl, hb⟩
  have q := q.step hb
  have HB := hide (HB.out.below hb)
  have HI := hide (HI.out.below hb)
  clear hb
  have hb := (Below.refl w3.heap.size w3).alloc (Nat.le_refl _) (.cells #[.int .i64 kd, .int .i64 ke, .int .i64 ti, .int .i64 va, .int .i64 ma, .int .u64 fn, .bool ov] 26)
  have q := q.step hb
  have HB := hide (HB.out.below hb)
  have HI := hide (HI.out.below hb)
  have B1 := hide (BoxT.new 26 w3 #[.int .i64 kd, .int .i64 ke, .int .i64 ti, .int .i64 va, .int .i64 ma, .int .u64 fn, .bool ov])
  clear hb
  go_wp2_with fail
  refine (HKFD.out _ _ HB.out).mono ?_
  rintro e w4 ⟨rfl, hb⟩
  have q := q.step hb
  have HB := hide (HB.out.below hb)
  have HI := hide (HI.out.below hb)
  have B1 := hide (B1.out.kept (base := 0) (Kept.of_below hb) (by decide))
  clear hb
  have hb := (Below.refl w4.heap.size w4).alloc (Nat.le_refl _) (.cells #[.int .i64 kd, .int .i64 ke, .int .i64 ti, .int .i64 va, .int .i64 ma, .int .u64 fn, .bool ov] 26)
  have q := q.step hb
  have HB := hide (HB.out.below hb)
  have HI := hide (HI.out.below hb)
  have B1 := hide (B1.out.kept (base := 0) (Kept.of_below hb) (by decide))
  have B2 := hide (BoxT.new 26 w4 #[.int .i64 kd, .int .i64 ke, .int .i64 ti, .int .i64 va, .int .i64 ma, .int .u64 fn, .bool ov])
  clear hb
  go_wp2_with fail
  refine (HKC.out _ _ HI.out).mono ?_
  rintro e w5 ⟨rfl, hb⟩
  have q := q.step hb
  have HB := hide (HB.out.below hb)
  have HI := hide (HI.out.below hb)
  have B1 := hide (B1.out.kept (base := 0) (Kept.of_below hb) (by decide))
  have B2 := hide (B2.out.kept (base := 0) (Kept.of_below hb) (by decide))
  clear hb
  have hb := (Below.refl w5.heap.size w5).alloc (Nat.le_refl _) (.cells #[.int .i64 ckd, .int .u64 cep, .int .u64 cn, .int .i64 ctk] 28)
  have q := q.step hb
  have HB := hide (HB.out.below hb)
  have HI := hide (HI.out.below hb)
  have B1 := hide (B1.out.kept (base := 0) (Kept.of_below hb) (by decide))
  have B2 := hide (B2.out.kept (base := 0) (Kept.of_below hb) (by decide))
  have B3 := hide (BoxT.new 28 w5 #[.int .i64 ckd, .int .u64 cep, .int .u64 cn, .int .i64 ctk])
  clear hb
  go_wp2_with fail
  refine (HKCD.out _ _ HB.out).mono ?_
  rintro e w6 ⟨rfl, hb⟩
  have q := q.step hb
  have HB := hide (HB.out.below hb)
  have HI := hide (HI.out.below hb)
  have B1 := hide (B1.out.kept (base := 0) (Kept.of_below hb) (by decide))
  have B2 := hide (B2.out.kept (base := 0) (Kept.of_below hb) (by decide))
  have B3 := hide (B3.out.kept (base := 0) (Kept.of_below hb) (by decide))
  clear hb
  have hb := (Below.refl w6.heap.size w6).alloc (Nat.le_refl _) (.cells #[.int .i64 ckd, .int .u64 cep, .int .u64 cn, .int .i64 ctk] 28)
  have q := q.step hb
  have HB := hide (HB.out.below hb)
  have HI := hide (HI.out.below hb)
  have B1 := hide (B1.out.kept (base := 0) (Kept.of_below hb) (by decide))
  have B2 := hide (B2.out.kept (base := 0) (Kept.of_below hb) (by decide))
  have B3 := hide (B3.out.kept (base := 0) (Kept.of_below hb) (by decide))
  have B4 := hide (BoxT.new 28 w6 #[.int .i64 ckd, .int .u64 cep, .int .u64 cn, .int .i64 ctk])
  clear hb
  go_wp2_with fail
  refine (HKS.out _ _ HI.out).mono ?_
  rintro e w7 ⟨um, up, uc, rfl, hos, hb⟩
  have q := q.step hb
  have HB := hide (HB.out.below hb)
  have HI := hide (HI.out.below hb)
  have B1 := hide (B1.out.kept (base := 0) (Kept.of_below hb) (by decide))
  have B2 := hide (B2.out.kept (base := 0) (Kept.of_below hb) (by decide))
  have B3 := hide (B3.out.kept (base := 0) (Kept.of_below hb) (by decide))
  have B4 := hide (B4.out.kept (base := 0) (Kept.of_below hb) (by decide))
  obtain ⟨xm, xmc, hvm⟩ := hos.m.shape
  obtain ⟨xp, xpc, hvp⟩ := hos.p.shape
  obtain ⟨xc, xcc, hvc⟩ := hos.c.shape
  rw [hvm, hvp, hvc] at hos ⊢
  have S5 := hide hos
  clear hb hos hvm hvp hvc
  dsimp only at *
  have hb := (Below.refl w7.heap.size w7).alloc (Nat.le_refl _) (.cells #[.int .i64 sta, .int .i64 soff, .int .i64 smk, .slice xm sms.length xmc, .slice xp sps.length xpc, .slice xc sos.length xcc] 48)
  have q := q.step hb
  have HB := hide (HB.out.below hb)
  have HI := hide (HI.out.below hb)
  have B1 := hide (B1.out.kept (base := 0) (Kept.of_below hb) (by decide))
  have B2 := hide (B2.out.kept (base := 0) (Kept.of_below hb) (by decide))
  have B3 := hide (B3.out.kept (base := 0) (Kept.of_below hb) (by decide))
  have B4 := hide (B4.out.kept (base := 0) (Kept.of_below hb) (by decide))
  have S5 := hide (S5.out.below hb)
  have B5 := hide (BoxT.new 48 w7 #[.int .i64 sta, .int .i64 soff, .int .i64 smk, .slice xm sms.length xmc, .slice xp sps.length xpc, .slice xc sos.length xcc])
  clear hb
  go_wp2_with fail
  refine (HKSD.out _ _ HB.out).mono ?_
  rintro e w8 ⟨um, up, uc, rfl, hos, hb⟩
  have q := q.step hb
  have HB := hide (HB.out.below hb)
  have HI := hide (HI.out.below hb)
  have B1 := hide (B1.out.kept (base := 0) (Kept.of_below hb) (by decide))
  have B2 := hide (B2.out.kept (base := 0) (Kept.of_below hb) (by decide))
  have B3 := hide (B3.out.kept (base := 0) (Kept.of_below hb) (by decide))
  have B4 := hide (B4.out.kept (base := 0) (Kept.of_below hb) (by decide))
  have B5 := hide (B5.out.kept (base := 0) (Kept.of_below hb) (by decide))
  have S5 := hide (S5.out.below hb)
  obtain ⟨ym, ymc, hvm⟩ := hos.m.shape
  obtain ⟨yp, ypc, hvp⟩ := hos.p.shape
  obtain ⟨yc, ycc, hvc⟩ := hos.c.shape
  rw [hvm, hvp, hvc] at hos ⊢
  have S6 := hide hos
  clear hb hos hvm hvp hvc
  dsimp only at *
  have hb := (Below.refl w8.heap.size w8).alloc (Nat.le_refl _) (.cells #[.int .i64 sta, .int .i64 soff, .int .i64 smk, .slice ym sms.length ymc, .slice yp sps.length ypc, .slice yc sos.length ycc] 48)
  have q := q.step hb
  have HB := hide (HB.out.below hb)
  have HI := hide (HI.out.below hb)
  have B1 := hide (B1.out.kept (base := 0) (Kept.of_below hb) (by decide))
  have B2 := hide (B2.out.kept (base := 0) (Kept.of_below hb) (by decide))
  have B3 := hide (B3.out.kept (base := 0) (Kept.of_below hb) (by decide))
  have B4 := hide (B4.out.kept (base := 0) (Kept.of_below hb) (by decide))
  have B5 := hide (B5.out.kept (base := 0) (Kept.of_below hb) (by decide))
  have S5 := hide (S5.out.below hb)
  have S6 := hide (S6.out.below hb)
  have B6 := hide (BoxT.new 48 w8 #[.int .i64 sta, .int .i64 soff, .int .i64 smk, .slice ym sms.length ymc, .slice yp sps.length ypc, .slice yc sos.length ycc])
  clear hb
  go_wp2_with fail
  refine (HKM.out _ _ HI.out).mono ?_
  rintro e w9 ⟨um, rfl, hos, hb⟩
  have q := q.step hb
  have HB := hide (HB.out.below hb)
  have HI := hide (HI.out.below hb)
  have B1 := hide (B1.out.kept (base := 0) (Kept.of_below hb) (by decide))
  have B2 := hide (B2.out.kept (base := 0) (Kept.of_below hb) (by decide))
  have B3 := hide (B3.out.kept (base := 0) (Kept.of_below hb) (by decide))
  have B4 := hide (B4.out.kept (base := 0) (Kept.of_below hb) (by decide))
  have B5 := hide (B5.out.kept (base := 0) (Kept.of_below hb) (by decide))
  have B6 := hide (B6.out.kept (base := 0) (Kept.of_below hb) (by decide))
  have S5 := hide (S5.out.below hb)
  have S6 := hide (S6.out.below hb)
  obtain ⟨zm, zmc, hvm⟩ := hos.shape
  rw [hvm] at hos ⊢
  have S7 := hide hos
  clear hb hos hvm
  dsimp only at *
  have hb := (Below.refl w9.heap.size w9).alloc (Nat.le_refl _) (.cells #[.int .u64 mn, .int .u64 mep, .slice zm mss.length zmc] 57)
  have q := q.step hb
  have HB := hide (HB.out.below hb)
  have HI := hide (HI.out.below hb)
  have B1 := hide (B1.out.kept (base := 0) (Kept.of_below hb) (by decide))
  have B2 := hide (B2.out.kept (base := 0) (Kept.of_below hb) (by decide))
  have B3 := hide (B3.out.kept (base := 0) (Kept.of_below hb) (by decide))
  have B4 := hide (B4.out.kept (base := 0) (Kept.of_below hb) (by decide))
  have B5 := hide (B5.out.kept (base := 0) (Kept.of_below hb) (by decide))
  have B6 := hide (B6.out.kept (base := 0) (Kept.of_below hb) (by decide))
  have S5 := hide (S5.out.below hb)
  have S6 := hide (S6.out.below hb)
  have S7 := hide (S7.out.below hb)
  have B7 := hide (BoxT.new 57 w9 #[.int .u64 mn, .int .u64 mep, .slice zm mss.length zmc])
  clear hb
  go_wp2_with fail
  refine (HKMD.out _ _ HB.out).mono ?_
  rintro e w10 ⟨um, rfl, hos, hb⟩
  have q := q.step hb
  have HB := hide (HB.out.below hb)
  have HI := hide (HI.out.below hb)
  have B1 := hide (B1.out.kept (base := 0) (Kept.of_below hb) (by decide))
  have B2 := hide (B2.out.kept (base := 0) (Kept.of_below hb) (by decide))
  have B3 := hide (B3.out.kept (base := 0) (Kept.of_below hb) (by decide))
  have B4 := hide (B4.out.kept (base := 0) (Kept.of_below hb) (by decide))
  have B5 := hide (B5.out.kept (base := 0) (Kept.of_below hb) (by decide))
  have B6 := hide (B6.out.kept (base := 0) (Kept.of_below hb) (by decide))
  have B7 := hide (B7.out.kept (base := 0) (Kept.of_below hb) (by decide))
  have S5 := hide (S5.out.below hb)
  have S6 := hide (S6.out.below hb)
  have S7 := hide (S7.out.below hb)
  obtain ⟨tm, tmc, hvm⟩ := hos.shape
  rw [hvm] at hos ⊢
  have S8 := hide hos
  clear hb hos hvm
  dsimp only at *
  have hb := (Below.refl w10.heap.size w10).alloc (Nat.le_refl _) (.cells #[.int .u64 mn, .int .u64 mep, .slice tm mss.length tmc] 57)
  have q := q.step hb
  have HB := hide (HB.out.below hb)
  have HI := hide (HI.out.below hb)
  have B1 := hide (B1.out.kept (base := 0) (Kept.of_below hb) (by decide))
  have B2 := hide (B2.out.kept (base := 0) (Kept.of_below hb) (by decide))
  have B3 := hide (B3.out.kept (base := 0) (Kept.of_below hb) (by decide))
  have B4 := hide (B4.out.kept (base := 0) (Kept.of_below hb) (by decide))
  have B5 := hide (B5.out.kept (base := 0) (Kept.of_below hb) (by decide))
  have B6 := hide (B6.out.kept (base := 0) (Kept.of_below hb) (by decide))
  have B7 := hide (B7.out.kept (base := 0) (Kept.of_below hb) (by decide))
  have S5 := hide (S5.out.below hb)
  have S6 := hide (S6.out.below hb)
  have S7 := hide (S7.out.below hb)
  have S8 := hide (S8.out.below hb)
  have B8 := hide (BoxT.new 57 w10 #[.int .u64 mn, .int .u64 mep, .slice tm mss.length tmc])
  clear hb
  go_wp2_with fail
  refine (HKO.out _ _ HI.out q.gl).mono ?_
  rintro e w11 ⟨vo1, rfl, hso, hb⟩
  have q := q.step hb
  have HB := hide (HB.out.below hb)
  have HI := hide (HI.out.below hb)
  have B1 := hide (B1.out.kept (base := 0) (Kept.of_below hb) (by decide))
  have B2 := hide (B2.out.kept (base := 0) (Kept.of_below hb) (by decide))
  have B3 := hide (B3.out.kept (base := 0) (Kept.of_below hb) (by decide))
  have B4 := hide (B4.out.kept (base := 0) (Kept.of_below hb) (by decide))
  have B5 := hide (B5.out.kept (base := 0) (Kept.of_below hb) (by decide))
  have B6 := hide (B6.out.kept (base := 0) (Kept.of_below hb) (by decide))
  have B7 := hide (B7.out.kept (base := 0) (Kept.of_below hb) (by decide))
  have B8 := hide (B8.out.kept (base := 0) (Kept.of_below hb) (by decide))
  have S5 := hide (S5.out.below hb)
  have S6 := hide (S6.out.below hb)
  have S7 := hide (S7.out.below hb)
  have S8 := hide (S8.out.below hb)
  have O1 := hide hso
  clear hb hso
  go_wp2_with fail
  refine (HKOD.out _ _ HB.out).mono ?_
  rintro e w12 ⟨vo2, rfl, hso, hb⟩
  have q := q.step hb
  have HB := hide (HB.out.below hb)
  have HI := hide (HI.out.below hb)
  have O1 := hide (O1.out.below hb)
  have B1 := hide (B1.out.kept (base := 0) (Kept.of_below hb) (by decide))
  have B2 := hide (B2.out.kept (base := 0) (Kept.of_below hb) (by decide))
  have B3 := hide (B3.out.kept (base := 0) (Kept.of_below hb) (by decide))
  have B4 := hide (B4.out.kept (base := 0) (Kept.of_below hb) (by decide))
  have B5 := hide (B5.out.kept (base := 0) (Kept.of_below hb) (by decide))
  have B6 := hide (B6.out.kept (base := 0) (Kept.of_below hb) (by decide))
  have B7 := hide (B7.out.kept (base := 0) (Kept.of_below hb) (by decide))
  have B8 := hide (B8.out.kept (base := 0) (Kept.of_below hb) (by decide))
  have S5 := hide (S5.out.below hb)
  have S6 := hide (S6.out.below hb)
  have S7 := hide (S7.out.below hb)
  have S8 := hide (S8.out.below hb)
  have O2 := hide hso
  clear hb hso
  clear HKF HKFD HKC HKCD HKS HKSD HKM HKMD HKO HKOD
  obtain ⟨p0, p1, p2, p3, p4, p5, p6⟩ := B1.out.cells7
  obtain ⟨q0, q1, q2, q3, q4, q5, q6⟩ := B2.out.cells7
  obtain ⟨r0, r1, r2, r3⟩ := B3.out.cells4
  obtain ⟨s0, s1, s2, s3⟩ := B4.out.cells4
  obtain ⟨x50, x51, x52, x53, x54, x55⟩ := B5.out.cells6
  obtain ⟨x60, x61, x62, x63, x64, x65⟩ := B6.out.cells6
  have eq_kd : (kd == kd) = true := by simp
  have eq_ke : (ke == ke) = true := by simp
  have eq_ti : (ti == ti) = true := by simp
  have eq_va : (va == va) = true := by simp
  have eq_ma : (ma == ma) = true := by simp
  have eq_fn : (fn == fn) = true := by simp
  have eq_ov : (ov == ov) = true := by simp
  have eq_fer : (fer == fer) = true := by simp
  have eq_ckd : (ckd == ckd) = true := by simp
  have eq_cep : (cep == cep) = true := by simp
  have eq_cn : (cn == cn) = true := by simp
  have eq_ctk : (ctk == ctk) = true := by simp
  have eq_cer : (cer == cer) = true := by simp
  have eq_ser : (ser == ser) = true := by simp
  have eq_mer : (mer == mer) = true := by simp
  have eq_on : (on == on) = true := by simp
  have eq_oer : (oer == oer) = true := by simp
  go_wp2_with fail
  have hcall := @helpSnap_any decPn decOt decSn ⟨sta, soff, smk, sms, sps, sos⟩ ⟨sta, soff, smk, sms, sps, sos⟩ _ _ _ _ _ _ w12 (S5.out.seg HBIG.out (Nat.le_refl _)) (S6.out.seg HBIG.out (Nat.le_refl _))
  rw [@decide_eq_true _ (decSn _ _) rfl] at hcall
  refine hcall.mono ?_
  rintro e w13 ⟨rfl, hb⟩
  have q := q.step hb
  have HB := hide (HB.out.below hb)
  have HI := hide (HI.out.below hb)
  have O1 := hide (O1.out.below hb)
  have O2 := hide (O2.out.below hb)
  have B1 := hide (B1.out.kept (base := 0) (Kept.of_below hb) (by decide))
  have B2 := hide (B2.out.kept (base := 0) (Kept.of_below hb) (by decide))
  have B3 := hide (B3.out.kept (base := 0) (Kept.of_below hb) (by decide))
  have B4 := hide (B4.out.kept (base := 0) (Kept.of_below hb) (by decide))
  have B5 := hide (B5.out.kept (base := 0) (Kept.of_below hb) (by decide))
  have B6 := hide (B6.out.kept (base := 0) (Kept.of_below hb) (by decide))
  have B7 := hide (B7.out.kept (base := 0) (Kept.of_below hb) (by decide))
  have B8 := hide (B8.out.kept (base := 0) (Kept.of_below hb) (by decide))
  have S5 := hide (S5.out.below hb)
  have S6 := hide (S6.out.below hb)
  have S7 := hide (S7.out.below hb)
  have S8 := hide (S8.out.below hb)
  clear hb hcall p0 q0 p1 q1 p2 q2 p3 q3 p4 q4 p5 q5 p6 q6 r0 s0 r1 s1 r2 s2 r3 s3 x50 x60 x51 x61 x52 x62 x53 x63 x54 x64 x55 x65
  obtain ⟨p0, p1, p2⟩ := B7.out.cells3
  obtain ⟨q0, q1, q2⟩ := B8.out.cells3
  go_wp2_with fail
  refine (same_eq mn mep _ _ mss w13 (S7.out.sseg HMS.out (Nat.le_refl _)) (S8.out.sseg HMS.out (Nat.le_refl _))).mono ?_
  rintro e w14 ⟨rfl, hb⟩
  have q := q.step hb
  have HB := hide (HB.out.below hb)
  have HI := hide (HI.out.below hb)
  have O1 := hide (O1.out.below hb)
  have O2 := hide (O2.out.below hb)
  have B1 := hide (B1.out.kept (base := 0) (Kept.of_below hb) (by decide))
  have B2 := hide (B2.out.kept (base := 0) (Kept.of_below hb) (by decide))
  have B3 := hide (B3.out.kept (base := 0) (Kept.of_below hb) (by decide))
  have B4 := hide (B4.out.kept (base := 0) (Kept.of_below hb) (by decide))
  have B5 := hide (B5.out.kept (base := 0) (Kept.of_below hb) (by decide))
  have B6 := hide (B6.out.kept (base := 0) (Kept.of_below hb) (by decide))
  have B7 := hide (B7.out.kept (base := 0) (Kept.of_below hb) (by decide))
  have B8 := hide (B8.out.kept (base := 0) (Kept.of_below hb) (by decide))
  have S5 := hide (S5.out.below hb)
  have S6 := hide (S6.out.below hb)
  have S7 := hide (S7.out.below hb)
  have S8 := hide (S8.out.below hb)
  clear hb p0 p1 p2 q0 q1 q2
  go_wp2_with fail
  refine (Bytes_any vo1 vo2 _ _ w14 O1.out O2.out).mono ?_
  rw [decide_eq_true rfl]
  rintro e w15 ⟨rfl, hb⟩
  have q := q.step hb
  have HB := hide (HB.out.below hb)
  have HI := hide (HI.out.below hb)
  have O1 := hide (O1.out.below hb)
  have O2 := hide (O2.out.below hb)
  have B1 := hide (B1.out.kept (base := 0) (Kept.of_below hb) (by decide))
  have B2 := hide (B2.out.kept (base := 0) (Kept.of_below hb) (by decide))
  have B3 := hide (B3.out.kept (base := 0) (Kept.of_below hb) (by decide))
  have B4 := hide (B4.out.kept (base := 0) (Kept.of_below hb) (by decide))
  have B5 := hide (B5.out.kept (base := 0) (Kept.of_below hb) (by decide))
  have B6 := hide (B6.out.kept (base := 0) (Kept.of_below hb) (by decide))
  have B7 := hide (B7.out.kept (base := 0) (Kept.of_below hb) (by decide))
  have B8 := hide (B8.out.kept (base := 0) (Kept.of_below hb) (by decide))
  have S5 := hide (S5.out.below hb)
  have S6 := hide (S6.out.below hb)
  have S7 := hide (S7.out.below hb)
  have S8 := hide (S8.out.below hb)
  clear hb
  go_wp2_with fail
  refine (Bytes_any vin _ _ _ w15 HI.out HB.out).mono ?_
  rw [decide_eq_true rfl]
  rintro e w16 ⟨rfl, hb⟩
  have hfin := (q.step hb).bel
  clear hb
  go_wp2
  go_ret
  exact ⟨rfl, hfin⟩
end Go.Proofs.YtaajjejgjnlbgaaDoor
