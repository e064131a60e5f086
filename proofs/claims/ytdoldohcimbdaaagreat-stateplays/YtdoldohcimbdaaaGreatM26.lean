/-
  Texts in build order: SPut.
-/
import Derived.Test.YtdoldohcimbdaaaGreatM25
import Derived.Test.YtdoldohcimbdaaaGreatM17
/-
  spans, Put, New, Load.
-/
namespace Go.Proofs.YtdoldohcimbdaaaGreat
open Go.RowKit

/-- The spans that a time falls into; of a reduce the one. -/
def sps (kd size slide t : Int) : List Sp := if kd = 0 then [⟨-9223372036854775808, 2199023255553⟩] else pSpans kd size slide t
def frS (kd size slide ag : Int) (r : Rc) : List Pn := (sps kd size slide r.t).map fun sp => ⟨r.k, sp.f, sp.t, ad ag (zr ag) r.v⟩
theorem sps_len (kd size slide t : Int) : (sps kd size slide t).length ≤ 64 := by
  unfold sps
  split
  · simp
  · exact pSpans_len _ _ _ _
set_option maxHeartbeats 8000000 in
set_option maxRecDepth 100000 in
theorem sspans_any {w : World} {s m o : Nat} {kd size slide ag : Int} {fq : Nat → Prop} {M : List Pn} {R : List SRow} (h : StAt w s m o kd size slide ag fq M R) (hs : In64 size) (hl : In64 slide) (t : Int) :
    Calls Tryz.prog 27 #[.pointer (some ⟨s, 0, none⟩), .int .i64 t] w fun e w' => ∃ u, e = .returned u ∧ OwnL 68 2 Sp.cs w.heap.size w' u (sps kd size slide t) ∧ Below w.heap.size w w' := by
  obtain ⟨c0, c1, c2, _⟩ := h.cells
  have HR := hide (isReduce_any c0)
  have HSP := hide (Spans_any w kd t hs hl)
  clear h
  unfold sps
  by_cases hk : kd = 0
  · rw [if_pos hk]
    subst hk
    have ho : OwnL 68 2 Sp.cs w.heap.size (w.alloc (.cells (Sp.cs ⟨-9223372036854775808, 2199023255553⟩).toArray 68)) (.slice (some ⟨w.heap.size, 0, none⟩) 1 1) [⟨-9223372036854775808, 2199023255553⟩] := own_one _ rfl rfl (Nat.le_refl _)
    have HO := hide ho
    clear ho
    go_enter Tryz.func27, Tryz.ntmps27
    go_wp2_with (first | (go_at_call 34; refine HR.out.mono ?_; rintro e w1 ⟨rfl, rfl⟩) | fail)
    go_ret
    exact ⟨_, rfl, HO.out, below_box w1 _⟩
  · rw [if_neg hk]
    have hk' : (kd == 0) = false := by simpa using hk
    rw [hk'] at HR
    go_enter Tryz.func27, Tryz.ntmps27
    go_wp2_with (first | (go_at_call 34; refine HR.out.mono ?_; rintro e w1 ⟨rfl, rfl⟩) | (go_at_call 50; refine HSP.out.mono ?_; rintro e w2 ⟨u, rfl, o2, b2⟩) | fail)
    go_ret
    exact ⟨u, rfl, o2, b2⟩
def P1 (s K : Nat) (ag v : Int) (w' : World) : Prop := w'.cell? ⟨s, 3, none⟩ = some (.int .i64 ag) ∧ w'.cell? ⟨K, 2, none⟩ = some (.int .i64 v)
/-- What Put has under way. -/
structure PI (w wr : World) (s m o : Nat) (kd size slide ag : Int) (fq fq' : Nat → Prop) (M' : List Pn) (R' : List SRow) (r : Rc) (u : Value) (ss : List Sp) : Prop where
  st : StAt wr s m o kd size slide ag fq' M' R'
  ft : FT (FP s m fq) (FP s m fq') w wr
  bx : BoxT 39 wr w.heap.size #[.int .i64 r.k, .int .i64 r.t, .int .i64 r.v]
  row : OwnL 68 2 Sp.cs (w.heap.size + 1) wr u ss
  n1 : ¬ FP s m fq' w.heap.size
  n2 : ∀ g, u.ownBlock = some g → ¬ FP s m fq' g
theorem PI.step {w wr w' : World} {s m o : Nat} {kd size slide ag : Int} {fq fq' fq'' : Nat → Prop} {M' M'' : List Pn} {R' R'' : List SRow} {r : Rc} {u : Value} {ss : List Sp} {W : World} (h : PI w wr s m o kd size slide ag fq fq' M' R' r u ss) (hb : Below wr.heap.size wr W) (hst : StAt w' s m o kd size slide ag fq'' M'' R'') (hft : FT (FP s m fq') (FP s m fq'') W w') : PI w w' s m o kd size slide ag fq fq'' M'' R'' r u ss := by
  have hl := h.bx.lt
  have sz := hb.size
  have keep : ∀ g, g < wr.heap.size → ¬ FP s m fq' g → w'.heap[g]? = wr.heap[g]? := fun g hg hn => (hft.block g (by omega) hn).trans (hb.block g hg)
  have nn : ∀ g, g < wr.heap.size → ¬ FP s m fq' g → ¬ FP s m fq'' g := fun g hg hn e => by
    rcases hft.sub g e with e | e
    · exact hn e
    · omega
  refine ⟨hst, (h.ft.trans (FT.of_below hb)).trans hft, ?_, h.row.back (fun g e => keep g (h.row.lt g e) (h.n2 g e)), nn _ hl h.n1, fun g e => nn g (h.row.lt g e) (h.n2 g e)⟩
  have h1 := h.bx
  have h2 := keep _ hl h.n1
  unfold BoxT at *
  rw [h2]; exact h1
def PPost (w : World) (s m o : Nat) (kd size slide ag : Int) (fq : Nat → Prop) (M : List Pn) (r : Rc) (e : Ending) (w' : World) : Prop := e = .returned (.tuple #[]) ∧ ∃ fq' M' R', StAt w' s m o kd size slide ag fq' M' R' ∧ FT (FP s m fq) (FP s m fq') w w' ∧ Comes (sess kd) (jn ag) (frS kd size slide ag r ++ M) M'
theorem take_map_snoc {l : List Sp} {i : Nat} {x : Sp} (h : l[i]? = some x) (g : Sp → Pn) : ((l.take (i + 1)).map g) = (l.take i).map g ++ [g x] := by
  have hl := lt_of_get h
  have e : l[i] = x := by rw [List.getElem?_eq_getElem hl] at h; exact Option.some.inj h
  rw [List.take_succ_eq_append_getElem hl, e, List.map_append]; rfl
set_option maxHeartbeats 8000000 in
set_option maxRecDepth 100000 in
theorem Put_st {w : World} {s m o : Nat} {kd size slide ag : Int} {fq : Nat → Prop} {M : List Pn} {R : List SRow} (h : StAt w s m o kd size slide ag fq M R) (hs : In64 size) (hl : In64 slide) (r : Rc) (hrk : In64 r.k) (hrv : In64 r.v) (hsp : ∀ sp ∈ sps kd size slide r.t, In64 sp.f ∧ In64 sp.t ∧ (kd = 3 → sp.f < sp.t)) (hM : M.length ≤ 90000) (hap : Apart (sess kd) M) :
    Calls Tryz.prog 10 #[.pointer (some ⟨s, 0, none⟩), .agg #[.int .i64 r.k, .int .i64 r.t, .int .i64 r.v]] w (PPost w s m o kd size slide ag fq M r) := by
  obtain ⟨rk, rt, rv⟩ := r
  simp only at hrk hrv hsp
  have hb1 := below_box w (.cells #[.int .i64 rk, .int .i64 rt, .int .i64 rv] 39)
  obtain ⟨W1, hW1⟩ : ∃ W1, W1 = w.alloc (.cells #[.int .i64 rk, .int .i64 rt, .int .i64 rv] 39) := ⟨_, rfl⟩
  rw [← hW1] at hb1
  have hs1 : W1.heap.size = w.heap.size + 1 := by rw [hW1]; simp
  have hr1 : BoxT 39 W1 w.heap.size #[.int .i64 rk, .int .i64 rt, .int .i64 rv] := by rw [hW1]; exact BoxT.new _ _ _
  have h1 := h.below (fun i hi => hb1.block i (h.flt i hi)) hb1.size
  have HK : Hid (∀ w', Below W1.heap.size W1 w' → P1 s w.heap.size ag rv w') := fun w' hb => ⟨by rw [(BoxT.below (t := 76) h1.box hb).cellAt]; rfl, by rw [(BoxT.below (t := 39) hr1 hb).cellAt]; rfl⟩
  have HZ : Hid (∀ w', Below W1.heap.size W1 w' → Calls Tryz.prog 26 #[.int .i64 ag] w' fun e w'' => e = .returned (.int .i64 (zr ag)) ∧ Below W1.heap.size W1 w'') := fun w' hb => (Zero_any w' ag).mono (by rintro e w'' ⟨rfl, h2⟩; exact ⟨rfl, hb.trans (h2.mono hb.size)⟩)
  have HAD : Hid (∀ w', Below W1.heap.size W1 w' → Calls Tryz.prog 25 #[.int .i64 ag, .int .i64 (zr ag), .int .i64 rv] w' fun e w'' => e = .returned (.int .i64 (ad ag (zr ag) rv)) ∧ Below W1.heap.size W1 w'') := fun w' hb => (Add_any w' ag (zr ag) rv).mono (by rintro e w'' ⟨rfl, h2⟩; exact ⟨rfl, hb.trans (h2.mono hb.size)⟩)
  have HSPA : Hid (∀ w', Below W1.heap.size W1 w' → Calls Tryz.prog 27 #[.pointer (some ⟨s, 0, none⟩), .int .i64 rt] w' fun e w'' => ∃ u, e = .returned u ∧ OwnL 68 2 Sp.cs w'.heap.size w'' u (sps kd size slide rt) ∧ Below w'.heap.size w' w'') := fun w' hb => sspans_any (h1.below (fun i hi => hb.block i (h1.flt i hi)) hb.size) hs hl rt
  have HH := hide h
  have H1 := hide h1
  have HR1 := hide hr1
  have HB1 := hide hb1
  have HSZ := hide hs1
  have HIN : Hid (In64 (ad ag (zr ag) rv)) := ad_in (zr_in ag) hrv
  have HSI := hide hsp
  have HSL := hide (sps_len kd size slide rt)
  have HFR : Hid (frS kd size slide ag ⟨rk, rt, rv⟩ = (sps kd size slide rt).map fun sp => ⟨rk, sp.f, sp.t, ad ag (zr ag) rv⟩) := rfl
  have HAP := hide hap
  generalize ad ag (zr ag) rv = V at *
  generalize zr ag = Z at *
  clear h h1 hr1 hb1 hs1 hsp hap
  go_enter Tryz.func10, Tryz.ntmps10
  go_upto_region 1 with fail
  rw [← hW1]
  clear hW1
  refine wp_region_M (S := fun w' => P1 s w.heap.size ag rv w') (late := []) (by kernel_rfl) (HK.out _ (Below.refl _ _).drew) (fun hHeld => ?_)
  (try simp only [List.size_toArray, List.length_cons, List.length_nil, Nat.zero_add, Nat.reduceAdd, Array.replicate, List.replicate])
  refine wpAnyM_take (i := 0) (oi := ⟨_, _, _, _, _, _⟩) (v := ?_) rfl (by kernel_rfl) (by kernel_rfl) (by kernel_rfl) (by kernel_rfl) (fun _ _ _ h => h) (Or.inl ⟨by rfl, ?_⟩) hHeld ?_
  rotate_left
  · (intro w' hSw; unfold P1 at hSw; go_simp; try (with_reducible rfl))
  (try simp only [Act.put, List.setIfInBounds_toArray, List.set_cons_zero, List.set_cons_succ])
  refine wpAnyM_take (i := 1) (oi := ⟨_, _, _, _, _, _⟩) (v := ?_) rfl (by kernel_rfl) (by kernel_rfl) (by kernel_rfl) (by kernel_rfl) (fun _ _ _ h => h) (Or.inl ⟨by rfl, ?_⟩) hHeld ?_
  rotate_left
  · (intro w' hSw; unfold P1 at hSw; go_simp; try (with_reducible rfl))
  (try simp only [Act.put, List.setIfInBounds_toArray, List.set_cons_zero, List.set_cons_succ])
  refine wpAnyM_take (i := 2) (oi := ⟨_, _, _, _, _, _⟩) (v := ?_) rfl (by kernel_rfl) (by kernel_rfl) (by kernel_rfl) (by kernel_rfl) (fun _ _ _ h => h) (Or.inl ⟨by rfl, ?_⟩) hHeld ?_
  rotate_left
  · (intro w' hSw; unfold P1 at hSw; go_simp; try (with_reducible rfl))
  (try simp only [Act.put, List.setIfInBounds_toArray, List.set_cons_zero, List.set_cons_succ])
  refine wpAnyM_take (i := 3) (oi := ⟨_, _, _, _, _, _⟩) (v := ?_) rfl (by kernel_rfl) (by kernel_rfl) (by kernel_rfl) (by kernel_rfl) (fun _ _ _ h => h) (Or.inl ⟨by rfl, ?_⟩) hHeld ?_
  rotate_left
  · (intro w' hSw; unfold P1 at hSw; go_simp; try (with_reducible rfl))
  (try simp only [Act.put, List.setIfInBounds_toArray, List.set_cons_zero, List.set_cons_succ])
  refine wpAnyM_take (i := 4) (oi := ⟨_, _, _, _, _, _⟩) (v := ?_) rfl (by kernel_rfl) (by kernel_rfl) (by kernel_rfl) (by kernel_rfl) (fun _ _ _ h => h) (Or.inl ⟨by rfl, ?_⟩) hHeld ?_
  rotate_left
  · (intro w' hSw; unfold P1 at hSw; go_simp; try (with_reducible rfl))
  (try simp only [Act.put, List.setIfInBounds_toArray, List.set_cons_zero, List.set_cons_succ])
  refine wpAnyM_take (i := 5) (oi := ⟨_, _, _, _, _, _⟩) (v := ?_) rfl (by kernel_rfl) (by kernel_rfl) (by kernel_rfl) (by kernel_rfl) (fun _ _ _ h => h) (Or.inl ⟨by rfl, ?_⟩) hHeld ?_
  rotate_left
  · (intro w' hSw; unfold P1 at hSw; go_simp; try (with_reducible rfl))
  (try simp only [Act.put, List.setIfInBounds_toArray, List.set_cons_zero, List.set_cons_succ])
  refine wpAnyM_take (i := 6) (oi := ⟨_, _, _, _, _, _⟩) (v := ?_) rfl (by kernel_rfl) (by kernel_rfl) (by kernel_rfl) (by kernel_rfl) (fun _ _ _ h => h) (Or.inl ⟨by rfl, ?_⟩) hHeld ?_
  rotate_left
  · (intro w' hSw; unfold P1 at hSw; go_simp; try (with_reducible rfl))
  (try simp only [Act.put, List.setIfInBounds_toArray, List.set_cons_zero, List.set_cons_succ])
  refine wpAnyM_take (i := 7) (oi := ⟨_, _, _, _, _, _⟩) (v := ?_) rfl (by kernel_rfl) (by kernel_rfl) (by kernel_rfl) (by kernel_rfl) (fun _ _ _ h => h) (Or.inl ⟨by rfl, ?_⟩) hHeld ?_
  rotate_left
  · (intro w' hSw; unfold P1 at hSw; go_simp; try (with_reducible rfl))
  (try simp only [Act.put, List.setIfInBounds_toArray, List.set_cons_zero, List.set_cons_succ])
  refine wpAnyM_take (i := 9) (oi := ⟨_, _, _, _, _, _⟩) (v := ?_) rfl (by kernel_rfl) (by kernel_rfl) (by kernel_rfl) (by kernel_rfl) (fun _ _ _ h => h) (Or.inl ⟨by rfl, ?_⟩) hHeld ?_
  rotate_left
  · (intro w' hSw; unfold P1 at hSw; go_simp; try (with_reducible rfl))
  (try simp only [Act.put, List.setIfInBounds_toArray, List.set_cons_zero, List.set_cons_succ])
  refine wpAnyM_take (i := 10) (oi := ⟨_, _, _, _, _, _⟩) (v := ?_) rfl (by kernel_rfl) (by kernel_rfl) (by kernel_rfl) (by kernel_rfl) (fun _ _ _ h => h) (Or.inl ⟨by rfl, ?_⟩) hHeld ?_
  rotate_left
  · (intro w' hSw; unfold P1 at hSw; go_simp; try (with_reducible rfl))
  (try simp only [Act.put, List.setIfInBounds_toArray, List.set_cons_zero, List.set_cons_succ])
  refine wpAnyM_one (i := 8) (o := ⟨_, _, _, _, _, _⟩) (by kernel_rfl) rfl (fun K hK => ?_)
  go_simp
  go_at_call 26
  refine (HZ.out _ (Below.refl _ _).drew).mono ?_
  rintro e w2 ⟨rfl, b2⟩
  have B2 := hide b2
  refine hK.out _ _ (HK.out _ b2) (fun hHeld => ?_)
  clear hK K b2
  (try simp only [List.setIfInBounds_toArray, List.set_cons_zero, List.set_cons_succ])
  refine wpAnyM_one (i := 11) (o := ⟨_, _, _, _, _, _⟩) (by kernel_rfl) rfl (fun K hK => ?_)
  go_simp
  go_at_call 25
  refine (HAD.out _ B2.out).mono ?_
  rintro e w3 ⟨rfl, b3⟩
  have B3 := hide b3
  refine hK.out _ _ (HK.out _ b3) (fun hHeld => ?_)
  clear hK K b3
  (try simp only [List.setIfInBounds_toArray, List.set_cons_zero, List.set_cons_succ])
  refine wpAnyM_take (i := 12) (oi := ⟨_, _, _, _, _, _⟩) (v := ?_) rfl (by kernel_rfl) (by kernel_rfl) (by kernel_rfl) (by kernel_rfl) (fun _ _ _ h => h) (Or.inl ⟨by rfl, ?_⟩) hHeld ?_
  rotate_left
  · (intro w' hSw; unfold P1 at hSw; go_simp; try (with_reducible rfl))
  (try simp only [Act.put, List.setIfInBounds_toArray, List.set_cons_zero, List.set_cons_succ])
  refine wpAnyM_done (by kernel_rfl) ?_ _
  clear hHeld
  have HS3 := hide (HSPA.out _ B3.out)
  obtain ⟨r0, r1, r2⟩ := (BoxT.below (t := 39) HR1.out B3.out).cells3
  go_wp2_with (first | (go_at_call 27; refine HS3.out.mono ?_; rintro e w4 ⟨u, rfl, o4, b4⟩; obtain ⟨ua, uc, rfl⟩ := o4.shape; have O4 := hide o4; have B4 := hide (B3.out.trans (b4.mono B3.out.size)); clear o4 b4) | fail)
  have HI : Hid (PI w w4 s m o kd size slide ag fq fq M R ⟨rk, rt, rv⟩ (.slice ua (sps kd size slide rt).length uc) (sps kd size slide rt)) := by
    have hbw := HB1.out.trans (B4.out.mono HB1.out.size)
    have hsz3 := B3.out.size
    have hfl := HH.out.flt
    refine ⟨HH.out.below (fun i hi => hbw.block i (hfl i hi)) hbw.size, FT.of_below hbw, BoxT.below (t := 39) HR1.out B4.out, O4.out.mono (by have := HSZ.out; omega), fun e => by have := hfl _ e; omega, fun g e e2 => ?_⟩
    have h1 := O4.out.at g e
    have h2 := hfl g e2
    have := HSZ.out
    omega
  generalize hSS : sps kd size slide rt = SS at *
  clear hSS r0 r1 r2 HS3
  go_loopg [24] (SS.length + 1) (fun gh iv wr => ∃ (i : Nat) (fq' : Nat → Prop) (M' : List Pn) (R' : List SRow), iv = .int .i64 (i : Int) ∧ i ≤ SS.length ∧ SS.length + 1 ≤ gh + i ∧ Hid (PI w wr s m o kd size slide ag fq fq' M' R' ⟨rk, rt, rv⟩ (.slice ua SS.length uc) SS) ∧ Hid (Comes (sess kd) (jn ag) ((SS.take i).map (fun sp => ⟨rk, sp.f, sp.t, V⟩) ++ M) M'))
  case atStart => exact ⟨0, fq, M, R, rfl, by omega, by omega, HI, (show Comes _ _ _ _ from Comes.refl HAP.out)⟩
  case round =>
    clear HI
    obtain ⟨i, fq', M', R', rfl, hi, hg, HP, HC⟩ := hrel
    obtain ⟨go, rfl⟩ : ∃ go, gk = go + 1 := ⟨gk - 1, by omega⟩
    have hs64 := HSL.out
    by_cases hlt : i < SS.length
    · obtain ⟨sp, hx⟩ := get_of_lt hlt
      have bt : (i : Int) < (SS.length : Int) := by omega
      obtain ⟨nb, no, rfl, nlt, e0, e1⟩ := (HP.out.row.seg Sp.cs_len (by have := HSL.out; omega)).span hx
      have hin := HSI.out sp (List.mem_of_getElem? hx)
      have HTS := hide (take_map_snoc hx (fun sp => (⟨rk, sp.f, sp.t, V⟩ : Pn)))
      obtain ⟨xf, xt⟩ := sp
      simp only at e0 e1 hin
      obtain ⟨r0, r1, r2⟩ := HP.out.bx.cells3
      have hbx := below_box wr (.cells #[.int .i64 xf, .int .i64 xt] 68)
      have hst := HP.out.st.below (fun i hi => hbx.block i (HP.out.st.flt i hi)) hbx.size
      have hml : M'.length ≤ 100000 := by
        have h1 := HC.out.1.len
        rw [List.length_append, List.length_map, List.length_take] at h1
        have := HSL.out
        omega
      have HLA := hide (lay_any hst (k := rk) (f := xf) (t := xt) (c := V) ⟨hrk, hin.1, hin.2.1, HIN.out⟩ hin.2.2 hml)
      have HBX := hide hbx
      have r0' := cell_alloc r0 (.cells #[.int .i64 xf, .int .i64 xt] 68)
      clear hbx hst hml hx hin
      go_wp2_with (first | (go_at_call 28; refine HLA.out.mono ?_; rintro e w5 ⟨rfl, fq'', M'', R'', st5, ft5, c5⟩; have H5 := hide (HP.out.step HBX.out st5 ft5); have C5 := hide c5; clear st5 ft5 c5) | fail)
      go_roundg go
      case rel =>
        refine ⟨i + 1, fq'', M'', R'', by go_num, by omega, by omega, H5, (show Comes _ _ _ _ from ?_)⟩
        rw [HTS.out, List.append_assoc]
        have h6 := Comes.step (q := [⟨rk, xf, xt, V⟩]) HC.out C5.out
        exact h6.perm (by rw [List.cons_append, List.nil_append, List.cons_append, List.nil_append]; exact List.perm_middle.symm) (.refl _)
      case measure => omega
    · obtain rfl : i = SS.length := by omega
      have bt : ¬ ((SS.length : Nat) : Int) < (SS.length : Int) := by omega
      go_wp2_with fail
      go_end0
      refine ⟨rfl, fq', M', R', HP.out.st, HP.out.ft, ?_⟩
      have h6 := HC.out
      rw [List.take_of_length_le (Nat.le_refl _)] at h6
      rw [HFR.out]; exact h6
def APost (w : World) (s : Nat) (kd size slide ag : Int) (fp : Nat → Prop) (L : List Pn) (w' : World) : Prop := ∃ fp' M', SA w' s kd size slide ag fp' M' ∧ FT fp fp' w w' ∧ Comes (sess kd) (jn ag) L M'
theorem FT.congr {fp fp' fq fq' : Nat → Prop} {w w' : World} (h : FT fq fq' w w') (h1 : ∀ i, fp i ↔ fq i) (h2 : ∀ i, fp' i ↔ fq' i) : FT fp fp' w w' :=
  ⟨h.os, h.tape, h.output, h.size, fun i hi hn => h.block i hi (fun e => hn ((h1 i).2 e)), fun i hi => by
    rcases h.sub i ((h2 i).1 hi) with e | e
    · exact .inl ((h1 i).2 e)
    · exact .inr e⟩
theorem SA.places {w : World} {s : Nat} {kd size slide ag : Int} {fp : Nat → Prop} {M : List Pn} (h : SA w s kd size slide ag fp M) : Places M := by
  obtain ⟨m, o, fq, R, h, _⟩ := h
  exact places_of h.mp
theorem Put_any {w : World} {s : Nat} {kd size slide ag : Int} {fp : Nat → Prop} {M : List Pn} (h : SA w s kd size slide ag fp M) (hs : In64 size) (hl : In64 slide) (r : Rc) (hrk : In64 r.k) (hrv : In64 r.v) (hsp : ∀ sp ∈ sps kd size slide r.t, In64 sp.f ∧ In64 sp.t ∧ (kd = 3 → sp.f < sp.t)) (hM : M.length ≤ 90000) (hap : Apart (sess kd) M) :
    Calls Tryz.prog 10 #[.pointer (some ⟨s, 0, none⟩), .agg #[.int .i64 r.k, .int .i64 r.t, .int .i64 r.v]] w fun e w' => e = .returned (.tuple #[]) ∧ APost w s kd size slide ag fp (frS kd size slide ag r ++ M) w' := by
  obtain ⟨m, o, fq, R, h, hf⟩ := h
  refine (Put_st h hs hl r hrk hrv hsp hM hap).mono ?_
  rintro e w' ⟨rfl, fq', M', R', h1, h2, h3⟩
  exact ⟨rfl, FP s m fq', M', ⟨m, o, fq', R', h1, fun _ => Iff.rfl⟩, h2.congr hf (fun _ => Iff.rfl), h3⟩
end Go.Proofs.YtdoldohcimbdaaaGreat
