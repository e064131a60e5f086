/-
  Put, Load and Open of whatever comes: a state is left behind.
-/
import Derived.Test.YtdoldohcimbdaaaSLayW
namespace Go.Proofs.Ytdoldohcimbdaaa
open Go.RowKit

def PWPost (w : World) (s m o : Nat) (kd size slide ag : Int) (fq : Nat → Prop) (M : List Pn) (e : Ending) (w' : World) : Prop := e = .returned (.tuple #[]) ∧ ∃ fq' M' R', StAt w' s m o kd size slide ag fq' M' R' ∧ FT (FP s m fq) (FP s m fq') w w' ∧ M'.length ≤ M.length + 64
def WAPost (w : World) (s : Nat) (kd size slide ag : Int) (fp : Nat → Prop) (n : Nat) (w' : World) : Prop := ∃ fp' M', SA w' s kd size slide ag fp' M' ∧ FT fp fp' w w' ∧ M'.length ≤ n
def OWPost (w : World) (kd size slide ag : Int) (l : List Nat) (e : Ending) (w' : World) : Prop := Below w.heap.size w w' ∧
  (e = .returned (.tuple #[.pointer none, .int .i64 120]) ∨
    (∃ s fp M, e = .returned (.tuple #[.pointer (some ⟨s, 0, none⟩), .int .i64 0]) ∧ SA w' s kd size slide ag fp M ∧ (∀ i, fp i → w.heap.size ≤ i) ∧ wrB (srt M) = l))
set_option maxHeartbeats 8000000 in
set_option maxRecDepth 100000 in
theorem PutW_st {w : World} {s m o : Nat} {kd size slide ag : Int} {fq : Nat → Prop} {M : List Pn} {R : List SRow} (h : StAt w s m o kd size slide ag fq M R) (hs : In64 size) (hl : In64 slide) (r : Rc) (hrk : In64 r.k) (hrv : In64 r.v) (hsp : ∀ sp ∈ sps kd size slide r.t, In64 sp.f ∧ In64 sp.t) (hM : M.length ≤ 90000) :
    Calls Try.prog 13 #[.pointer (some ⟨s, 0, none⟩), .agg #[.int .i64 r.k, .int .i64 r.t, .int .i64 r.v]] w (PWPost w s m o kd size slide ag fq M) := by
  obtain ⟨rk, rt, rv⟩ := r
  simp only at hrk hrv hsp
  have hb1 := below_box w (.cells #[.int .i64 rk, .int .i64 rt, .int .i64 rv] 31)
  obtain ⟨W1, hW1⟩ : ∃ W1, W1 = w.alloc (.cells #[.int .i64 rk, .int .i64 rt, .int .i64 rv] 31) := ⟨_, rfl⟩
  rw [← hW1] at hb1
  have hs1 : W1.heap.size = w.heap.size + 1 := by rw [hW1]; simp
  have hr1 : BoxT 31 W1 w.heap.size #[.int .i64 rk, .int .i64 rt, .int .i64 rv] := by rw [hW1]; exact BoxT.new _ _ _
  have h1 := h.below (fun i hi => hb1.block i (h.flt i hi)) hb1.size
  have HK : Hid (∀ w', Below W1.heap.size W1 w' → P1 s w.heap.size ag rv w') := fun w' hb => ⟨by rw [(BoxT.below (t := 67) h1.box hb).cellAt]; rfl, by rw [(BoxT.below (t := 31) hr1 hb).cellAt]; rfl⟩
  have HZ : Hid (∀ w', Below W1.heap.size W1 w' → Calls Try.prog 30 #[.int .i64 ag] w' fun e w'' => e = .returned (.int .i64 (zr ag)) ∧ Below W1.heap.size W1 w'') := fun w' hb => (Zero_any w' ag).mono (by rintro e w'' ⟨rfl, h2⟩; exact ⟨rfl, hb.trans (h2.mono hb.size)⟩)
  have HAD : Hid (∀ w', Below W1.heap.size W1 w' → Calls Try.prog 29 #[.int .i64 ag, .int .i64 (zr ag), .int .i64 rv] w' fun e w'' => e = .returned (.int .i64 (ad ag (zr ag) rv)) ∧ Below W1.heap.size W1 w'') := fun w' hb => (Add_any w' ag (zr ag) rv).mono (by rintro e w'' ⟨rfl, h2⟩; exact ⟨rfl, hb.trans (h2.mono hb.size)⟩)
  have HSPA : Hid (∀ w', Below W1.heap.size W1 w' → Calls Try.prog 31 #[.pointer (some ⟨s, 0, none⟩), .int .i64 rt] w' fun e w'' => ∃ u, e = .returned u ∧ OwnL 41 2 Sp.cs w'.heap.size w'' u (sps kd size slide rt) ∧ Below w'.heap.size w' w'') := fun w' hb => sspans_any (h1.below (fun i hi => hb.block i (h1.flt i hi)) hb.size) hs hl rt
  have HH := hide h
  have H1 := hide h1
  have HR1 := hide hr1
  have HB1 := hide hb1
  have HSZ := hide hs1
  have HIN : Hid (In64 (ad ag (zr ag) rv)) := ad_in (zr_in ag) hrv
  have HSI := hide hsp
  have HSL := hide (sps_len kd size slide rt)
  generalize ad ag (zr ag) rv = V at *
  generalize zr ag = Z at *
  clear h h1 hr1 hb1 hs1 hsp
  go_enter Try.func13, Try.ntmps13
  go_upto_region 1 with fail
  rw [← hW1]
  clear hW1
  refine wp_region_M (S := fun w' => P1 s w.heap.size ag rv w') (late := []) (by kernel_rfl) (HK.out _ (Below.refl _ _).drew) (fun hHeld => ?_)
  (try simp only [List.size_toArray, List.length_cons, List.length_nil, Nat.zero_add, Nat.reduceAdd, Array.replicate, List.replicate])
  refine wpAnyM_take (i := 0) (oi := ⟨_, _, _, _, _, _⟩) (v := ?_) rfl (by kernel_rfl) (by kernel_rfl) (by kernel_rfl) (by kernel_rfl) (fun _ _ _ h => h) (Or.inl ⟨by rfl, ?_⟩) hHeld ?_
  rotate_left
  · (intro w' hSw; unfold P1 at hSw; go_simp; try (with_reducible rfl))
  (try simp only [Act.put, List.setIfInBounds_toArray, List.set_cons_zero, List.set_cons_succ])
  refine wpAnyM_take (i := 1) (oi := ⟨_, _, _, _, _, _⟩) (v := ?_) rfl (by kernel_rfl) (by kernel_rfl) (by kernel_rfl) (by kernel_rfl) (fun _ _ _ h => h) (Or.inl ⟨by rfl, ?_⟩) hHeld ?_
  rotate_left
  · (intro w' hSw; unfold P1 at hSw; go_simp; try (with_reducible rfl))
  (try simp only [Act.put, List.setIfInBounds_toArray, List.set_cons_zero, List.set_cons_succ])
  refine wpAnyM_take (i := 2) (oi := ⟨_, _, _, _, _, _⟩) (v := ?_) rfl (by kernel_rfl) (by kernel_rfl) (by kernel_rfl) (by kernel_rfl) (fun _ _ _ h => h) (Or.inl ⟨by rfl, ?_⟩) hHeld ?_
  rotate_left
  · (intro w' hSw; unfold P1 at hSw; go_simp; try (with_reducible rfl))
  (try simp only [Act.put, List.setIfInBounds_toArray, List.set_cons_zero, List.set_cons_succ])
  refine wpAnyM_take (i := 3) (oi := ⟨_, _, _, _, _, _⟩) (v := ?_) rfl (by kernel_rfl) (by kernel_rfl) (by kernel_rfl) (by kernel_rfl) (fun _ _ _ h => h) (Or.inl ⟨by rfl, ?_⟩) hHeld ?_
  rotate_left
  · (intro w' hSw; unfold P1 at hSw; go_simp; try (with_reducible rfl))
  (try simp only [Act.put, List.setIfInBounds_toArray, List.set_cons_zero, List.set_cons_succ])
  refine wpAnyM_take (i := 4) (oi := ⟨_, _, _, _, _, _⟩) (v := ?_) rfl (by kernel_rfl) (by kernel_rfl) (by kernel_rfl) (by kernel_rfl) (fun _ _ _ h => h) (Or.inl ⟨by rfl, ?_⟩) hHeld ?_
  rotate_left
  · (intro w' hSw; unfold P1 at hSw; go_simp; try (with_reducible rfl))
  (try simp only [Act.put, List.setIfInBounds_toArray, List.set_cons_zero, List.set_cons_succ])
  refine wpAnyM_take (i := 5) (oi := ⟨_, _, _, _, _, _⟩) (v := ?_) rfl (by kernel_rfl) (by kernel_rfl) (by kernel_rfl) (by kernel_rfl) (fun _ _ _ h => h) (Or.inl ⟨by rfl, ?_⟩) hHeld ?_
  rotate_left
  · (intro w' hSw; unfold P1 at hSw; go_simp; try (with_reducible rfl))
  (try simp only [Act.put, List.setIfInBounds_toArray, List.set_cons_zero, List.set_cons_succ])
  refine wpAnyM_take (i := 6) (oi := ⟨_, _, _, _, _, _⟩) (v := ?_) rfl (by kernel_rfl) (by kernel_rfl) (by kernel_rfl) (by kernel_rfl) (fun _ _ _ h => h) (Or.inl ⟨by rfl, ?_⟩) hHeld ?_
  rotate_left
  · (intro w' hSw; unfold P1 at hSw; go_simp; try (with_reducible rfl))
  (try simp only [Act.put, List.setIfInBounds_toArray, List.set_cons_zero, List.set_cons_succ])
  refine wpAnyM_take (i := 7) (oi := ⟨_, _, _, _, _, _⟩) (v := ?_) rfl (by kernel_rfl) (by kernel_rfl) (by kernel_rfl) (by kernel_rfl) (fun _ _ _ h => h) (Or.inl ⟨by rfl, ?_⟩) hHeld ?_
  rotate_left
  · (intro w' hSw; unfold P1 at hSw; go_simp; try (with_reducible rfl))
  (try simp only [Act.put, List.setIfInBounds_toArray, List.set_cons_zero, List.set_cons_succ])
  refine wpAnyM_take (i := 9) (oi := ⟨_, _, _, _, _, _⟩) (v := ?_) rfl (by kernel_rfl) (by kernel_rfl) (by kernel_rfl) (by kernel_rfl) (fun _ _ _ h => h) (Or.inl ⟨by rfl, ?_⟩) hHeld ?_
  rotate_left
  · (intro w' hSw; unfold P1 at hSw; go_simp; try (with_reducible rfl))
  (try simp only [Act.put, List.setIfInBounds_toArray, List.set_cons_zero, List.set_cons_succ])
  refine wpAnyM_take (i := 10) (oi := ⟨_, _, _, _, _, _⟩) (v := ?_) rfl (by kernel_rfl) (by kernel_rfl) (by kernel_rfl) (by kernel_rfl) (fun _ _ _ h => h) (Or.inl ⟨by rfl, ?_⟩) hHeld ?_
  rotate_left
  · (intro w' hSw; unfold P1 at hSw; go_simp; try (with_reducible rfl))
  (try simp only [Act.put, List.setIfInBounds_toArray, List.set_cons_zero, List.set_cons_succ])
  refine wpAnyM_one (i := 8) (o := ⟨_, _, _, _, _, _⟩) (by kernel_rfl) rfl (fun K hK => ?_)
  go_simp
  go_at_call 30
  refine (HZ.out _ (Below.refl _ _).drew).mono ?_
  rintro e w2 ⟨rfl, b2⟩
  have B2 := hide b2
  refine hK.out _ _ (HK.out _ b2) (fun hHeld => ?_)
  clear hK K b2
  (try simp only [List.setIfInBounds_toArray, List.set_cons_zero, List.set_cons_succ])
  refine wpAnyM_one (i := 11) (o := ⟨_, _, _, _, _, _⟩) (by kernel_rfl) rfl (fun K hK => ?_)
  go_simp
  go_at_call 29
  refine (HAD.out _ B2.out).mono ?_
  rintro e w3 ⟨rfl, b3⟩
  have B3 := hide b3
  refine hK.out _ _ (HK.out _ b3) (fun hHeld => ?_)
  clear hK K b3
  (try simp only [List.setIfInBounds_toArray, List.set_cons_zero, List.set_cons_succ])
  refine wpAnyM_take (i := 12) (oi := ⟨_, _, _, _, _, _⟩) (v := ?_) rfl (by kernel_rfl) (by kernel_rfl) (by kernel_rfl) (by kernel_rfl) (fun _ _ _ h => h) (Or.inl ⟨by rfl, ?_⟩) hHeld ?_
  rotate_left
  · (intro w' hSw; unfold P1 at hSw; go_simp; try (with_reducible rfl))
  (try simp only [Act.put, List.setIfInBounds_toArray, List.set_cons_zero, List.set_cons_succ])
  refine wpAnyM_done (by kernel_rfl) ?_ _
  clear hHeld
  have HS3 := hide (HSPA.out _ B3.out)
  obtain ⟨r0, r1, r2⟩ := (BoxT.below (t := 31) HR1.out B3.out).cells3
  go_wp2_with (first | (go_at_call 31; refine HS3.out.mono ?_; rintro e w4 ⟨u, rfl, o4, b4⟩; obtain ⟨ua, uc, rfl⟩ := o4.shape; have O4 := hide o4; have B4 := hide (B3.out.trans (b4.mono B3.out.size)); clear o4 b4) | fail)
  have HI : Hid (PI w w4 s m o kd size slide ag fq fq M R ⟨rk, rt, rv⟩ (.slice ua (sps kd size slide rt).length uc) (sps kd size slide rt)) := by
    have hbw := HB1.out.trans (B4.out.mono HB1.out.size)
    have hsz3 := B3.out.size
    have hfl := HH.out.flt
    refine ⟨HH.out.below (fun i hi => hbw.block i (hfl i hi)) hbw.size, FT.of_below hbw, BoxT.below (t := 31) HR1.out B4.out, O4.out.mono (by have := HSZ.out; omega), fun e => by have := hfl _ e; omega, fun g e e2 => ?_⟩
    have h1 := O4.out.at g e
    have h2 := hfl g e2
    have := HSZ.out
    omega
  generalize hSS : sps kd size slide rt = SS at *
  clear hSS r0 r1 r2 HS3
  go_loopg [24] (SS.length + 1) (fun gh iv wr => ∃ (i : Nat) (fq' : Nat → Prop) (M' : List Pn) (R' : List SRow), iv = .int .i64 (i : Int) ∧ i ≤ SS.length ∧ SS.length + 1 ≤ gh + i ∧ Hid (PI w wr s m o kd size slide ag fq fq' M' R' ⟨rk, rt, rv⟩ (.slice ua SS.length uc) SS) ∧ Hid (M'.length ≤ M.length + i))
  case atStart => exact ⟨0, fq, M, R, rfl, by omega, by omega, HI, (show _ ≤ _ from Nat.le_refl _)⟩
  case round =>
    clear HI
    obtain ⟨i, fq', M', R', rfl, hi, hg, HP, HC⟩ := hrel
    obtain ⟨go, rfl⟩ : ∃ go, gk = go + 1 := ⟨gk - 1, by omega⟩
    have hs64 := HSL.out
    by_cases hlt : i < SS.length
    · obtain ⟨sp, hx⟩ := get_of_lt hlt
      have bt : (i : Int) < (SS.length : Int) := by omega
      obtain ⟨nb, no, rfl, nlt, e0, e1⟩ := (HP.out.row.seg Sp.cs_len (by have := HSL.out; omega)).span hx
      have hin := HSI.out sp (List.mem_of_getElem? hx)
      obtain ⟨xf, xt⟩ := sp
      simp only at e0 e1 hin
      obtain ⟨r0, r1, r2⟩ := HP.out.bx.cells3
      have hbx := below_box wr (.cells #[.int .i64 xf, .int .i64 xt] 41)
      have hst := HP.out.st.below (fun i hi => hbx.block i (HP.out.st.flt i hi)) hbx.size
      have hml : M'.length ≤ 100000 := by
        have h1 := HC.out
        have := HSL.out
        omega
      have HLA := hide (lay_w hst (k := rk) (f := xf) (t := xt) (c := V) ⟨hrk, hin.1, hin.2, HIN.out⟩ hml)
      have HBX := hide hbx
      have r0' := cell_alloc r0 (.cells #[.int .i64 xf, .int .i64 xt] 41)
      clear hbx hst hml hx hin
      go_wp2_with (first | (go_at_call 32; refine HLA.out.mono ?_; rintro e w5 ⟨rfl, fq'', M'', R'', st5, ft5, c5⟩; have H5 := hide (HP.out.step HBX.out st5 ft5); have C5 := hide c5; clear st5 ft5 c5) | fail)
      go_roundg go
      case rel =>
        exact ⟨i + 1, fq'', M'', R'', by go_num, by omega, by omega, H5, (show _ ≤ _ by have := C5.out; have := HC.out; omega)⟩
      case measure => omega
    · obtain rfl : i = SS.length := by omega
      have bt : ¬ ((SS.length : Nat) : Int) < (SS.length : Int) := by omega
      go_wp2_with fail
      go_end0
      exact ⟨rfl, fq', M', R', HP.out.st, HP.out.ft, by have := HC.out; omega⟩
theorem PutW_any {w : World} {s : Nat} {kd size slide ag : Int} {fp : Nat → Prop} {M : List Pn} (h : SA w s kd size slide ag fp M) (hs : In64 size) (hl : In64 slide) (r : Rc) (hrk : In64 r.k) (hrv : In64 r.v) (hsp : ∀ sp ∈ sps kd size slide r.t, In64 sp.f ∧ In64 sp.t) (hM : M.length ≤ 90000) :
    Calls Try.prog 13 #[.pointer (some ⟨s, 0, none⟩), .agg #[.int .i64 r.k, .int .i64 r.t, .int .i64 r.v]] w fun e w' => e = .returned (.tuple #[]) ∧ WAPost w s kd size slide ag fp (M.length + 64) w' := by
  obtain ⟨m, o, fq, R, h, hf⟩ := h
  refine (PutW_st h hs hl r hrk hrv hsp hM).mono ?_
  rintro e w' ⟨rfl, fq', M', R', h1, h2, h3⟩
  exact ⟨rfl, FP s m fq', M', ⟨m, o, fq', R', h1, fun _ => Iff.rfl⟩, h2.congr hf (fun _ => Iff.rfl), h3⟩
set_option maxHeartbeats 8000000 in
set_option maxRecDepth 100000 in
theorem LoadW_any {w : World} {s : Nat} {kd size slide ag : Int} {fp : Nat → Prop} {M : List Pn} (h : SA w s kd size slide ag fp M) {v : Value} {l : List Pn} (hl : LSeg 4 Pn.cs w.heap.size w v l) (hv : ∀ g, v.ownBlock = some g → ¬ fp g) (hok : ∀ x ∈ l, PnOk x) (hn : l.length ≤ 90000) :
    Calls Try.prog 21 #[.pointer (some ⟨s, 0, none⟩), v] w (fun e w' => e = .returned (.tuple #[]) ∧ WAPost w s kd size slide ag fp l.length w') := by
  obtain ⟨m, o, fq, R, h, hf⟩ := h
  obtain ⟨ao, cap, rfl⟩ := hl.shapeOf
  have hmm := @run_makeMap Try.prog
  have hmn := run_makeMapN l.length
  obtain ⟨c0, c1, c2, c3, c4, c5⟩ := h.cells
  have cf := fun j => h.box.free j
  have hslt := h.box.lt
  have hne1 : ¬ s = w.heap.size := by omega
  have hne2 : ¬ s = w.heap.size + 1 := by omega
  have HH := hide h
  have HLS := hide hl
  have HV := hide hv
  have HF := hide hf
  have HOK := hide hok
  clear h hl hv hf hok
  go_enter Try.func21, Try.ntmps21
  go_upto_region 1 with fail
  obtain ⟨W2, hW2⟩ : ∃ W2, W2 = (((w.setCell ⟨s, 4, none⟩ (.map (some w.heap.size))).setCell ⟨s, 5, none⟩ (.map (some (w.heap.size + 1)))).alloc (.map #[] 0)).alloc (.map #[] 0) := ⟨_, rfl⟩
  rw [← hW2]
  have hs0 : ((w.setCell ⟨s, 4, none⟩ (.map (some w.heap.size))).setCell ⟨s, 5, none⟩ (.map (some (w.heap.size + 1)))).heap.size = w.heap.size := by simp
  have hg0 : w.grownBy ((w.setCell ⟨s, 4, none⟩ (.map (some w.heap.size))).setCell ⟨s, 5, none⟩ (.map (some (w.heap.size + 1)))) (some s) := grownBy_trans (grownBy_set _ _ _ _) (grownBy_set _ _ _ _)
  have hst : StAt W2 s w.heap.size (w.heap.size + 1) kd size slide ag (fun i => i = w.heap.size + 1) [] [] := by
    rw [hW2]
    refine fresh_state (BoxT.alloc (t := 67) (BoxT.alloc (t := 67) ?_ _) _) ((made_at _ _ _ hs0.symm).alloc _) (made_at _ _ _ (by simp)) (by omega)
    have := (HH.out.box.set 4 (.map (some w.heap.size))).set 5 (.map (some (w.heap.size + 1)))
    simpa using this
  have hfps : fp s := (HF.out s).2 (.inl rfl)
  have hsz2 : W2.heap.size = w.heap.size + 2 := by rw [hW2]; simp
  have hblk : ∀ i, i < w.heap.size → i ≠ s → W2.heap[i]? = w.heap[i]? := fun i hi hne => by
    rw [hW2, Below.heap_alloc _ _ i (by simp; omega), Below.heap_alloc _ _ i (by rw [hs0]; exact hi)]
    exact hg0.block i hi (fun e => hne (by cases e; rfl))
  have hft : FT fp (FP s w.heap.size (fun i => i = w.heap.size + 1)) w W2 := by
    refine ⟨by rw [hW2]; exact hg0.os, by rw [hW2]; exact hg0.tape, by rw [hW2]; exact hg0.output, by omega, fun i hi hn => hblk i hi (fun e => hn (e ▸ hfps)), fun i hi => ?_⟩
    rcases hi with e | e | e
    · exact .inl (e ▸ hfps)
    · exact .inr (by omega)
    · exact .inr (by omega)
  have hlen : ∀ g, (Value.slice ao l.length cap).ownBlock = some g → l ≠ [] → g < w.heap.size := fun g e hne => by
    obtain ⟨ao', cap', e', _, hc⟩ := HLS.out
    cases e'
    rcases hc with hc | ⟨b, off, rfl, hbl, _⟩
    · exact absurd hc hne
    · cases e; exact hbl
  have hl2 : LSeg 4 Pn.cs W2.heap.size W2 (.slice ao l.length cap) l := by
    by_cases hne : l = []
    · subst hne; exact ⟨ao, cap, rfl, by simp, .inl rfl⟩
    · exact HLS.out.off (fun g e => hblk g (hlen g e hne) (fun e2 => HV.out g e (e2 ▸ hfps))) (by omega)
  have HSO := hide (Sort_any hl2 (by omega))
  have HST := hide hst
  have HFT := hide hft
  have HSZ := hide hsz2
  have hsl : (srt l).length = l.length := srt_len l
  have HSO2 : Hid (∀ x ∈ srt l, PnOk x) := fun x hx => HOK.out x ((srt_perm l).mem_iff.1 hx)
  clear hst hft hsz2 hblk hlen hl2 hg0 hs0 hW2 hfps c0 c1 c2 c3 c4 c5 cf
  generalize srt l = L at *
  go_wp2_with (first | (go_at_call 34; refine HSO.out.mono ?_; rintro e w3 ⟨u, rfl, o3, b3⟩; have HR3 := hide o3; have B3 := hide b3; obtain ⟨ua, uc, rfl⟩ := o3.shape; clear o3 b3) | fail)
  have HI : Hid (LdI w w3 s w.heap.size (w.heap.size + 1) kd size slide ag fp (fun i => i = w.heap.size + 1) [] [] (.slice ua L.length uc) L) := by
    refine ⟨HST.out.below (fun i hi => B3.out.block i (HST.out.flt i hi)) B3.out.size, HFT.out.trans (FT.of_below B3.out), HR3.out.seg Pn.cs_len (by omega), fun g e e2 => ?_⟩
    have h1 := HR3.out.at g e
    have h2 := HST.out.flt g e2
    omega
  have HLT : Hid (∀ g, (Value.slice ua L.length uc).ownBlock = some g → g < w3.heap.size) := fun g e => by
    obtain ⟨cu, hcu⟩ := HR3.out.has g e
    exact hcu.lt
  clear HST HSO
  go_loopg [19] (L.length + 1) (fun gh iv wr => ∃ (i : Nat) (fq' : Nat → Prop) (M' : List Pn) (R' : List SRow), iv = .int .i64 (i : Int) ∧ i ≤ L.length ∧ L.length + 1 ≤ gh + i ∧ w3.heap.size ≤ wr.heap.size ∧ Hid (LdI w wr s w.heap.size (w.heap.size + 1) kd size slide ag fp fq' M' R' (.slice ua L.length uc) L) ∧ Hid (M'.length ≤ i))
  case atStart => exact ⟨0, _, [], [], rfl, by omega, by omega, Nat.le_refl _, HI, (show _ ≤ _ from Nat.le_refl _)⟩
  case round =>
    clear HI
    obtain ⟨i, fq', M', R', rfl, hi, hg, hws, HP, HC⟩ := hrel
    obtain ⟨go, rfl⟩ : ∃ go, gk = go + 1 := ⟨gk - 1, by omega⟩
    by_cases hlt : i < L.length
    · obtain ⟨x, hx⟩ := get_of_lt hlt
      have bt : (i : Int) < (L.length : Int) := by omega
      obtain ⟨nb, no, rfl, nlt, e0, e1, e2, e3⟩ := HP.out.row.pane hx
      have hin := HSO2.out x (List.mem_of_getElem? hx)
      have hbx := below_box wr (.cells #[.int .i64 x.k, .int .i64 x.f, .int .i64 x.t, .int .i64 x.a] 43)
      have hstt := HP.out.st.below (fun i hi => hbx.block i (HP.out.st.flt i hi)) hbx.size
      have hml : M'.length ≤ 100000 := by
        have h1 := HC.out
        omega
      have HLA := hide (lay_w hstt (k := x.k) (f := x.f) (t := x.t) (c := x.a) hin hml)
      have HBX := hide hbx
      obtain ⟨xk, xf, xt, xa⟩ := x
      simp only at e0 e1 e2 e3 HLA HBX
      clear hbx hstt hml hx hin
      go_wp2_with (first | (go_at_call 32; refine HLA.out.mono ?_; rintro e w5 ⟨rfl, fq'', M'', R'', st5, ft5, c5⟩; have HZ5 := hide (Nat.le_trans HBX.out.size ft5.size); have H5 := hide (HP.out.step HBX.out st5 ft5 (fun g e => Nat.lt_of_lt_of_le (HLT.out g e) hws)); have C5 := hide c5; clear st5 ft5 c5) | fail)
      go_roundg go
      case rel =>
        exact ⟨i + 1, fq'', M'', R'', by go_num, by omega, by omega, Nat.le_trans hws HZ5.out, H5, (show _ ≤ _ by have := C5.out; have := HC.out; omega)⟩
      case measure => omega
    · obtain rfl : i = L.length := by omega
      have bt : ¬ ((L.length : Nat) : Int) < (L.length : Int) := by omega
      go_wp2_with fail
      go_end0
      exact ⟨rfl, FP s w.heap.size fq', M', ⟨_, _, fq', R', HP.out.st, fun _ => Iff.rfl⟩, HP.out.ft, by have := HC.out; omega⟩
set_option maxHeartbeats 4000000 in
set_option maxRecDepth 100000 in
theorem OpenW_any {w : World} {v : Value} {l : List Nat} (kd size slide ag : Int) (h : ByS w v l) (hn : l.length ≤ 640000) :
    Calls Try.prog 25 #[.agg #[.int .i64 kd, .int .i64 size, .int .i64 slide], .int .i64 ag, v] w (OWPost w kd size slide ag l) := by
  have hb1 := below_box w (.cells #[.int .i64 kd, .int .i64 size, .int .i64 slide] 23)
  obtain ⟨W1, hW1⟩ : ∃ W1, W1 = w.alloc (.cells #[.int .i64 kd, .int .i64 size, .int .i64 slide] 23) := ⟨_, rfl⟩
  have hk1 : BoxT 23 W1 w.heap.size #[.int .i64 kd, .int .i64 size, .int .i64 slide] := by rw [hW1]; exact BoxT.new _ _ _
  rw [← hW1] at hb1
  by_cases hok : rdOk l
  · have HRD := hide (read_yes (h.below hb1) hn hok)
    obtain ⟨ao, cap, rfl, hc⟩ := h.below hb1
    have h4 : 4 ≤ l.length := hok.1
    have hcn : rdN l ≤ 20000 := by have := hok.2; omega
    obtain ⟨vb, vo, rfl, hbs⟩ : ∃ b off, ao = some ⟨b, off, none⟩ ∧ BSeg W1.heap.size W1 b off cap l := by
      rcases hc with hc | hc
      · omega
      · exact hc
    have HV := hide hbs
    have HB1 := hide hb1
    have HOK := hide hok
    have HH4 := hide h4
    have HCN := hide hcn
    have HK1 := hide hk1
    have HLN : Hid (l.length ≤ 140737488355328) := Nat.le_trans hn (by omega)
    clear h hb1 hn hok hc hbs h4 hcn hk1
    have HNW := hide (fun W => New_any W kd size slide ag)
    go_enter Try.func25, Try.ntmps25
    go_upto_region 1 with fail
    rw [← hW1]
    clear hW1
    go_upto_region 4 with (first | (go_at_call 47; refine HRD.out.mono ?_; rintro e w2 ⟨u, rfl, o2, b2⟩; have O2 := hide o2; have B2 := hide (HB1.out.trans (b2.mono HB1.out.size)); have B2' := hide b2; clear o2 b2) | fail)
    have k2 : BoxT 23 w2 w.heap.size #[.int .i64 kd, .int .i64 size, .int .i64 slide] := BoxT.below (t := 23) HK1.out B2'.out
    obtain ⟨k0, k1, k3⟩ := k2.cells3
    clear k2
    go_upto_region 5 with (first | (go_at_call 10; refine (HNW.out _).mono ?_; rintro e w3 ⟨s, fp, rfl, s3, f3, b3⟩; have S3 := hide s3; have F3 := hide f3; have B3 := hide b3; clear s3 f3 b3) | fail)
    have HLD := hide (LoadW_any S3.out ((O2.out.below B3.out).seg Pn.cs_len (by rw [rdP_len]; have := HCN.out; omega)) (fun g e h => by have h1 := F3.out g h; have h2 := O2.out.lt g e; omega) (rdP_ok l) (by rw [rdP_len]; have := HCN.out; omega))
    have hF3 : ∀ i, fp i → w.heap.size ≤ i := fun i hi => Nat.le_trans B2.out.size (F3.out i hi)
    have B23 := hide (B2.out.trans (B3.out.mono B2.out.size))
    have HV3 := hide (HV.out.below (B2'.out.trans (B3.out.mono B2'.out.size)))
    have HF := hide hF3
    have HFW : Hid (∀ i, fp i → W1.heap.size ≤ i) := fun i hi => Nat.le_trans B2'.out.size (F3.out i hi)
    have HZ3 : Hid (W1.heap.size ≤ w3.heap.size) := Nat.le_trans B2'.out.size B3.out.size
    clear hF3 HNW HRD S3 F3 B3 B2 B2' O2
    go_upto_region 6 with (first | (go_at_call 21; refine HLD.out.mono ?_; rintro e w4 ⟨rfl, fp', M', s4, f4, c4⟩; have S4 := hide s4; have F4 := hide f4; have C4 := hide c4; clear s4 f4 c4) | fail)
    have hM4 : M'.length ≤ 20000 := by
      have h1 := C4.out
      rw [rdP_len] at h1
      have := HCN.out
      omega
    have hB4 : Below w.heap.size w w4 := B23.out.trans (F4.out.below B23.out.size HF.out)
    have hV4 : BSeg W1.heap.size w4 vb vo cap l := HV3.out.below (F4.out.below HZ3.out HFW.out)
    have hZ4 : W1.heap.size ≤ w4.heap.size := Nat.le_trans HZ3.out F4.out.size
    have HVB : Hid (∀ x ∈ l, x < 256) := HV.out.2.2.2.1
    have hne1 : wrB (srt M') ≠ [] := fun e => by have := congrArg List.length e; rw [wrB_len] at this; simp at this
    have hne2 : l ≠ [] := fun e => by have := HH4.out; rw [e] at this; simp at this
    have hbl : (wrB (srt M')).length ≤ 140737488355328 := by rw [wrB_len, srt_len]; omega
    have HEQ : Hid (∀ (D : Bool), decide (wrB (srt M') = l) = D → ∀ w5 u, OwnL 5 1 u8cs w4.heap.size w5 u (wrB (srt M')) → Below w4.heap.size w4 w5 → Calls Try.prog 48 #[u, .slice (some ⟨vb, vo, none⟩) l.length cap] w5 fun e w' => e = .returned (.bool D) ∧ w' = w5) := fun D hD w5 u h1 h2 => by
      rw [← hD]
      exact Equal_any (h1.seg u8cs_len hbl) ((hV4.below (h2.mono hZ4)).seg (Nat.le_trans hZ4 h2.size) HLN.out) hne1 hne2 (wrB_byte _) HVB.out
    have HBY := hide (Bytes_any S4.out hM4)
    have HF4 : Hid (∀ i, fp' i → w.heap.size ≤ i) := fun i hi => by
      rcases F4.out.sub i hi with h | h
      · exact HF.out i h
      · exact Nat.le_trans B23.out.size h
    have B4 := hide hB4
    have V4 := hide hV4
    clear hB4 hV4 hM4 HLD HV3 F4 HF B23
    clear hne1 hne2 hbl hZ4
    have HWB : Hid (∀ w5, Below w4.heap.size w4 w5 → Below w.heap.size w w5) := fun w5 h5 => B4.out.trans (h5.mono B4.out.size)
    by_cases he : wrB (srt M') = l
    · have HQ := hide (HEQ.out true (decide_eq_true he))
      have HE := hide he
      clear HEQ he
      go_wp2_with (first | (go_at_call 15; refine HBY.out.mono ?_; rintro e w5 ⟨u5, rfl, o5, b5⟩; have HQ5 := hide (HQ.out w5 u5 o5 b5); have B5 := hide b5; clear o5 b5) | (go_at_call 48; refine HQ5.out.mono ?_; rintro e w6 ⟨rfl, rfl⟩) | fail)
      exact bodyPost_ret (v := .tuple #[.pointer (some ⟨s, 0, none⟩), .int .i64 0]) (by simp [results, Try.results25, go_sem]) rfl ⟨HWB.out _ B5.out, .inr ⟨s, fp', M', rfl, S4.out.below B5.out, HF4.out, HE.out⟩⟩
    · have HQ := hide (HEQ.out false (decide_eq_false he))
      have HE := hide he
      clear HEQ he
      go_wp2_with (first | (go_at_call 15; refine HBY.out.mono ?_; rintro e w5 ⟨u5, rfl, o5, b5⟩; have HQ5 := hide (HQ.out w5 u5 o5 b5); have B5 := hide b5; clear o5 b5) | (go_at_call 48; refine HQ5.out.mono ?_; rintro e w6 ⟨rfl, rfl⟩) | fail)
      exact bodyPost_ret (v := .tuple #[.pointer none, .int .i64 120]) (by simp [results, Try.results25, go_sem]) rfl ⟨HWB.out _ B5.out, .inl rfl⟩
  · have HRD := hide (read_no (h.below hb1) hn hok)
    obtain ⟨vo, vc, rfl⟩ : ∃ vo vc, v = .slice vo l.length vc := by obtain ⟨a, c, e, _⟩ := h; exact ⟨a, c, e⟩
    have HB1 := hide hb1
    have HOK := hide hok
    clear h hb1 hk1 hn hok
    go_enter Try.func25, Try.ntmps25
    go_upto_region 1 with fail
    rw [← hW1]
    clear hW1
    go_wp2_with (first | (go_at_call 47; refine HRD.out.mono ?_; rintro e w2 ⟨rfl, b2⟩; have B2 := hide b2; clear b2) | fail)
    exact bodyPost_ret (v := .tuple #[.pointer none, .int .i64 120]) (by simp [results, Try.results25, go_sem]) rfl ⟨HB1.out.trans (B2.out.mono HB1.out.size), .inl rfl⟩
end Go.Proofs.Ytdoldohcimbdaaa
