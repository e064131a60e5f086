/-
  The law GatePlays.
-/
import Derived.Test.YtmipgfobggbndaaRTakeA
import Derived.Test.YtmipgfobggbndaaGLawM
namespace Go.Proofs.Ytmipgfobggbndaa
open Go.RowKit

theorem PW.new {w0 w1 w2 w3 : World} {k R n : Nat} {fp : Nat → Prop} (hb : Below w0.heap.size w0 w1) (g : GA w2 k fp (Gs.new n)) (b : Below w1.heap.size w1 w2) (l : ∀ i, fp i → w1.heap.size ≤ i) (h : RN w2 n R w3) : PW w0 k (Gs.new n) R (Gs.new n) [] w3 := by
  obtain ⟨fq, a, b2, l2⟩ := h
  refine ⟨fp, fq, g.below b2, a, fun i hi e => by have := g.flt i hi; have := l2 i e; omega, (hb.trans (b.mono hb.size)).trans (b2.mono (Nat.le_trans hb.size b.size)), fun i hi => Nat.le_trans hb.size (l i hi), fun i hi => Nat.le_trans (Nat.le_trans hb.size b.size) (l2 i hi), fun p hp => by cases hp⟩
set_option maxHeartbeats 8000000 in
set_option maxRecDepth 100000 in
theorem GatePlays_walk (w : World) (n0 : Int) (ao : Option Addr) (cap : Nat) (xs : List Stp) (hv : LSeg 10 Stp.cs w.heap.size w (.slice ao xs.length cap) xs) (hms : ∀ x ∈ xs, LSeg 1 i64cs w.heap.size w x.mv x.m) : Calls Try.prog 3 #[.int .i64 n0, .slice ao xs.length cap] w fun e w' => e = .returned (.bool true) ∧ Below w.heap.size w w' := by
  have hxl : xs.length ≤ 140737488355328 := hv.len
  have HV := hide hv
  have HMS := hide hms
  clear hv hms
  by_cases hbig : 300 < xs.length
  · have bb : (300 : Int) < (xs.length : Int) := by omega
    go_enter Try.func3, Try.ntmps3
    go_wp2_with (go_at_call 8; refine (known_any _).mono ?_; rintro e w1 ⟨rfl, b1⟩; have B1 := hide b1; clear b1)
    go_ret
    exact ⟨rfl, B1.out⟩
  have bb : ¬ (300 : Int) < (xs.length : Int) := by omega
  have hch := chans_in n0
  have HNW := hide (fun w => New_any (w := w) n0)
  have HRW := hide (fun w => rNew_any (w := w) n0)
  generalize chans n0 = n at *
  go_enter Try.func3, Try.ntmps3
  go_upto_region 5 with (go_at_call 8; refine (known_any _).mono ?_; rintro e w1 ⟨rfl, b1⟩; have B1 := hide b1; clear b1)
  go_upto_region 6 with (first | (go_at_call 9; refine (HNW.out _).mono ?_; rintro e w2 ⟨k, fp, rfl, g1, g2, g3⟩; have HG1 := hide (And.intro g1 (And.intro g2 g3)); clear g1 g2 g3) | (go_at_call 10; refine (HRW.out _).mono ?_; rintro e w3 ⟨R, rfl, g4⟩; have HPW := hide (PW.new B1.out HG1.out.1 HG1.out.2.1 HG1.out.2.2 g4); clear g4 HG1))
  clear HNW HRW
  have c00 : ∃ ma mc, w3.cell? ⟨R, 0, none⟩ = some (.slice ma n mc) := by
    obtain ⟨fp', fq', _, ⟨fd, mv, cv, kv, X, _⟩, _⟩ := HPW.out
    obtain ⟨ma, mc, e, _⟩ := X.m.shape
    refine ⟨ma, mc, ?_⟩
    rw [X.cells.1, e]
    simp [Gs.new]
  obtain ⟨ma0, mc0, c00⟩ := c00
  go_upto_region 7 with fail
  clear c00
  go_wp2_with fail
  go_loopg [7, 8, 9, 10, 11, 12, 13] (xs.length + 1) (fun gh iv _ _ _ _ _ _ wr => ∃ (i : Nat) (s r : Gs), iv = .int .i64 (i : Int) ∧ i ≤ xs.length ∧ xs.length + 1 ≤ gh + i ∧ s.M.length = n ∧ s.cp.length ≤ i ∧ Hid (Sim s r ∧ r.Sm) ∧ Hid (PW w k s R r [] wr))
  case atStart => exact ⟨0, Gs.new n, Gs.new n, rfl, by omega, by omega, by simp [Gs.new], by simp [Gs.new], ⟨.inl rfl, fun e => absurd rfl e⟩, HPW⟩
  case round =>
    obtain ⟨i, s, r, rfl, hi, hg, hsn, hcp, HSI, HW⟩ := hrel
    obtain ⟨go, rfl⟩ : ∃ go, gk = go + 1 := ⟨gk - 1, by omega⟩
    by_cases hlt : i < xs.length
    · have bt : (i : Int) < (xs.length : Int) := by omega
      obtain ⟨x, hx⟩ := get_of_lt hlt
      obtain ⟨sb, so, rfl, hsb, -⟩ := Stp.cells HV.out hx
      have HXM := hide (HMS.out x (List.mem_of_getElem? hx))
      obtain ⟨b', o', e', _, r0, r1, r2, r3, r4, r5, r6, r7, r8, r9⟩ := Stp.cells (HV.out.below HW.out.bel) hx
      cases e'
      clear hx
      obtain ⟨mva, mvc, hmv⟩ := HXM.out.shape
      rw [hmv] at r9
      have HMV := hide hmv
      clear hmv
      have hml := HXM.out.len
      have hrn : r.M.length = n := by rw [← HSI.out.1.eqs.1]; exact hsn
      have hrc : r.cp.length ≤ 100000 := by rw [← HSI.out.1.eqs.2.2.2]; omega
      go_upto_region 11 with fail
      refine wp_at (PW w k s R r [(wr.heap.size, 39, #[.int .i64 x.ch, .int .i64 x.f.kd, .int .i64 x.f.ke, .int .i64 x.f.ti, .int .i64 x.f.va, .int .i64 x.f.ma, .int .u64 x.f.n, .bool x.f.ov, .bool x.ld, .slice mva x.m.length mvc])]) (HW.out.box 39 #[.int .i64 x.ch, .int .i64 x.f.kd, .int .i64 x.f.ke, .int .i64 x.f.ti, .int .i64 x.f.va, .int .i64 x.f.ma, .int .u64 x.f.n, .bool x.f.ov, .bool x.ld, .slice mva x.m.length mvc]) ?_
      generalize wr.heap.size = xb at *
      clear HW r0 r1 r2 r3 r4 r5 r6 r7 r8 r9
      intro V HPV
      have HP := hide HPV
      have BX := HPV.get (p := (xb, 39, #[.int .i64 x.ch, .int .i64 x.f.kd, .int .i64 x.f.ke, .int .i64 x.f.ti, .int .i64 x.f.va, .int .i64 x.f.ma, .int .u64 x.f.n, .bool x.f.ov, .bool x.ld, .slice mva x.m.length mvc])) (by simp)
      have BC : ∀ W : World, BoxT 39 W xb #[.int .i64 x.ch, .int .i64 x.f.kd, .int .i64 x.f.ke, .int .i64 x.f.ti, .int .i64 x.f.va, .int .i64 x.f.ma, .int .u64 x.f.n, .bool x.f.ov, .bool x.ld, .slice mva x.m.length mvc] → W.cell? ⟨xb, 0, none⟩ = some (.int .i64 x.ch) ∧ W.cell? ⟨xb, 1, none⟩ = some (.int .i64 x.f.kd) ∧ W.cell? ⟨xb, 2, none⟩ = some (.int .i64 x.f.ke) ∧ W.cell? ⟨xb, 3, none⟩ = some (.int .i64 x.f.ti) ∧ W.cell? ⟨xb, 4, none⟩ = some (.int .i64 x.f.va) ∧ W.cell? ⟨xb, 5, none⟩ = some (.int .i64 x.f.ma) ∧ W.cell? ⟨xb, 6, none⟩ = some (.int .u64 x.f.n) ∧ W.cell? ⟨xb, 7, none⟩ = some (.bool x.f.ov) ∧ W.cell? ⟨xb, 8, none⟩ = some (.bool x.ld) ∧ W.cell? ⟨xb, 9, none⟩ = some (.slice mva x.m.length mvc) := fun W h => ⟨h.cellAt 0, h.cellAt 1, h.cellAt 2, h.cellAt 3, h.cellAt 4, h.cellAt 5, h.cellAt 6, h.cellAt 7, h.cellAt 8, h.cellAt 9⟩
      have HBC := hide BC
      obtain ⟨y0, y1, y2, y3, y4, y5, y6, y7, y8, y9⟩ := BC V BX
      clear BX BC HPV
      cases hld : x.ld with
      | true =>
        rw [hld] at y8
        by_cases hbg : 100 < x.m.length
        · have bg : (100 : Int) < (x.m.length : Int) := by omega
          go_wp2_with fail
          go_ret
          exact ⟨rfl, HP.out.bel⟩
        · have bg : ¬ (100 : Int) < (x.m.length : Int) := by omega
          have HLD := hide (HP.out.load HXM.out)
          rw [HMV.out] at HLD
          go_upto_region 15 with (go_at_call 11; refine HLD.out.mono ?_; rintro e w5 ⟨rfl, g5⟩; have H5 := hide g5; clear g5)
          clear HLD y0 y1 y2 y3 y4 y5 y6 y7 y8 y9
          obtain ⟨y0, y1, y2, y3, y4, y5, y6, y7, y8, y9⟩ := HBC.out w5 (H5.out.get (p := (xb, 39, #[.int .i64 x.ch, .int .i64 x.f.kd, .int .i64 x.f.ke, .int .i64 x.f.ti, .int .i64 x.f.va, .int .i64 x.f.ma, .int .u64 x.f.n, .bool x.f.ov, .bool x.ld, .slice mva x.m.length mvc])) (by simp))
          have HRL := hide (H5.out.rload HXM.out hrn.symm)
          rw [HMV.out] at HRL
          obtain ⟨s', hs'⟩ : ∃ s', s' = s.ld x.m := ⟨_, rfl⟩
          obtain ⟨r', hr'⟩ : ∃ r', r' = ({ r with M := ldM n x.m, un := 0, co := List.replicate n false, cp := [] } : Gs) := ⟨_, rfl⟩
          rw [← hs', ← hr'] at HRL
          have HSI2 : Hid (Sim s' r' ∧ r'.Sm) := ⟨by rw [hs', hr']; exact HSI.out.1.ld x.m hrn.symm HP.out.facts.2.2.2.2, by rw [hr']; exact Gs.Sm_ld _ _⟩
          have hsn' : s'.M.length = n := by rw [hs']; show (ldM s.M.length x.m).length = n; rw [ldM_len]; exact hsn
          have hcp' : s'.cp.length ≤ i + 1 := by rw [hs']; show ([] : List Ou).length ≤ _; simp
          clear hs' hr'
          go_upto_region 20 with (go_at_call 12; refine HRL.out.mono ?_; rintro e w6 ⟨rfl, g6⟩; have H6 := hide g6.none_; clear g6)
          refine wp_at (PW w k s' R r' []) H6.out ?_
          clear HRL H5 H6 HP y0 y1 y2 y3 y4 y5 y6 y7 y8 y9 HBC
          intro Y HPY
          have HY := hide HPY
          clear HPY
          obtain ⟨e1, e2, e3, e4⟩ := HSI2.out.1.eqs
          have HPB : Hid (∀ W', Below Y.heap.size Y W' → PW w k s' R r' [] W') := (show ∀ W', _ from fun W' hb => HY.out.below hb)
          have HM1 : Hid (∀ W', Below Y.heap.size Y W' → Calls Try.prog 15 #[.pointer (some ⟨k, 0, none⟩)] W' fun e w'' => e = .returned (.int .i64 (least s'.M)) ∧ W' = w'') := (show ∀ W', _ from fun W' hb => by
            obtain ⟨fp, fq, h1, _⟩ := HPB.out W' hb
            exact Mark_any h1)
          have HM2 : Hid (∀ W', Below Y.heap.size Y W' → Calls Try.prog 16 #[.pointer (some ⟨R, 0, none⟩)] W' fun e w'' => e = .returned (.int .i64 (least s'.M)) ∧ W' = w'') := (show ∀ W', _ from fun W' hb => by
            obtain ⟨fp, fq, _, h2, _⟩ := HPB.out W' hb
            rw [e1]
            exact rMark_any h2)
          have HM3 : Hid (∀ W', Below Y.heap.size Y W' → Calls Try.prog 18 #[.pointer (some ⟨k, 0, none⟩)] W' fun e w'' => ∃ u, e = .returned u ∧ OwnL 2 1 i64cs W'.heap.size w'' u s'.M ∧ Below W'.heap.size W' w'') := (show ∀ W', _ from fun W' hb => by
            obtain ⟨fp, fq, h1, _⟩ := HPB.out W' hb
            exact Marks_any h1)
          have HU1 : Hid (∀ W', Below Y.heap.size Y W' → Calls Try.prog 19 #[.pointer (some ⟨k, 0, none⟩)] W' fun e w'' => e = .returned (.int .u64 s'.un) ∧ W' = w'') := (show ∀ W', _ from fun W' hb => by
            obtain ⟨fp, fq, h1, _⟩ := HPB.out W' hb
            exact Under_any h1)
          have HL1 : Hid (∀ W', Below Y.heap.size Y W' → Calls Try.prog 20 #[.pointer (some ⟨k, 0, none⟩)] W' fun e w'' => e = .returned (.int .u64 s'.la) ∧ W' = w'') := (show ∀ W', _ from fun W' hb => by
            obtain ⟨fp, fq, h1, _⟩ := HPB.out W' hb
            exact Last_any h1)
          have HC1 : Hid (∀ W', Below Y.heap.size Y W' → Calls Try.prog 22 #[.pointer (some ⟨k, 0, none⟩)] W' fun e w'' => ∃ u, e = .returned u ∧ OwnL 65 8 Ou.cs W'.heap.size w'' u s'.cp ∧ Below W'.heap.size W' w'') := (show ∀ W', _ from fun W' hb => by
            obtain ⟨fp, fq, h1, _⟩ := HPB.out W' hb
            exact Captured_any h1 (by omega))
          obtain ⟨ma, mc, ka, kc, HRC⟩ : ∃ ma mc ka kc, Hid (∀ W', Below Y.heap.size Y W' → (W'.cell? ⟨R, 0, none⟩ = some (.slice ma n mc) ∧ W'.cell? ⟨R, 1, none⟩ = some (.int .u64 s'.la) ∧ W'.cell? ⟨R, 2, none⟩ = some (.int .u64 s'.un) ∧ W'.cell? ⟨R, 5, none⟩ = some (.slice ka s'.cp.length kc)) ∧ LSeg 1 i64cs Y.heap.size W' (.slice ma n mc) s'.M ∧ LSeg 8 Ou.cs Y.heap.size W' (.slice ka s'.cp.length kc) s'.cp) := by
            obtain ⟨fp, fq, _, ⟨fd, mv, cv, kv, X, hf⟩, _⟩ := HY.out
            obtain ⟨ma, mc, em, _⟩ := X.m.shape
            obtain ⟨ka, kc, ek, _⟩ := X.k.shape
            have hm := X.m.lseg
            have hk := X.k.lseg
            have hc := X.cells
            have hR := X.box.lt
            rw [em, ← e1, hsn'] at hm
            rw [ek, ← e4] at hk
            refine ⟨ma, mc, ka, kc, (show ∀ W', _ from fun W' hb => ⟨⟨?_, ?_, ?_, ?_⟩, hm.below hb, hk.below hb⟩)⟩
            · rw [hb.cell (p := ⟨R, 0, none⟩) hR, hc.1, em, ← e1, hsn']
            · rw [hb.cell (p := ⟨R, 1, none⟩) hR, hc.2.1, ← e2]
            · rw [hb.cell (p := ⟨R, 2, none⟩) hR, hc.2.2.1, ← e3]
            · rw [hb.cell (p := ⟨R, 5, none⟩) hR, hc.2.2.2.2.2, ek, ← e4]
          have HBE : Hid (∀ z, s'.bl z = r'.bl z) := (show ∀ z, _ from fun z => HSI2.out.1.bl z)
          have KC : Hid (∀ w', Below Y.heap.size Y w' → w'.cell? ⟨R, 0, none⟩ = some (.slice ma n mc) ∧ w'.cell? ⟨R, 1, none⟩ = some (.int .u64 s'.la) ∧ w'.cell? ⟨R, 2, none⟩ = some (.int .u64 s'.un) ∧ w'.cell? ⟨R, 5, none⟩ = some (.slice ka s'.cp.length kc)) := fun w' hb => (HRC.out w' hb).1
          have HLM : Hid (s'.M.length ≤ 1000000) := (show _ ≤ _ by omega)
          have HLC : Hid (s'.cp.length ≤ 1000000) := (show _ ≤ _ by omega)
          have BD : Hid (Below Y.heap.size Y Y.drew) := (Below.refl _ _).drew
          clear e1 e2 e3 e4
          generalize hcpl : s'.cp.length = pcp at *
          have hsc : pcp ≤ 1000 := by omega
          have HSN := hide hsn'
          clear hsn'
          have HCPL := hide hcpl
          clear hcpl
          have BZ := hide BD.out
          refine wp_region_M (S := fun w' => w'.cell? ⟨R, 0, none⟩ = some (.slice ma n mc) ∧ w'.cell? ⟨R, 1, none⟩ = some (.int .u64 s'.la) ∧ w'.cell? ⟨R, 2, none⟩ = some (.int .u64 s'.un) ∧ w'.cell? ⟨R, 5, none⟩ = some (.slice ka pcp kc)) (late := []) (by kernel_rfl) (KC.out _ BD.out) (fun hHeld => ?_)
          (try simp only [List.size_toArray, List.length_cons, List.length_nil, Nat.zero_add, Nat.reduceAdd, Array.replicate, List.replicate])
          refine wpAnyM_take (i := 0) (oi := ⟨_, _, _, _, _, _⟩) (v := ?_) rfl (by kernel_rfl) (by kernel_rfl) (by kernel_rfl) (by kernel_rfl) (fun _ _ _ h => h) (Or.inl ⟨by rfl, ?_⟩) hHeld ?_
          rotate_left
          · (intro w' hSw; (try dsimp only at hSw); go_simp; try (with_reducible rfl))
          (try simp only [Act.put, List.setIfInBounds_toArray, List.set_cons_zero, List.set_cons_succ])
          refine wpAnyM_take (i := 2) (oi := ⟨_, _, _, _, _, _⟩) (v := ?_) rfl (by kernel_rfl) (by kernel_rfl) (by kernel_rfl) (by kernel_rfl) (fun _ _ _ h => h) (Or.inl ⟨by rfl, ?_⟩) hHeld ?_
          rotate_left
          · (intro w' hSw; (try dsimp only at hSw); go_simp; try (with_reducible rfl))
          (try simp only [Act.put, List.setIfInBounds_toArray, List.set_cons_zero, List.set_cons_succ])
          refine wpAnyM_one (i := 1) (o := ⟨_, _, _, _, _, _⟩) (by kernel_rfl) rfl (fun K hK => ?_)
          go_simp
          go_at_call 15
          refine (HM1.out _ BZ.out).mono ?_
          rintro e wz ⟨rfl, rfl⟩
          refine hK.out _ _ (KC.out _ BZ.out) (fun hHeld => ?_)
          clear hK K
          (try simp only [List.setIfInBounds_toArray, List.set_cons_zero, List.set_cons_succ])
          refine wpAnyM_one (i := 3) (o := ⟨_, _, _, _, _, _⟩) (by kernel_rfl) rfl (fun K hK => ?_)
          go_simp
          go_at_call 16
          refine (HM2.out _ BZ.out).mono ?_
          rintro e wz ⟨rfl, rfl⟩
          refine hK.out _ _ (KC.out _ BZ.out) (fun hHeld => ?_)
          clear hK K
          (try simp only [List.setIfInBounds_toArray, List.set_cons_zero, List.set_cons_succ])
          refine wpAnyM_take (i := 4) (oi := ⟨_, _, _, _, _, _⟩) (v := ?_) rfl (by kernel_rfl) (by kernel_rfl) (by kernel_rfl) (by kernel_rfl) (fun _ _ _ h => h) (Or.inl ⟨by rfl, ?_⟩) hHeld ?_
          rotate_left
          · (intro w' hSw; (try dsimp only at hSw); go_simp; try (with_reducible rfl))
          (try simp only [Act.put, List.setIfInBounds_toArray, List.set_cons_zero, List.set_cons_succ])
          refine wpAnyM_take (i := 5) (oi := ⟨_, _, _, _, _, _⟩) (v := ?_) rfl (by kernel_rfl) (by kernel_rfl) (by kernel_rfl) (by kernel_rfl) (fun _ _ _ h => h) (Or.inl ⟨by rfl, ?_⟩) hHeld ?_
          rotate_left
          · (intro w' hSw; (try dsimp only at hSw); go_simp; try (with_reducible rfl))
          (try simp only [Act.put, List.setIfInBounds_toArray, List.set_cons_zero, List.set_cons_succ])
          refine wpAnyM_take (i := 6) (oi := ⟨_, _, _, _, _, _⟩) (v := ?_) rfl (by kernel_rfl) (by kernel_rfl) (by kernel_rfl) (by kernel_rfl) (fun _ _ _ h => h) (Or.inl ⟨by rfl, ?_⟩) hHeld ?_
          rotate_left
          · (intro w' hSw; (try dsimp only at hSw); go_simp; try (with_reducible rfl))
          (try simp only [Act.put, List.setIfInBounds_toArray, List.set_cons_zero, List.set_cons_succ])
          refine wpAnyM_take (i := 8) (oi := ⟨_, _, _, _, _, _⟩) (v := ?_) rfl (by kernel_rfl) (by kernel_rfl) (by kernel_rfl) (by kernel_rfl) (fun _ _ _ h => h) (Or.inl ⟨by rfl, ?_⟩) hHeld ?_
          rotate_left
          · (intro w' hSw; (try dsimp only at hSw); go_simp; try (with_reducible rfl))
          (try simp only [Act.put, List.setIfInBounds_toArray, List.set_cons_zero, List.set_cons_succ])
          refine wpAnyM_take (i := 9) (oi := ⟨_, _, _, _, _, _⟩) (v := ?_) rfl (by kernel_rfl) (by kernel_rfl) (by kernel_rfl) (by kernel_rfl) (fun _ _ _ h => h) (Or.inl ⟨by rfl, ?_⟩) hHeld ?_
          rotate_left
          · (intro w' hSw; (try dsimp only at hSw); go_simp; try (with_reducible rfl))
          (try simp only [Act.put, List.setIfInBounds_toArray, List.set_cons_zero, List.set_cons_succ])
          refine wpAnyM_take (i := 10) (oi := ⟨_, _, _, _, _, _⟩) (v := ?_) rfl (by kernel_rfl) (by kernel_rfl) (by kernel_rfl) (by kernel_rfl) (fun _ _ _ h => h) (Or.inl ⟨by rfl, ?_⟩) hHeld ?_
          rotate_left
          · (intro w' hSw; (try dsimp only at hSw); go_simp; try (with_reducible rfl))
          (try simp only [Act.put, List.setIfInBounds_toArray, List.set_cons_zero, List.set_cons_succ])
          refine wpAnyM_take (i := 11) (oi := ⟨_, _, _, _, _, _⟩) (v := ?_) rfl (by kernel_rfl) (by kernel_rfl) (by kernel_rfl) (by kernel_rfl) (fun _ _ _ h => h) (Or.inl ⟨by rfl, ?_⟩) hHeld ?_
          rotate_left
          · (intro w' hSw; (try dsimp only at hSw); go_simp; try (with_reducible rfl))
          (try simp only [Act.put, List.setIfInBounds_toArray, List.set_cons_zero, List.set_cons_succ])
          refine wpAnyM_one (i := 7) (o := ⟨_, _, _, _, _, _⟩) (by kernel_rfl) rfl (fun K hK => ?_)
          go_simp
          go_at_call 18
          refine (HM3.out _ BZ.out).mono ?_
          rintro e w7 ⟨u7, rfl, o7, b7⟩
          have B7 := hide (BZ.out.trans (b7.mono BZ.out.size))
          have HO7 := hide (o7.seg i64cs_len (by have := HLM.out; omega))
          obtain ⟨ua, uc, hu7⟩ := o7.shape
          rw [HSN.out] at hu7
          subst hu7
          clear o7 b7
          refine hK.out _ _ (KC.out _ B7.out) (fun hHeld => ?_)
          clear hK K
          (try simp only [List.setIfInBounds_toArray, List.set_cons_zero, List.set_cons_succ])
          refine wpAnyM_one (i := 12) (o := ⟨_, _, _, _, _, _⟩) (by kernel_rfl) rfl (fun K hK => ?_)
          go_simp
          go_at_call 17
          refine (hMarks_any HO7.out (HRC.out _ B7.out).2.1 HLM.out).mono ?_
          rintro e w8 ⟨rfl, b8⟩
          have B8 := hide (B7.out.trans (b8 _))
          clear b8 BZ
          have BZ := hide B8.out
          refine hK.out _ _ (KC.out _ BZ.out) (fun hHeld => ?_)
          clear hK K
          (try simp only [List.setIfInBounds_toArray, List.set_cons_zero, List.set_cons_succ])
          refine wpAnyM_take (i := 13) (oi := ⟨_, _, _, _, _, _⟩) (v := ?_) rfl (by kernel_rfl) (by kernel_rfl) (by kernel_rfl) (by kernel_rfl) (fun _ _ _ h => h) (Or.inl ⟨by rfl, ?_⟩) hHeld ?_
          rotate_left
          · (intro w' hSw; (try dsimp only at hSw); go_simp; try (with_reducible rfl))
          (try simp only [Act.put, List.setIfInBounds_toArray, List.set_cons_zero, List.set_cons_succ])
          refine wpAnyM_take (i := 14) (oi := ⟨_, _, _, _, _, _⟩) (v := ?_) rfl (by kernel_rfl) (by kernel_rfl) (by kernel_rfl) (by kernel_rfl) (fun _ _ _ h => h) (Or.inl ⟨by rfl, ?_⟩) hHeld ?_
          rotate_left
          · (intro w' hSw; (try dsimp only at hSw); go_simp; try (with_reducible rfl))
          (try simp only [Act.put, List.setIfInBounds_toArray, List.set_cons_zero, List.set_cons_succ])
          refine wpAnyM_take (i := 15) (oi := ⟨_, _, _, _, _, _⟩) (v := ?_) rfl (by kernel_rfl) (by kernel_rfl) (by kernel_rfl) (by kernel_rfl) (fun _ _ _ h => h) (Or.inl ⟨by rfl, ?_⟩) hHeld ?_
          rotate_left
          · (intro w' hSw; (try dsimp only at hSw); go_simp; try (with_reducible rfl))
          (try simp only [Act.put, List.setIfInBounds_toArray, List.set_cons_zero, List.set_cons_succ])
          refine wpAnyM_take (i := 16) (oi := ⟨_, _, _, _, _, _⟩) (v := ?_) rfl (by kernel_rfl) (by kernel_rfl) (by kernel_rfl) (by kernel_rfl) (fun _ _ _ h => h) (Or.inl ⟨by rfl, ?_⟩) hHeld ?_
          rotate_left
          · (intro w' hSw; (try dsimp only at hSw); go_simp; try (with_reducible rfl))
          (try simp only [Act.put, List.setIfInBounds_toArray, List.set_cons_zero, List.set_cons_succ])
          refine wpAnyM_take (i := 18) (oi := ⟨_, _, _, _, _, _⟩) (v := ?_) rfl (by kernel_rfl) (by kernel_rfl) (by kernel_rfl) (by kernel_rfl) (fun _ _ _ h => h) (Or.inl ⟨by rfl, ?_⟩) hHeld ?_
          rotate_left
          · (intro w' hSw; (try dsimp only at hSw); go_simp; try (with_reducible rfl))
          (try simp only [Act.put, List.setIfInBounds_toArray, List.set_cons_zero, List.set_cons_succ])
          refine wpAnyM_take (i := 19) (oi := ⟨_, _, _, _, _, _⟩) (v := ?_) rfl (by kernel_rfl) (by kernel_rfl) (by kernel_rfl) (by kernel_rfl) (fun _ _ _ h => h) (Or.inl ⟨by rfl, ?_⟩) hHeld ?_
          rotate_left
          · (intro w' hSw; (try dsimp only at hSw); go_simp; try (with_reducible rfl))
          (try simp only [Act.put, List.setIfInBounds_toArray, List.set_cons_zero, List.set_cons_succ])
          refine wpAnyM_take (i := 20) (oi := ⟨_, _, _, _, _, _⟩) (v := ?_) rfl (by kernel_rfl) (by kernel_rfl) (by kernel_rfl) (by kernel_rfl) (fun _ _ _ h => h) (Or.inl ⟨by rfl, ?_⟩) hHeld ?_
          rotate_left
          · (intro w' hSw; (try dsimp only at hSw); go_simp; try (with_reducible rfl))
          (try simp only [Act.put, List.setIfInBounds_toArray, List.set_cons_zero, List.set_cons_succ])
          refine wpAnyM_take (i := 21) (oi := ⟨_, _, _, _, _, _⟩) (v := ?_) rfl (by kernel_rfl) (by kernel_rfl) (by kernel_rfl) (by kernel_rfl) (fun _ _ _ h => h) (Or.inl ⟨by rfl, ?_⟩) hHeld ?_
          rotate_left
          · (intro w' hSw; (try dsimp only at hSw); go_simp; try (with_reducible rfl))
          (try simp only [Act.put, List.setIfInBounds_toArray, List.set_cons_zero, List.set_cons_succ])
          refine wpAnyM_one (i := 17) (o := ⟨_, _, _, _, _, _⟩) (by kernel_rfl) rfl (fun K hK => ?_)
          go_simp
          go_at_call 19
          refine (HU1.out _ BZ.out).mono ?_
          rintro e wz ⟨rfl, rfl⟩
          refine hK.out _ _ (KC.out _ BZ.out) (fun hHeld => ?_)
          clear hK K
          (try simp only [List.setIfInBounds_toArray, List.set_cons_zero, List.set_cons_succ])
          refine wpAnyM_take (i := 22) (oi := ⟨_, _, _, _, _, _⟩) (v := ?_) rfl (by kernel_rfl) (by kernel_rfl) (by kernel_rfl) (by kernel_rfl) (fun _ _ _ h => h) (Or.inl ⟨by rfl, ?_⟩) hHeld ?_
          rotate_left
          · (intro w' hSw; (try dsimp only at hSw); go_simp; try (with_reducible rfl))
          (try simp only [Act.put, List.setIfInBounds_toArray, List.set_cons_zero, List.set_cons_succ])
          refine wpAnyM_take (i := 23) (oi := ⟨_, _, _, _, _, _⟩) (v := ?_) rfl (by kernel_rfl) (by kernel_rfl) (by kernel_rfl) (by kernel_rfl) (fun _ _ _ h => h) (Or.inl ⟨by rfl, ?_⟩) hHeld ?_
          rotate_left
          · (intro w' hSw; (try dsimp only at hSw); go_simp; try (with_reducible rfl))
          (try simp only [Act.put, List.setIfInBounds_toArray, List.set_cons_zero, List.set_cons_succ])
          refine wpAnyM_take (i := 24) (oi := ⟨_, _, _, _, _, _⟩) (v := ?_) rfl (by kernel_rfl) (by kernel_rfl) (by kernel_rfl) (by kernel_rfl) (fun _ _ _ h => h) (Or.inl ⟨by rfl, ?_⟩) hHeld ?_
          rotate_left
          · (intro w' hSw; (try dsimp only at hSw); go_simp; try (with_reducible rfl))
          (try simp only [Act.put, List.setIfInBounds_toArray, List.set_cons_zero, List.set_cons_succ])
          refine wpAnyM_take (i := 25) (oi := ⟨_, _, _, _, _, _⟩) (v := ?_) rfl (by kernel_rfl) (by kernel_rfl) (by kernel_rfl) (by kernel_rfl) (fun _ _ _ h => h) (Or.inl ⟨by rfl, ?_⟩) hHeld ?_
          rotate_left
          · (intro w' hSw; (try dsimp only at hSw); go_simp; try (with_reducible rfl))
          (try simp only [Act.put, List.setIfInBounds_toArray, List.set_cons_zero, List.set_cons_succ])
          refine wpAnyM_take (i := 27) (oi := ⟨_, _, _, _, _, _⟩) (v := ?_) rfl (by kernel_rfl) (by kernel_rfl) (by kernel_rfl) (by kernel_rfl) (fun _ _ _ h => h) (Or.inl ⟨by rfl, ?_⟩) hHeld ?_
          rotate_left
          · (intro w' hSw; (try dsimp only at hSw); go_simp; try (with_reducible rfl))
          (try simp only [Act.put, List.setIfInBounds_toArray, List.set_cons_zero, List.set_cons_succ])
          refine wpAnyM_take (i := 28) (oi := ⟨_, _, _, _, _, _⟩) (v := ?_) rfl (by kernel_rfl) (by kernel_rfl) (by kernel_rfl) (by kernel_rfl) (fun _ _ _ h => h) (Or.inl ⟨by rfl, ?_⟩) hHeld ?_
          rotate_left
          · (intro w' hSw; (try dsimp only at hSw); go_simp; try (with_reducible rfl))
          (try simp only [Act.put, List.setIfInBounds_toArray, List.set_cons_zero, List.set_cons_succ])
          refine wpAnyM_take (i := 29) (oi := ⟨_, _, _, _, _, _⟩) (v := ?_) rfl (by kernel_rfl) (by kernel_rfl) (by kernel_rfl) (by kernel_rfl) (fun _ _ _ h => h) (Or.inl ⟨by rfl, ?_⟩) hHeld ?_
          rotate_left
          · (intro w' hSw; (try dsimp only at hSw); go_simp; try (with_reducible rfl))
          (try simp only [Act.put, List.setIfInBounds_toArray, List.set_cons_zero, List.set_cons_succ])
          refine wpAnyM_take (i := 30) (oi := ⟨_, _, _, _, _, _⟩) (v := ?_) rfl (by kernel_rfl) (by kernel_rfl) (by kernel_rfl) (by kernel_rfl) (fun _ _ _ h => h) (Or.inl ⟨by rfl, ?_⟩) hHeld ?_
          rotate_left
          · (intro w' hSw; (try dsimp only at hSw); go_simp; try (with_reducible rfl))
          (try simp only [Act.put, List.setIfInBounds_toArray, List.set_cons_zero, List.set_cons_succ])
          refine wpAnyM_one (i := 26) (o := ⟨_, _, _, _, _, _⟩) (by kernel_rfl) rfl (fun K hK => ?_)
          go_simp
          go_at_call 20
          refine (HL1.out _ BZ.out).mono ?_
          rintro e wz ⟨rfl, rfl⟩
          refine hK.out _ _ (KC.out _ BZ.out) (fun hHeld => ?_)
          clear hK K
          (try simp only [List.setIfInBounds_toArray, List.set_cons_zero, List.set_cons_succ])
          refine wpAnyM_take (i := 31) (oi := ⟨_, _, _, _, _, _⟩) (v := ?_) rfl (by kernel_rfl) (by kernel_rfl) (by kernel_rfl) (by kernel_rfl) (fun _ _ _ h => h) (Or.inl ⟨by rfl, ?_⟩) hHeld ?_
          rotate_left
          · (intro w' hSw; (try dsimp only at hSw); go_simp; try (with_reducible rfl))
          (try simp only [Act.put, List.setIfInBounds_toArray, List.set_cons_zero, List.set_cons_succ])
          refine wpAnyM_take (i := 32) (oi := ⟨_, _, _, _, _, _⟩) (v := ?_) rfl (by kernel_rfl) (by kernel_rfl) (by kernel_rfl) (by kernel_rfl) (fun _ _ _ h => h) (Or.inl ⟨by rfl, ?_⟩) hHeld ?_
          rotate_left
          · (intro w' hSw; (try dsimp only at hSw); go_simp; try (with_reducible rfl))
          (try simp only [Act.put, List.setIfInBounds_toArray, List.set_cons_zero, List.set_cons_succ])
          refine wpAnyM_take (i := 33) (oi := ⟨_, _, _, _, _, _⟩) (v := ?_) rfl (by kernel_rfl) (by kernel_rfl) (by kernel_rfl) (by kernel_rfl) (fun _ _ _ h => h) (Or.inl ⟨by rfl, ?_⟩) hHeld ?_
          rotate_left
          · (intro w' hSw; (try dsimp only at hSw); go_simp; try (with_reducible rfl))
          (try simp only [Act.put, List.setIfInBounds_toArray, List.set_cons_zero, List.set_cons_succ])
          refine wpAnyM_take (i := 34) (oi := ⟨_, _, _, _, _, _⟩) (v := ?_) rfl (by kernel_rfl) (by kernel_rfl) (by kernel_rfl) (by kernel_rfl) (fun _ _ _ h => h) (Or.inl ⟨by rfl, ?_⟩) hHeld ?_
          rotate_left
          · (intro w' hSw; (try dsimp only at hSw); go_simp; try (with_reducible rfl))
          (try simp only [Act.put, List.setIfInBounds_toArray, List.set_cons_zero, List.set_cons_succ])
          refine wpAnyM_take (i := 36) (oi := ⟨_, _, _, _, _, _⟩) (v := ?_) rfl (by kernel_rfl) (by kernel_rfl) (by kernel_rfl) (by kernel_rfl) (fun _ _ _ h => h) (Or.inl ⟨by rfl, ?_⟩) hHeld ?_
          rotate_left
          · (intro w' hSw; (try dsimp only at hSw); go_simp; try (with_reducible rfl))
          (try simp only [Act.put, List.setIfInBounds_toArray, List.set_cons_zero, List.set_cons_succ])
          refine wpAnyM_take (i := 37) (oi := ⟨_, _, _, _, _, _⟩) (v := ?_) rfl (by kernel_rfl) (by kernel_rfl) (by kernel_rfl) (by kernel_rfl) (fun _ _ _ h => h) (Or.inl ⟨by rfl, ?_⟩) hHeld ?_
          rotate_left
          · (intro w' hSw; (try dsimp only at hSw); go_simp; try (with_reducible rfl))
          (try simp only [Act.put, List.setIfInBounds_toArray, List.set_cons_zero, List.set_cons_succ])
          refine wpAnyM_take (i := 38) (oi := ⟨_, _, _, _, _, _⟩) (v := ?_) rfl (by kernel_rfl) (by kernel_rfl) (by kernel_rfl) (by kernel_rfl) (fun _ _ _ h => h) (Or.inl ⟨by rfl, ?_⟩) hHeld ?_
          rotate_left
          · (intro w' hSw; (try dsimp only at hSw); go_simp; try (with_reducible rfl))
          (try simp only [Act.put, List.setIfInBounds_toArray, List.set_cons_zero, List.set_cons_succ])
          refine wpAnyM_take (i := 39) (oi := ⟨_, _, _, _, _, _⟩) (v := ?_) rfl (by kernel_rfl) (by kernel_rfl) (by kernel_rfl) (by kernel_rfl) (fun _ _ _ h => h) (Or.inl ⟨by rfl, ?_⟩) hHeld ?_
          rotate_left
          · (intro w' hSw; (try dsimp only at hSw); go_simp; try (with_reducible rfl))
          (try simp only [Act.put, List.setIfInBounds_toArray, List.set_cons_zero, List.set_cons_succ])
          refine wpAnyM_one (i := 35) (o := ⟨_, _, _, _, _, _⟩) (by kernel_rfl) rfl (fun K hK => ?_)
          go_simp
          go_at_call 22
          refine (HC1.out _ BZ.out).mono ?_
          rintro e w9 ⟨u9, rfl, o9, b9⟩
          have B9 := hide (BZ.out.trans (b9.mono BZ.out.size))
          have HO9 := hide (o9.seg Ou.cs_len (by rw [HCPL.out]; omega))
          obtain ⟨ub, ud, hu9⟩ := o9.shape
          rw [HCPL.out] at hu9
          subst hu9
          clear o9 b9
          refine hK.out _ _ (KC.out _ B9.out) (fun hHeld => ?_)
          clear hK K
          (try simp only [List.setIfInBounds_toArray, List.set_cons_zero, List.set_cons_succ])
          refine wpAnyM_one (i := 40) (o := ⟨_, _, _, _, _, _⟩) (by kernel_rfl) rfl (fun K hK => ?_)
          go_simp
          go_at_call 21
          refine (hOuts_any HO9.out (by have := (HRC.out _ B9.out).2.2; exact this) (by have := HLC.out; rw [HCPL.out]; exact this)).mono ?_
          rintro e w10 ⟨rfl, b10⟩
          have B10 := hide (B9.out.trans (b10 _))
          clear b10 BZ
          have BZ := hide B10.out
          refine hK.out _ _ (KC.out _ BZ.out) (fun hHeld => ?_)
          clear hK K
          (try simp only [List.setIfInBounds_toArray, List.set_cons_zero, List.set_cons_succ])
          refine wpAnyM_take (i := 41) (oi := ⟨_, _, _, _, _, _⟩) (v := ?_) rfl (by kernel_rfl) (by kernel_rfl) (by kernel_rfl) (by kernel_rfl) (fun _ _ _ h => h) (Or.inl ⟨by rfl, ?_⟩) hHeld ?_
          rotate_left
          · (intro w' hSw; (try dsimp only at hSw); go_simp; try (with_reducible rfl))
          (try simp only [Act.put, List.setIfInBounds_toArray, List.set_cons_zero, List.set_cons_succ])
          refine wpAnyM_take (i := 42) (oi := ⟨_, _, _, _, _, _⟩) (v := ?_) rfl (by kernel_rfl) (by kernel_rfl) (by kernel_rfl) (by kernel_rfl) (fun _ _ _ h => h) (Or.inl ⟨by rfl, ?_⟩) hHeld ?_
          rotate_left
          · (intro w' hSw; (try dsimp only at hSw); go_simp; try (with_reducible rfl))
          (try simp only [Act.put, List.setIfInBounds_toArray, List.set_cons_zero, List.set_cons_succ])
          refine wpAnyM_done (by kernel_rfl) ?_ _
          go_upto_region 22 with fail
          refine wp_at (PW w k s' R r' []) (HPB.out _ BZ.out) ?_
          clear HM1 HM2 HM3 HU1 HL1 HC1 KC HRC BD BZ HPB HLM HLC
          intro Z HZ0
          have HZ := hide HZ0
          clear HZ0
          have HB1 : Hid (∀ z, Calls Try.prog 23 #[.pointer (some ⟨k, 0, none⟩), .int .i64 z] Z fun e w'' => e = .returned (.bool (s'.bl z)) ∧ Z = w'') := (show ∀ z, _ from fun z => by
            obtain ⟨fp, fq, h1, _⟩ := HZ.out
            exact Blocked_any h1 z)
          have HB2 : Hid (∀ z, Calls Try.prog 24 #[.pointer (some ⟨R, 0, none⟩), .int .i64 z] Z fun e w'' => e = .returned (.bool (s'.bl z)) ∧ Z = w'') := (show ∀ z, _ from fun z => by
            obtain ⟨fp, fq, _, h2, _⟩ := HZ.out
            rw [HBE.out z]
            exact rBlocked_any h2 z)
          go_wp2_with fail
          go_loopg [13] (n + 3) (fun gh zv wr => ∃ (z : Int) (kk : Nat), zv = .int .i64 z ∧ z + 1 = (kk : Int) ∧ kk ≤ n + 1 + 1 ∧ n + 3 ≤ gh + kk ∧ wr = Z)
          case atStart => exact ⟨-1, 0, rfl, rfl, by omega, by omega, rfl⟩
          case round =>
            obtain ⟨z, kk, rfl, hz, hkk, hgg, rfl⟩ := hrel
            obtain ⟨gi, rfl⟩ : ∃ gi, gk = gi + 1 := ⟨gk - 1, by omega⟩
            by_cases hzn : z ≤ (n : Int)
            · have HBa := hide (HB1.out z)
              have HBb := hide (HB2.out z)
              generalize s'.bl z = bz at *
              go_wp2_with (first | (go_at_call 23; refine HBa.out.mono ?_; rintro e w9 ⟨rfl, rfl⟩) | (go_at_call 24; refine HBb.out.mono ?_; rintro e w9 ⟨rfl, rfl⟩))
              go_roundg gi
              case rel => exact ⟨z + 1, kk + 1, by first | rfl | go_num, by omega, by omega, by omega, rfl⟩
              case measure => omega
            · go_wp2_with fail
              go_roundg go
              case rel => exact ⟨i + 1, s', r', by go_num, by omega, by omega, HSN.out, by rw [HCPL.out]; omega, HSI2, HZ⟩
              case measure => omega
      | false =>
        rw [hld] at y8
        obtain ⟨t1, t2, t3⟩ := HSI.out.1.tk x.ch x.f
        obtain ⟨st, hst⟩ : ∃ st, s.tkS x.ch x.f = st := ⟨_, rfl⟩
        obtain ⟨er, her⟩ : ∃ er, s.tkE x.ch = er := ⟨_, rfl⟩
        obtain ⟨s', hs'⟩ : ∃ s', s.tk x.ch x.f = s' := ⟨_, rfl⟩
        obtain ⟨r', hr'⟩ : ∃ r', r.tk x.ch x.f = r' := ⟨_, rfl⟩
        have HTK := hide (HP.out.take x.ch x.f (by omega) hs' hst her)
        have HSI2 : Hid (Sim s' r' ∧ r'.Sm) := ⟨by rw [← hs', ← hr']; exact t3, by rw [← hr']; exact Gs.Sm_tk HSI.out.2 HP.out.facts.1 HP.out.facts.2.1 _ _⟩
        have HRT : Hid (∀ W L, PW w k s' R r L W → Calls Try.prog 14 #[.pointer (some ⟨R, 0, none⟩), .int .i64 x.ch, .agg #[.int .i64 x.f.kd, .int .i64 x.f.ke, .int .i64 x.f.ti, .int .i64 x.f.va, .int .i64 x.f.ma, .int .u64 x.f.n, .bool x.f.ov]] W (PT w k s' R r' L st er)) := (show ∀ W L, _ from fun W L h => h.rtake HSI.out.2 x.ch x.f hrc hr' (by rw [← t1]; exact hst) (by rw [← t2]; exact her))
        have hsn' : s'.M.length = n := by rw [← hs', Gs.tk_len]; exact hsn
        have hcp' : s'.cp.length ≤ i + 1 := by rw [← hs']; have := Gs.tk_cp s x.ch x.f; omega
        clear hs' hr' hst her t1 t2 t3
        obtain ⟨k0, k1, k2, k3, k4, k5, k6⟩ := st
        go_upto_region 17 with (go_at_call 13; refine HTK.out.mono ?_; rintro e w5 ⟨rfl, g5⟩; have H5 := hide (g5.box 43 #[.int .i64 k0, .int .i64 k1, .int .i64 k2, .int .i64 k3, .int .i64 k4, .int .u64 k5, .int .u64 k6]); clear g5)
        clear HTK y0 y1 y2 y3 y4 y5 y6 y7 y8 y9
        refine wp_at (PW w k s' R r [(w5.heap.size, 43, #[.int .i64 k0, .int .i64 k1, .int .i64 k2, .int .i64 k3, .int .i64 k4, .int .u64 k5, .int .u64 k6]), (xb, 39, #[.int .i64 x.ch, .int .i64 x.f.kd, .int .i64 x.f.ke, .int .i64 x.f.ti, .int .i64 x.f.va, .int .i64 x.f.ma, .int .u64 x.f.n, .bool x.f.ov, .bool x.ld, .slice mva x.m.length mvc])]) H5.out ?_
        clear H5
        generalize w5.heap.size = ab at *
        intro W HPW2
        have H5 := hide HPW2
        obtain ⟨y0, y1, y2, y3, y4, y5, y6, y7, y8, y9⟩ := HBC.out W (HPW2.get (p := (xb, 39, #[.int .i64 x.ch, .int .i64 x.f.kd, .int .i64 x.f.ke, .int .i64 x.f.ti, .int .i64 x.f.va, .int .i64 x.f.ma, .int .u64 x.f.n, .bool x.f.ov, .bool x.ld, .slice mva x.m.length mvc])) (by simp))
        clear HPW2
        go_upto_region 18 with (go_at_call 14; refine (HRT.out _ _ H5.out).mono ?_; rintro e w6 ⟨rfl, g6⟩; have H6 := hide (g6.box 43 #[.int .i64 k0, .int .i64 k1, .int .i64 k2, .int .i64 k3, .int .i64 k4, .int .u64 k5, .int .u64 k6]); clear g6)
        clear HRT y0 y1 y2 y3 y4 y5 y6 y7 y8 y9
        refine wp_at (PW w k s' R r' [(w6.heap.size, 43, #[.int .i64 k0, .int .i64 k1, .int .i64 k2, .int .i64 k3, .int .i64 k4, .int .u64 k5, .int .u64 k6]), (ab, 43, #[.int .i64 k0, .int .i64 k1, .int .i64 k2, .int .i64 k3, .int .i64 k4, .int .u64 k5, .int .u64 k6]), (xb, 39, #[.int .i64 x.ch, .int .i64 x.f.kd, .int .i64 x.f.ke, .int .i64 x.f.ti, .int .i64 x.f.va, .int .i64 x.f.ma, .int .u64 x.f.n, .bool x.f.ov, .bool x.ld, .slice mva x.m.length mvc])]) H6.out ?_
        clear H6 H5
        generalize w6.heap.size = rb at *
        intro W2 HPW3
        have BA := HPW3.get (p := (ab, 43, #[.int .i64 k0, .int .i64 k1, .int .i64 k2, .int .i64 k3, .int .i64 k4, .int .u64 k5, .int .u64 k6])) (by simp)
        have BR := HPW3.get (p := (rb, 43, #[.int .i64 k0, .int .i64 k1, .int .i64 k2, .int .i64 k3, .int .i64 k4, .int .u64 k5, .int .u64 k6])) (by simp)
        obtain ⟨a0, a1, a2, a3, a4, a5, a6⟩ := BoxT.all7 BA
        obtain ⟨d0, d1, d2, d3, d4, d5, d6⟩ := BoxT.all7 BR
        have H6 := hide HPW3.none_
        clear BA BR HPW3
        go_upto_region 20 with fail
        refine wp_at (PW w k s' R r' []) H6.out ?_
        clear H6 HP HBC a0 a1 a2 a3 a4 a5 a6 d0 d1 d2 d3 d4 d5 d6
        intro Y HPY
        have HY := hide HPY
        clear HPY
        obtain ⟨e1, e2, e3, e4⟩ := HSI2.out.1.eqs
        have HPB : Hid (∀ W', Below Y.heap.size Y W' → PW w k s' R r' [] W') := (show ∀ W', _ from fun W' hb => HY.out.below hb)
        have HM1 : Hid (∀ W', Below Y.heap.size Y W' → Calls Try.prog 15 #[.pointer (some ⟨k, 0, none⟩)] W' fun e w'' => e = .returned (.int .i64 (least s'.M)) ∧ W' = w'') := (show ∀ W', _ from fun W' hb => by
          obtain ⟨fp, fq, h1, _⟩ := HPB.out W' hb
          exact Mark_any h1)
        have HM2 : Hid (∀ W', Below Y.heap.size Y W' → Calls Try.prog 16 #[.pointer (some ⟨R, 0, none⟩)] W' fun e w'' => e = .returned (.int .i64 (least s'.M)) ∧ W' = w'') := (show ∀ W', _ from fun W' hb => by
          obtain ⟨fp, fq, _, h2, _⟩ := HPB.out W' hb
          rw [e1]
          exact rMark_any h2)
        have HM3 : Hid (∀ W', Below Y.heap.size Y W' → Calls Try.prog 18 #[.pointer (some ⟨k, 0, none⟩)] W' fun e w'' => ∃ u, e = .returned u ∧ OwnL 2 1 i64cs W'.heap.size w'' u s'.M ∧ Below W'.heap.size W' w'') := (show ∀ W', _ from fun W' hb => by
          obtain ⟨fp, fq, h1, _⟩ := HPB.out W' hb
          exact Marks_any h1)
        have HU1 : Hid (∀ W', Below Y.heap.size Y W' → Calls Try.prog 19 #[.pointer (some ⟨k, 0, none⟩)] W' fun e w'' => e = .returned (.int .u64 s'.un) ∧ W' = w'') := (show ∀ W', _ from fun W' hb => by
          obtain ⟨fp, fq, h1, _⟩ := HPB.out W' hb
          exact Under_any h1)
        have HL1 : Hid (∀ W', Below Y.heap.size Y W' → Calls Try.prog 20 #[.pointer (some ⟨k, 0, none⟩)] W' fun e w'' => e = .returned (.int .u64 s'.la) ∧ W' = w'') := (show ∀ W', _ from fun W' hb => by
          obtain ⟨fp, fq, h1, _⟩ := HPB.out W' hb
          exact Last_any h1)
        have HC1 : Hid (∀ W', Below Y.heap.size Y W' → Calls Try.prog 22 #[.pointer (some ⟨k, 0, none⟩)] W' fun e w'' => ∃ u, e = .returned u ∧ OwnL 65 8 Ou.cs W'.heap.size w'' u s'.cp ∧ Below W'.heap.size W' w'') := (show ∀ W', _ from fun W' hb => by
          obtain ⟨fp, fq, h1, _⟩ := HPB.out W' hb
          exact Captured_any h1 (by omega))
        obtain ⟨ma, mc, ka, kc, HRC⟩ : ∃ ma mc ka kc, Hid (∀ W', Below Y.heap.size Y W' → (W'.cell? ⟨R, 0, none⟩ = some (.slice ma n mc) ∧ W'.cell? ⟨R, 1, none⟩ = some (.int .u64 s'.la) ∧ W'.cell? ⟨R, 2, none⟩ = some (.int .u64 s'.un) ∧ W'.cell? ⟨R, 5, none⟩ = some (.slice ka s'.cp.length kc)) ∧ LSeg 1 i64cs Y.heap.size W' (.slice ma n mc) s'.M ∧ LSeg 8 Ou.cs Y.heap.size W' (.slice ka s'.cp.length kc) s'.cp) := by
          obtain ⟨fp, fq, _, ⟨fd, mv, cv, kv, X, hf⟩, _⟩ := HY.out
          obtain ⟨ma, mc, em, _⟩ := X.m.shape
          obtain ⟨ka, kc, ek, _⟩ := X.k.shape
          have hm := X.m.lseg
          have hk := X.k.lseg
          have hc := X.cells
          have hR := X.box.lt
          rw [em, ← e1, hsn'] at hm
          rw [ek, ← e4] at hk
          refine ⟨ma, mc, ka, kc, (show ∀ W', _ from fun W' hb => ⟨⟨?_, ?_, ?_, ?_⟩, hm.below hb, hk.below hb⟩)⟩
          · rw [hb.cell (p := ⟨R, 0, none⟩) hR, hc.1, em, ← e1, hsn']
          · rw [hb.cell (p := ⟨R, 1, none⟩) hR, hc.2.1, ← e2]
          · rw [hb.cell (p := ⟨R, 2, none⟩) hR, hc.2.2.1, ← e3]
          · rw [hb.cell (p := ⟨R, 5, none⟩) hR, hc.2.2.2.2.2, ek, ← e4]
        have HBE : Hid (∀ z, s'.bl z = r'.bl z) := (show ∀ z, _ from fun z => HSI2.out.1.bl z)
        have KC : Hid (∀ w', Below Y.heap.size Y w' → w'.cell? ⟨R, 0, none⟩ = some (.slice ma n mc) ∧ w'.cell? ⟨R, 1, none⟩ = some (.int .u64 s'.la) ∧ w'.cell? ⟨R, 2, none⟩ = some (.int .u64 s'.un) ∧ w'.cell? ⟨R, 5, none⟩ = some (.slice ka s'.cp.length kc)) := fun w' hb => (HRC.out w' hb).1
        have HLM : Hid (s'.M.length ≤ 1000000) := (show _ ≤ _ by omega)
        have HLC : Hid (s'.cp.length ≤ 1000000) := (show _ ≤ _ by omega)
        have BD : Hid (Below Y.heap.size Y Y.drew) := (Below.refl _ _).drew
        clear e1 e2 e3 e4
        generalize hcpl : s'.cp.length = pcp at *
        have hsc : pcp ≤ 1000 := by omega
        have HSN := hide hsn'
        clear hsn'
        have HCPL := hide hcpl
        clear hcpl
        have BZ := hide BD.out
        refine wp_region_M (S := fun w' => w'.cell? ⟨R, 0, none⟩ = some (.slice ma n mc) ∧ w'.cell? ⟨R, 1, none⟩ = some (.int .u64 s'.la) ∧ w'.cell? ⟨R, 2, none⟩ = some (.int .u64 s'.un) ∧ w'.cell? ⟨R, 5, none⟩ = some (.slice ka pcp kc)) (late := []) (by kernel_rfl) (KC.out _ BD.out) (fun hHeld => ?_)
        (try simp only [List.size_toArray, List.length_cons, List.length_nil, Nat.zero_add, Nat.reduceAdd, Array.replicate, List.replicate])
        refine wpAnyM_take (i := 0) (oi := ⟨_, _, _, _, _, _⟩) (v := ?_) rfl (by kernel_rfl) (by kernel_rfl) (by kernel_rfl) (by kernel_rfl) (fun _ _ _ h => h) (Or.inl ⟨by rfl, ?_⟩) hHeld ?_
        rotate_left
        · (intro w' hSw; (try dsimp only at hSw); go_simp; try (with_reducible rfl))
        (try simp only [Act.put, List.setIfInBounds_toArray, List.set_cons_zero, List.set_cons_succ])
        refine wpAnyM_take (i := 2) (oi := ⟨_, _, _, _, _, _⟩) (v := ?_) rfl (by kernel_rfl) (by kernel_rfl) (by kernel_rfl) (by kernel_rfl) (fun _ _ _ h => h) (Or.inl ⟨by rfl, ?_⟩) hHeld ?_
        rotate_left
        · (intro w' hSw; (try dsimp only at hSw); go_simp; try (with_reducible rfl))
        (try simp only [Act.put, List.setIfInBounds_toArray, List.set_cons_zero, List.set_cons_succ])
        refine wpAnyM_one (i := 1) (o := ⟨_, _, _, _, _, _⟩) (by kernel_rfl) rfl (fun K hK => ?_)
        go_simp
        go_at_call 15
        refine (HM1.out _ BZ.out).mono ?_
        rintro e wz ⟨rfl, rfl⟩
        refine hK.out _ _ (KC.out _ BZ.out) (fun hHeld => ?_)
        clear hK K
        (try simp only [List.setIfInBounds_toArray, List.set_cons_zero, List.set_cons_succ])
        refine wpAnyM_one (i := 3) (o := ⟨_, _, _, _, _, _⟩) (by kernel_rfl) rfl (fun K hK => ?_)
        go_simp
        go_at_call 16
        refine (HM2.out _ BZ.out).mono ?_
        rintro e wz ⟨rfl, rfl⟩
        refine hK.out _ _ (KC.out _ BZ.out) (fun hHeld => ?_)
        clear hK K
        (try simp only [List.setIfInBounds_toArray, List.set_cons_zero, List.set_cons_succ])
        refine wpAnyM_take (i := 4) (oi := ⟨_, _, _, _, _, _⟩) (v := ?_) rfl (by kernel_rfl) (by kernel_rfl) (by kernel_rfl) (by kernel_rfl) (fun _ _ _ h => h) (Or.inl ⟨by rfl, ?_⟩) hHeld ?_
        rotate_left
        · (intro w' hSw; (try dsimp only at hSw); go_simp; try (with_reducible rfl))
        (try simp only [Act.put, List.setIfInBounds_toArray, List.set_cons_zero, List.set_cons_succ])
        refine wpAnyM_take (i := 5) (oi := ⟨_, _, _, _, _, _⟩) (v := ?_) rfl (by kernel_rfl) (by kernel_rfl) (by kernel_rfl) (by kernel_rfl) (fun _ _ _ h => h) (Or.inl ⟨by rfl, ?_⟩) hHeld ?_
        rotate_left
        · (intro w' hSw; (try dsimp only at hSw); go_simp; try (with_reducible rfl))
        (try simp only [Act.put, List.setIfInBounds_toArray, List.set_cons_zero, List.set_cons_succ])
        refine wpAnyM_take (i := 6) (oi := ⟨_, _, _, _, _, _⟩) (v := ?_) rfl (by kernel_rfl) (by kernel_rfl) (by kernel_rfl) (by kernel_rfl) (fun _ _ _ h => h) (Or.inl ⟨by rfl, ?_⟩) hHeld ?_
        rotate_left
        · (intro w' hSw; (try dsimp only at hSw); go_simp; try (with_reducible rfl))
        (try simp only [Act.put, List.setIfInBounds_toArray, List.set_cons_zero, List.set_cons_succ])
        refine wpAnyM_take (i := 8) (oi := ⟨_, _, _, _, _, _⟩) (v := ?_) rfl (by kernel_rfl) (by kernel_rfl) (by kernel_rfl) (by kernel_rfl) (fun _ _ _ h => h) (Or.inl ⟨by rfl, ?_⟩) hHeld ?_
        rotate_left
        · (intro w' hSw; (try dsimp only at hSw); go_simp; try (with_reducible rfl))
        (try simp only [Act.put, List.setIfInBounds_toArray, List.set_cons_zero, List.set_cons_succ])
        refine wpAnyM_take (i := 9) (oi := ⟨_, _, _, _, _, _⟩) (v := ?_) rfl (by kernel_rfl) (by kernel_rfl) (by kernel_rfl) (by kernel_rfl) (fun _ _ _ h => h) (Or.inl ⟨by rfl, ?_⟩) hHeld ?_
        rotate_left
        · (intro w' hSw; (try dsimp only at hSw); go_simp; try (with_reducible rfl))
        (try simp only [Act.put, List.setIfInBounds_toArray, List.set_cons_zero, List.set_cons_succ])
        refine wpAnyM_take (i := 10) (oi := ⟨_, _, _, _, _, _⟩) (v := ?_) rfl (by kernel_rfl) (by kernel_rfl) (by kernel_rfl) (by kernel_rfl) (fun _ _ _ h => h) (Or.inl ⟨by rfl, ?_⟩) hHeld ?_
        rotate_left
        · (intro w' hSw; (try dsimp only at hSw); go_simp; try (with_reducible rfl))
        (try simp only [Act.put, List.setIfInBounds_toArray, List.set_cons_zero, List.set_cons_succ])
        refine wpAnyM_take (i := 11) (oi := ⟨_, _, _, _, _, _⟩) (v := ?_) rfl (by kernel_rfl) (by kernel_rfl) (by kernel_rfl) (by kernel_rfl) (fun _ _ _ h => h) (Or.inl ⟨by rfl, ?_⟩) hHeld ?_
        rotate_left
        · (intro w' hSw; (try dsimp only at hSw); go_simp; try (with_reducible rfl))
        (try simp only [Act.put, List.setIfInBounds_toArray, List.set_cons_zero, List.set_cons_succ])
        refine wpAnyM_one (i := 7) (o := ⟨_, _, _, _, _, _⟩) (by kernel_rfl) rfl (fun K hK => ?_)
        go_simp
        go_at_call 18
        refine (HM3.out _ BZ.out).mono ?_
        rintro e w7 ⟨u7, rfl, o7, b7⟩
        have B7 := hide (BZ.out.trans (b7.mono BZ.out.size))
        have HO7 := hide (o7.seg i64cs_len (by have := HLM.out; omega))
        obtain ⟨ua, uc, hu7⟩ := o7.shape
        rw [HSN.out] at hu7
        subst hu7
        clear o7 b7
        refine hK.out _ _ (KC.out _ B7.out) (fun hHeld => ?_)
        clear hK K
        (try simp only [List.setIfInBounds_toArray, List.set_cons_zero, List.set_cons_succ])
        refine wpAnyM_one (i := 12) (o := ⟨_, _, _, _, _, _⟩) (by kernel_rfl) rfl (fun K hK => ?_)
        go_simp
        go_at_call 17
        refine (hMarks_any HO7.out (HRC.out _ B7.out).2.1 HLM.out).mono ?_
        rintro e w8 ⟨rfl, b8⟩
        have B8 := hide (B7.out.trans (b8 _))
        clear b8 BZ
        have BZ := hide B8.out
        refine hK.out _ _ (KC.out _ BZ.out) (fun hHeld => ?_)
        clear hK K
        (try simp only [List.setIfInBounds_toArray, List.set_cons_zero, List.set_cons_succ])
        refine wpAnyM_take (i := 13) (oi := ⟨_, _, _, _, _, _⟩) (v := ?_) rfl (by kernel_rfl) (by kernel_rfl) (by kernel_rfl) (by kernel_rfl) (fun _ _ _ h => h) (Or.inl ⟨by rfl, ?_⟩) hHeld ?_
        rotate_left
        · (intro w' hSw; (try dsimp only at hSw); go_simp; try (with_reducible rfl))
        (try simp only [Act.put, List.setIfInBounds_toArray, List.set_cons_zero, List.set_cons_succ])
        refine wpAnyM_take (i := 14) (oi := ⟨_, _, _, _, _, _⟩) (v := ?_) rfl (by kernel_rfl) (by kernel_rfl) (by kernel_rfl) (by kernel_rfl) (fun _ _ _ h => h) (Or.inl ⟨by rfl, ?_⟩) hHeld ?_
        rotate_left
        · (intro w' hSw; (try dsimp only at hSw); go_simp; try (with_reducible rfl))
        (try simp only [Act.put, List.setIfInBounds_toArray, List.set_cons_zero, List.set_cons_succ])
        refine wpAnyM_take (i := 15) (oi := ⟨_, _, _, _, _, _⟩) (v := ?_) rfl (by kernel_rfl) (by kernel_rfl) (by kernel_rfl) (by kernel_rfl) (fun _ _ _ h => h) (Or.inl ⟨by rfl, ?_⟩) hHeld ?_
        rotate_left
        · (intro w' hSw; (try dsimp only at hSw); go_simp; try (with_reducible rfl))
        (try simp only [Act.put, List.setIfInBounds_toArray, List.set_cons_zero, List.set_cons_succ])
        refine wpAnyM_take (i := 16) (oi := ⟨_, _, _, _, _, _⟩) (v := ?_) rfl (by kernel_rfl) (by kernel_rfl) (by kernel_rfl) (by kernel_rfl) (fun _ _ _ h => h) (Or.inl ⟨by rfl, ?_⟩) hHeld ?_
        rotate_left
        · (intro w' hSw; (try dsimp only at hSw); go_simp; try (with_reducible rfl))
        (try simp only [Act.put, List.setIfInBounds_toArray, List.set_cons_zero, List.set_cons_succ])
        refine wpAnyM_take (i := 18) (oi := ⟨_, _, _, _, _, _⟩) (v := ?_) rfl (by kernel_rfl) (by kernel_rfl) (by kernel_rfl) (by kernel_rfl) (fun _ _ _ h => h) (Or.inl ⟨by rfl, ?_⟩) hHeld ?_
        rotate_left
        · (intro w' hSw; (try dsimp only at hSw); go_simp; try (with_reducible rfl))
        (try simp only [Act.put, List.setIfInBounds_toArray, List.set_cons_zero, List.set_cons_succ])
        refine wpAnyM_take (i := 19) (oi := ⟨_, _, _, _, _, _⟩) (v := ?_) rfl (by kernel_rfl) (by kernel_rfl) (by kernel_rfl) (by kernel_rfl) (fun _ _ _ h => h) (Or.inl ⟨by rfl, ?_⟩) hHeld ?_
        rotate_left
        · (intro w' hSw; (try dsimp only at hSw); go_simp; try (with_reducible rfl))
        (try simp only [Act.put, List.setIfInBounds_toArray, List.set_cons_zero, List.set_cons_succ])
        refine wpAnyM_take (i := 20) (oi := ⟨_, _, _, _, _, _⟩) (v := ?_) rfl (by kernel_rfl) (by kernel_rfl) (by kernel_rfl) (by kernel_rfl) (fun _ _ _ h => h) (Or.inl ⟨by rfl, ?_⟩) hHeld ?_
        rotate_left
        · (intro w' hSw; (try dsimp only at hSw); go_simp; try (with_reducible rfl))
        (try simp only [Act.put, List.setIfInBounds_toArray, List.set_cons_zero, List.set_cons_succ])
        refine wpAnyM_take (i := 21) (oi := ⟨_, _, _, _, _, _⟩) (v := ?_) rfl (by kernel_rfl) (by kernel_rfl) (by kernel_rfl) (by kernel_rfl) (fun _ _ _ h => h) (Or.inl ⟨by rfl, ?_⟩) hHeld ?_
        rotate_left
        · (intro w' hSw; (try dsimp only at hSw); go_simp; try (with_reducible rfl))
        (try simp only [Act.put, List.setIfInBounds_toArray, List.set_cons_zero, List.set_cons_succ])
        refine wpAnyM_one (i := 17) (o := ⟨_, _, _, _, _, _⟩) (by kernel_rfl) rfl (fun K hK => ?_)
        go_simp
        go_at_call 19
        refine (HU1.out _ BZ.out).mono ?_
        rintro e wz ⟨rfl, rfl⟩
        refine hK.out _ _ (KC.out _ BZ.out) (fun hHeld => ?_)
        clear hK K
        (try simp only [List.setIfInBounds_toArray, List.set_cons_zero, List.set_cons_succ])
        refine wpAnyM_take (i := 22) (oi := ⟨_, _, _, _, _, _⟩) (v := ?_) rfl (by kernel_rfl) (by kernel_rfl) (by kernel_rfl) (by kernel_rfl) (fun _ _ _ h => h) (Or.inl ⟨by rfl, ?_⟩) hHeld ?_
        rotate_left
        · (intro w' hSw; (try dsimp only at hSw); go_simp; try (with_reducible rfl))
        (try simp only [Act.put, List.setIfInBounds_toArray, List.set_cons_zero, List.set_cons_succ])
        refine wpAnyM_take (i := 23) (oi := ⟨_, _, _, _, _, _⟩) (v := ?_) rfl (by kernel_rfl) (by kernel_rfl) (by kernel_rfl) (by kernel_rfl) (fun _ _ _ h => h) (Or.inl ⟨by rfl, ?_⟩) hHeld ?_
        rotate_left
        · (intro w' hSw; (try dsimp only at hSw); go_simp; try (with_reducible rfl))
        (try simp only [Act.put, List.setIfInBounds_toArray, List.set_cons_zero, List.set_cons_succ])
        refine wpAnyM_take (i := 24) (oi := ⟨_, _, _, _, _, _⟩) (v := ?_) rfl (by kernel_rfl) (by kernel_rfl) (by kernel_rfl) (by kernel_rfl) (fun _ _ _ h => h) (Or.inl ⟨by rfl, ?_⟩) hHeld ?_
        rotate_left
        · (intro w' hSw; (try dsimp only at hSw); go_simp; try (with_reducible rfl))
        (try simp only [Act.put, List.setIfInBounds_toArray, List.set_cons_zero, List.set_cons_succ])
        refine wpAnyM_take (i := 25) (oi := ⟨_, _, _, _, _, _⟩) (v := ?_) rfl (by kernel_rfl) (by kernel_rfl) (by kernel_rfl) (by kernel_rfl) (fun _ _ _ h => h) (Or.inl ⟨by rfl, ?_⟩) hHeld ?_
        rotate_left
        · (intro w' hSw; (try dsimp only at hSw); go_simp; try (with_reducible rfl))
        (try simp only [Act.put, List.setIfInBounds_toArray, List.set_cons_zero, List.set_cons_succ])
        refine wpAnyM_take (i := 27) (oi := ⟨_, _, _, _, _, _⟩) (v := ?_) rfl (by kernel_rfl) (by kernel_rfl) (by kernel_rfl) (by kernel_rfl) (fun _ _ _ h => h) (Or.inl ⟨by rfl, ?_⟩) hHeld ?_
        rotate_left
        · (intro w' hSw; (try dsimp only at hSw); go_simp; try (with_reducible rfl))
        (try simp only [Act.put, List.setIfInBounds_toArray, List.set_cons_zero, List.set_cons_succ])
        refine wpAnyM_take (i := 28) (oi := ⟨_, _, _, _, _, _⟩) (v := ?_) rfl (by kernel_rfl) (by kernel_rfl) (by kernel_rfl) (by kernel_rfl) (fun _ _ _ h => h) (Or.inl ⟨by rfl, ?_⟩) hHeld ?_
        rotate_left
        · (intro w' hSw; (try dsimp only at hSw); go_simp; try (with_reducible rfl))
        (try simp only [Act.put, List.setIfInBounds_toArray, List.set_cons_zero, List.set_cons_succ])
        refine wpAnyM_take (i := 29) (oi := ⟨_, _, _, _, _, _⟩) (v := ?_) rfl (by kernel_rfl) (by kernel_rfl) (by kernel_rfl) (by kernel_rfl) (fun _ _ _ h => h) (Or.inl ⟨by rfl, ?_⟩) hHeld ?_
        rotate_left
        · (intro w' hSw; (try dsimp only at hSw); go_simp; try (with_reducible rfl))
        (try simp only [Act.put, List.setIfInBounds_toArray, List.set_cons_zero, List.set_cons_succ])
        refine wpAnyM_take (i := 30) (oi := ⟨_, _, _, _, _, _⟩) (v := ?_) rfl (by kernel_rfl) (by kernel_rfl) (by kernel_rfl) (by kernel_rfl) (fun _ _ _ h => h) (Or.inl ⟨by rfl, ?_⟩) hHeld ?_
        rotate_left
        · (intro w' hSw; (try dsimp only at hSw); go_simp; try (with_reducible rfl))
        (try simp only [Act.put, List.setIfInBounds_toArray, List.set_cons_zero, List.set_cons_succ])
        refine wpAnyM_one (i := 26) (o := ⟨_, _, _, _, _, _⟩) (by kernel_rfl) rfl (fun K hK => ?_)
        go_simp
        go_at_call 20
        refine (HL1.out _ BZ.out).mono ?_
        rintro e wz ⟨rfl, rfl⟩
        refine hK.out _ _ (KC.out _ BZ.out) (fun hHeld => ?_)
        clear hK K
        (try simp only [List.setIfInBounds_toArray, List.set_cons_zero, List.set_cons_succ])
        refine wpAnyM_take (i := 31) (oi := ⟨_, _, _, _, _, _⟩) (v := ?_) rfl (by kernel_rfl) (by kernel_rfl) (by kernel_rfl) (by kernel_rfl) (fun _ _ _ h => h) (Or.inl ⟨by rfl, ?_⟩) hHeld ?_
        rotate_left
        · (intro w' hSw; (try dsimp only at hSw); go_simp; try (with_reducible rfl))
        (try simp only [Act.put, List.setIfInBounds_toArray, List.set_cons_zero, List.set_cons_succ])
        refine wpAnyM_take (i := 32) (oi := ⟨_, _, _, _, _, _⟩) (v := ?_) rfl (by kernel_rfl) (by kernel_rfl) (by kernel_rfl) (by kernel_rfl) (fun _ _ _ h => h) (Or.inl ⟨by rfl, ?_⟩) hHeld ?_
        rotate_left
        · (intro w' hSw; (try dsimp only at hSw); go_simp; try (with_reducible rfl))
        (try simp only [Act.put, List.setIfInBounds_toArray, List.set_cons_zero, List.set_cons_succ])
        refine wpAnyM_take (i := 33) (oi := ⟨_, _, _, _, _, _⟩) (v := ?_) rfl (by kernel_rfl) (by kernel_rfl) (by kernel_rfl) (by kernel_rfl) (fun _ _ _ h => h) (Or.inl ⟨by rfl, ?_⟩) hHeld ?_
        rotate_left
        · (intro w' hSw; (try dsimp only at hSw); go_simp; try (with_reducible rfl))
        (try simp only [Act.put, List.setIfInBounds_toArray, List.set_cons_zero, List.set_cons_succ])
        refine wpAnyM_take (i := 34) (oi := ⟨_, _, _, _, _, _⟩) (v := ?_) rfl (by kernel_rfl) (by kernel_rfl) (by kernel_rfl) (by kernel_rfl) (fun _ _ _ h => h) (Or.inl ⟨by rfl, ?_⟩) hHeld ?_
        rotate_left
        · (intro w' hSw; (try dsimp only at hSw); go_simp; try (with_reducible rfl))
        (try simp only [Act.put, List.setIfInBounds_toArray, List.set_cons_zero, List.set_cons_succ])
        refine wpAnyM_take (i := 36) (oi := ⟨_, _, _, _, _, _⟩) (v := ?_) rfl (by kernel_rfl) (by kernel_rfl) (by kernel_rfl) (by kernel_rfl) (fun _ _ _ h => h) (Or.inl ⟨by rfl, ?_⟩) hHeld ?_
        rotate_left
        · (intro w' hSw; (try dsimp only at hSw); go_simp; try (with_reducible rfl))
        (try simp only [Act.put, List.setIfInBounds_toArray, List.set_cons_zero, List.set_cons_succ])
        refine wpAnyM_take (i := 37) (oi := ⟨_, _, _, _, _, _⟩) (v := ?_) rfl (by kernel_rfl) (by kernel_rfl) (by kernel_rfl) (by kernel_rfl) (fun _ _ _ h => h) (Or.inl ⟨by rfl, ?_⟩) hHeld ?_
        rotate_left
        · (intro w' hSw; (try dsimp only at hSw); go_simp; try (with_reducible rfl))
        (try simp only [Act.put, List.setIfInBounds_toArray, List.set_cons_zero, List.set_cons_succ])
        refine wpAnyM_take (i := 38) (oi := ⟨_, _, _, _, _, _⟩) (v := ?_) rfl (by kernel_rfl) (by kernel_rfl) (by kernel_rfl) (by kernel_rfl) (fun _ _ _ h => h) (Or.inl ⟨by rfl, ?_⟩) hHeld ?_
        rotate_left
        · (intro w' hSw; (try dsimp only at hSw); go_simp; try (with_reducible rfl))
        (try simp only [Act.put, List.setIfInBounds_toArray, List.set_cons_zero, List.set_cons_succ])
        refine wpAnyM_take (i := 39) (oi := ⟨_, _, _, _, _, _⟩) (v := ?_) rfl (by kernel_rfl) (by kernel_rfl) (by kernel_rfl) (by kernel_rfl) (fun _ _ _ h => h) (Or.inl ⟨by rfl, ?_⟩) hHeld ?_
        rotate_left
        · (intro w' hSw; (try dsimp only at hSw); go_simp; try (with_reducible rfl))
        (try simp only [Act.put, List.setIfInBounds_toArray, List.set_cons_zero, List.set_cons_succ])
        refine wpAnyM_one (i := 35) (o := ⟨_, _, _, _, _, _⟩) (by kernel_rfl) rfl (fun K hK => ?_)
        go_simp
        go_at_call 22
        refine (HC1.out _ BZ.out).mono ?_
        rintro e w9 ⟨u9, rfl, o9, b9⟩
        have B9 := hide (BZ.out.trans (b9.mono BZ.out.size))
        have HO9 := hide (o9.seg Ou.cs_len (by rw [HCPL.out]; omega))
        obtain ⟨ub, ud, hu9⟩ := o9.shape
        rw [HCPL.out] at hu9
        subst hu9
        clear o9 b9
        refine hK.out _ _ (KC.out _ B9.out) (fun hHeld => ?_)
        clear hK K
        (try simp only [List.setIfInBounds_toArray, List.set_cons_zero, List.set_cons_succ])
        refine wpAnyM_one (i := 40) (o := ⟨_, _, _, _, _, _⟩) (by kernel_rfl) rfl (fun K hK => ?_)
        go_simp
        go_at_call 21
        refine (hOuts_any HO9.out (by have := (HRC.out _ B9.out).2.2; exact this) (by have := HLC.out; rw [HCPL.out]; exact this)).mono ?_
        rintro e w10 ⟨rfl, b10⟩
        have B10 := hide (B9.out.trans (b10 _))
        clear b10 BZ
        have BZ := hide B10.out
        refine hK.out _ _ (KC.out _ BZ.out) (fun hHeld => ?_)
        clear hK K
        (try simp only [List.setIfInBounds_toArray, List.set_cons_zero, List.set_cons_succ])
        refine wpAnyM_take (i := 41) (oi := ⟨_, _, _, _, _, _⟩) (v := ?_) rfl (by kernel_rfl) (by kernel_rfl) (by kernel_rfl) (by kernel_rfl) (fun _ _ _ h => h) (Or.inl ⟨by rfl, ?_⟩) hHeld ?_
        rotate_left
        · (intro w' hSw; (try dsimp only at hSw); go_simp; try (with_reducible rfl))
        (try simp only [Act.put, List.setIfInBounds_toArray, List.set_cons_zero, List.set_cons_succ])
        refine wpAnyM_take (i := 42) (oi := ⟨_, _, _, _, _, _⟩) (v := ?_) rfl (by kernel_rfl) (by kernel_rfl) (by kernel_rfl) (by kernel_rfl) (fun _ _ _ h => h) (Or.inl ⟨by rfl, ?_⟩) hHeld ?_
        rotate_left
        · (intro w' hSw; (try dsimp only at hSw); go_simp; try (with_reducible rfl))
        (try simp only [Act.put, List.setIfInBounds_toArray, List.set_cons_zero, List.set_cons_succ])
        refine wpAnyM_done (by kernel_rfl) ?_ _
        go_upto_region 22 with fail
        refine wp_at (PW w k s' R r' []) (HPB.out _ BZ.out) ?_
        clear HM1 HM2 HM3 HU1 HL1 HC1 KC HRC BD BZ HPB HLM HLC
        intro Z HZ0
        have HZ := hide HZ0
        clear HZ0
        have HB1 : Hid (∀ z, Calls Try.prog 23 #[.pointer (some ⟨k, 0, none⟩), .int .i64 z] Z fun e w'' => e = .returned (.bool (s'.bl z)) ∧ Z = w'') := (show ∀ z, _ from fun z => by
          obtain ⟨fp, fq, h1, _⟩ := HZ.out
          exact Blocked_any h1 z)
        have HB2 : Hid (∀ z, Calls Try.prog 24 #[.pointer (some ⟨R, 0, none⟩), .int .i64 z] Z fun e w'' => e = .returned (.bool (s'.bl z)) ∧ Z = w'') := (show ∀ z, _ from fun z => by
          obtain ⟨fp, fq, _, h2, _⟩ := HZ.out
          rw [HBE.out z]
          exact rBlocked_any h2 z)
        go_wp2_with fail
        go_loopg [13] (n + 3) (fun gh zv wr => ∃ (z : Int) (kk : Nat), zv = .int .i64 z ∧ z + 1 = (kk : Int) ∧ kk ≤ n + 1 + 1 ∧ n + 3 ≤ gh + kk ∧ wr = Z)
        case atStart => exact ⟨-1, 0, rfl, rfl, by omega, by omega, rfl⟩
        case round =>
          obtain ⟨z, kk, rfl, hz, hkk, hgg, rfl⟩ := hrel
          obtain ⟨gi, rfl⟩ : ∃ gi, gk = gi + 1 := ⟨gk - 1, by omega⟩
          by_cases hzn : z ≤ (n : Int)
          · have HBa := hide (HB1.out z)
            have HBb := hide (HB2.out z)
            generalize s'.bl z = bz at *
            go_wp2_with (first | (go_at_call 23; refine HBa.out.mono ?_; rintro e w9 ⟨rfl, rfl⟩) | (go_at_call 24; refine HBb.out.mono ?_; rintro e w9 ⟨rfl, rfl⟩))
            go_roundg gi
            case rel => exact ⟨z + 1, kk + 1, by first | rfl | go_num, by omega, by omega, by omega, rfl⟩
            case measure => omega
          · go_wp2_with fail
            go_roundg go
            case rel => exact ⟨i + 1, s', r', by go_num, by omega, by omega, HSN.out, by rw [HCPL.out]; omega, HSI2, HZ⟩
            case measure => omega
    · have bt : ¬ (i : Int) < (xs.length : Int) := by omega
      go_wp2_with fail
      go_ret
      exact ⟨rfl, HW.out.bel⟩
end Go.Proofs.Ytmipgfobggbndaa
