/-
  The document's Take of a watermark.
-/
import Derived.Test.YtmipgfobggbndaaRTake
namespace Go.Proofs.Ytmipgfobggbndaa
open Go.RowKit

set_option maxHeartbeats 4000000 in
set_option maxRecDepth 100000 in
theorem rTake_mark {w : World} {R : Nat} {fq : Nat → Prop} {r : Gs} (h : RA w R fq r) (f : Fr) {c : Nat} (hc : c < r.M.length) (hb : r.bl (c : Int) = false) (hl : r.cp.length ≤ 100000) (k1 : f.kd = 2) {x : Sn} (hx : x = (r.capt c f).riseS c f.ma) : Calls Try.prog 14 #[.pointer (some ⟨R, 0, none⟩), .int .i64 (c : Int), f.val] w fun e w' => e = .returned (.tuple #[x.val, .int .i64 0]) ∧ ∃ fq', RA w' R fq' ((r.capt c f).rise c f.ma) ∧ FT fq fq' w w' := by
  have A0 := RTP.new h f
  clear h
  obtain ⟨xkd, xke, xti, xva, xma, xn, xfu⟩ := x
  unfold Sn.val
  have b1 : (f.kd == 2) = true := by simpa using k1
  have b2 : (f.kd == 1) = false := by rw [k1]; rfl
  have HK := hide k1
  clear k1
  obtain ⟨s1, hs1⟩ : ∃ s1, s1 = r.capt c f := ⟨_, rfl⟩
  have HS0 := hide hs1
  clear hs1
  rw [← HS0.out] at hx
  have HX := hide hx
  clear hx
  rw [← HS0.out]
  unfold Fr.val
  unfold Fr.ar zeroSn at A0
  go_enter Try.func14, Try.ntmps14
  go_upto_region 1 with fail
  refine wp_at (RTP w R fq r f) A0 ?_
  clear A0
  intro V A
  obtain ⟨F1, R1, fp1, G1, T1, N0, N1⟩ := A
  obtain ⟨f0, f1, f2, f3, f4, f5, f6⟩ := BoxT.all7 F1
  obtain ⟨p0, p1, p2, p3, p4, p5, p6⟩ := BoxT.all7 R1
  have rf := R1.free
  have HF := hide F1
  have HR := hide R1
  have HG := hide G1
  have HT := hide T1
  have HN0 := hide N0
  have HN1 := hide N1
  obtain ⟨fd, mv, cv, kv, X, hfd⟩ := G1
  obtain ⟨c0, c1, c2, c3, c4, c5⟩ := X.cells
  have HX0 := hide X
  have HFD := hide hfd
  obtain ⟨ma, mc, rfl, hmc⟩ := X.m.shape
  have hle64 := X.le
  clear F1 R1 T1 N0 N1 X hfd
  have hi : (c : Int) < (r.M.length : Int) := by omega
  have h3 : ¬ (r.M.length : Int) ≤ (c : Int) := by omega
  have HBL := hide (rBlocked_any HG.out (c : Int))
  rw [hb] at HBL
  obtain ⟨b, hbc⟩ := get_of_lt (show c < r.co.length by rw [HX0.out.len]; exact hc)
  obtain ⟨ca, cc, rfl, hcc⟩ := HX0.out.c.shape
  obtain ⟨cb, co, rfl, _, e6⟩ := seg_bool HX0.out.c.lseg hbc
  have hic : (c : Int) < (r.co.length : Int) := by rw [HX0.out.len]; omega
  have h64c : r.co.length ≤ 64 := by rw [HX0.out.len]; exact hle64
  have HCT : Hid ((decide (r.un ≠ 0) && r.ov && !b) = decide (r.un ≠ 0 ∧ r.ov = true ∧ r.co[c]? = some false)) := (show _ = _ by rw [hbc]; cases r.ov <;> cases b <;> simp)
  clear hbc
  go_upto_region 3 with (go_at_call 24; refine HBL.out.mono ?_; rintro e w1 ⟨rfl, rfl⟩)
  clear HBL
  go_cut [8] from 27 to 47 (fun v8 wx => v8 = .bool (decide (r.un ≠ 0) && r.ov && !b) ∧ wx = V)
  case first =>
    generalize r.co.length = nn at *
    generalize r.un = un at *
    by_cases h0 : un = 0
    · subst h0
      go_wp2_with fail
      go_meet
      exact ⟨by simp, rfl⟩
    · cases hov : r.ov with
      | false =>
        rw [hov] at c3
        go_wp2_with fail
        go_meet
        exact ⟨by simp [hov], rfl⟩
      | true =>
        rw [hov] at c3
        go_wp2_with fail
        go_meet
        exact ⟨by simp [h0, hov], rfl⟩
  case rest =>
    obtain ⟨hv8, hwx⟩ := hcut
    rw [HCT.out] at hv8
    have hwx2 := hwx.symm
    subst hwx2
    subst hv8
    clear hwx
    cases hct : decide (r.un ≠ 0 ∧ r.ov = true ∧ r.co[c]? = some false) with
    | true =>
      have HS1 : Hid (s1 = { r with cp := r.cp ++ [⟨(c : Int), f⟩] }) := (show _ = _ by rw [HS0.out]; unfold Gs.capt; rw [if_pos (of_decide_eq_true hct)])
      clear hct
      obtain ⟨ka, kc, rfl, hkc⟩ := HX0.out.k.shape
      have hcp : r.cp.length ≤ 100000 := hl
      have hkR := HX0.out.box.lt
      have hkF := HF.out.lt
      have frR := HX0.out.box.free
      have HSEG : Hid (∀ W', Below V.heap.size V W' → (r.cp = [] ∨ ∃ b off, ka = some ⟨b, off, none⟩ ∧ ∀ (i : Nat) (x : Ou), r.cp[i]? = some x → ∀ (j : Nat) (u : Value), (Ou.cs x)[j]? = some u → W'.cell? ⟨b, off + i * 8 + j, none⟩ = some u)) := (show ∀ W', _ from fun W' hb => by
        obtain ⟨ao, cp2, e, _, _, hs⟩ := HX0.out.k
        cases e
        rcases hs with hs | ⟨b, off, e2, _, hlt, hcell⟩
        · exact .inl hs
        · exact .inr ⟨b, off, e2, fun i x hi j u hu => (hb.cell (p := ⟨b, off + i * 8 + j, none⟩) hlt).trans (hcell i x hi j u hu)⟩)
      have HNX : Hid (∀ v5 w5, OwnL 65 8 Ou.cs V.heap.size w5 v5 (r.cp ++ [⟨(c : Int), f⟩]) → Below V.heap.size V w5 → BoxT 33 w5 R #[.slice ma r.M.length mc, .int .u64 r.la, .int .u64 r.un, .bool r.ov, .slice (some ⟨cb, co, none⟩) r.co.length cc, .slice ka r.cp.length kc] ∧ RTP w R fq { r with cp := r.cp ++ [⟨(c : Int), f⟩] } f (w5.setCell ⟨R, 5, none⟩ v5)) := (show ∀ v5 w5, _ from fun v5 w5 o5 b5 => by
        have hX := HX0.out
        have hb5 := hX.box.below b5
        have hT : Turned R R V (w5.setCell ⟨R, 5, none⟩ v5) := (Turned.below b5).trans (Turned.set R R w5 5 v5)
        obtain ⟨fq2, g2, t2⟩ := RA.of (r' := { r with cp := r.cp ++ [⟨(c : Int), f⟩] }) (mv' := .slice ma r.M.length mc) (cv' := .slice (some ⟨cb, co, none⟩) r.co.length cc) (kv' := v5) HFD.out hX.nR hX.flt hX.box.lt hT (by simpa using hb5.set 5 v5) (hX.m.old hX.nR hT) (hX.c.old hX.nR hT) (RSeg.fresh (o5.otherBox hb5 (by decide) 5 v5) Ou.cs_len (by simp; omega)) hX.len hX.pos hX.le hX.la0
        exact ⟨hb5, RTP.step HF.out HR.out HT.out HN0.out HN1.out g2 t2⟩)
      generalize hpp : r.cp.length = p at *
      have hkc2 : (p : Int) ≤ (kc : Int) := by omega
      have HPP := hide hpp
      have BB := hide (((Below.refl V.heap.size V).drew).alloc (Nat.le_refl _) (.cells #[.int .i64 (c : Int), .int .i64 f.kd, .int .i64 f.ke, .int .i64 f.ti, .int .i64 f.va, .int .i64 f.ma, .int .u64 f.n, .bool f.ov] 65))
      have BX := hide (BoxT.new_at (t := 65) (w := V) (cs := #[.int .i64 (c : Int), .int .i64 f.kd, .int .i64 f.ke, .int .i64 f.ti, .int .i64 f.va, .int .i64 f.ma, .int .u64 f.n, .bool f.ov]) (k := V.heap.size) rfl)
      have KC : Hid (∀ w' : World, Below V.heap.size V w' → w'.cell? ⟨R, 5, none⟩ = some (.slice ka p kc) ∧ w'.cell? ⟨w.heap.size, 0, none⟩ = some (.int .i64 f.kd) ∧ w'.cell? ⟨w.heap.size, 1, none⟩ = some (.int .i64 f.ke) ∧ w'.cell? ⟨w.heap.size, 2, none⟩ = some (.int .i64 f.ti) ∧ w'.cell? ⟨w.heap.size, 3, none⟩ = some (.int .i64 f.va) ∧ w'.cell? ⟨w.heap.size, 4, none⟩ = some (.int .i64 f.ma) ∧ w'.cell? ⟨w.heap.size, 5, none⟩ = some (.int .u64 f.n) ∧ w'.cell? ⟨w.heap.size, 6, none⟩ = some (.bool f.ov)) := fun w' hb => ⟨(hb.cell (p := ⟨R, 5, none⟩) hkR).trans c5, (hb.cell (p := ⟨w.heap.size, 0, none⟩) hkF).trans f0, (hb.cell (p := ⟨w.heap.size, 1, none⟩) hkF).trans f1, (hb.cell (p := ⟨w.heap.size, 2, none⟩) hkF).trans f2, (hb.cell (p := ⟨w.heap.size, 3, none⟩) hkF).trans f3, (hb.cell (p := ⟨w.heap.size, 4, none⟩) hkF).trans f4, (hb.cell (p := ⟨w.heap.size, 5, none⟩) hkF).trans f5, (hb.cell (p := ⟨w.heap.size, 6, none⟩) hkF).trans f6⟩
      go_upto_region 5 with fail
      refine wp_region_M (S := fun w' => w'.cell? ⟨R, 5, none⟩ = some (.slice ka p kc) ∧ w'.cell? ⟨w.heap.size, 0, none⟩ = some (.int .i64 f.kd) ∧ w'.cell? ⟨w.heap.size, 1, none⟩ = some (.int .i64 f.ke) ∧ w'.cell? ⟨w.heap.size, 2, none⟩ = some (.int .i64 f.ti) ∧ w'.cell? ⟨w.heap.size, 3, none⟩ = some (.int .i64 f.va) ∧ w'.cell? ⟨w.heap.size, 4, none⟩ = some (.int .i64 f.ma) ∧ w'.cell? ⟨w.heap.size, 5, none⟩ = some (.int .u64 f.n) ∧ w'.cell? ⟨w.heap.size, 6, none⟩ = some (.bool f.ov)) (late := [21, 22, 23]) (by kernel_rfl) (KC.out _ ((Below.refl _ _).drew)) (fun hHeld => ?_)
      (try simp only [List.size_toArray, List.length_cons, List.length_nil, Nat.zero_add, Nat.reduceAdd, Array.replicate, List.replicate])
      refine wpAnyM_take (i := 0) (oi := ⟨_, _, _, _, _, _⟩) (v := ?_) rfl (by kernel_rfl) (by kernel_rfl) (by kernel_rfl) (by kernel_rfl) (fun _ _ _ h => h) (Or.inl ⟨by rfl, ?_⟩) hHeld ?_
      rotate_left
      · (intro w' hSw; (try dsimp only at hSw); go_simp; try (with_reducible rfl))
      (try simp only [Act.put, List.setIfInBounds_toArray, List.set_cons_zero, List.set_cons_succ])
      refine wpAnyM_take (i := 1) (oi := ⟨_, _, _, _, _, _⟩) (v := ?_) rfl (by kernel_rfl) (by kernel_rfl) (by kernel_rfl) (by kernel_rfl) (fun _ _ _ h => h) (Or.inl ⟨by rfl, ?_⟩) hHeld ?_
      rotate_left
      · (intro w' hSw; (try dsimp only at hSw); go_simp; try (with_reducible rfl))
      (try simp only [Act.put, List.setIfInBounds_toArray, List.set_cons_zero, List.set_cons_succ])
      refine wpAnyM_take (i := 2) (oi := ⟨_, _, _, _, _, _⟩) (v := ?_) rfl (by kernel_rfl) (by kernel_rfl) (by kernel_rfl) (by kernel_rfl) (fun _ _ _ h => h) (Or.inl ⟨by rfl, ?_⟩) hHeld ?_
      rotate_left
      · (intro w' hSw; (try dsimp only at hSw); go_simp; try (with_reducible rfl))
      (try simp only [Act.put, List.setIfInBounds_toArray, List.set_cons_zero, List.set_cons_succ])
      refine wpAnyM_take (i := 3) (oi := ⟨_, _, _, _, _, _⟩) (v := ?_) rfl (by kernel_rfl) (by kernel_rfl) (by kernel_rfl) (by kernel_rfl) (fun _ _ _ h => h) (Or.inl ⟨by rfl, ?_⟩) hHeld ?_
      rotate_left
      · (intro w' hSw; (try dsimp only at hSw); go_simp; try (with_reducible rfl))
      (try simp only [Act.put, List.setIfInBounds_toArray, List.set_cons_zero, List.set_cons_succ])
      refine wpAnyM_take (i := 4) (oi := ⟨_, _, _, _, _, _⟩) (v := ?_) rfl (by kernel_rfl) (by kernel_rfl) (by kernel_rfl) (by kernel_rfl) (fun _ _ _ h => h) (Or.inl ⟨by rfl, ?_⟩) hHeld ?_
      rotate_left
      · (intro w' hSw; (try dsimp only at hSw); go_simp; try (with_reducible rfl))
      (try simp only [Act.put, List.setIfInBounds_toArray, List.set_cons_zero, List.set_cons_succ])
      refine wpAnyM_take (i := 5) (oi := ⟨_, _, _, _, _, _⟩) (v := ?_) rfl (by kernel_rfl) (by kernel_rfl) (by kernel_rfl) (by kernel_rfl) (fun _ _ _ h => h) (Or.inl ⟨by rfl, ?_⟩) hHeld ?_
      rotate_left
      · (intro w' hSw; (try dsimp only at hSw); go_simp; try (with_reducible rfl))
      (try simp only [Act.put, List.setIfInBounds_toArray, List.set_cons_zero, List.set_cons_succ])
      refine wpAnyM_take (i := 6) (oi := ⟨_, _, _, _, _, _⟩) (v := ?_) rfl (by kernel_rfl) (by kernel_rfl) (by kernel_rfl) (by kernel_rfl) (fun _ _ _ h => h) (Or.inl ⟨by rfl, ?_⟩) hHeld ?_
      rotate_left
      · (intro w' hSw; (try dsimp only at hSw); go_simp; try (with_reducible rfl))
      (try simp only [Act.put, List.setIfInBounds_toArray, List.set_cons_zero, List.set_cons_succ])
      refine wpAnyM_take (i := 7) (oi := ⟨_, _, _, _, _, _⟩) (v := ?_) rfl (by kernel_rfl) (by kernel_rfl) (by kernel_rfl) (by kernel_rfl) (fun _ _ _ h => h) (Or.inl ⟨by rfl, ?_⟩) hHeld ?_
      rotate_left
      · (intro w' hSw; (try dsimp only at hSw); go_simp; try (with_reducible rfl))
      (try simp only [Act.put, List.setIfInBounds_toArray, List.set_cons_zero, List.set_cons_succ])
      refine wpAnyM_take (i := 8) (oi := ⟨_, _, _, _, _, _⟩) (v := ?_) rfl (by kernel_rfl) (by kernel_rfl) (by kernel_rfl) (by kernel_rfl) (fun _ _ _ h => h) (Or.inl ⟨by rfl, ?_⟩) hHeld ?_
      rotate_left
      · (intro w' hSw; (try dsimp only at hSw); go_simp; try (with_reducible rfl))
      (try simp only [Act.put, List.setIfInBounds_toArray, List.set_cons_zero, List.set_cons_succ])
      refine wpAnyM_take (i := 9) (oi := ⟨_, _, _, _, _, _⟩) (v := ?_) rfl (by kernel_rfl) (by kernel_rfl) (by kernel_rfl) (by kernel_rfl) (fun _ _ _ h => h) (Or.inl ⟨by rfl, ?_⟩) hHeld ?_
      rotate_left
      · (intro w' hSw; (try dsimp only at hSw); go_simp; try (with_reducible rfl))
      (try simp only [Act.put, List.setIfInBounds_toArray, List.set_cons_zero, List.set_cons_succ])
      refine wpAnyM_take (i := 10) (oi := ⟨_, _, _, _, _, _⟩) (v := ?_) rfl (by kernel_rfl) (by kernel_rfl) (by kernel_rfl) (by kernel_rfl) (fun _ _ _ h => h) (Or.inl ⟨by rfl, ?_⟩) hHeld ?_
      rotate_left
      · (intro w' hSw; (try dsimp only at hSw); go_simp; try (with_reducible rfl))
      (try simp only [Act.put, List.setIfInBounds_toArray, List.set_cons_zero, List.set_cons_succ])
      refine wpAnyM_take (i := 11) (oi := ⟨_, _, _, _, _, _⟩) (v := ?_) rfl (by kernel_rfl) (by kernel_rfl) (by kernel_rfl) (by kernel_rfl) (fun _ _ _ h => h) (Or.inl ⟨by rfl, ?_⟩) hHeld ?_
      rotate_left
      · (intro w' hSw; (try dsimp only at hSw); go_simp; try (with_reducible rfl))
      (try simp only [Act.put, List.setIfInBounds_toArray, List.set_cons_zero, List.set_cons_succ])
      refine wpAnyM_take (i := 12) (oi := ⟨_, _, _, _, _, _⟩) (v := ?_) rfl (by kernel_rfl) (by kernel_rfl) (by kernel_rfl) (by kernel_rfl) (fun _ _ _ h => h) (Or.inl ⟨by rfl, ?_⟩) hHeld ?_
      rotate_left
      · (intro w' hSw; (try dsimp only at hSw); go_simp; try (with_reducible rfl))
      (try simp only [Act.put, List.setIfInBounds_toArray, List.set_cons_zero, List.set_cons_succ])
      refine wpAnyM_take (i := 13) (oi := ⟨_, _, _, _, _, _⟩) (v := ?_) rfl (by kernel_rfl) (by kernel_rfl) (by kernel_rfl) (by kernel_rfl) (fun _ _ _ h => h) (Or.inl ⟨by rfl, ?_⟩) hHeld ?_
      rotate_left
      · (intro w' hSw; (try dsimp only at hSw); go_simp; try (with_reducible rfl))
      (try simp only [Act.put, List.setIfInBounds_toArray, List.set_cons_zero, List.set_cons_succ])
      refine wpAnyM_take (i := 14) (oi := ⟨_, _, _, _, _, _⟩) (v := ?_) rfl (by kernel_rfl) (by kernel_rfl) (by kernel_rfl) (by kernel_rfl) (fun _ _ _ h => h) (Or.inl ⟨by rfl, ?_⟩) hHeld ?_
      rotate_left
      · (intro w' hSw; (try dsimp only at hSw); go_simp; try (with_reducible rfl))
      (try simp only [Act.put, List.setIfInBounds_toArray, List.set_cons_zero, List.set_cons_succ])
      refine wpAnyM_take (i := 15) (oi := ⟨_, _, _, _, _, _⟩) (v := ?_) rfl (by kernel_rfl) (by kernel_rfl) (by kernel_rfl) (by kernel_rfl) (fun _ _ _ h => h) (Or.inl ⟨by rfl, ?_⟩) hHeld ?_
      rotate_left
      · (intro w' hSw; (try dsimp only at hSw); go_simp; try (with_reducible rfl))
      (try simp only [Act.put, List.setIfInBounds_toArray, List.set_cons_zero, List.set_cons_succ])
      refine wpAnyM_take (i := 16) (oi := ⟨_, _, _, _, _, _⟩) (v := ?_) rfl (by kernel_rfl) (by kernel_rfl) (by kernel_rfl) (by kernel_rfl) (fun _ _ _ h => h) (Or.inl ⟨by rfl, ?_⟩) hHeld ?_
      rotate_left
      · (intro w' hSw; (try dsimp only at hSw); go_simp; try (with_reducible rfl))
      (try simp only [Act.put, List.setIfInBounds_toArray, List.set_cons_zero, List.set_cons_succ])
      refine wpAnyM_take (i := 17) (oi := ⟨_, _, _, _, _, _⟩) (v := ?_) rfl (by kernel_rfl) (by kernel_rfl) (by kernel_rfl) (by kernel_rfl) (fun _ _ _ h => h) (Or.inl ⟨by rfl, ?_⟩) hHeld ?_
      rotate_left
      · (intro w' hSw; (try dsimp only at hSw); go_simp; try (with_reducible rfl))
      (try simp only [Act.put, List.setIfInBounds_toArray, List.set_cons_zero, List.set_cons_succ])
      refine wpAnyM_take (i := 18) (oi := ⟨_, _, _, _, _, _⟩) (v := ?_) rfl (by kernel_rfl) (by kernel_rfl) (by kernel_rfl) (by kernel_rfl) (fun _ _ _ h => h) (Or.inl ⟨by rfl, ?_⟩) hHeld ?_
      rotate_left
      · (intro w' hSw; (try dsimp only at hSw); go_simp; try (with_reducible rfl))
      (try simp only [Act.put, List.setIfInBounds_toArray, List.set_cons_zero, List.set_cons_succ])
      refine wpAnyM_one (i := 19) (o := ⟨_, _, _, _, _, _⟩) (by kernel_rfl) rfl (fun K hK => ?_)
      go_simp
      refine hK.out _ _ (KC.out _ BB.out) (fun hHeld => ?_)
      clear hK K
      (try simp only [List.setIfInBounds_toArray, List.set_cons_zero, List.set_cons_succ])
      refine wpAnyM_one (i := 20) (o := ⟨_, _, _, _, _, _⟩) (by kernel_rfl) rfl (fun K hK => ?_)
      (refine step_fullR Try.infoOu Try.underlying31 rfl (by decide) (by decide) Ou.cs_len Ou.cs_one rfl _ _ rfl ka r.cp HPP.out rfl (HSEG.out _ BB.out) ⟨V.heap.size, 0, none⟩ 1 (⟨(c : Int), f⟩ : Ou) rfl (fun j u hu => by rw [add_plain2, Nat.zero_add]; exact ((BX.out.drew).cellAt j).trans (Ou.at ⟨(c : Int), f⟩ j u hu)) (by rw [HPP.out]; omega) ?_; intro v5 w5 o5 b5; have B5 := hide (BB.out.trans (b5.mono BB.out.size)); obtain ⟨hb5, hrt5⟩ := HNX.out v5 w5 (o5.mono BB.out.size) B5.out; have HRT := hide hrt5; have fr5 := hb5.free; have d5 := (hb5.cellAt 5).trans rfl; obtain ⟨a5, e5, hv5⟩ := o5.shape; generalize hn5 : (r.cp ++ [(⟨(c : Int), f⟩ : Ou)]).length = n5 at hv5; subst hv5; clear o5 b5 hrt5 hb5 hn5)
      refine hK.out _ _ (KC.out _ B5.out) (fun hHeld => ?_)
      clear hK K
      (try simp only [List.setIfInBounds_toArray, List.set_cons_zero, List.set_cons_succ])
      refine wpAnyM_last (i := 21) (o := ⟨_, _, _, _, _, _⟩) (by kernel_rfl) (by rfl) rfl (fun K hK => ?_)
      go_simp
      refine hK.out _ _ ?_
      clear hK K
      (try simp only [List.setIfInBounds_toArray, List.set_cons_zero, List.set_cons_succ])
      refine wpAnyM_last (i := 22) (o := ⟨_, _, _, _, _, _⟩) (by kernel_rfl) (by rfl) rfl (fun K hK => ?_)
      go_simp
      refine hK.out _ _ ?_
      clear hK K
      (try simp only [List.setIfInBounds_toArray, List.set_cons_zero, List.set_cons_succ])
      refine wpAnyM_last (i := 23) (o := ⟨_, _, _, _, _, _⟩) (by kernel_rfl) (by rfl) rfl (fun K hK => ?_)
      go_simp
      refine hK.out _ _ ?_
      clear hK K
      (try simp only [List.setIfInBounds_toArray, List.set_cons_zero, List.set_cons_succ])
      refine wpAnyM_done (by kernel_rfl) ?_ _
      go_upto_region 6 with fail
      refine wp_at (RTP w R fq s1 f) (by rw [HS1.out]; exact HRT.out) ?_
      clear HS1 HRT KC BX BB HNX HSEG d5 fr5 frR HPP e6 f0 f1 f2 f3 f4 f5 f6 p0 p1 p2 p3 p4 p5 p6 rf HF HR HG HT HN0 HN1 c0 c1 c2 c3 c4 c5 HX0 HFD
      have hcs : c < s1.M.length := by rw [HS0.out, Gs.capt_M]; exact hc
      intro V2 A
      obtain ⟨F1, R1, fp1, G1, T1, N0, N1⟩ := A
      obtain ⟨f0, f1, f2, f3, f4, f5, f6⟩ := BoxT.all7 F1
      obtain ⟨p0, p1, p2, p3, p4, p5, p6⟩ := BoxT.all7 R1
      have rf := R1.free
      have HF := hide F1
      have HR := hide R1
      have HG := hide G1
      have HT := hide T1
      have HN0 := hide N0
      have HN1 := hide N1
      obtain ⟨fd, mv, cv, kv, X, hfd⟩ := G1
      obtain ⟨c0, c1, c2, c3, c4, c5⟩ := X.cells
      have HX0 := hide X
      have HFD := hide hfd
      obtain ⟨ma, mc, rfl, hmc⟩ := X.m.shape
      have hle64 := X.le
      clear F1 R1 T1 N0 N1 X hfd
      obtain ⟨y, hy⟩ := get_of_lt hcs
      have HRS := hide (Gs.rise_set hy f.ma)
      have HMK := hide (rMark_any HG.out)
      have HSG := hide HX0.out.m.lseg
      have hic2 : (c : Int) < (s1.M.length : Int) := by omega
      have HLL : Hid (([] : List Int).length + s1.M.length ≤ 1000000) := (show _ ≤ _ by simp; omega)
      have hneM : s1.M ≠ [] := fun e => by rw [e] at hcs; simp at hcs
      have hFR : w.heap.size ≠ R := fun e => HN0.out (e ▸ (HFD.out R).2 (.inl rfl))
      have HNX : Hid (∀ v5 w5, OwnL 2 1 i64cs V2.heap.size w5 v5 s1.M → V2.grownBy w5 none → ∃ g cap5 cur5, v5 = .slice (some ⟨g, 0, none⟩) s1.M.length cap5 ∧ BoxT 33 w5 R #[.slice ma s1.M.length mc, .int .u64 s1.la, .int .u64 s1.un, .bool s1.ov, cv, kv] ∧ g ≠ R ∧ BoxT 2 w5 g cur5 ∧ cur5[c]? = some (.int .i64 y) ∧ s1.M.length ≤ cap5 ∧ w5.cell? ⟨w.heap.size, 4, none⟩ = some (.int .i64 f.ma) ∧ ∀ m : Int, RTP w R fq { s1 with M := s1.M.set c m } f ((w5.setCell ⟨R, 0, none⟩ v5).setCell ⟨g, c, none⟩ (.int .i64 m))) := (show ∀ v5 w5, _ from fun v5 w5 o5 g5 => by
        have hX := HX0.out
        have hb5 : BoxT 33 w5 R _ := hX.box.back (g5.block R hX.box.lt (by simp))
        obtain ⟨g, cap5, cur5, e5, hg, hbx, hset⟩ := o5.setInt hneM
        have hgR : g ≠ R := hbx.ne hb5 (by decide)
        have hcur : cur5[c]? = some (.int .i64 y) ∧ s1.M.length ≤ cap5 := by
          obtain ⟨b', o', eb, _, dc⟩ := seg_int (by have := o5.seg i64cs_len (by omega); rw [e5] at this; exact this) hy
          cases eb
          rw [hbx.cellAt, Nat.zero_add] at dc
          refine ⟨dc, ?_⟩
          rcases o5.2 with ⟨e, h0⟩ | ⟨g', cap', cur', e, _, h3, h4, _⟩
          · exact absurd (List.length_eq_zero_iff.1 h0) hneM
          · rw [e5] at e; cases e; exact h4
        refine ⟨g, cap5, cur5, e5, hb5, hgR, hbx, hcur.1, hcur.2, ?_, fun m => ?_⟩
        · have hf5 : BoxT 37 w5 w.heap.size f.ar := HF.out.back (g5.block _ HF.out.lt (by simp))
          exact (hf5.cellAt 4).trans rfl
        have hT : Turned R R V2 ((w5.setCell ⟨R, 0, none⟩ v5).setCell ⟨g, c, none⟩ (.int .i64 m)) := by
          have t5 : Turned R R V2 w5 := ⟨g5.os, g5.tape, g5.output, g5.size, fun i hi _ _ => g5.block i hi (by simp)⟩
          have t6 := t5.trans (Turned.set R R w5 0 v5)
          exact ⟨t6.os, t6.tape, t6.output, by simpa using t6.size, fun i hi h1 h2 => (Below.heap_setCell _ ⟨g, c, none⟩ _ i (fun e => by simp at e; omega)).trans (t6.block i hi h1 h2)⟩
        have o6 : OwnL 2 1 i64cs V2.heap.size ((w5.setCell ⟨R, 0, none⟩ v5).setCell ⟨g, c, none⟩ (.int .i64 m)) v5 (s1.M.set c m) := by
          have o7 := (o5.otherBox hb5 (by decide) 0 v5)
          obtain ⟨g', cap', cur', e', _, _, hset'⟩ := o7.setInt hneM
          rw [e5] at e'
          cases e'
          have := hset' c m hcs
          rw [e5] at this ⊢
          exact this
        obtain ⟨fq2, g2, t2⟩ := RA.of (r' := { s1 with M := s1.M.set c m }) (mv' := v5) (cv' := cv) (kv' := kv) HFD.out hX.nR hX.flt hX.box.lt hT (by
            have := (hb5.set 0 v5).other c (.int .i64 m) hgR.symm
            simpa using this) (RSeg.fresh o6 i64cs_len (show (s1.M.set c m).length ≤ _ by rw [List.length_set]; omega)) (hX.c.old hX.nR hT) (hX.k.old hX.nR hT) (by simpa using hX.len) (by simpa using hX.pos) (by simpa using hX.le) hX.la0
        exact RTP.step HF.out HR.out HT.out HN0.out HN1.out g2 t2)
      have HMN := hide hneM
      have fr0 := HX0.out.box.free
      have HYY := hide hy
      clear hy hneM p0 p1 p2 p3 p4 p5 p6 rf
      generalize hnM : s1.M.length = nM at *
      go_upto_region 12 with (first | (go_at_call 16; refine HMK.out.mono ?_; rintro e w4 ⟨rfl, rfl⟩; clear HMK) | (at_builtin; refine app_segL Try.info2' Try.underlying28 rfl (by decide) (by decide) i64cs_len i64cs_one rfl _ _ rfl V2.heap.size (.slice none 0 0) [] rfl (OwnL.nil _ _ _ _ _) V2.heap.size _ s1.M rfl HSG.out (by rw [hnM]; exact HLL.out) (Nat.le_refl _) ?_; intro v5 w5 h5 g5 k5; rw [List.nil_append] at h5; obtain ⟨g, cap5, cur5, e5, hb5, hgR, hbx, hcy, hcap, hf4, hrt⟩ := HNX.out v5 w5 h5 g5; subst e5; have fr5 := hb5.free; have d5 := (hb5.cellAt 0).trans rfl; have HB5 := hide hb5; have HBX := hide hbx; have HRT := hide hrt; clear h5 g5 k5 hb5 hbx hrt))
      refine wp_at (fun W => W.cell? ⟨R, 0, none⟩ = some (.slice (some ⟨g, 0, none⟩) nM cap5) ∧ W.cell? ⟨g, c, none⟩ = some (.int .i64 y) ∧ W.cell? ⟨w.heap.size, 4, none⟩ = some (.int .i64 f.ma) ∧ (∀ j, W.frozen? ⟨g, j, none⟩ = false) ∧ ∀ m : Int, RTP w R fq { s1 with M := s1.M.set c m } f (W.setCell ⟨g, c, none⟩ (.int .i64 m))) ⟨?_, ?_, ?_, ?_, HRT.out⟩ ?_
      · rw [(HB5.out.set 0 _).cellAt]; simp
      · rw [(HBX.out.other 0 _ hgR).cellAt]; exact hcy
      · exact (World.cell?_setCell_far _ ⟨R, 0, none⟩ ⟨w.heap.size, 4, none⟩ _ (fun e => hFR e.symm)).trans hf4
      · exact (HBX.out.other 0 _ hgR).free
      clear f0 f1 f2 f3 f4 f5 f6 HRT HB5 HBX d5 fr5 fr0 hf4 hcy HNX HSG HLL c0 c1 c2 c3 c4 c5 HX0 HFD HF HR HG HT HN0 HN1
      rintro W ⟨g0, gy, gm, gf, hrt⟩
      have HRT := hide hrt
      clear hrt
      refine wp_region_M (S := fun w' => w'.cell? ⟨R, 0, none⟩ = some (.slice (some ⟨g, 0, none⟩) nM cap5) ∧ w'.cell? ⟨g, c, none⟩ = some (.int .i64 y) ∧ w'.cell? ⟨w.heap.size, 4, none⟩ = some (.int .i64 f.ma)) (late := [15, 16]) (by kernel_rfl) (⟨g0, gy, gm⟩) (fun hHeld => ?_)
      (try simp only [List.size_toArray, List.length_cons, List.length_nil, Nat.zero_add, Nat.reduceAdd, Array.replicate, List.replicate])
      refine wpAnyM_take (i := 0) (oi := ⟨_, _, _, _, _, _⟩) (v := ?_) rfl (by kernel_rfl) (by kernel_rfl) (by kernel_rfl) (by kernel_rfl) (fun _ _ _ h => h) (Or.inl ⟨by rfl, ?_⟩) hHeld ?_
      rotate_left
      · (intro w' hSw; (try dsimp only at hSw); go_simp; try (with_reducible rfl))
      (try simp only [Act.put, List.setIfInBounds_toArray, List.set_cons_zero, List.set_cons_succ])
      refine wpAnyM_take (i := 1) (oi := ⟨_, _, _, _, _, _⟩) (v := ?_) rfl (by kernel_rfl) (by kernel_rfl) (by kernel_rfl) (by kernel_rfl) (fun _ _ _ h => h) (Or.inl ⟨by rfl, ?_⟩) hHeld ?_
      rotate_left
      · (intro w' hSw; (try dsimp only at hSw); go_simp; try (with_reducible rfl))
      (try simp only [Act.put, List.setIfInBounds_toArray, List.set_cons_zero, List.set_cons_succ])
      refine wpAnyM_take (i := 2) (oi := ⟨_, _, _, _, _, _⟩) (v := ?_) rfl (by kernel_rfl) (by kernel_rfl) (by kernel_rfl) (by kernel_rfl) (fun _ _ _ h => h) (Or.inl ⟨by rfl, ?_⟩) hHeld ?_
      rotate_left
      · (intro w' hSw; (try dsimp only at hSw); go_simp; try (with_reducible rfl))
      (try simp only [Act.put, List.setIfInBounds_toArray, List.set_cons_zero, List.set_cons_succ])
      refine wpAnyM_take (i := 3) (oi := ⟨_, _, _, _, _, _⟩) (v := ?_) rfl (by kernel_rfl) (by kernel_rfl) (by kernel_rfl) (by kernel_rfl) (fun _ _ _ h => h) (Or.inl ⟨by rfl, ?_⟩) hHeld ?_
      rotate_left
      · (intro w' hSw; (try dsimp only at hSw); go_simp; try (with_reducible rfl))
      (try simp only [Act.put, List.setIfInBounds_toArray, List.set_cons_zero, List.set_cons_succ])
      refine wpAnyM_take (i := 4) (oi := ⟨_, _, _, _, _, _⟩) (v := ?_) rfl (by kernel_rfl) (by kernel_rfl) (by kernel_rfl) (by kernel_rfl) (fun _ _ _ h => h) (Or.inl ⟨by rfl, ?_⟩) hHeld ?_
      rotate_left
      · (intro w' hSw; (try dsimp only at hSw); go_simp; try (with_reducible rfl))
      (try simp only [Act.put, List.setIfInBounds_toArray, List.set_cons_zero, List.set_cons_succ])
      refine wpAnyM_take (i := 5) (oi := ⟨_, _, _, _, _, _⟩) (v := ?_) rfl (by kernel_rfl) (by kernel_rfl) (by kernel_rfl) (by kernel_rfl) (fun _ _ _ h => h) (Or.inl ⟨by rfl, ?_⟩) hHeld ?_
      rotate_left
      · (intro w' hSw; (try dsimp only at hSw); go_simp; try (with_reducible rfl))
      (try simp only [Act.put, List.setIfInBounds_toArray, List.set_cons_zero, List.set_cons_succ])
      refine wpAnyM_take (i := 6) (oi := ⟨_, _, _, _, _, _⟩) (v := ?_) rfl (by kernel_rfl) (by kernel_rfl) (by kernel_rfl) (by kernel_rfl) (fun _ _ _ h => h) (Or.inl ⟨by rfl, ?_⟩) hHeld ?_
      rotate_left
      · (intro w' hSw; (try dsimp only at hSw); go_simp; try (with_reducible rfl))
      (try simp only [Act.put, List.setIfInBounds_toArray, List.set_cons_zero, List.set_cons_succ])
      refine wpAnyM_take (i := 7) (oi := ⟨_, _, _, _, _, _⟩) (v := ?_) rfl (by kernel_rfl) (by kernel_rfl) (by kernel_rfl) (by kernel_rfl) (fun _ _ _ h => h) (Or.inl ⟨by rfl, ?_⟩) hHeld ?_
      rotate_left
      · (intro w' hSw; (try dsimp only at hSw); go_simp; try (with_reducible rfl))
      (try simp only [Act.put, List.setIfInBounds_toArray, List.set_cons_zero, List.set_cons_succ])
      refine wpAnyM_take (i := 8) (oi := ⟨_, _, _, _, _, _⟩) (v := ?_) rfl (by kernel_rfl) (by kernel_rfl) (by kernel_rfl) (by kernel_rfl) (fun _ _ _ h => h) (Or.inl ⟨by rfl, ?_⟩) hHeld ?_
      rotate_left
      · (intro w' hSw; (try dsimp only at hSw); go_simp; try (with_reducible rfl))
      (try simp only [Act.put, List.setIfInBounds_toArray, List.set_cons_zero, List.set_cons_succ])
      refine wpAnyM_take (i := 9) (oi := ⟨_, _, _, _, _, _⟩) (v := ?_) rfl (by kernel_rfl) (by kernel_rfl) (by kernel_rfl) (by kernel_rfl) (fun _ _ _ h => h) (Or.inl ⟨by rfl, ?_⟩) hHeld ?_
      rotate_left
      · (intro w' hSw; (try dsimp only at hSw); go_simp; try (with_reducible rfl))
      (try simp only [Act.put, List.setIfInBounds_toArray, List.set_cons_zero, List.set_cons_succ])
      refine wpAnyM_take (i := 10) (oi := ⟨_, _, _, _, _, _⟩) (v := ?_) rfl (by kernel_rfl) (by kernel_rfl) (by kernel_rfl) (by kernel_rfl) (fun _ _ _ h => h) (Or.inl ⟨by rfl, ?_⟩) hHeld ?_
      rotate_left
      · (intro w' hSw; (try dsimp only at hSw); go_simp; try (with_reducible rfl))
      (try simp only [Act.put, List.setIfInBounds_toArray, List.set_cons_zero, List.set_cons_succ])
      refine wpAnyM_take (i := 11) (oi := ⟨_, _, _, _, _, _⟩) (v := ?_) rfl (by kernel_rfl) (by kernel_rfl) (by kernel_rfl) (by kernel_rfl) (fun _ _ _ h => h) (Or.inl ⟨by rfl, ?_⟩) hHeld ?_
      rotate_left
      · (intro w' hSw; (try dsimp only at hSw); go_simp; try (with_reducible rfl))
      (try simp only [Act.put, List.setIfInBounds_toArray, List.set_cons_zero, List.set_cons_succ])
      refine wpAnyM_take (i := 12) (oi := ⟨_, _, _, _, _, _⟩) (v := ?_) rfl (by kernel_rfl) (by kernel_rfl) (by kernel_rfl) (by kernel_rfl) (fun _ _ _ h => h) (Or.inl ⟨by rfl, ?_⟩) hHeld ?_
      rotate_left
      · (intro w' hSw; (try dsimp only at hSw); go_simp; try (with_reducible rfl))
      (try simp only [Act.put, List.setIfInBounds_toArray, List.set_cons_zero, List.set_cons_succ])
      refine wpAnyM_take (i := 13) (oi := ⟨_, _, _, _, _, _⟩) (v := ?_) rfl (by kernel_rfl) (by kernel_rfl) (by kernel_rfl) (by kernel_rfl) (fun _ _ _ h => h) (Or.inl ⟨by rfl, ?_⟩) hHeld ?_
      rotate_left
      · (intro w' hSw; (try dsimp only at hSw); go_simp; try (with_reducible rfl))
      (try simp only [Act.put, List.setIfInBounds_toArray, List.set_cons_zero, List.set_cons_succ])
      refine wpAnyM_take (i := 14) (oi := ⟨_, _, _, _, _, _⟩) (v := ?_) rfl (by kernel_rfl) (by kernel_rfl) (by kernel_rfl) (by kernel_rfl) (fun _ _ _ h => h) (Or.inl ⟨by rfl, ?_⟩) hHeld ?_
      rotate_left
      · (intro w' hSw; (try dsimp only at hSw); go_simp; try (with_reducible rfl))
      (try simp only [Act.put, List.setIfInBounds_toArray, List.set_cons_zero, List.set_cons_succ])
      refine wpAnyM_last (i := 15) (o := ⟨_, _, _, _, _, _⟩) (by kernel_rfl) (by rfl) rfl (fun K hK => ?_)
      go_simp
      refine hK.out _ _ ?_
      clear hK K
      (try simp only [List.setIfInBounds_toArray, List.set_cons_zero, List.set_cons_succ])
      refine wpAnyM_last (i := 16) (o := ⟨_, _, _, _, _, _⟩) (by kernel_rfl) (by rfl) rfl (fun K hK => ?_)
      go_simp
      refine hK.out _ _ ?_
      clear hK K
      (try simp only [List.setIfInBounds_toArray, List.set_cons_zero, List.set_cons_succ])
      refine wpAnyM_done (by kernel_rfl) ?_ _
      generalize hmv : (if y < f.ma then f.ma else y) = mv0 at *
      have HMV := hide hmv
      clear hmv
      go_upto_region 13 with fail
      refine wp_at (RTP w R fq (s1.rise c f.ma) f) (by rw [HRS.out]; exact RTP.drewN (HRT.out mv0) 1) ?_
      clear HRT HRS g0 gy gm gf
      intro V3 A
      obtain ⟨F1, R1, fp1, G1, T1, N0, N1⟩ := A
      obtain ⟨f0, f1, f2, f3, f4, f5, f6⟩ := BoxT.all7 F1
      obtain ⟨p0, p1, p2, p3, p4, p5, p6⟩ := BoxT.all7 R1
      have rf := R1.free
      have HF := hide F1
      have HR := hide R1
      have HG := hide G1
      have HT := hide T1
      have HN0 := hide N0
      have HN1 := hide N1
      obtain ⟨fd, mv, cv, kv, X, hfd⟩ := G1
      obtain ⟨c0, c1, c2, c3, c4, c5⟩ := X.cells
      have HX0 := hide X
      have HFD := hide hfd
      obtain ⟨ma, mc, rfl, hmc⟩ := X.m.shape
      have hle64 := X.le
      clear F1 R1 T1 N0 N1 X hfd
      have HMK2 := hide (rMark_any HG.out)
      unfold Gs.riseS at HX
      generalize least s1.M = l1 at *
      generalize hL2 : least (s1.rise c f.ma).M = l2 at *
      by_cases hl12 : l1 < l2
      · rw [if_pos hl12] at HX
        have e := HX.out
        simp only [Sn.mk.injEq] at e
        obtain ⟨rfl, rfl, rfl, rfl, rfl, rfl, rfl⟩ := e
        clear HX
        go_wp2_with (go_at_call 16; refine HMK2.out.mono ?_; rintro e w4 ⟨rfl, rfl⟩)
        have z := (BoxT.ch7 HR.out (.int .i64 2) (.int .i64 0) (.int .i64 0) (.int .i64 0) (.int .i64 xma) (.int .u64 0) (.int .u64 0)).all7
        exact bodyPost_ret (v := .tuple #[.agg #[.int .i64 2, .int .i64 0, .int .i64 0, .int .i64 0, .int .i64 xma, .int .u64 0, .int .u64 0], .int .i64 0]) (by simp [results, Try.results14, go_sem, z.1, z.2.1, z.2.2.1, z.2.2.2.1, z.2.2.2.2.1, z.2.2.2.2.2.1, z.2.2.2.2.2.2]; try rfl) rfl ⟨rfl, fp1, HG.out.ch7 HN1.out (.int .i64 2) (.int .i64 0) (.int .i64 0) (.int .i64 0) (.int .i64 xma) (.int .u64 0) (.int .u64 0), HT.out.ch7 (Nat.le_succ _) (.int .i64 2) (.int .i64 0) (.int .i64 0) (.int .i64 0) (.int .i64 xma) (.int .u64 0) (.int .u64 0)⟩
      · rw [if_neg hl12] at HX
        have e := HX.out
        simp only [Sn.none, Sn.mk.injEq] at e
        obtain ⟨rfl, rfl, rfl, rfl, rfl, rfl, rfl⟩ := e
        clear HX
        go_wp2_with (go_at_call 16; refine HMK2.out.mono ?_; rintro e w4 ⟨rfl, rfl⟩)
        have z := (BoxT.ch7 HR.out (.int .i64 0) (.int .i64 0) (.int .i64 0) (.int .i64 0) (.int .i64 0) (.int .u64 0) (.int .u64 0)).all7
        exact bodyPost_ret (v := .tuple #[.agg #[.int .i64 0, .int .i64 0, .int .i64 0, .int .i64 0, .int .i64 0, .int .u64 0, .int .u64 0], .int .i64 0]) (by simp [results, Try.results14, go_sem, z.1, z.2.1, z.2.2.1, z.2.2.2.1, z.2.2.2.2.1, z.2.2.2.2.2.1, z.2.2.2.2.2.2]; try rfl) rfl ⟨rfl, fp1, HG.out.ch7 HN1.out (.int .i64 0) (.int .i64 0) (.int .i64 0) (.int .i64 0) (.int .i64 0) (.int .u64 0) (.int .u64 0), HT.out.ch7 (Nat.le_succ _) (.int .i64 0) (.int .i64 0) (.int .i64 0) (.int .i64 0) (.int .i64 0) (.int .u64 0) (.int .u64 0)⟩
    | false =>
      have HS1 : Hid (s1 = r) := (show _ = _ by rw [HS0.out]; unfold Gs.capt; rw [if_neg (of_decide_eq_false hct)])
      clear hct
      go_upto_region 6 with fail
      refine wp_at (RTP w R fq s1 f) (by rw [HS1.out]; exact ⟨HF.out, HR.out, fp1, HG.out, HT.out, HN0.out, HN1.out⟩) ?_
      clear HS1 e6 f0 f1 f2 f3 f4 f5 f6 p0 p1 p2 p3 p4 p5 p6 rf HF HR HG HT HN0 HN1 c0 c1 c2 c3 c4 c5 HX0 HFD
      have hcs : c < s1.M.length := by rw [HS0.out, Gs.capt_M]; exact hc
      intro V2 A
      obtain ⟨F1, R1, fp1, G1, T1, N0, N1⟩ := A
      obtain ⟨f0, f1, f2, f3, f4, f5, f6⟩ := BoxT.all7 F1
      obtain ⟨p0, p1, p2, p3, p4, p5, p6⟩ := BoxT.all7 R1
      have rf := R1.free
      have HF := hide F1
      have HR := hide R1
      have HG := hide G1
      have HT := hide T1
      have HN0 := hide N0
      have HN1 := hide N1
      obtain ⟨fd, mv, cv, kv, X, hfd⟩ := G1
      obtain ⟨c0, c1, c2, c3, c4, c5⟩ := X.cells
      have HX0 := hide X
      have HFD := hide hfd
      obtain ⟨ma, mc, rfl, hmc⟩ := X.m.shape
      have hle64 := X.le
      clear F1 R1 T1 N0 N1 X hfd
      obtain ⟨y, hy⟩ := get_of_lt hcs
      have HRS := hide (Gs.rise_set hy f.ma)
      have HMK := hide (rMark_any HG.out)
      have HSG := hide HX0.out.m.lseg
      have hic2 : (c : Int) < (s1.M.length : Int) := by omega
      have HLL : Hid (([] : List Int).length + s1.M.length ≤ 1000000) := (show _ ≤ _ by simp; omega)
      have hneM : s1.M ≠ [] := fun e => by rw [e] at hcs; simp at hcs
      have hFR : w.heap.size ≠ R := fun e => HN0.out (e ▸ (HFD.out R).2 (.inl rfl))
      have HNX : Hid (∀ v5 w5, OwnL 2 1 i64cs V2.heap.size w5 v5 s1.M → V2.grownBy w5 none → ∃ g cap5 cur5, v5 = .slice (some ⟨g, 0, none⟩) s1.M.length cap5 ∧ BoxT 33 w5 R #[.slice ma s1.M.length mc, .int .u64 s1.la, .int .u64 s1.un, .bool s1.ov, cv, kv] ∧ g ≠ R ∧ BoxT 2 w5 g cur5 ∧ cur5[c]? = some (.int .i64 y) ∧ s1.M.length ≤ cap5 ∧ w5.cell? ⟨w.heap.size, 4, none⟩ = some (.int .i64 f.ma) ∧ ∀ m : Int, RTP w R fq { s1 with M := s1.M.set c m } f ((w5.setCell ⟨R, 0, none⟩ v5).setCell ⟨g, c, none⟩ (.int .i64 m))) := (show ∀ v5 w5, _ from fun v5 w5 o5 g5 => by
        have hX := HX0.out
        have hb5 : BoxT 33 w5 R _ := hX.box.back (g5.block R hX.box.lt (by simp))
        obtain ⟨g, cap5, cur5, e5, hg, hbx, hset⟩ := o5.setInt hneM
        have hgR : g ≠ R := hbx.ne hb5 (by decide)
        have hcur : cur5[c]? = some (.int .i64 y) ∧ s1.M.length ≤ cap5 := by
          obtain ⟨b', o', eb, _, dc⟩ := seg_int (by have := o5.seg i64cs_len (by omega); rw [e5] at this; exact this) hy
          cases eb
          rw [hbx.cellAt, Nat.zero_add] at dc
          refine ⟨dc, ?_⟩
          rcases o5.2 with ⟨e, h0⟩ | ⟨g', cap', cur', e, _, h3, h4, _⟩
          · exact absurd (List.length_eq_zero_iff.1 h0) hneM
          · rw [e5] at e; cases e; exact h4
        refine ⟨g, cap5, cur5, e5, hb5, hgR, hbx, hcur.1, hcur.2, ?_, fun m => ?_⟩
        · have hf5 : BoxT 37 w5 w.heap.size f.ar := HF.out.back (g5.block _ HF.out.lt (by simp))
          exact (hf5.cellAt 4).trans rfl
        have hT : Turned R R V2 ((w5.setCell ⟨R, 0, none⟩ v5).setCell ⟨g, c, none⟩ (.int .i64 m)) := by
          have t5 : Turned R R V2 w5 := ⟨g5.os, g5.tape, g5.output, g5.size, fun i hi _ _ => g5.block i hi (by simp)⟩
          have t6 := t5.trans (Turned.set R R w5 0 v5)
          exact ⟨t6.os, t6.tape, t6.output, by simpa using t6.size, fun i hi h1 h2 => (Below.heap_setCell _ ⟨g, c, none⟩ _ i (fun e => by simp at e; omega)).trans (t6.block i hi h1 h2)⟩
        have o6 : OwnL 2 1 i64cs V2.heap.size ((w5.setCell ⟨R, 0, none⟩ v5).setCell ⟨g, c, none⟩ (.int .i64 m)) v5 (s1.M.set c m) := by
          have o7 := (o5.otherBox hb5 (by decide) 0 v5)
          obtain ⟨g', cap', cur', e', _, _, hset'⟩ := o7.setInt hneM
          rw [e5] at e'
          cases e'
          have := hset' c m hcs
          rw [e5] at this ⊢
          exact this
        obtain ⟨fq2, g2, t2⟩ := RA.of (r' := { s1 with M := s1.M.set c m }) (mv' := v5) (cv' := cv) (kv' := kv) HFD.out hX.nR hX.flt hX.box.lt hT (by
            have := (hb5.set 0 v5).other c (.int .i64 m) hgR.symm
            simpa using this) (RSeg.fresh o6 i64cs_len (show (s1.M.set c m).length ≤ _ by rw [List.length_set]; omega)) (hX.c.old hX.nR hT) (hX.k.old hX.nR hT) (by simpa using hX.len) (by simpa using hX.pos) (by simpa using hX.le) hX.la0
        exact RTP.step HF.out HR.out HT.out HN0.out HN1.out g2 t2)
      have HMN := hide hneM
      have fr0 := HX0.out.box.free
      have HYY := hide hy
      clear hy hneM p0 p1 p2 p3 p4 p5 p6 rf
      generalize hnM : s1.M.length = nM at *
      go_upto_region 12 with (first | (go_at_call 16; refine HMK.out.mono ?_; rintro e w4 ⟨rfl, rfl⟩; clear HMK) | (at_builtin; refine app_segL Try.info2' Try.underlying28 rfl (by decide) (by decide) i64cs_len i64cs_one rfl _ _ rfl V2.heap.size (.slice none 0 0) [] rfl (OwnL.nil _ _ _ _ _) V2.heap.size _ s1.M rfl HSG.out (by rw [hnM]; exact HLL.out) (Nat.le_refl _) ?_; intro v5 w5 h5 g5 k5; rw [List.nil_append] at h5; obtain ⟨g, cap5, cur5, e5, hb5, hgR, hbx, hcy, hcap, hf4, hrt⟩ := HNX.out v5 w5 h5 g5; subst e5; have fr5 := hb5.free; have d5 := (hb5.cellAt 0).trans rfl; have HB5 := hide hb5; have HBX := hide hbx; have HRT := hide hrt; clear h5 g5 k5 hb5 hbx hrt))
      refine wp_at (fun W => W.cell? ⟨R, 0, none⟩ = some (.slice (some ⟨g, 0, none⟩) nM cap5) ∧ W.cell? ⟨g, c, none⟩ = some (.int .i64 y) ∧ W.cell? ⟨w.heap.size, 4, none⟩ = some (.int .i64 f.ma) ∧ (∀ j, W.frozen? ⟨g, j, none⟩ = false) ∧ ∀ m : Int, RTP w R fq { s1 with M := s1.M.set c m } f (W.setCell ⟨g, c, none⟩ (.int .i64 m))) ⟨?_, ?_, ?_, ?_, HRT.out⟩ ?_
      · rw [(HB5.out.set 0 _).cellAt]; simp
      · rw [(HBX.out.other 0 _ hgR).cellAt]; exact hcy
      · exact (World.cell?_setCell_far _ ⟨R, 0, none⟩ ⟨w.heap.size, 4, none⟩ _ (fun e => hFR e.symm)).trans hf4
      · exact (HBX.out.other 0 _ hgR).free
      clear f0 f1 f2 f3 f4 f5 f6 HRT HB5 HBX d5 fr5 fr0 hf4 hcy HNX HSG HLL c0 c1 c2 c3 c4 c5 HX0 HFD HF HR HG HT HN0 HN1
      rintro W ⟨g0, gy, gm, gf, hrt⟩
      have HRT := hide hrt
      clear hrt
      refine wp_region_M (S := fun w' => w'.cell? ⟨R, 0, none⟩ = some (.slice (some ⟨g, 0, none⟩) nM cap5) ∧ w'.cell? ⟨g, c, none⟩ = some (.int .i64 y) ∧ w'.cell? ⟨w.heap.size, 4, none⟩ = some (.int .i64 f.ma)) (late := [15, 16]) (by kernel_rfl) (⟨g0, gy, gm⟩) (fun hHeld => ?_)
      (try simp only [List.size_toArray, List.length_cons, List.length_nil, Nat.zero_add, Nat.reduceAdd, Array.replicate, List.replicate])
      refine wpAnyM_take (i := 0) (oi := ⟨_, _, _, _, _, _⟩) (v := ?_) rfl (by kernel_rfl) (by kernel_rfl) (by kernel_rfl) (by kernel_rfl) (fun _ _ _ h => h) (Or.inl ⟨by rfl, ?_⟩) hHeld ?_
      rotate_left
      · (intro w' hSw; (try dsimp only at hSw); go_simp; try (with_reducible rfl))
      (try simp only [Act.put, List.setIfInBounds_toArray, List.set_cons_zero, List.set_cons_succ])
      refine wpAnyM_take (i := 1) (oi := ⟨_, _, _, _, _, _⟩) (v := ?_) rfl (by kernel_rfl) (by kernel_rfl) (by kernel_rfl) (by kernel_rfl) (fun _ _ _ h => h) (Or.inl ⟨by rfl, ?_⟩) hHeld ?_
      rotate_left
      · (intro w' hSw; (try dsimp only at hSw); go_simp; try (with_reducible rfl))
      (try simp only [Act.put, List.setIfInBounds_toArray, List.set_cons_zero, List.set_cons_succ])
      refine wpAnyM_take (i := 2) (oi := ⟨_, _, _, _, _, _⟩) (v := ?_) rfl (by kernel_rfl) (by kernel_rfl) (by kernel_rfl) (by kernel_rfl) (fun _ _ _ h => h) (Or.inl ⟨by rfl, ?_⟩) hHeld ?_
      rotate_left
      · (intro w' hSw; (try dsimp only at hSw); go_simp; try (with_reducible rfl))
      (try simp only [Act.put, List.setIfInBounds_toArray, List.set_cons_zero, List.set_cons_succ])
      refine wpAnyM_take (i := 3) (oi := ⟨_, _, _, _, _, _⟩) (v := ?_) rfl (by kernel_rfl) (by kernel_rfl) (by kernel_rfl) (by kernel_rfl) (fun _ _ _ h => h) (Or.inl ⟨by rfl, ?_⟩) hHeld ?_
      rotate_left
      · (intro w' hSw; (try dsimp only at hSw); go_simp; try (with_reducible rfl))
      (try simp only [Act.put, List.setIfInBounds_toArray, List.set_cons_zero, List.set_cons_succ])
      refine wpAnyM_take (i := 4) (oi := ⟨_, _, _, _, _, _⟩) (v := ?_) rfl (by kernel_rfl) (by kernel_rfl) (by kernel_rfl) (by kernel_rfl) (fun _ _ _ h => h) (Or.inl ⟨by rfl, ?_⟩) hHeld ?_
      rotate_left
      · (intro w' hSw; (try dsimp only at hSw); go_simp; try (with_reducible rfl))
      (try simp only [Act.put, List.setIfInBounds_toArray, List.set_cons_zero, List.set_cons_succ])
      refine wpAnyM_take (i := 5) (oi := ⟨_, _, _, _, _, _⟩) (v := ?_) rfl (by kernel_rfl) (by kernel_rfl) (by kernel_rfl) (by kernel_rfl) (fun _ _ _ h => h) (Or.inl ⟨by rfl, ?_⟩) hHeld ?_
      rotate_left
      · (intro w' hSw; (try dsimp only at hSw); go_simp; try (with_reducible rfl))
      (try simp only [Act.put, List.setIfInBounds_toArray, List.set_cons_zero, List.set_cons_succ])
      refine wpAnyM_take (i := 6) (oi := ⟨_, _, _, _, _, _⟩) (v := ?_) rfl (by kernel_rfl) (by kernel_rfl) (by kernel_rfl) (by kernel_rfl) (fun _ _ _ h => h) (Or.inl ⟨by rfl, ?_⟩) hHeld ?_
      rotate_left
      · (intro w' hSw; (try dsimp only at hSw); go_simp; try (with_reducible rfl))
      (try simp only [Act.put, List.setIfInBounds_toArray, List.set_cons_zero, List.set_cons_succ])
      refine wpAnyM_take (i := 7) (oi := ⟨_, _, _, _, _, _⟩) (v := ?_) rfl (by kernel_rfl) (by kernel_rfl) (by kernel_rfl) (by kernel_rfl) (fun _ _ _ h => h) (Or.inl ⟨by rfl, ?_⟩) hHeld ?_
      rotate_left
      · (intro w' hSw; (try dsimp only at hSw); go_simp; try (with_reducible rfl))
      (try simp only [Act.put, List.setIfInBounds_toArray, List.set_cons_zero, List.set_cons_succ])
      refine wpAnyM_take (i := 8) (oi := ⟨_, _, _, _, _, _⟩) (v := ?_) rfl (by kernel_rfl) (by kernel_rfl) (by kernel_rfl) (by kernel_rfl) (fun _ _ _ h => h) (Or.inl ⟨by rfl, ?_⟩) hHeld ?_
      rotate_left
      · (intro w' hSw; (try dsimp only at hSw); go_simp; try (with_reducible rfl))
      (try simp only [Act.put, List.setIfInBounds_toArray, List.set_cons_zero, List.set_cons_succ])
      refine wpAnyM_take (i := 9) (oi := ⟨_, _, _, _, _, _⟩) (v := ?_) rfl (by kernel_rfl) (by kernel_rfl) (by kernel_rfl) (by kernel_rfl) (fun _ _ _ h => h) (Or.inl ⟨by rfl, ?_⟩) hHeld ?_
      rotate_left
      · (intro w' hSw; (try dsimp only at hSw); go_simp; try (with_reducible rfl))
      (try simp only [Act.put, List.setIfInBounds_toArray, List.set_cons_zero, List.set_cons_succ])
      refine wpAnyM_take (i := 10) (oi := ⟨_, _, _, _, _, _⟩) (v := ?_) rfl (by kernel_rfl) (by kernel_rfl) (by kernel_rfl) (by kernel_rfl) (fun _ _ _ h => h) (Or.inl ⟨by rfl, ?_⟩) hHeld ?_
      rotate_left
      · (intro w' hSw; (try dsimp only at hSw); go_simp; try (with_reducible rfl))
      (try simp only [Act.put, List.setIfInBounds_toArray, List.set_cons_zero, List.set_cons_succ])
      refine wpAnyM_take (i := 11) (oi := ⟨_, _, _, _, _, _⟩) (v := ?_) rfl (by kernel_rfl) (by kernel_rfl) (by kernel_rfl) (by kernel_rfl) (fun _ _ _ h => h) (Or.inl ⟨by rfl, ?_⟩) hHeld ?_
      rotate_left
      · (intro w' hSw; (try dsimp only at hSw); go_simp; try (with_reducible rfl))
      (try simp only [Act.put, List.setIfInBounds_toArray, List.set_cons_zero, List.set_cons_succ])
      refine wpAnyM_take (i := 12) (oi := ⟨_, _, _, _, _, _⟩) (v := ?_) rfl (by kernel_rfl) (by kernel_rfl) (by kernel_rfl) (by kernel_rfl) (fun _ _ _ h => h) (Or.inl ⟨by rfl, ?_⟩) hHeld ?_
      rotate_left
      · (intro w' hSw; (try dsimp only at hSw); go_simp; try (with_reducible rfl))
      (try simp only [Act.put, List.setIfInBounds_toArray, List.set_cons_zero, List.set_cons_succ])
      refine wpAnyM_take (i := 13) (oi := ⟨_, _, _, _, _, _⟩) (v := ?_) rfl (by kernel_rfl) (by kernel_rfl) (by kernel_rfl) (by kernel_rfl) (fun _ _ _ h => h) (Or.inl ⟨by rfl, ?_⟩) hHeld ?_
      rotate_left
      · (intro w' hSw; (try dsimp only at hSw); go_simp; try (with_reducible rfl))
      (try simp only [Act.put, List.setIfInBounds_toArray, List.set_cons_zero, List.set_cons_succ])
      refine wpAnyM_take (i := 14) (oi := ⟨_, _, _, _, _, _⟩) (v := ?_) rfl (by kernel_rfl) (by kernel_rfl) (by kernel_rfl) (by kernel_rfl) (fun _ _ _ h => h) (Or.inl ⟨by rfl, ?_⟩) hHeld ?_
      rotate_left
      · (intro w' hSw; (try dsimp only at hSw); go_simp; try (with_reducible rfl))
      (try simp only [Act.put, List.setIfInBounds_toArray, List.set_cons_zero, List.set_cons_succ])
      refine wpAnyM_last (i := 15) (o := ⟨_, _, _, _, _, _⟩) (by kernel_rfl) (by rfl) rfl (fun K hK => ?_)
      go_simp
      refine hK.out _ _ ?_
      clear hK K
      (try simp only [List.setIfInBounds_toArray, List.set_cons_zero, List.set_cons_succ])
      refine wpAnyM_last (i := 16) (o := ⟨_, _, _, _, _, _⟩) (by kernel_rfl) (by rfl) rfl (fun K hK => ?_)
      go_simp
      refine hK.out _ _ ?_
      clear hK K
      (try simp only [List.setIfInBounds_toArray, List.set_cons_zero, List.set_cons_succ])
      refine wpAnyM_done (by kernel_rfl) ?_ _
      generalize hmv : (if y < f.ma then f.ma else y) = mv0 at *
      have HMV := hide hmv
      clear hmv
      go_upto_region 13 with fail
      refine wp_at (RTP w R fq (s1.rise c f.ma) f) (by rw [HRS.out]; exact RTP.drewN (HRT.out mv0) 1) ?_
      clear HRT HRS g0 gy gm gf
      intro V3 A
      obtain ⟨F1, R1, fp1, G1, T1, N0, N1⟩ := A
      obtain ⟨f0, f1, f2, f3, f4, f5, f6⟩ := BoxT.all7 F1
      obtain ⟨p0, p1, p2, p3, p4, p5, p6⟩ := BoxT.all7 R1
      have rf := R1.free
      have HF := hide F1
      have HR := hide R1
      have HG := hide G1
      have HT := hide T1
      have HN0 := hide N0
      have HN1 := hide N1
      obtain ⟨fd, mv, cv, kv, X, hfd⟩ := G1
      obtain ⟨c0, c1, c2, c3, c4, c5⟩ := X.cells
      have HX0 := hide X
      have HFD := hide hfd
      obtain ⟨ma, mc, rfl, hmc⟩ := X.m.shape
      have hle64 := X.le
      clear F1 R1 T1 N0 N1 X hfd
      have HMK2 := hide (rMark_any HG.out)
      unfold Gs.riseS at HX
      generalize least s1.M = l1 at *
      generalize hL2 : least (s1.rise c f.ma).M = l2 at *
      by_cases hl12 : l1 < l2
      · rw [if_pos hl12] at HX
        have e := HX.out
        simp only [Sn.mk.injEq] at e
        obtain ⟨rfl, rfl, rfl, rfl, rfl, rfl, rfl⟩ := e
        clear HX
        go_wp2_with (go_at_call 16; refine HMK2.out.mono ?_; rintro e w4 ⟨rfl, rfl⟩)
        have z := (BoxT.ch7 HR.out (.int .i64 2) (.int .i64 0) (.int .i64 0) (.int .i64 0) (.int .i64 xma) (.int .u64 0) (.int .u64 0)).all7
        exact bodyPost_ret (v := .tuple #[.agg #[.int .i64 2, .int .i64 0, .int .i64 0, .int .i64 0, .int .i64 xma, .int .u64 0, .int .u64 0], .int .i64 0]) (by simp [results, Try.results14, go_sem, z.1, z.2.1, z.2.2.1, z.2.2.2.1, z.2.2.2.2.1, z.2.2.2.2.2.1, z.2.2.2.2.2.2]; try rfl) rfl ⟨rfl, fp1, HG.out.ch7 HN1.out (.int .i64 2) (.int .i64 0) (.int .i64 0) (.int .i64 0) (.int .i64 xma) (.int .u64 0) (.int .u64 0), HT.out.ch7 (Nat.le_succ _) (.int .i64 2) (.int .i64 0) (.int .i64 0) (.int .i64 0) (.int .i64 xma) (.int .u64 0) (.int .u64 0)⟩
      · rw [if_neg hl12] at HX
        have e := HX.out
        simp only [Sn.none, Sn.mk.injEq] at e
        obtain ⟨rfl, rfl, rfl, rfl, rfl, rfl, rfl⟩ := e
        clear HX
        go_wp2_with (go_at_call 16; refine HMK2.out.mono ?_; rintro e w4 ⟨rfl, rfl⟩)
        have z := (BoxT.ch7 HR.out (.int .i64 0) (.int .i64 0) (.int .i64 0) (.int .i64 0) (.int .i64 0) (.int .u64 0) (.int .u64 0)).all7
        exact bodyPost_ret (v := .tuple #[.agg #[.int .i64 0, .int .i64 0, .int .i64 0, .int .i64 0, .int .i64 0, .int .u64 0, .int .u64 0], .int .i64 0]) (by simp [results, Try.results14, go_sem, z.1, z.2.1, z.2.2.1, z.2.2.2.1, z.2.2.2.2.1, z.2.2.2.2.2.1, z.2.2.2.2.2.2]; try rfl) rfl ⟨rfl, fp1, HG.out.ch7 HN1.out (.int .i64 0) (.int .i64 0) (.int .i64 0) (.int .i64 0) (.int .i64 0) (.int .u64 0) (.int .u64 0), HT.out.ch7 (Nat.le_succ _) (.int .i64 0) (.int .i64 0) (.int .i64 0) (.int .i64 0) (.int .i64 0) (.int .u64 0) (.int .u64 0)⟩
end Go.Proofs.Ytmipgfobggbndaa
