/-
  arrived.
-/
import Derived.Test.YtmipgfobggbndaaGBeg
namespace Go.Proofs.Ytmipgfobggbndaa
open Go.RowKit

theorem wp_at {c : Code} {Q : Exit → Act → World → Prop} {a : Act} {w : World} (P : World → Prop) (h : P w) (k : ∀ W, P W → c.wp Try.prog Q a W) : c.wp Try.prog Q a w := k w h
def ArrP (w : World) (k : Nat) (fp : Nat → Prop) (s : Gs) (x : Sn) (W : World) : Prop :=
  BoxT 43 W w.heap.size zeroSn ∧ BoxT 43 W (w.heap.size + 1) #[.int .i64 x.kd, .int .i64 x.ke, .int .i64 x.ti, .int .i64 x.va, .int .i64 x.ma, .int .u64 x.n, .int .u64 x.fu] ∧ GA W k fp s ∧ FT fp fp w W
section
variable {w : World} {k : Nat} {fp : Nat → Prop} {s : Gs} {x : Sn} {W : World}
theorem ArrP.new (h : GA w k fp s) : ArrP w k fp s Sn.none ((w.alloc (.cells zeroSn 43)).alloc (.cells zeroSn 43)) := by
  refine ⟨(BoxT.new 43 w _).alloc _, BoxT.new_at (by simp), h.below (below_box2 _ _ _), FT.of_below (below_box2 _ _ _)⟩
theorem ArrP.drew (h : ArrP w k fp s x W) : ArrP w k fp s x W.drew := ⟨h.1, h.2.1, h.2.2.1.back (fun _ _ => rfl), h.2.2.2.drew⟩
theorem ArrP.drewN (h : ArrP w k fp s x W) (n : Nat) : ArrP w k fp s x (W.drewN n) := by
  induction n with
  | zero => exact h
  | succ n ih => exact ih.drew
/-- A store into the step. -/
theorem ArrP.put (h : ArrP w k fp s x W) (hS : ¬ fp (w.heap.size + 1)) (j : Nat) (u : Value) (x' : Sn) (hx : (#[.int .i64 x.kd, .int .i64 x.ke, .int .i64 x.ti, .int .i64 x.va, .int .i64 x.ma, .int .u64 x.n, .int .u64 x.fu] : Array Value).setIfInBounds j u = #[.int .i64 x'.kd, .int .i64 x'.ke, .int .i64 x'.ti, .int .i64 x'.va, .int .i64 x'.ma, .int .u64 x'.n, .int .u64 x'.fu]) : ArrP w k fp s x' (W.setCell ⟨w.heap.size + 1, j, none⟩ u) := by
  obtain ⟨h1, h2, h3, h4⟩ := h
  refine ⟨h1.other j u (by omega), ?_, h3.off hS j u, h4.off (by omega) j u⟩
  have := h2.set j u
  rw [hx] at this
  exact this
theorem GA.setUn0 (h : GA w k fp s) : GA (w.setCell ⟨k, 2, none⟩ (.int .u64 0)) k fp { s with un := 0 } ∧ fp k := by
  obtain ⟨mb, cb, mi, cv, h, hf⟩ := h
  exact ⟨⟨mb, cb, mi, cv, { box := by simpa using h.box.set 2 (.int .u64 0), mx := h.mx.other 2 _ h.nkm.symm, cm := h.cm.other 2 _ h.nkc.symm, cp := h.cp.otherBox h.box (by decide) _ _, len := h.len, pos := h.pos, le := h.le, mis := fun e => absurd rfl e }, hf⟩, (hf k).2 (.inl rfl)⟩
theorem ArrP.done (h : ArrP w k fp s x W) (hR : ¬ fp w.heap.size) (hS : ¬ fp (w.heap.size + 1)) : ArrP w k fp { s with un := 0 } x (W.setCell ⟨k, 2, none⟩ (.int .u64 0)) := by
  obtain ⟨h1, h2, h3, h4⟩ := h
  obtain ⟨h5, hk⟩ := h3.setUn0
  exact ⟨h1.other 2 _ (fun e => hR (e ▸ hk)), h2.other 2 _ (fun e => hS (e ▸ hk)), h5, h4.trans (FT.set W hk 2 _)⟩
end
set_option maxHeartbeats 1000000 in
set_option maxRecDepth 100000 in
theorem arr_wait {w : World} {k : Nat} {fp : Nat → Prop} {s : Gs} (h : GA w k fp s) (hu : s.un ≠ 0) (hov : s.ov = false) (hm : 0 < s.ms) {x : Sn} {s2 : Gs} (hx : x = s.arrS) (hs2 : s2 = s.arr) : Calls Try.prog 38 #[.pointer (some ⟨k, 0, none⟩)] w fun e w' => e = .returned x.val ∧ ∃ fp', GA w' k fp' s2 ∧ FT fp fp' w w' := by
  obtain ⟨xkd, xke, xti, xva, xma, xn, xfu⟩ := x
  unfold Sn.val
  have HX := hide hx
  have HS2 := hide hs2
  clear hx hs2
  have A0 := ArrP.new h
  have hR : ¬ fp w.heap.size := fun e => by have := h.flt _ e; omega
  have hS : ¬ fp (w.heap.size + 1) := fun e => by have := h.flt _ e; omega
  clear h
  go_enter Try.func38, Try.ntmps38
  go_upto_region 2 with fail
  refine wp_at (ArrP w k fp s Sn.none) A0 ?_
  clear A0
  intro W A0
  have HA := hide A0
  obtain ⟨_, _, ⟨mb, cb, mi, cv, X, _⟩, _⟩ := A0
  obtain ⟨-, -, c2, c3, c4, c5, -⟩ := X.cells
  have hle := X.le
  have hpos := X.pos
  have hmi : mi = (s.ms : Int) := X.mis hu
  have fr := X.box.free
  subst hmi
  clear X
  rw [hov] at c3
  generalize hms : s.ms = ms at *
  generalize hn : s.M.length = n at *
  go_quiet (fail)
  go_upto_region 10 with fail
  refine wp_at (ArrP w k fp s2 ⟨xkd, xke, xti, xva, xma, xn, xfu⟩) ?_ ?_
  · rw [HX.out, HS2.out]
    exact (by have e1 : s.arr = s := (by unfold Gs.arr; rw [hms]; rw [if_neg (by omega)]); have e2 : s.arrS = Sn.none := (by unfold Gs.arrS Gs.keeps; rw [hov, hms, hn]; simp [show ms ≠ 0 by omega, Sn.none]); rw [e1, e2]; exact HA.out.drewN _)
  clear HA c2 c3 c4 c5 fr hms hn hov hm HX HS2
  intro V A1
  obtain ⟨R1, S1, G1, T1⟩ := A1
  obtain ⟨p0, p1, p2, p3, p4, p5, p6⟩ := BoxT.all7 R1
  obtain ⟨q0, q1, q2, q3, q4, q5, q6⟩ := S1.all7
  have rf := R1.free
  simp only at q0 q1 q2 q3 q4 q5 q6
  have HR := hide R1
  have HG := hide G1
  have HT := hide T1
  clear R1 S1 G1 T1
  go_wp2_with fail
  have z := (BoxT.ch7 HR.out (.int .i64 xkd) (.int .i64 xke) (.int .i64 xti) (.int .i64 xva) (.int .i64 xma) (.int .u64 xn) (.int .u64 xfu)).all7
  exact bodyPost_ret (v := .agg #[.int .i64 xkd, .int .i64 xke, .int .i64 xti, .int .i64 xva, .int .i64 xma, .int .u64 xn, .int .u64 xfu]) (by simp [results, Try.results38, go_sem, z.1, z.2.1, z.2.2.1, z.2.2.2.1, z.2.2.2.2.1, z.2.2.2.2.2.1, z.2.2.2.2.2.2]; try rfl) rfl ⟨rfl, fp, HG.out.ch7 hR (.int .i64 xkd) (.int .i64 xke) (.int .i64 xti) (.int .i64 xva) (.int .i64 xma) (.int .u64 xn) (.int .u64 xfu), HT.out.ch7 (Nat.le_refl _) (.int .i64 xkd) (.int .i64 xke) (.int .i64 xti) (.int .i64 xva) (.int .i64 xma) (.int .u64 xn) (.int .u64 xfu)⟩
set_option maxHeartbeats 1000000 in
set_option maxRecDepth 100000 in
theorem arr_last {w : World} {k : Nat} {fp : Nat → Prop} {s : Gs} (h : GA w k fp s) (hu : s.un ≠ 0) (hov : s.ov = false) (hm : s.ms = 0) {x : Sn} {s2 : Gs} (hx : x = s.arrS) (hs2 : s2 = s.arr) : Calls Try.prog 38 #[.pointer (some ⟨k, 0, none⟩)] w fun e w' => e = .returned x.val ∧ ∃ fp', GA w' k fp' s2 ∧ FT fp fp' w w' := by
  obtain ⟨xkd, xke, xti, xva, xma, xn, xfu⟩ := x
  unfold Sn.val
  have HX := hide hx
  have HS2 := hide hs2
  clear hx hs2
  have A0 := ArrP.new h
  have hR : ¬ fp w.heap.size := fun e => by have := h.flt _ e; omega
  have hS : ¬ fp (w.heap.size + 1) := fun e => by have := h.flt _ e; omega
  clear h
  go_enter Try.func38, Try.ntmps38
  go_upto_region 2 with fail
  refine wp_at (ArrP w k fp s Sn.none) A0 ?_
  clear A0
  intro W A0
  have HA := hide A0
  obtain ⟨_, _, ⟨mb, cb, mi, cv, X, _⟩, _⟩ := A0
  obtain ⟨-, -, c2, c3, c4, c5, -⟩ := X.cells
  have hle := X.le
  have hpos := X.pos
  have hmi : mi = (s.ms : Int) := X.mis hu
  have fr := X.box.free
  subst hmi
  clear X
  rw [hov] at c3
  generalize hms : s.ms = ms at *
  generalize hn : s.M.length = n at *
  go_quiet (fail)
  subst hm
  go_upto_region 6 with fail
  refine wp_at (ArrP w k fp s Sn.none) (HA.out.drewN _) ?_
  clear HA c2 c3 c4 c5 fr
  intro W1 A1
  have HA := hide A1
  obtain ⟨_, _, ⟨mb1, cb1, mi1, cv1, X, hf1⟩, _⟩ := A1
  obtain ⟨-, -, c2, -, -, -, -⟩ := X.cells
  have hkS : k ≠ w.heap.size + 1 := fun e => hS (e ▸ (hf1 k).2 (.inl rfl))
  clear X hf1
  have HB := hide (HA.out.put hS 0 (.int .i64 3) ⟨3, 0, 0, 0, 0, 0, 0⟩ (by simp [Sn.none]))
  have HC := hide ((HB.out.put hS 5 (.int .u64 s.un) ⟨3, 0, 0, 0, 0, s.un, 0⟩ (by simp)).drew)
  have sf := HA.out.2.1.free
  obtain ⟨q0, q1, q2, q3, q4, q5, q6⟩ := HA.out.2.1.all7
  simp only [Sn.none] at q0 q1 q2 q3 q4 q5 q6
  refine wp_region_M (S := fun w' => w'.cell? ⟨k, 2, none⟩ = some (.int .u64 s.un)) (late := []) (by kernel_rfl) (c2) (fun hHeld => ?_)
  (try simp only [List.size_toArray, List.length_cons, List.length_nil, Nat.zero_add, Nat.reduceAdd, Array.replicate, List.replicate])
  refine wpAnyM_take (i := 0) (oi := ⟨_, _, _, _, _, _⟩) (v := ?_) rfl (by kernel_rfl) (by kernel_rfl) (by kernel_rfl) (by kernel_rfl) (fun _ _ _ h => h) (Or.inl ⟨by rfl, ?_⟩) hHeld ?_
  rotate_left
  · (intro w' hSw; (try dsimp only at hSw); go_simp; try (with_reducible rfl))
  (try simp only [Act.put, List.setIfInBounds_toArray, List.set_cons_zero, List.set_cons_succ])
  refine wpAnyM_take (i := 1) (oi := ⟨_, _, _, _, _, _⟩) (v := ?_) rfl (by kernel_rfl) (by kernel_rfl) (by kernel_rfl) (by kernel_rfl) (fun _ _ _ h => h) (Or.inl ⟨by rfl, ?_⟩) hHeld ?_
  rotate_left
  · (intro w' hSw; (try dsimp only at hSw); go_simp; try (with_reducible rfl))
  (try simp only [Act.put, List.setIfInBounds_toArray, List.set_cons_zero, List.set_cons_succ])
  refine wpAnyM_take (i := 2) (oi := ⟨_, _, _, _, _, _⟩) (v := ?_) rfl (by kernel_rfl) (by kernel_rfl) (by kernel_rfl) (by kernel_rfl) (fun _ _ _ h => h) (Or.inl ⟨by rfl, ?_⟩) hHeld ?_
  rotate_left
  · (intro w' hSw; (try dsimp only at hSw); go_simp; try (with_reducible rfl))
  (try simp only [Act.put, List.setIfInBounds_toArray, List.set_cons_zero, List.set_cons_succ])
  refine wpAnyM_take (i := 3) (oi := ⟨_, _, _, _, _, _⟩) (v := ?_) rfl (by kernel_rfl) (by kernel_rfl) (by kernel_rfl) (by kernel_rfl) (fun _ _ _ h => h) (Or.inl ⟨by rfl, ?_⟩) hHeld ?_
  rotate_left
  · (intro w' hSw; (try dsimp only at hSw); go_simp; try (with_reducible rfl))
  (try simp only [Act.put, List.setIfInBounds_toArray, List.set_cons_zero, List.set_cons_succ])
  refine wpAnyM_take (i := 4) (oi := ⟨_, _, _, _, _, _⟩) (v := ?_) rfl (by kernel_rfl) (by kernel_rfl) (by kernel_rfl) (by kernel_rfl) (fun _ _ _ h => h) (Or.inl ⟨by rfl, ?_⟩) hHeld ?_
  rotate_left
  · (intro w' hSw; (try dsimp only at hSw); go_simp; try (with_reducible rfl))
  (try simp only [Act.put, List.setIfInBounds_toArray, List.set_cons_zero, List.set_cons_succ])
  refine wpAnyM_one (i := 5) (o := ⟨_, _, _, _, _, _⟩) (by kernel_rfl) rfl (fun K hK => ?_)
  go_simp
  refine hK.out _ _ ((World.cell?_setCell_far _ ⟨w.heap.size + 1, 0, none⟩ ⟨k, 2, none⟩ _ (fun e => hkS e.symm)).trans c2) (fun hHeld => ?_)
  clear hK K
  (try simp only [List.setIfInBounds_toArray, List.set_cons_zero, List.set_cons_succ])
  refine wpAnyM_take (i := 6) (oi := ⟨_, _, _, _, _, _⟩) (v := ?_) rfl (by kernel_rfl) (by kernel_rfl) (by kernel_rfl) (by kernel_rfl) (fun _ _ _ h => h) (Or.inl ⟨by rfl, ?_⟩) hHeld ?_
  rotate_left
  · (intro w' hSw; (try dsimp only at hSw); go_simp; try (with_reducible rfl))
  (try simp only [Act.put, List.setIfInBounds_toArray, List.set_cons_zero, List.set_cons_succ])
  refine wpAnyM_one (i := 7) (o := ⟨_, _, _, _, _, _⟩) (by kernel_rfl) rfl (fun K hK => ?_)
  go_simp
  refine hK.out _ _ ((World.cell?_setCell_far _ ⟨w.heap.size + 1, 5, none⟩ ⟨k, 2, none⟩ _ (fun e => hkS e.symm)).trans ((World.cell?_setCell_far _ ⟨w.heap.size + 1, 0, none⟩ ⟨k, 2, none⟩ _ (fun e => hkS e.symm)).trans c2)) (fun hHeld => ?_)
  clear hK K
  (try simp only [List.setIfInBounds_toArray, List.set_cons_zero, List.set_cons_succ])
  refine wpAnyM_done (by kernel_rfl) ?_ _
  go_upto_region 7 with fail
  refine wp_at (ArrP w k fp s ⟨3, 0, 0, 0, 0, s.un, 0⟩) HC.out ?_
  clear HA HB HC q0 q1 q2 q3 q4 q5 q6 sf c2 
  intro W2 A2
  have HA := hide A2
  obtain ⟨_, _, ⟨mb2, cb2, mi2, cv2, X, hf2⟩, _⟩ := A2
  obtain ⟨-, -, c2, -, -, c5, -⟩ := X.cells
  have hmi2 : mi2 = (s.ms : Int) := X.mis hu
  subst hmi2
  rw [hms] at c5
  have fr := X.box.free
  have hkS2 : k ≠ w.heap.size + 1 := fun e => hS (e ▸ (hf2 k).2 (.inl rfl))
  clear X hf2
  have sf := HA.out.2.1.free
  obtain ⟨q0, q1, q2, q3, q4, q5, q6⟩ := HA.out.2.1.all7
  have c2' := (World.cell?_setCell_far W2 ⟨w.heap.size + 1, 6, none⟩ ⟨k, 2, none⟩ (.int .u64 s.un) (fun e => hkS2 e.symm)).trans c2
  have fr' : (W2.setCell ⟨w.heap.size + 1, 6, none⟩ (.int .u64 s.un)).frozen? ⟨k, 2, none⟩ = false := by have h5 := (HA.out.put hS 6 (.int .u64 s.un) ⟨3, 0, 0, 0, 0, s.un, s.un⟩ (by simp)); obtain ⟨_, _, ⟨_, _, _, _, X5, _⟩, _⟩ := h5; exact X5.box.free 2
  go_upto_region 10 with fail
  refine wp_at (ArrP w k fp s2 ⟨xkd, xke, xti, xva, xma, xn, xfu⟩) ?_ ?_
  · rw [HX.out, HS2.out]
    exact (by have e1 : s.arr = { s with un := 0 } := (by unfold Gs.arr; rw [hms]; rw [if_pos rfl]); have e2 : s.arrS = ⟨3, 0, 0, 0, 0, s.un, s.un⟩ := (by unfold Gs.arrS Gs.keeps; rw [hov, hms, hn]; simp); rw [e1, e2]; exact ((HA.out.put hS 6 (.int .u64 s.un) ⟨3, 0, 0, 0, 0, s.un, s.un⟩ (by simp)).done hR hS))
  clear HA c2 c5 fr hms hn hov hkS2 sf q0 q1 q2 q3 q4 q5 q6 c2' fr' HX HS2
  intro V A1
  obtain ⟨R1, S1, G1, T1⟩ := A1
  obtain ⟨p0, p1, p2, p3, p4, p5, p6⟩ := BoxT.all7 R1
  obtain ⟨q0, q1, q2, q3, q4, q5, q6⟩ := S1.all7
  have rf := R1.free
  simp only at q0 q1 q2 q3 q4 q5 q6
  have HR := hide R1
  have HG := hide G1
  have HT := hide T1
  clear R1 S1 G1 T1
  go_wp2_with fail
  have z := (BoxT.ch7 HR.out (.int .i64 xkd) (.int .i64 xke) (.int .i64 xti) (.int .i64 xva) (.int .i64 xma) (.int .u64 xn) (.int .u64 xfu)).all7
  exact bodyPost_ret (v := .agg #[.int .i64 xkd, .int .i64 xke, .int .i64 xti, .int .i64 xva, .int .i64 xma, .int .u64 xn, .int .u64 xfu]) (by simp [results, Try.results38, go_sem, z.1, z.2.1, z.2.2.1, z.2.2.2.1, z.2.2.2.2.1, z.2.2.2.2.2.1, z.2.2.2.2.2.2]; try rfl) rfl ⟨rfl, fp, HG.out.ch7 hR (.int .i64 xkd) (.int .i64 xke) (.int .i64 xti) (.int .i64 xva) (.int .i64 xma) (.int .u64 xn) (.int .u64 xfu), HT.out.ch7 (Nat.le_refl _) (.int .i64 xkd) (.int .i64 xke) (.int .i64 xti) (.int .i64 xva) (.int .i64 xma) (.int .u64 xn) (.int .u64 xfu)⟩
set_option maxHeartbeats 1000000 in
set_option maxRecDepth 100000 in
theorem arr_alone {w : World} {k : Nat} {fp : Nat → Prop} {s : Gs} (h : GA w k fp s) (hu : s.un ≠ 0) (hov : s.ov = true) (hm : s.ms = 0) (h1 : s.M.length = 1) {x : Sn} {s2 : Gs} (hx : x = s.arrS) (hs2 : s2 = s.arr) : Calls Try.prog 38 #[.pointer (some ⟨k, 0, none⟩)] w fun e w' => e = .returned x.val ∧ ∃ fp', GA w' k fp' s2 ∧ FT fp fp' w w' := by
  obtain ⟨xkd, xke, xti, xva, xma, xn, xfu⟩ := x
  unfold Sn.val
  have HX := hide hx
  have HS2 := hide hs2
  clear hx hs2
  have A0 := ArrP.new h
  have hR : ¬ fp w.heap.size := fun e => by have := h.flt _ e; omega
  have hS : ¬ fp (w.heap.size + 1) := fun e => by have := h.flt _ e; omega
  clear h
  go_enter Try.func38, Try.ntmps38
  go_upto_region 2 with fail
  refine wp_at (ArrP w k fp s Sn.none) A0 ?_
  clear A0
  intro W A0
  have HA := hide A0
  obtain ⟨_, _, ⟨mb, cb, mi, cv, X, _⟩, _⟩ := A0
  obtain ⟨-, -, c2, c3, c4, c5, -⟩ := X.cells
  have hle := X.le
  have hpos := X.pos
  have hmi : mi = (s.ms : Int) := X.mis hu
  have fr := X.box.free
  subst hmi
  clear X
  rw [hov] at c3
  generalize hms : s.ms = ms at *
  generalize hn : s.M.length = n at *
  go_quiet (fail)
  subst hm
  have e0 : ((0 : Int) == (n : Int) - 1) = true := by simp; omega
  go_upto_region 6 with fail
  clear e0
  refine wp_at (ArrP w k fp s Sn.none) (HA.out.drewN _) ?_
  clear HA c2 c3 c4 c5 fr
  intro W1 A1
  have HA := hide A1
  obtain ⟨_, _, ⟨mb1, cb1, mi1, cv1, X, hf1⟩, _⟩ := A1
  obtain ⟨-, -, c2, -, -, -, -⟩ := X.cells
  have hkS : k ≠ w.heap.size + 1 := fun e => hS (e ▸ (hf1 k).2 (.inl rfl))
  clear X hf1
  have HB := hide (HA.out.put hS 0 (.int .i64 3) ⟨3, 0, 0, 0, 0, 0, 0⟩ (by simp [Sn.none]))
  have HC := hide ((HB.out.put hS 5 (.int .u64 s.un) ⟨3, 0, 0, 0, 0, s.un, 0⟩ (by simp)).drew)
  have sf := HA.out.2.1.free
  obtain ⟨q0, q1, q2, q3, q4, q5, q6⟩ := HA.out.2.1.all7
  simp only [Sn.none] at q0 q1 q2 q3 q4 q5 q6
  refine wp_region_M (S := fun w' => w'.cell? ⟨k, 2, none⟩ = some (.int .u64 s.un)) (late := []) (by kernel_rfl) (c2) (fun hHeld => ?_)
  (try simp only [List.size_toArray, List.length_cons, List.length_nil, Nat.zero_add, Nat.reduceAdd, Array.replicate, List.replicate])
  refine wpAnyM_take (i := 0) (oi := ⟨_, _, _, _, _, _⟩) (v := ?_) rfl (by kernel_rfl) (by kernel_rfl) (by kernel_rfl) (by kernel_rfl) (fun _ _ _ h => h) (Or.inl ⟨by rfl, ?_⟩) hHeld ?_
  rotate_left
  · (intro w' hSw; (try dsimp only at hSw); go_simp; try (with_reducible rfl))
  (try simp only [Act.put, List.setIfInBounds_toArray, List.set_cons_zero, List.set_cons_succ])
  refine wpAnyM_take (i := 1) (oi := ⟨_, _, _, _, _, _⟩) (v := ?_) rfl (by kernel_rfl) (by kernel_rfl) (by kernel_rfl) (by kernel_rfl) (fun _ _ _ h => h) (Or.inl ⟨by rfl, ?_⟩) hHeld ?_
  rotate_left
  · (intro w' hSw; (try dsimp only at hSw); go_simp; try (with_reducible rfl))
  (try simp only [Act.put, List.setIfInBounds_toArray, List.set_cons_zero, List.set_cons_succ])
  refine wpAnyM_take (i := 2) (oi := ⟨_, _, _, _, _, _⟩) (v := ?_) rfl (by kernel_rfl) (by kernel_rfl) (by kernel_rfl) (by kernel_rfl) (fun _ _ _ h => h) (Or.inl ⟨by rfl, ?_⟩) hHeld ?_
  rotate_left
  · (intro w' hSw; (try dsimp only at hSw); go_simp; try (with_reducible rfl))
  (try simp only [Act.put, List.setIfInBounds_toArray, List.set_cons_zero, List.set_cons_succ])
  refine wpAnyM_take (i := 3) (oi := ⟨_, _, _, _, _, _⟩) (v := ?_) rfl (by kernel_rfl) (by kernel_rfl) (by kernel_rfl) (by kernel_rfl) (fun _ _ _ h => h) (Or.inl ⟨by rfl, ?_⟩) hHeld ?_
  rotate_left
  · (intro w' hSw; (try dsimp only at hSw); go_simp; try (with_reducible rfl))
  (try simp only [Act.put, List.setIfInBounds_toArray, List.set_cons_zero, List.set_cons_succ])
  refine wpAnyM_take (i := 4) (oi := ⟨_, _, _, _, _, _⟩) (v := ?_) rfl (by kernel_rfl) (by kernel_rfl) (by kernel_rfl) (by kernel_rfl) (fun _ _ _ h => h) (Or.inl ⟨by rfl, ?_⟩) hHeld ?_
  rotate_left
  · (intro w' hSw; (try dsimp only at hSw); go_simp; try (with_reducible rfl))
  (try simp only [Act.put, List.setIfInBounds_toArray, List.set_cons_zero, List.set_cons_succ])
  refine wpAnyM_one (i := 5) (o := ⟨_, _, _, _, _, _⟩) (by kernel_rfl) rfl (fun K hK => ?_)
  go_simp
  refine hK.out _ _ ((World.cell?_setCell_far _ ⟨w.heap.size + 1, 0, none⟩ ⟨k, 2, none⟩ _ (fun e => hkS e.symm)).trans c2) (fun hHeld => ?_)
  clear hK K
  (try simp only [List.setIfInBounds_toArray, List.set_cons_zero, List.set_cons_succ])
  refine wpAnyM_take (i := 6) (oi := ⟨_, _, _, _, _, _⟩) (v := ?_) rfl (by kernel_rfl) (by kernel_rfl) (by kernel_rfl) (by kernel_rfl) (fun _ _ _ h => h) (Or.inl ⟨by rfl, ?_⟩) hHeld ?_
  rotate_left
  · (intro w' hSw; (try dsimp only at hSw); go_simp; try (with_reducible rfl))
  (try simp only [Act.put, List.setIfInBounds_toArray, List.set_cons_zero, List.set_cons_succ])
  refine wpAnyM_one (i := 7) (o := ⟨_, _, _, _, _, _⟩) (by kernel_rfl) rfl (fun K hK => ?_)
  go_simp
  refine hK.out _ _ ((World.cell?_setCell_far _ ⟨w.heap.size + 1, 5, none⟩ ⟨k, 2, none⟩ _ (fun e => hkS e.symm)).trans ((World.cell?_setCell_far _ ⟨w.heap.size + 1, 0, none⟩ ⟨k, 2, none⟩ _ (fun e => hkS e.symm)).trans c2)) (fun hHeld => ?_)
  clear hK K
  (try simp only [List.setIfInBounds_toArray, List.set_cons_zero, List.set_cons_succ])
  refine wpAnyM_done (by kernel_rfl) ?_ _
  go_upto_region 7 with fail
  refine wp_at (ArrP w k fp s ⟨3, 0, 0, 0, 0, s.un, 0⟩) HC.out ?_
  clear HA HB HC q0 q1 q2 q3 q4 q5 q6 sf c2 
  intro W2 A2
  have HA := hide A2
  obtain ⟨_, _, ⟨mb2, cb2, mi2, cv2, X, hf2⟩, _⟩ := A2
  obtain ⟨-, -, c2, -, -, c5, -⟩ := X.cells
  have hmi2 : mi2 = (s.ms : Int) := X.mis hu
  subst hmi2
  rw [hms] at c5
  have fr := X.box.free
  have hkS2 : k ≠ w.heap.size + 1 := fun e => hS (e ▸ (hf2 k).2 (.inl rfl))
  clear X hf2
  have sf := HA.out.2.1.free
  obtain ⟨q0, q1, q2, q3, q4, q5, q6⟩ := HA.out.2.1.all7
  have c2' := (World.cell?_setCell_far W2 ⟨w.heap.size + 1, 6, none⟩ ⟨k, 2, none⟩ (.int .u64 s.un) (fun e => hkS2 e.symm)).trans c2
  have fr' : (W2.setCell ⟨w.heap.size + 1, 6, none⟩ (.int .u64 s.un)).frozen? ⟨k, 2, none⟩ = false := by have h5 := (HA.out.put hS 6 (.int .u64 s.un) ⟨3, 0, 0, 0, 0, s.un, s.un⟩ (by simp)); obtain ⟨_, _, ⟨_, _, _, _, X5, _⟩, _⟩ := h5; exact X5.box.free 2
  go_upto_region 10 with fail
  refine wp_at (ArrP w k fp s2 ⟨xkd, xke, xti, xva, xma, xn, xfu⟩) ?_ ?_
  · rw [HX.out, HS2.out]
    exact (by have e1 : s.arr = { s with un := 0 } := (by unfold Gs.arr; rw [hms]; rw [if_pos rfl]); have e2 : s.arrS = ⟨3, 0, 0, 0, 0, s.un, s.un⟩ := (by unfold Gs.arrS Gs.keeps; rw [hov, hms, hn]; simp; omega); rw [e1, e2]; exact ((HA.out.put hS 6 (.int .u64 s.un) ⟨3, 0, 0, 0, 0, s.un, s.un⟩ (by simp)).done hR hS))
  clear HA c2 c5 fr hms hn hov hkS2 sf q0 q1 q2 q3 q4 q5 q6 c2' fr' HX HS2
  intro V A1
  obtain ⟨R1, S1, G1, T1⟩ := A1
  obtain ⟨p0, p1, p2, p3, p4, p5, p6⟩ := BoxT.all7 R1
  obtain ⟨q0, q1, q2, q3, q4, q5, q6⟩ := S1.all7
  have rf := R1.free
  simp only at q0 q1 q2 q3 q4 q5 q6
  have HR := hide R1
  have HG := hide G1
  have HT := hide T1
  clear R1 S1 G1 T1
  go_wp2_with fail
  have z := (BoxT.ch7 HR.out (.int .i64 xkd) (.int .i64 xke) (.int .i64 xti) (.int .i64 xva) (.int .i64 xma) (.int .u64 xn) (.int .u64 xfu)).all7
  exact bodyPost_ret (v := .agg #[.int .i64 xkd, .int .i64 xke, .int .i64 xti, .int .i64 xva, .int .i64 xma, .int .u64 xn, .int .u64 xfu]) (by simp [results, Try.results38, go_sem, z.1, z.2.1, z.2.2.1, z.2.2.2.1, z.2.2.2.2.1, z.2.2.2.2.2.1, z.2.2.2.2.2.2]; try rfl) rfl ⟨rfl, fp, HG.out.ch7 hR (.int .i64 xkd) (.int .i64 xke) (.int .i64 xti) (.int .i64 xva) (.int .i64 xma) (.int .u64 xn) (.int .u64 xfu), HT.out.ch7 (Nat.le_refl _) (.int .i64 xkd) (.int .i64 xke) (.int .i64 xti) (.int .i64 xva) (.int .i64 xma) (.int .u64 xn) (.int .u64 xfu)⟩
set_option maxHeartbeats 1000000 in
set_option maxRecDepth 100000 in
theorem arr_first {w : World} {k : Nat} {fp : Nat → Prop} {s : Gs} (h : GA w k fp s) (hu : s.un ≠ 0) (hov : s.ov = true) (hm : 0 < s.ms) (h1 : s.ms + 1 = s.M.length) {x : Sn} {s2 : Gs} (hx : x = s.arrS) (hs2 : s2 = s.arr) : Calls Try.prog 38 #[.pointer (some ⟨k, 0, none⟩)] w fun e w' => e = .returned x.val ∧ ∃ fp', GA w' k fp' s2 ∧ FT fp fp' w w' := by
  obtain ⟨xkd, xke, xti, xva, xma, xn, xfu⟩ := x
  unfold Sn.val
  have HX := hide hx
  have HS2 := hide hs2
  clear hx hs2
  have A0 := ArrP.new h
  have hR : ¬ fp w.heap.size := fun e => by have := h.flt _ e; omega
  have hS : ¬ fp (w.heap.size + 1) := fun e => by have := h.flt _ e; omega
  clear h
  go_enter Try.func38, Try.ntmps38
  go_upto_region 2 with fail
  refine wp_at (ArrP w k fp s Sn.none) A0 ?_
  clear A0
  intro W A0
  have HA := hide A0
  obtain ⟨_, _, ⟨mb, cb, mi, cv, X, _⟩, _⟩ := A0
  obtain ⟨-, -, c2, c3, c4, c5, -⟩ := X.cells
  have hle := X.le
  have hpos := X.pos
  have hmi : mi = (s.ms : Int) := X.mis hu
  have fr := X.box.free
  subst hmi
  clear X
  rw [hov] at c3
  generalize hms : s.ms = ms at *
  generalize hn : s.M.length = n at *
  go_quiet (fail)
  have e0 : ((ms : Int) == (n : Int) - 1) = true := by simp; omega
  go_upto_region 6 with fail
  clear e0
  refine wp_at (ArrP w k fp s Sn.none) (HA.out.drewN _) ?_
  clear HA c2 c3 c4 c5 fr
  intro W1 A1
  have HA := hide A1
  obtain ⟨_, _, ⟨mb1, cb1, mi1, cv1, X, hf1⟩, _⟩ := A1
  obtain ⟨-, -, c2, -, -, -, -⟩ := X.cells
  have hkS : k ≠ w.heap.size + 1 := fun e => hS (e ▸ (hf1 k).2 (.inl rfl))
  clear X hf1
  have HB := hide (HA.out.put hS 0 (.int .i64 3) ⟨3, 0, 0, 0, 0, 0, 0⟩ (by simp [Sn.none]))
  have HC := hide ((HB.out.put hS 5 (.int .u64 s.un) ⟨3, 0, 0, 0, 0, s.un, 0⟩ (by simp)).drew)
  have sf := HA.out.2.1.free
  obtain ⟨q0, q1, q2, q3, q4, q5, q6⟩ := HA.out.2.1.all7
  simp only [Sn.none] at q0 q1 q2 q3 q4 q5 q6
  refine wp_region_M (S := fun w' => w'.cell? ⟨k, 2, none⟩ = some (.int .u64 s.un)) (late := []) (by kernel_rfl) (c2) (fun hHeld => ?_)
  (try simp only [List.size_toArray, List.length_cons, List.length_nil, Nat.zero_add, Nat.reduceAdd, Array.replicate, List.replicate])
  refine wpAnyM_take (i := 0) (oi := ⟨_, _, _, _, _, _⟩) (v := ?_) rfl (by kernel_rfl) (by kernel_rfl) (by kernel_rfl) (by kernel_rfl) (fun _ _ _ h => h) (Or.inl ⟨by rfl, ?_⟩) hHeld ?_
  rotate_left
  · (intro w' hSw; (try dsimp only at hSw); go_simp; try (with_reducible rfl))
  (try simp only [Act.put, List.setIfInBounds_toArray, List.set_cons_zero, List.set_cons_succ])
  refine wpAnyM_take (i := 1) (oi := ⟨_, _, _, _, _, _⟩) (v := ?_) rfl (by kernel_rfl) (by kernel_rfl) (by kernel_rfl) (by kernel_rfl) (fun _ _ _ h => h) (Or.inl ⟨by rfl, ?_⟩) hHeld ?_
  rotate_left
  · (intro w' hSw; (try dsimp only at hSw); go_simp; try (with_reducible rfl))
  (try simp only [Act.put, List.setIfInBounds_toArray, List.set_cons_zero, List.set_cons_succ])
  refine wpAnyM_take (i := 2) (oi := ⟨_, _, _, _, _, _⟩) (v := ?_) rfl (by kernel_rfl) (by kernel_rfl) (by kernel_rfl) (by kernel_rfl) (fun _ _ _ h => h) (Or.inl ⟨by rfl, ?_⟩) hHeld ?_
  rotate_left
  · (intro w' hSw; (try dsimp only at hSw); go_simp; try (with_reducible rfl))
  (try simp only [Act.put, List.setIfInBounds_toArray, List.set_cons_zero, List.set_cons_succ])
  refine wpAnyM_take (i := 3) (oi := ⟨_, _, _, _, _, _⟩) (v := ?_) rfl (by kernel_rfl) (by kernel_rfl) (by kernel_rfl) (by kernel_rfl) (fun _ _ _ h => h) (Or.inl ⟨by rfl, ?_⟩) hHeld ?_
  rotate_left
  · (intro w' hSw; (try dsimp only at hSw); go_simp; try (with_reducible rfl))
  (try simp only [Act.put, List.setIfInBounds_toArray, List.set_cons_zero, List.set_cons_succ])
  refine wpAnyM_take (i := 4) (oi := ⟨_, _, _, _, _, _⟩) (v := ?_) rfl (by kernel_rfl) (by kernel_rfl) (by kernel_rfl) (by kernel_rfl) (fun _ _ _ h => h) (Or.inl ⟨by rfl, ?_⟩) hHeld ?_
  rotate_left
  · (intro w' hSw; (try dsimp only at hSw); go_simp; try (with_reducible rfl))
  (try simp only [Act.put, List.setIfInBounds_toArray, List.set_cons_zero, List.set_cons_succ])
  refine wpAnyM_one (i := 5) (o := ⟨_, _, _, _, _, _⟩) (by kernel_rfl) rfl (fun K hK => ?_)
  go_simp
  refine hK.out _ _ ((World.cell?_setCell_far _ ⟨w.heap.size + 1, 0, none⟩ ⟨k, 2, none⟩ _ (fun e => hkS e.symm)).trans c2) (fun hHeld => ?_)
  clear hK K
  (try simp only [List.setIfInBounds_toArray, List.set_cons_zero, List.set_cons_succ])
  refine wpAnyM_take (i := 6) (oi := ⟨_, _, _, _, _, _⟩) (v := ?_) rfl (by kernel_rfl) (by kernel_rfl) (by kernel_rfl) (by kernel_rfl) (fun _ _ _ h => h) (Or.inl ⟨by rfl, ?_⟩) hHeld ?_
  rotate_left
  · (intro w' hSw; (try dsimp only at hSw); go_simp; try (with_reducible rfl))
  (try simp only [Act.put, List.setIfInBounds_toArray, List.set_cons_zero, List.set_cons_succ])
  refine wpAnyM_one (i := 7) (o := ⟨_, _, _, _, _, _⟩) (by kernel_rfl) rfl (fun K hK => ?_)
  go_simp
  refine hK.out _ _ ((World.cell?_setCell_far _ ⟨w.heap.size + 1, 5, none⟩ ⟨k, 2, none⟩ _ (fun e => hkS e.symm)).trans ((World.cell?_setCell_far _ ⟨w.heap.size + 1, 0, none⟩ ⟨k, 2, none⟩ _ (fun e => hkS e.symm)).trans c2)) (fun hHeld => ?_)
  clear hK K
  (try simp only [List.setIfInBounds_toArray, List.set_cons_zero, List.set_cons_succ])
  refine wpAnyM_done (by kernel_rfl) ?_ _
  go_upto_region 7 with fail
  refine wp_at (ArrP w k fp s ⟨3, 0, 0, 0, 0, s.un, 0⟩) HC.out ?_
  clear HA HB HC q0 q1 q2 q3 q4 q5 q6 sf c2 
  intro W2 A2
  have HA := hide A2
  obtain ⟨_, _, ⟨mb2, cb2, mi2, cv2, X, hf2⟩, _⟩ := A2
  obtain ⟨-, -, c2, -, -, c5, -⟩ := X.cells
  have hmi2 : mi2 = (s.ms : Int) := X.mis hu
  subst hmi2
  rw [hms] at c5
  have fr := X.box.free
  have hkS2 : k ≠ w.heap.size + 1 := fun e => hS (e ▸ (hf2 k).2 (.inl rfl))
  clear X hf2
  have sf := HA.out.2.1.free
  obtain ⟨q0, q1, q2, q3, q4, q5, q6⟩ := HA.out.2.1.all7
  go_upto_region 10 with fail
  refine wp_at (ArrP w k fp s2 ⟨xkd, xke, xti, xva, xma, xn, xfu⟩) ?_ ?_
  · rw [HX.out, HS2.out]
    exact (by have e1 : s.arr = s := (by unfold Gs.arr; rw [hms]; rw [if_neg (by omega)]); have e2 : s.arrS = ⟨3, 0, 0, 0, 0, s.un, 0⟩ := (by unfold Gs.arrS Gs.keeps; rw [hov, hms, hn]; simp [show ms ≠ 0 by omega, show ms + 1 = n by omega]); rw [e1, e2]; exact HA.out)
  clear HA c2 c5 fr hms hn hov hkS2 sf q0 q1 q2 q3 q4 q5 q6 HX HS2
  intro V A1
  obtain ⟨R1, S1, G1, T1⟩ := A1
  obtain ⟨p0, p1, p2, p3, p4, p5, p6⟩ := BoxT.all7 R1
  obtain ⟨q0, q1, q2, q3, q4, q5, q6⟩ := S1.all7
  have rf := R1.free
  simp only at q0 q1 q2 q3 q4 q5 q6
  have HR := hide R1
  have HG := hide G1
  have HT := hide T1
  clear R1 S1 G1 T1
  go_wp2_with fail
  have z := (BoxT.ch7 HR.out (.int .i64 xkd) (.int .i64 xke) (.int .i64 xti) (.int .i64 xva) (.int .i64 xma) (.int .u64 xn) (.int .u64 xfu)).all7
  exact bodyPost_ret (v := .agg #[.int .i64 xkd, .int .i64 xke, .int .i64 xti, .int .i64 xva, .int .i64 xma, .int .u64 xn, .int .u64 xfu]) (by simp [results, Try.results38, go_sem, z.1, z.2.1, z.2.2.1, z.2.2.2.1, z.2.2.2.2.1, z.2.2.2.2.2.1, z.2.2.2.2.2.2]; try rfl) rfl ⟨rfl, fp, HG.out.ch7 hR (.int .i64 xkd) (.int .i64 xke) (.int .i64 xti) (.int .i64 xva) (.int .i64 xma) (.int .u64 xn) (.int .u64 xfu), HT.out.ch7 (Nat.le_refl _) (.int .i64 xkd) (.int .i64 xke) (.int .i64 xti) (.int .i64 xva) (.int .i64 xma) (.int .u64 xn) (.int .u64 xfu)⟩
set_option maxHeartbeats 1000000 in
set_option maxRecDepth 100000 in
theorem arr_more {w : World} {k : Nat} {fp : Nat → Prop} {s : Gs} (h : GA w k fp s) (hu : s.un ≠ 0) (hov : s.ov = true) (hm : 0 < s.ms) (h1 : s.ms + 1 ≠ s.M.length) {x : Sn} {s2 : Gs} (hx : x = s.arrS) (hs2 : s2 = s.arr) : Calls Try.prog 38 #[.pointer (some ⟨k, 0, none⟩)] w fun e w' => e = .returned x.val ∧ ∃ fp', GA w' k fp' s2 ∧ FT fp fp' w w' := by
  obtain ⟨xkd, xke, xti, xva, xma, xn, xfu⟩ := x
  unfold Sn.val
  have HX := hide hx
  have HS2 := hide hs2
  clear hx hs2
  have A0 := ArrP.new h
  have hR : ¬ fp w.heap.size := fun e => by have := h.flt _ e; omega
  have hS : ¬ fp (w.heap.size + 1) := fun e => by have := h.flt _ e; omega
  clear h
  go_enter Try.func38, Try.ntmps38
  go_upto_region 2 with fail
  refine wp_at (ArrP w k fp s Sn.none) A0 ?_
  clear A0
  intro W A0
  have HA := hide A0
  obtain ⟨_, _, ⟨mb, cb, mi, cv, X, _⟩, _⟩ := A0
  obtain ⟨-, -, c2, c3, c4, c5, -⟩ := X.cells
  have hle := X.le
  have hpos := X.pos
  have hmi : mi = (s.ms : Int) := X.mis hu
  have fr := X.box.free
  subst hmi
  clear X
  rw [hov] at c3
  generalize hms : s.ms = ms at *
  generalize hn : s.M.length = n at *
  go_quiet (fail)
  have e0 : ((ms : Int) == (n : Int) - 1) = false := by simp; omega
  go_upto_region 7 with fail
  refine wp_at (ArrP w k fp s Sn.none) (HA.out.drewN _) ?_
  clear e0
  clear HA c3 c4 c5 fr c2 
  intro W2 A2
  have HA := hide A2
  obtain ⟨_, _, ⟨mb2, cb2, mi2, cv2, X, hf2⟩, _⟩ := A2
  obtain ⟨-, -, c2, -, -, c5, -⟩ := X.cells
  have hmi2 : mi2 = (s.ms : Int) := X.mis hu
  subst hmi2
  rw [hms] at c5
  have fr := X.box.free
  have hkS2 : k ≠ w.heap.size + 1 := fun e => hS (e ▸ (hf2 k).2 (.inl rfl))
  clear X hf2
  have sf := HA.out.2.1.free
  obtain ⟨q0, q1, q2, q3, q4, q5, q6⟩ := HA.out.2.1.all7
  go_upto_region 10 with fail
  refine wp_at (ArrP w k fp s2 ⟨xkd, xke, xti, xva, xma, xn, xfu⟩) ?_ ?_
  · rw [HX.out, HS2.out]
    exact (by have e1 : s.arr = s := (by unfold Gs.arr; rw [hms]; rw [if_neg (by omega)]); have e2 : s.arrS = Sn.none := (by unfold Gs.arrS Gs.keeps; rw [hov, hms, hn]; simp [show ms ≠ 0 by omega, show ms + 1 ≠ n by omega, Sn.none]); rw [e1, e2]; exact HA.out)
  clear HA c2 c5 fr hms hn hov hkS2 sf q0 q1 q2 q3 q4 q5 q6 HX HS2
  intro V A1
  obtain ⟨R1, S1, G1, T1⟩ := A1
  obtain ⟨p0, p1, p2, p3, p4, p5, p6⟩ := BoxT.all7 R1
  obtain ⟨q0, q1, q2, q3, q4, q5, q6⟩ := S1.all7
  have rf := R1.free
  simp only at q0 q1 q2 q3 q4 q5 q6
  have HR := hide R1
  have HG := hide G1
  have HT := hide T1
  clear R1 S1 G1 T1
  go_wp2_with fail
  have z := (BoxT.ch7 HR.out (.int .i64 xkd) (.int .i64 xke) (.int .i64 xti) (.int .i64 xva) (.int .i64 xma) (.int .u64 xn) (.int .u64 xfu)).all7
  exact bodyPost_ret (v := .agg #[.int .i64 xkd, .int .i64 xke, .int .i64 xti, .int .i64 xva, .int .i64 xma, .int .u64 xn, .int .u64 xfu]) (by simp [results, Try.results38, go_sem, z.1, z.2.1, z.2.2.1, z.2.2.2.1, z.2.2.2.2.1, z.2.2.2.2.2.1, z.2.2.2.2.2.2]; try rfl) rfl ⟨rfl, fp, HG.out.ch7 hR (.int .i64 xkd) (.int .i64 xke) (.int .i64 xti) (.int .i64 xva) (.int .i64 xma) (.int .u64 xn) (.int .u64 xfu), HT.out.ch7 (Nat.le_refl _) (.int .i64 xkd) (.int .i64 xke) (.int .i64 xti) (.int .i64 xva) (.int .i64 xma) (.int .u64 xn) (.int .u64 xfu)⟩
set_option maxHeartbeats 1000000 in
set_option maxRecDepth 100000 in
theorem arr_end {w : World} {k : Nat} {fp : Nat → Prop} {s : Gs} (h : GA w k fp s) (hu : s.un ≠ 0) (hov : s.ov = true) (hm : s.ms = 0) (h1 : s.M.length ≠ 1) {x : Sn} {s2 : Gs} (hx : x = s.arrS) (hs2 : s2 = s.arr) : Calls Try.prog 38 #[.pointer (some ⟨k, 0, none⟩)] w fun e w' => e = .returned x.val ∧ ∃ fp', GA w' k fp' s2 ∧ FT fp fp' w w' := by
  obtain ⟨xkd, xke, xti, xva, xma, xn, xfu⟩ := x
  unfold Sn.val
  have HX := hide hx
  have HS2 := hide hs2
  clear hx hs2
  have A0 := ArrP.new h
  have hR : ¬ fp w.heap.size := fun e => by have := h.flt _ e; omega
  have hS : ¬ fp (w.heap.size + 1) := fun e => by have := h.flt _ e; omega
  clear h
  go_enter Try.func38, Try.ntmps38
  go_upto_region 2 with fail
  refine wp_at (ArrP w k fp s Sn.none) A0 ?_
  clear A0
  intro W A0
  have HA := hide A0
  obtain ⟨_, _, ⟨mb, cb, mi, cv, X, _⟩, _⟩ := A0
  obtain ⟨-, -, c2, c3, c4, c5, -⟩ := X.cells
  have hle := X.le
  have hpos := X.pos
  have hmi : mi = (s.ms : Int) := X.mis hu
  have fr := X.box.free
  subst hmi
  clear X
  rw [hov] at c3
  generalize hms : s.ms = ms at *
  generalize hn : s.M.length = n at *
  go_quiet (fail)
  subst hm
  have e0 : ((0 : Int) == (n : Int) - 1) = false := by simp; omega
  go_upto_region 7 with fail
  refine wp_at (ArrP w k fp s Sn.none) (HA.out.drewN _) ?_
  clear e0
  clear HA c3 c4 c5 fr c2 
  intro W2 A2
  have HA := hide A2
  obtain ⟨_, _, ⟨mb2, cb2, mi2, cv2, X, hf2⟩, _⟩ := A2
  obtain ⟨-, -, c2, -, -, c5, -⟩ := X.cells
  have hmi2 : mi2 = (s.ms : Int) := X.mis hu
  subst hmi2
  rw [hms] at c5
  have fr := X.box.free
  have hkS2 : k ≠ w.heap.size + 1 := fun e => hS (e ▸ (hf2 k).2 (.inl rfl))
  clear X hf2
  have sf := HA.out.2.1.free
  obtain ⟨q0, q1, q2, q3, q4, q5, q6⟩ := HA.out.2.1.all7
  have c2' := (World.cell?_setCell_far W2 ⟨w.heap.size + 1, 6, none⟩ ⟨k, 2, none⟩ (.int .u64 s.un) (fun e => hkS2 e.symm)).trans c2
  have fr' : (W2.setCell ⟨w.heap.size + 1, 6, none⟩ (.int .u64 s.un)).frozen? ⟨k, 2, none⟩ = false := by have h5 := (HA.out.put hS 6 (.int .u64 s.un) ⟨0, 0, 0, 0, 0, 0, s.un⟩ (by simp [Sn.none])); obtain ⟨_, _, ⟨_, _, _, _, X5, _⟩, _⟩ := h5; exact X5.box.free 2
  go_upto_region 10 with fail
  refine wp_at (ArrP w k fp s2 ⟨xkd, xke, xti, xva, xma, xn, xfu⟩) ?_ ?_
  · rw [HX.out, HS2.out]
    exact (by have e1 : s.arr = { s with un := 0 } := (by unfold Gs.arr; rw [hms]; rw [if_pos rfl]); have e2 : s.arrS = ⟨0, 0, 0, 0, 0, 0, s.un⟩ := (by unfold Gs.arrS Gs.keeps; rw [hov, hms, hn]; simp; omega); rw [e1, e2]; exact ((HA.out.put hS 6 (.int .u64 s.un) ⟨0, 0, 0, 0, 0, 0, s.un⟩ (by simp [Sn.none])).done hR hS))
  clear HA c2 c5 fr hms hn hov hkS2 sf q0 q1 q2 q3 q4 q5 q6 c2' fr' HX HS2
  intro V A1
  obtain ⟨R1, S1, G1, T1⟩ := A1
  obtain ⟨p0, p1, p2, p3, p4, p5, p6⟩ := BoxT.all7 R1
  obtain ⟨q0, q1, q2, q3, q4, q5, q6⟩ := S1.all7
  have rf := R1.free
  simp only at q0 q1 q2 q3 q4 q5 q6
  have HR := hide R1
  have HG := hide G1
  have HT := hide T1
  clear R1 S1 G1 T1
  go_wp2_with fail
  have z := (BoxT.ch7 HR.out (.int .i64 xkd) (.int .i64 xke) (.int .i64 xti) (.int .i64 xva) (.int .i64 xma) (.int .u64 xn) (.int .u64 xfu)).all7
  exact bodyPost_ret (v := .agg #[.int .i64 xkd, .int .i64 xke, .int .i64 xti, .int .i64 xva, .int .i64 xma, .int .u64 xn, .int .u64 xfu]) (by simp [results, Try.results38, go_sem, z.1, z.2.1, z.2.2.1, z.2.2.2.1, z.2.2.2.2.1, z.2.2.2.2.2.1, z.2.2.2.2.2.2]; try rfl) rfl ⟨rfl, fp, HG.out.ch7 hR (.int .i64 xkd) (.int .i64 xke) (.int .i64 xti) (.int .i64 xva) (.int .i64 xma) (.int .u64 xn) (.int .u64 xfu), HT.out.ch7 (Nat.le_refl _) (.int .i64 xkd) (.int .i64 xke) (.int .i64 xti) (.int .i64 xva) (.int .i64 xma) (.int .u64 xn) (.int .u64 xfu)⟩
theorem arrived_any {w : World} {k : Nat} {fp : Nat → Prop} {s : Gs} (h : GA w k fp s) (hu : s.un ≠ 0) : Calls Try.prog 38 #[.pointer (some ⟨k, 0, none⟩)] w fun e w' => e = .returned s.arrS.val ∧ ∃ fp', GA w' k fp' s.arr ∧ FT fp fp' w w' := by
  cases hov : s.ov with
  | false =>
    by_cases hm : s.ms = 0
    · exact arr_last h hu hov hm rfl rfl
    · exact arr_wait h hu hov (by omega) rfl rfl
  | true =>
    by_cases hm : s.ms = 0
    · by_cases h1 : s.M.length = 1
      · exact arr_alone h hu hov hm h1 rfl rfl
      · exact arr_end h hu hov hm h1 rfl rfl
    · by_cases h1 : s.ms + 1 = s.M.length
      · exact arr_first h hu hov (by omega) h1 rfl rfl
      · exact arr_more h hu hov (by omega) h1 rfl rfl
end Go.Proofs.Ytmipgfobggbndaa
