/-
  Texts in build order: SRRed.
-/
import Derived.Test.YtdoldohcimbdaaaGreatM45
/-
  The document's Record at a reduce.
-/
namespace Go.Proofs.YtdoldohcimbdaaaGreat
open Go.RowKit

set_option maxHeartbeats 32000000 in
set_option maxRecDepth 100000 in
theorem rRecord_red {KK : Nat → Prop} {w : World} {o : Nat} {a : Int} {lv : Value} {l0 : List Pn} (h : OpAt KK w o 0 0 0 a lv l0) (rk rt rv : Int) (hn : l0.length ≤ 40000) (hap : Apart (sess 0) l0) :
    Calls Tryz.prog 11 #[.pointer (some ⟨o, 0, none⟩), .agg #[.int .i64 rk, .int .i64 rt, .int .i64 rv]] w (RcPost KK w o 0 0 0 a (frS 0 0 0 a ⟨rk, rt, rv⟩ ++ l0)) := by
  obtain ⟨la, lc, rfl⟩ := h.seg.shapeOf
  have HB1 := hide (below_box w (.cells #[.int .i64 rk, .int .i64 rt, .int .i64 rv] 39))
  have HX1 := hide (BoxT.new 39 w #[.int .i64 rk, .int .i64 rt, .int .i64 rv])
  have HO1 := hide (h.below HB1.out)
  have HFR : Hid (frS 0 0 0 a ⟨rk, rt, rv⟩ = [(⟨rk, -9223372036854775808, 2199023255553, ad a (zr a) rv⟩ : Pn)]) := (show _ = _ from rfl)
  rw [HFR.out]
  have HAP := hide hap
  clear h hap HFR
  go_enter Tryz.func11, Tryz.ntmps11
  go_upto_region 1 with fail
  generalize w.alloc (.cells #[.int .i64 rk, .int .i64 rt, .int .i64 rv] 39) = W1 at *
  have KC : Hid (∀ w' : World, Below W1.heap.size W1 w' → w'.cell? ⟨o, 6, none⟩ = some (.int .i64 a) ∧ w'.cell? ⟨o, 10, none⟩ = some (.slice la l0.length lc) ∧ w'.cell? ⟨w.heap.size, 0, none⟩ = some (.int .i64 rk) ∧ w'.cell? ⟨w.heap.size, 1, none⟩ = some (.int .i64 rt) ∧ w'.cell? ⟨w.heap.size, 2, none⟩ = some (.int .i64 rv)) := (show ∀ w' : World, _ from fun w' h => by
    have h2 := BoxT.below (t := 46) HO1.out.box h
    have h3 := BoxT.below (t := 39) HX1.out h
    exact ⟨by rw [h2.cellAt]; rfl, by rw [h2.cellAt]; rfl, by rw [h3.cellAt]; rfl, by rw [h3.cellAt]; rfl, by rw [h3.cellAt]; rfl⟩)
  have HIN : Hid (∀ W, Below W1.heap.size W1 W → Calls Tryz.prog 30 #[.agg #[.int .i64 0, .int .i64 0, .int .i64 0], .int .i64 a, .slice la l0.length lc, .agg #[.int .i64 rk, .int .i64 rt, .int .i64 rv], .agg #[.int .i64 (-9223372036854775808), .int .i64 2199023255553]] W (IPost W 0 a ⟨rk, -9223372036854775808, 2199023255553, ad a (zr a) rv⟩ l0)) := (show ∀ W, _ from fun W h => rInto_any (HO1.out.seg.on h) (by omega) 0 0 0 a rk rt rv (-9223372036854775808) 2199023255553 HAP.out (fun e => by cases e))
  have ck : W1.cell? ⟨o, 0, none⟩ = some (.int .i64 6) := by rw [HO1.out.box.cellAt]; rfl
  go_wp2_with fail
  refine wp_region_M (S := fun w' => w'.cell? ⟨o, 6, none⟩ = some (.int .i64 a) ∧ w'.cell? ⟨o, 10, none⟩ = some (.slice la l0.length lc) ∧ w'.cell? ⟨w.heap.size, 0, none⟩ = some (.int .i64 rk) ∧ w'.cell? ⟨w.heap.size, 1, none⟩ = some (.int .i64 rt) ∧ w'.cell? ⟨w.heap.size, 2, none⟩ = some (.int .i64 rv)) (late := [16]) (by kernel_rfl) (KC.out _ ((Below.refl _ _).drew)) (fun hHeld => ?_)
  (try simp only [List.size_toArray, List.length_cons, List.length_nil, Nat.zero_add, Nat.reduceAdd, Array.replicate, List.replicate])
  refine wpAnyM_take (i := 0) (oi := ⟨_, _, _, _, _, _⟩) (v := ?_) rfl (by kernel_rfl) (by kernel_rfl) (by kernel_rfl) (by kernel_rfl) (fun _ _ _ h => h) (Or.inl ⟨by rfl, ?_⟩) hHeld ?_
  rotate_left
  · (intro w' hSw; (try dsimp only at hSw); go_simp; try (with_reducible rfl))
  (try simp only [Act.put, List.setIfInBounds_toArray, List.set_cons_zero, List.set_cons_succ])
  refine wpAnyM_take (i := 1) (oi := ⟨_, _, _, _, _, _⟩) (v := ?_) rfl (by kernel_rfl) (by kernel_rfl) (by kernel_rfl) (by kernel_rfl) (fun _ _ _ h => h) (Or.inl ⟨by rfl, ?_⟩) hHeld ?_
  rotate_left
  · (intro w' hSw; (try dsimp only at hSw); go_simp; try (with_reducible rfl))
  (try simp only [Act.put, List.setIfInBounds_toArray, List.set_cons_zero, List.set_cons_succ])
  refine wpAnyM_take (i := 2) (oi := ⟨_, _, _, _, _, _⟩) (v := ?_) rfl (by kernel_rfl) (by kernel_rfl) (by kernel_rfl) (by kernel_rfl) (fun _ _ _ h => h) (Or.inl ⟨by rfl, ?_⟩) hHeld ?_
  rotate_left
  · (intro w' hSw; (try dsimp only at hSw); go_simp; try (with_reducible rfl))
  (try simp only [Act.put, List.setIfInBounds_toArray, List.set_cons_zero, List.set_cons_succ])
  refine wpAnyM_take (i := 3) (oi := ⟨_, _, _, _, _, _⟩) (v := ?_) rfl (by kernel_rfl) (by kernel_rfl) (by kernel_rfl) (by kernel_rfl) (fun _ _ _ h => h) (Or.inl ⟨by rfl, ?_⟩) hHeld ?_
  rotate_left
  · (intro w' hSw; (try dsimp only at hSw); go_simp; try (with_reducible rfl))
  (try simp only [Act.put, List.setIfInBounds_toArray, List.set_cons_zero, List.set_cons_succ])
  refine wpAnyM_take (i := 4) (oi := ⟨_, _, _, _, _, _⟩) (v := ?_) rfl (by kernel_rfl) (by kernel_rfl) (by kernel_rfl) (by kernel_rfl) (fun _ _ _ h => h) (Or.inl ⟨by rfl, ?_⟩) hHeld ?_
  rotate_left
  · (intro w' hSw; (try dsimp only at hSw); go_simp; try (with_reducible rfl))
  (try simp only [Act.put, List.setIfInBounds_toArray, List.set_cons_zero, List.set_cons_succ])
  refine wpAnyM_take (i := 5) (oi := ⟨_, _, _, _, _, _⟩) (v := ?_) rfl (by kernel_rfl) (by kernel_rfl) (by kernel_rfl) (by kernel_rfl) (fun _ _ _ h => h) (Or.inl ⟨by rfl, ?_⟩) hHeld ?_
  rotate_left
  · (intro w' hSw; (try dsimp only at hSw); go_simp; try (with_reducible rfl))
  (try simp only [Act.put, List.setIfInBounds_toArray, List.set_cons_zero, List.set_cons_succ])
  refine wpAnyM_take (i := 6) (oi := ⟨_, _, _, _, _, _⟩) (v := ?_) rfl (by kernel_rfl) (by kernel_rfl) (by kernel_rfl) (by kernel_rfl) (fun _ _ _ h => h) (Or.inl ⟨by rfl, ?_⟩) hHeld ?_
  rotate_left
  · (intro w' hSw; (try dsimp only at hSw); go_simp; try (with_reducible rfl))
  (try simp only [Act.put, List.setIfInBounds_toArray, List.set_cons_zero, List.set_cons_succ])
  refine wpAnyM_take (i := 7) (oi := ⟨_, _, _, _, _, _⟩) (v := ?_) rfl (by kernel_rfl) (by kernel_rfl) (by kernel_rfl) (by kernel_rfl) (fun _ _ _ h => h) (Or.inl ⟨by rfl, ?_⟩) hHeld ?_
  rotate_left
  · (intro w' hSw; (try dsimp only at hSw); go_simp; try (with_reducible rfl))
  (try simp only [Act.put, List.setIfInBounds_toArray, List.set_cons_zero, List.set_cons_succ])
  refine wpAnyM_take (i := 8) (oi := ⟨_, _, _, _, _, _⟩) (v := ?_) rfl (by kernel_rfl) (by kernel_rfl) (by kernel_rfl) (by kernel_rfl) (fun _ _ _ h => h) (Or.inl ⟨by rfl, ?_⟩) hHeld ?_
  rotate_left
  · (intro w' hSw; (try dsimp only at hSw); go_simp; try (with_reducible rfl))
  (try simp only [Act.put, List.setIfInBounds_toArray, List.set_cons_zero, List.set_cons_succ])
  refine wpAnyM_take (i := 9) (oi := ⟨_, _, _, _, _, _⟩) (v := ?_) rfl (by kernel_rfl) (by kernel_rfl) (by kernel_rfl) (by kernel_rfl) (fun _ _ _ h => h) (Or.inl ⟨by rfl, ?_⟩) hHeld ?_
  rotate_left
  · (intro w' hSw; (try dsimp only at hSw); go_simp; try (with_reducible rfl))
  (try simp only [Act.put, List.setIfInBounds_toArray, List.set_cons_zero, List.set_cons_succ])
  refine wpAnyM_take (i := 10) (oi := ⟨_, _, _, _, _, _⟩) (v := ?_) rfl (by kernel_rfl) (by kernel_rfl) (by kernel_rfl) (by kernel_rfl) (fun _ _ _ h => h) (Or.inl ⟨by rfl, ?_⟩) hHeld ?_
  rotate_left
  · (intro w' hSw; (try dsimp only at hSw); go_simp; try (with_reducible rfl))
  (try simp only [Act.put, List.setIfInBounds_toArray, List.set_cons_zero, List.set_cons_succ])
  refine wpAnyM_take (i := 11) (oi := ⟨_, _, _, _, _, _⟩) (v := ?_) rfl (by kernel_rfl) (by kernel_rfl) (by kernel_rfl) (by kernel_rfl) (fun _ _ _ h => h) (Or.inl ⟨by rfl, ?_⟩) hHeld ?_
  rotate_left
  · (intro w' hSw; (try dsimp only at hSw); go_simp; try (with_reducible rfl))
  (try simp only [Act.put, List.setIfInBounds_toArray, List.set_cons_zero, List.set_cons_succ])
  refine wpAnyM_one (i := 12) (o := ⟨_, _, _, _, _, _⟩) (by kernel_rfl) rfl (fun K hK => ?_)
  go_simp
  go_at_call 31
  refine (whole_any _).mono ?_
  rintro e w4 ⟨rfl, b4⟩
  have B4 : Hid (Below W1.heap.size W1 w4) := (show Below _ _ _ from ((Below.refl _ _).drew).trans b4)
  refine hK.out _ _ (KC.out _ B4.out) (fun hHeld => ?_)
  clear hK K b4
  (try simp only [List.setIfInBounds_toArray, List.set_cons_zero, List.set_cons_succ])
  refine wpAnyM_one (i := 13) (o := ⟨_, _, _, _, _, _⟩) (by kernel_rfl) rfl (fun K hK => ?_)
  go_simp
  go_at_call 30
  refine (HIN.out _ B4.out).mono ?_
  rintro e w6 ⟨u6, M6, rfl, o6, b6, r6, n6, c6⟩
  have B6 : Hid (Below W1.heap.size W1 w6) := (show Below _ _ _ from B4.out.trans (b6.mono B4.out.size))
  have O6 := hide o6
  have N6 : Hid (∀ b, u6.ownBlock = some b → W1.heap.size ≤ b) := (show ∀ b, _ from fun b e => Nat.le_trans B4.out.size (n6 b e))
  have C6 := hide c6
  obtain ⟨ua, uc, rfl⟩ := o6.shapeOf
  refine hK.out _ _ (KC.out _ B6.out) (fun hHeld => ?_)
  clear hK K o6 b6 r6 n6 c6
  (try simp only [List.setIfInBounds_toArray, List.set_cons_zero, List.set_cons_succ])
  refine wpAnyM_one (i := 14) (o := ⟨_, _, _, _, _, _⟩) (by kernel_rfl) rfl (fun K hK => ?_)
  go_simp
  refine hK.out _ _ (KC.out _ B6.out) (fun hHeld => ?_)
  clear hK K
  (try simp only [List.setIfInBounds_toArray, List.set_cons_zero, List.set_cons_succ])
  refine wpAnyM_one (i := 15) (o := ⟨_, _, _, _, _, _⟩) (by kernel_rfl) rfl (fun K hK => ?_)
  go_simp
  refine hK.out _ _ (KC.out _ B6.out) (fun hHeld => ?_)
  clear hK K
  (try simp only [List.setIfInBounds_toArray, List.set_cons_zero, List.set_cons_succ])
  have hx6 := (BoxT.below (t := 46) HO1.out.box B6.out)
  have hc6 : w6.cell? ⟨o, 10, none⟩ = some (.slice la l0.length lc) := by rw [hx6.cellAt]; rfl
  have hf6 := hx6.free 10
  refine wpAnyM_last (i := 16) (o := ⟨_, _, _, _, _, _⟩) (by kernel_rfl) (by kernel_rfl) rfl (fun K hK => ?_)
  go_simp
  refine hK.out _ _ ?_
  clear hK K
  (try simp only [List.setIfInBounds_toArray, List.set_cons_zero, List.set_cons_succ])
  refine wpAnyM_done (by kernel_rfl) ?_ _
  have PE : Hid (OpAt KK (w6.setCell ⟨o, 10, none⟩ (.slice ua M6.length uc)) o 0 0 0 a (.slice ua M6.length uc) M6) := (show OpAt KK _ _ _ _ _ _ _ _ from HO1.out.lay B6.out O6.out N6.out)
  have FE : Hid (FT (at1 o) (at1 o) w (w6.setCell ⟨o, 10, none⟩ (.slice ua M6.length uc))) := (show FT _ _ _ _ from (FT.of_below HB1.out).trans (FT.lay B6.out _))
  go_wp2_with fail
  go_ret
  exact ⟨_, _, M6, rfl, PE.out, FE.out, C6.out⟩
end Go.Proofs.YtdoldohcimbdaaaGreat
