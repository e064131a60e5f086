/-
  Texts in build order: SPanes.
-/
import Derived.Test.YtdoldohcimbdaaaGreatM16
/-
  The closures of Group, Fire and end; Panes, Group, Next.
-/
namespace Go.Proofs.YtdoldohcimbdaaaGreat
open Go.RowKit

set_option maxHeartbeats 1000000 in
set_option maxRecDepth 100000 in
theorem fireC_any {w : World} {KB : Nat} {mk : Int} (hK : BoxT 2 w KB #[.int .i64 mk]) (x : Pn) : Calls Tryz.prog 36 #[plV x, .pointer (some ⟨KB, 0, none⟩)] w fun e w' => e = .returned (.bool (decide (wrap64 (x.t - 1) ≤ mk))) ∧ Below w.heap.size w w' := by
  obtain ⟨xk, xf, xt, xa⟩ := x
  unfold plV
  simp only
  have HB0 : Hid (BoxT 89 (w.alloc (.cells #[.int .i64 xk, .int .i64 xf, .int .i64 xt] 89)) w.heap.size #[.int .i64 xk, .int .i64 xf, .int .i64 xt]) := BoxT.new _ _ _
  have HBB := hide (below_box w (.cells #[.int .i64 xk, .int .i64 xf, .int .i64 xt] 89))
  have HK1 : Hid (BoxT 2 (w.alloc (.cells #[.int .i64 xk, .int .i64 xf, .int .i64 xt] 89)) KB #[.int .i64 mk]) := BoxT.below (t := 2) hK HBB.out
  have HG : Hid (∀ w', Below (w.alloc (.cells #[.int .i64 xk, .int .i64 xf, .int .i64 xt] 89)).heap.size (w.alloc (.cells #[.int .i64 xk, .int .i64 xf, .int .i64 xt] 89)) w' → Calls Tryz.prog 37 #[.agg #[.int .i64 xf, .int .i64 xt]] w' fun e w'' => e = .returned (.int .i64 (wrap64 (xt - 1))) ∧ Below (w.alloc (.cells #[.int .i64 xk, .int .i64 xf, .int .i64 xt] 89)).heap.size (w.alloc (.cells #[.int .i64 xk, .int .i64 xf, .int .i64 xt] 89)) w'') := fun w' h => (last_any w' xf xt).mono (by rintro e w'' ⟨rfl, h2⟩; exact ⟨rfl, h.trans (h2.mono h.size)⟩)
  generalize hL : wrap64 (xt - 1) = L at *
  clear hL
  have KC : Hid (∀ w' : World, Below ((w.alloc (.cells #[.int .i64 xk, .int .i64 xf, .int .i64 xt] 89))).heap.size ((w.alloc (.cells #[.int .i64 xk, .int .i64 xf, .int .i64 xt] 89))) w' → w'.cell? ⟨w.heap.size, 0, none⟩ = some (.int .i64 xk) ∧ w'.cell? ⟨w.heap.size, 1, none⟩ = some (.int .i64 xf) ∧ w'.cell? ⟨w.heap.size, 2, none⟩ = some (.int .i64 xt) ∧ w'.cell? ⟨KB, 0, none⟩ = some (.int .i64 mk)) := fun w' h => ⟨(by rw [(BoxT.below (t := 89) HB0.out h).cellAt]; rfl), (by rw [(BoxT.below (t := 89) HB0.out h).cellAt]; rfl), (by rw [(BoxT.below (t := 89) HB0.out h).cellAt]; rfl), (by rw [(BoxT.below (t := 2) HK1.out h).cellAt]; rfl)⟩
  clear hK
  go_enter Tryz.func36, Tryz.ntmps36
  go_upto_region 1 with fail
  have B1 : Hid (Below ((w.alloc (.cells #[.int .i64 xk, .int .i64 xf, .int .i64 xt] 89))).heap.size ((w.alloc (.cells #[.int .i64 xk, .int .i64 xf, .int .i64 xt] 89))) ((w.alloc (.cells #[.int .i64 xk, .int .i64 xf, .int .i64 xt] 89))).drew) := (Below.refl _ _).drew
  refine wp_region_M (S := fun w' => w'.cell? ⟨w.heap.size, 0, none⟩ = some (.int .i64 xk) ∧ w'.cell? ⟨w.heap.size, 1, none⟩ = some (.int .i64 xf) ∧ w'.cell? ⟨w.heap.size, 2, none⟩ = some (.int .i64 xt) ∧ w'.cell? ⟨KB, 0, none⟩ = some (.int .i64 mk)) (late := []) (by kernel_rfl) (KC.out _ B1.out) (fun hHeld => ?_)
  (try simp only [List.size_toArray, List.length_cons, List.length_nil, Nat.zero_add, Nat.reduceAdd, Array.replicate, List.replicate])
  refine wpAnyM_take (i := 0) (oi := ⟨_, _, _, _, _, _⟩) (v := ?_) rfl (by kernel_rfl) (by kernel_rfl) (by kernel_rfl) (by kernel_rfl) (fun _ _ _ h => h) (Or.inl ⟨by rfl, ?_⟩) hHeld ?_
  rotate_left
  · (intro w' hSw; (try dsimp only at hSw); go_simp; try (with_reducible rfl))
  (try simp only [Act.put, List.setIfInBounds_toArray, List.set_cons_zero, List.set_cons_succ])
  refine wpAnyM_take (i := 1) (oi := ⟨_, _, _, _, _, _⟩) (v := ?_) rfl (by kernel_rfl) (by kernel_rfl) (by kernel_rfl) (by kernel_rfl) (fun _ _ _ h => h) (Or.inl ⟨by rfl, ?_⟩) hHeld ?_
  rotate_left
  · (intro w' hSw; (try dsimp only at hSw); go_simp; try (with_reducible rfl))
  (try simp only [Act.put, List.setIfInBounds_toArray, List.set_cons_zero, List.set_cons_succ])
  refine wpAnyM_take (i := 3) (oi := ⟨_, _, _, _, _, _⟩) (v := ?_) rfl (by kernel_rfl) (by kernel_rfl) (by kernel_rfl) (by kernel_rfl) (fun _ _ _ h => h) (Or.inl ⟨by rfl, ?_⟩) hHeld ?_
  rotate_left
  · (intro w' hSw; (try dsimp only at hSw); go_simp; try (with_reducible rfl))
  (try simp only [Act.put, List.setIfInBounds_toArray, List.set_cons_zero, List.set_cons_succ])
  refine wpAnyM_one (i := 2) (o := ⟨_, _, _, _, _, _⟩) (by kernel_rfl) rfl (fun K hK => ?_)
  go_simp
  go_at_call 37
  refine (HG.out _ B1.out).mono ?_
  rintro e w2 ⟨rfl, hb⟩
  have B2 := hide hb
  refine hK.out _ _ (KC.out _ hb) (fun hHeld => ?_)
  clear hK K hb
  (try simp only [List.setIfInBounds_toArray, List.set_cons_zero, List.set_cons_succ])
  refine wpAnyM_take (i := 4) (oi := ⟨_, _, _, _, _, _⟩) (v := ?_) rfl (by kernel_rfl) (by kernel_rfl) (by kernel_rfl) (by kernel_rfl) (fun _ _ _ h => h) (Or.inl ⟨by rfl, ?_⟩) hHeld ?_
  rotate_left
  · (intro w' hSw; (try dsimp only at hSw); go_simp; try (with_reducible rfl))
  (try simp only [Act.put, List.setIfInBounds_toArray, List.set_cons_zero, List.set_cons_succ])
  refine wpAnyM_take (i := 5) (oi := ⟨_, _, _, _, _, _⟩) (v := ?_) rfl (by kernel_rfl) (by kernel_rfl) (by kernel_rfl) (by kernel_rfl) (fun _ _ _ h => h) (Or.inl ⟨by rfl, ?_⟩) hHeld ?_
  rotate_left
  · (intro w' hSw; (try dsimp only at hSw); go_simp; try (with_reducible rfl))
  (try simp only [Act.put, List.setIfInBounds_toArray, List.set_cons_zero, List.set_cons_succ])
  refine wpAnyM_done (by kernel_rfl) ?_ _
  go_wp2_with fail
  go_ret
  exact ⟨rfl, HBB.out.trans (B2.out.mono HBB.out.size)⟩
set_option maxHeartbeats 1000000 in
set_option maxRecDepth 100000 in
theorem endC_any {w : World} {KB : Nat} {mk : Int} (hK : BoxT 2 w KB #[.int .i64 mk]) (x : Sp) : Calls Tryz.prog 59 #[x.val, .pointer (some ⟨KB, 0, none⟩)] w fun e w' => e = .returned (.bool (decide (wrap64 (x.t - 1) ≤ mk))) ∧ Below w.heap.size w w' := by
  obtain ⟨xf, xt⟩ := x
  unfold Sp.val
  simp only
  have HB0 : Hid (BoxT 68 (w.alloc (.cells #[.int .i64 xf, .int .i64 xt] 68)) w.heap.size #[.int .i64 xf, .int .i64 xt]) := BoxT.new _ _ _
  have HBB := hide (below_box w (.cells #[.int .i64 xf, .int .i64 xt] 68))
  have HK1 : Hid (BoxT 2 (w.alloc (.cells #[.int .i64 xf, .int .i64 xt] 68)) KB #[.int .i64 mk]) := BoxT.below (t := 2) hK HBB.out
  have HG : Hid (∀ w', Below (w.alloc (.cells #[.int .i64 xf, .int .i64 xt] 68)).heap.size (w.alloc (.cells #[.int .i64 xf, .int .i64 xt] 68)) w' → Calls Tryz.prog 37 #[.agg #[.int .i64 xf, .int .i64 xt]] w' fun e w'' => e = .returned (.int .i64 (wrap64 (xt - 1))) ∧ Below (w.alloc (.cells #[.int .i64 xf, .int .i64 xt] 68)).heap.size (w.alloc (.cells #[.int .i64 xf, .int .i64 xt] 68)) w'') := fun w' h => (last_any w' xf xt).mono (by rintro e w'' ⟨rfl, h2⟩; exact ⟨rfl, h.trans (h2.mono h.size)⟩)
  generalize hL : wrap64 (xt - 1) = L at *
  clear hL
  have KC : Hid (∀ w' : World, Below ((w.alloc (.cells #[.int .i64 xf, .int .i64 xt] 68))).heap.size ((w.alloc (.cells #[.int .i64 xf, .int .i64 xt] 68))) w' → w'.cell? ⟨w.heap.size, 0, none⟩ = some (.int .i64 xf) ∧ w'.cell? ⟨w.heap.size, 1, none⟩ = some (.int .i64 xt) ∧ w'.cell? ⟨KB, 0, none⟩ = some (.int .i64 mk)) := fun w' h => ⟨(by rw [(BoxT.below (t := 68) HB0.out h).cellAt]; rfl), (by rw [(BoxT.below (t := 68) HB0.out h).cellAt]; rfl), (by rw [(BoxT.below (t := 2) HK1.out h).cellAt]; rfl)⟩
  clear hK
  go_enter Tryz.func59, Tryz.ntmps59
  go_upto_region 1 with fail
  have B1 : Hid (Below ((w.alloc (.cells #[.int .i64 xf, .int .i64 xt] 68))).heap.size ((w.alloc (.cells #[.int .i64 xf, .int .i64 xt] 68))) ((w.alloc (.cells #[.int .i64 xf, .int .i64 xt] 68))).drew) := (Below.refl _ _).drew
  refine wp_region_M (S := fun w' => w'.cell? ⟨w.heap.size, 0, none⟩ = some (.int .i64 xf) ∧ w'.cell? ⟨w.heap.size, 1, none⟩ = some (.int .i64 xt) ∧ w'.cell? ⟨KB, 0, none⟩ = some (.int .i64 mk)) (late := []) (by kernel_rfl) (KC.out _ B1.out) (fun hHeld => ?_)
  (try simp only [List.size_toArray, List.length_cons, List.length_nil, Nat.zero_add, Nat.reduceAdd, Array.replicate, List.replicate])
  refine wpAnyM_take (i := 0) (oi := ⟨_, _, _, _, _, _⟩) (v := ?_) rfl (by kernel_rfl) (by kernel_rfl) (by kernel_rfl) (by kernel_rfl) (fun _ _ _ h => h) (Or.inl ⟨by rfl, ?_⟩) hHeld ?_
  rotate_left
  · (intro w' hSw; (try dsimp only at hSw); go_simp; try (with_reducible rfl))
  (try simp only [Act.put, List.setIfInBounds_toArray, List.set_cons_zero, List.set_cons_succ])
  refine wpAnyM_take (i := 2) (oi := ⟨_, _, _, _, _, _⟩) (v := ?_) rfl (by kernel_rfl) (by kernel_rfl) (by kernel_rfl) (by kernel_rfl) (fun _ _ _ h => h) (Or.inl ⟨by rfl, ?_⟩) hHeld ?_
  rotate_left
  · (intro w' hSw; (try dsimp only at hSw); go_simp; try (with_reducible rfl))
  (try simp only [Act.put, List.setIfInBounds_toArray, List.set_cons_zero, List.set_cons_succ])
  refine wpAnyM_one (i := 1) (o := ⟨_, _, _, _, _, _⟩) (by kernel_rfl) rfl (fun K hK => ?_)
  go_simp
  go_at_call 37
  refine (HG.out _ B1.out).mono ?_
  rintro e w2 ⟨rfl, hb⟩
  have B2 := hide hb
  refine hK.out _ _ (KC.out _ hb) (fun hHeld => ?_)
  clear hK K hb
  (try simp only [List.setIfInBounds_toArray, List.set_cons_zero, List.set_cons_succ])
  refine wpAnyM_take (i := 3) (oi := ⟨_, _, _, _, _, _⟩) (v := ?_) rfl (by kernel_rfl) (by kernel_rfl) (by kernel_rfl) (by kernel_rfl) (fun _ _ _ h => h) (Or.inl ⟨by rfl, ?_⟩) hHeld ?_
  rotate_left
  · (intro w' hSw; (try dsimp only at hSw); go_simp; try (with_reducible rfl))
  (try simp only [Act.put, List.setIfInBounds_toArray, List.set_cons_zero, List.set_cons_succ])
  refine wpAnyM_take (i := 4) (oi := ⟨_, _, _, _, _, _⟩) (v := ?_) rfl (by kernel_rfl) (by kernel_rfl) (by kernel_rfl) (by kernel_rfl) (fun _ _ _ h => h) (Or.inl ⟨by rfl, ?_⟩) hHeld ?_
  rotate_left
  · (intro w' hSw; (try dsimp only at hSw); go_simp; try (with_reducible rfl))
  (try simp only [Act.put, List.setIfInBounds_toArray, List.set_cons_zero, List.set_cons_succ])
  refine wpAnyM_done (by kernel_rfl) ?_ _
  go_wp2_with fail
  go_ret
  exact ⟨rfl, HBB.out.trans (B2.out.mono HBB.out.size)⟩
theorem Row.mono {α : Type} {t sz : Nat} {cs : α → List Value} {base base' : Nat} {w : World} {v : Value} {xs : List α} (h : Row t sz cs base w v xs) (hb : base' ≤ base) : Row t sz cs base' w v xs := by
  rcases h with h | ⟨g, off, cap, cur, h1, h2, h3⟩
  · exact .inl h
  · exact .inr ⟨g, off, cap, cur, h1, Nat.le_trans hb h2, h3⟩
set_option maxHeartbeats 1000000 in
set_option maxRecDepth 100000 in
theorem Panes_any {w : World} {s : Nat} {kd size slide ag : Int} {fp : Nat → Prop} {M : List Pn} (h : SA w s kd size slide ag fp M) (hn : M.length ≤ 1000000) :
    Calls Tryz.prog 16 #[.pointer (some ⟨s, 0, none⟩)] w fun e w' => ∃ u, e = .returned u ∧ Row 70 4 Pn.cs w.heap.size w' u (srt M) ∧ Below w.heap.size w w' := by
  have HP := hide (pick_any h 42 #[] (fun _ => true) (fun args W => by kernel_rfl) (fun w1 _ x => by simpa using panesC_any w1 x) hn)
  clear h
  go_enter Tryz.func16, Tryz.ntmps16
  go_wp2_with (first | (go_at_call 35; refine HP.out.mono ?_; rintro e w1 ⟨u, c, rfl, o1, p1, b1⟩; have hl1 : c.length ≤ 1000000 := (by rw [p1.length_eq]; exact Nat.le_trans (List.length_filter_le ..) hn); have HS := hide (Sort_any (o1.seg Pn.cs_len (by omega)) hl1); have P1 := hide p1; have B1 := hide b1; clear o1 p1 b1 hl1) | (go_at_call 41; refine HS.out.mono ?_; rintro e w2 ⟨u2, rfl, o2, b2⟩; have O2 := hide o2; have B2 := hide b2; clear o2 b2) | fail)
  go_ret
  have e1 : srt c = srt M := srt_eq (by have := P1.out; rwa [List.filter_eq_self.2 (fun _ _ => rfl)] at this)
  refine ⟨_, rfl, ?_, B1.out.trans (B2.out.mono B1.out.size)⟩
  rw [← e1]
  exact O2.out.mono B1.out.size
end Go.Proofs.YtdoldohcimbdaaaGreat
