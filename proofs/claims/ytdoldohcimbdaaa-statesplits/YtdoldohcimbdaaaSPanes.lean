/-
  The closures of Group, Fire and end; Panes, Group, Next.
-/
import Derived.Test.YtdoldohcimbdaaaSPick
import Derived.Test.YtdoldohcimbdaaaSGrp
namespace Go.Proofs.Ytdoldohcimbdaaa
open Go.RowKit

set_option maxHeartbeats 1000000 in
set_option maxRecDepth 100000 in
theorem groupC_any {w : World} {KB : Nat} {g : Int} (hK : BoxT 3 w KB #[.int .i64 g]) (x : Pn) : Calls Try.prog 39 #[plV x, .pointer (some ⟨KB, 0, none⟩)] w fun e w' => e = .returned (.bool (decide ((grp x.k : Int) = g))) ∧ Below w.heap.size w w' := by
  obtain ⟨xk, xf, xt, xa⟩ := x
  unfold plV
  simp only
  have HB0 : Hid (BoxT 76 (w.alloc (.cells #[.int .i64 xk, .int .i64 xf, .int .i64 xt] 76)) w.heap.size #[.int .i64 xk, .int .i64 xf, .int .i64 xt]) := BoxT.new _ _ _
  have HBB := hide (below_box w (.cells #[.int .i64 xk, .int .i64 xf, .int .i64 xt] 76))
  have HK1 : Hid (BoxT 3 (w.alloc (.cells #[.int .i64 xk, .int .i64 xf, .int .i64 xt] 76)) KB #[.int .i64 g]) := BoxT.below (t := 3) hK HBB.out
  have HG : Hid (∀ w', Below (w.alloc (.cells #[.int .i64 xk, .int .i64 xf, .int .i64 xt] 76)).heap.size (w.alloc (.cells #[.int .i64 xk, .int .i64 xf, .int .i64 xt] 76)) w' → Calls Try.prog 36 #[.int .i64 xk] w' fun e w'' => e = .returned (.int .i64 (grp xk)) ∧ Below (w.alloc (.cells #[.int .i64 xk, .int .i64 xf, .int .i64 xt] 76)).heap.size (w.alloc (.cells #[.int .i64 xk, .int .i64 xf, .int .i64 xt] 76)) w'') := fun w' h => (Group_any w' xk).mono (by rintro e w'' ⟨rfl, rfl⟩; exact ⟨rfl, h⟩)
  generalize grp xk = G at *
  have KC : Hid (∀ w' : World, Below ((w.alloc (.cells #[.int .i64 xk, .int .i64 xf, .int .i64 xt] 76))).heap.size ((w.alloc (.cells #[.int .i64 xk, .int .i64 xf, .int .i64 xt] 76))) w' → w'.cell? ⟨w.heap.size, 0, none⟩ = some (.int .i64 xk) ∧ w'.cell? ⟨w.heap.size, 1, none⟩ = some (.int .i64 xf) ∧ w'.cell? ⟨w.heap.size, 2, none⟩ = some (.int .i64 xt) ∧ w'.cell? ⟨KB, 0, none⟩ = some (.int .i64 g)) := fun w' h => ⟨(by rw [(BoxT.below (t := 76) HB0.out h).cellAt]; rfl), (by rw [(BoxT.below (t := 76) HB0.out h).cellAt]; rfl), (by rw [(BoxT.below (t := 76) HB0.out h).cellAt]; rfl), (by rw [(BoxT.below (t := 3) HK1.out h).cellAt]; rfl)⟩
  clear hK
  go_enter Try.func39, Try.ntmps39
  go_upto_region 1 with fail
  have B1 : Hid (Below ((w.alloc (.cells #[.int .i64 xk, .int .i64 xf, .int .i64 xt] 76))).heap.size ((w.alloc (.cells #[.int .i64 xk, .int .i64 xf, .int .i64 xt] 76))) ((w.alloc (.cells #[.int .i64 xk, .int .i64 xf, .int .i64 xt] 76))).drew) := (Below.refl _ _).drew
  refine wp_region_M (S := fun w' => w'.cell? ⟨w.heap.size, 0, none⟩ = some (.int .i64 xk) ∧ w'.cell? ⟨w.heap.size, 1, none⟩ = some (.int .i64 xf) ∧ w'.cell? ⟨w.heap.size, 2, none⟩ = some (.int .i64 xt) ∧ w'.cell? ⟨KB, 0, none⟩ = some (.int .i64 g)) (late := []) (by kernel_rfl) (KC.out _ B1.out) (fun hHeld => ?_)
  (try simp only [List.size_toArray, List.length_cons, List.length_nil, Nat.zero_add, Nat.reduceAdd, Array.replicate, List.replicate])
  refine wpAnyM_take (i := 0) (oi := ⟨_, _, _, _, _, _⟩) (v := ?_) rfl (by kernel_rfl) (by kernel_rfl) (by kernel_rfl) (by kernel_rfl) (fun _ _ _ h => h) (Or.inl ⟨by rfl, ?_⟩) hHeld ?_
  rotate_left
  · (intro w' hSw; (try dsimp only at hSw); go_simp; try (with_reducible rfl))
  (try simp only [Act.put, List.setIfInBounds_toArray, List.set_cons_zero, List.set_cons_succ])
  refine wpAnyM_take (i := 1) (oi := ⟨_, _, _, _, _, _⟩) (v := ?_) rfl (by kernel_rfl) (by kernel_rfl) (by kernel_rfl) (by kernel_rfl) (fun _ _ _ h => h) (Or.inl ⟨by rfl, ?_⟩) hHeld ?_
  rotate_left
  · (intro w' hSw; (try dsimp only at hSw); go_simp; try (with_reducible rfl))
  (try simp only [Act.put, List.setIfInBounds_toArray, List.set_cons_zero, List.set_cons_succ])
  refine wpAnyM_take (i := 3) (oi := ⟨_, _, _, _, _, _⟩) (v := ?_) rfl (by kernel_rfl) (by kernel_rfl) (by kernel_rfl) (by kernel_rfl) (fun _ _ _ h => h) (Or.inl ⟨by rfl, ?_⟩) hHeld ?_
  rotate_left
  · (intro w' hSw; (try dsimp only at hSw); go_simp; try (with_reducible rfl))
  (try simp only [Act.put, List.setIfInBounds_toArray, List.set_cons_zero, List.set_cons_succ])
  refine wpAnyM_one (i := 2) (o := ⟨_, _, _, _, _, _⟩) (by kernel_rfl) rfl (fun K hK => ?_)
  go_simp
  go_at_call 36
  refine (HG.out _ B1.out).mono ?_
  rintro e w2 ⟨rfl, hb⟩
  have B2 := hide hb
  refine hK.out _ _ (KC.out _ hb) (fun hHeld => ?_)
  clear hK K hb
  (try simp only [List.setIfInBounds_toArray, List.set_cons_zero, List.set_cons_succ])
  refine wpAnyM_take (i := 4) (oi := ⟨_, _, _, _, _, _⟩) (v := ?_) rfl (by kernel_rfl) (by kernel_rfl) (by kernel_rfl) (by kernel_rfl) (fun _ _ _ h => h) (Or.inl ⟨by rfl, ?_⟩) hHeld ?_
  rotate_left
  · (intro w' hSw; (try dsimp only at hSw); go_simp; try (with_reducible rfl))
  (try simp only [Act.put, List.setIfInBounds_toArray, List.set_cons_zero, List.set_cons_succ])
  refine wpAnyM_take (i := 5) (oi := ⟨_, _, _, _, _, _⟩) (v := ?_) rfl (by kernel_rfl) (by kernel_rfl) (by kernel_rfl) (by kernel_rfl) (fun _ _ _ h => h) (Or.inl ⟨by rfl, ?_⟩) hHeld ?_
  rotate_left
  · (intro w' hSw; (try dsimp only at hSw); go_simp; try (with_reducible rfl))
  (try simp only [Act.put, List.setIfInBounds_toArray, List.set_cons_zero, List.set_cons_succ])
  refine wpAnyM_done (by kernel_rfl) ?_ _
  go_wp2_with fail
  go_ret
  exact ⟨ret_bool (by by_cases e : (G : Int) = g <;> simp [e]), HBB.out.trans (B2.out.mono HBB.out.size)⟩
set_option maxHeartbeats 1000000 in
set_option maxRecDepth 100000 in
theorem fireC_any {w : World} {KB : Nat} {mk : Int} (hK : BoxT 2 w KB #[.int .i64 mk]) (x : Pn) : Calls Try.prog 42 #[plV x, .pointer (some ⟨KB, 0, none⟩)] w fun e w' => e = .returned (.bool (decide (wrap64 (x.t - 1) ≤ mk))) ∧ Below w.heap.size w w' := by
  obtain ⟨xk, xf, xt, xa⟩ := x
  unfold plV
  simp only
  have HB0 : Hid (BoxT 76 (w.alloc (.cells #[.int .i64 xk, .int .i64 xf, .int .i64 xt] 76)) w.heap.size #[.int .i64 xk, .int .i64 xf, .int .i64 xt]) := BoxT.new _ _ _
  have HBB := hide (below_box w (.cells #[.int .i64 xk, .int .i64 xf, .int .i64 xt] 76))
  have HK1 : Hid (BoxT 2 (w.alloc (.cells #[.int .i64 xk, .int .i64 xf, .int .i64 xt] 76)) KB #[.int .i64 mk]) := BoxT.below (t := 2) hK HBB.out
  have HG : Hid (∀ w', Below (w.alloc (.cells #[.int .i64 xk, .int .i64 xf, .int .i64 xt] 76)).heap.size (w.alloc (.cells #[.int .i64 xk, .int .i64 xf, .int .i64 xt] 76)) w' → Calls Try.prog 43 #[.agg #[.int .i64 xf, .int .i64 xt]] w' fun e w'' => e = .returned (.int .i64 (wrap64 (xt - 1))) ∧ Below (w.alloc (.cells #[.int .i64 xk, .int .i64 xf, .int .i64 xt] 76)).heap.size (w.alloc (.cells #[.int .i64 xk, .int .i64 xf, .int .i64 xt] 76)) w'') := fun w' h => (last_any w' xf xt).mono (by rintro e w'' ⟨rfl, h2⟩; exact ⟨rfl, h.trans (h2.mono h.size)⟩)
  generalize hL : wrap64 (xt - 1) = L at *
  clear hL
  have KC : Hid (∀ w' : World, Below ((w.alloc (.cells #[.int .i64 xk, .int .i64 xf, .int .i64 xt] 76))).heap.size ((w.alloc (.cells #[.int .i64 xk, .int .i64 xf, .int .i64 xt] 76))) w' → w'.cell? ⟨w.heap.size, 0, none⟩ = some (.int .i64 xk) ∧ w'.cell? ⟨w.heap.size, 1, none⟩ = some (.int .i64 xf) ∧ w'.cell? ⟨w.heap.size, 2, none⟩ = some (.int .i64 xt) ∧ w'.cell? ⟨KB, 0, none⟩ = some (.int .i64 mk)) := fun w' h => ⟨(by rw [(BoxT.below (t := 76) HB0.out h).cellAt]; rfl), (by rw [(BoxT.below (t := 76) HB0.out h).cellAt]; rfl), (by rw [(BoxT.below (t := 76) HB0.out h).cellAt]; rfl), (by rw [(BoxT.below (t := 2) HK1.out h).cellAt]; rfl)⟩
  clear hK
  go_enter Try.func42, Try.ntmps42
  go_upto_region 1 with fail
  have B1 : Hid (Below ((w.alloc (.cells #[.int .i64 xk, .int .i64 xf, .int .i64 xt] 76))).heap.size ((w.alloc (.cells #[.int .i64 xk, .int .i64 xf, .int .i64 xt] 76))) ((w.alloc (.cells #[.int .i64 xk, .int .i64 xf, .int .i64 xt] 76))).drew) := (Below.refl _ _).drew
  refine wp_region_M (S := fun w' => w'.cell? ⟨w.heap.size, 0, none⟩ = some (.int .i64 xk) ∧ w'.cell? ⟨w.heap.size, 1, none⟩ = some (.int .i64 xf) ∧ w'.cell? ⟨w.heap.size, 2, none⟩ = some (.int .i64 xt) ∧ w'.cell? ⟨KB, 0, none⟩ = some (.int .i64 mk)) (late := []) (by kernel_rfl) (KC.out _ B1.out) (fun hHeld => ?_)
  (try simp only [List.size_toArray, List.length_cons, List.length_nil, Nat.zero_add, Nat.reduceAdd, Array.replicate, List.replicate])
  refine wpAnyM_take (i := 0) (oi := ⟨_, _, _, _, _, _⟩) (v := ?_) rfl (by kernel_rfl) (by kernel_rfl) (by kernel_rfl) (by kernel_rfl) (fun _ _ _ h => h) (Or.inl ⟨by rfl, ?_⟩) hHeld ?_
  rotate_left
  · (intro w' hSw; (try dsimp only at hSw); go_simp; try (with_reducible rfl))
  (try simp only [Act.put, List.setIfInBounds_toArray, List.set_cons_zero, List.set_cons_succ])
  refine wpAnyM_take (i := 1) (oi := ⟨_, _, _, _, _, _⟩) (v := ?_) rfl (by kernel_rfl) (by kernel_rfl) (by kernel_rfl) (by kernel_rfl) (fun _ _ _ h => h) (Or.inl ⟨by rfl, ?_⟩) hHeld ?_
  rotate_left
  · (intro w' hSw; (try dsimp only at hSw); go_simp; try (with_reducible rfl))
  (try simp only [Act.put, List.setIfInBounds_toArray, List.set_cons_zero, List.set_cons_succ])
  refine wpAnyM_take (i := 3) (oi := ⟨_, _, _, _, _, _⟩) (v := ?_) rfl (by kernel_rfl) (by kernel_rfl) (by kernel_rfl) (by kernel_rfl) (fun _ _ _ h => h) (Or.inl ⟨by rfl, ?_⟩) hHeld ?_
  rotate_left
  · (intro w' hSw; (try dsimp only at hSw); go_simp; try (with_reducible rfl))
  (try simp only [Act.put, List.setIfInBounds_toArray, List.set_cons_zero, List.set_cons_succ])
  refine wpAnyM_one (i := 2) (o := ⟨_, _, _, _, _, _⟩) (by kernel_rfl) rfl (fun K hK => ?_)
  go_simp
  go_at_call 43
  refine (HG.out _ B1.out).mono ?_
  rintro e w2 ⟨rfl, hb⟩
  have B2 := hide hb
  refine hK.out _ _ (KC.out _ hb) (fun hHeld => ?_)
  clear hK K hb
  (try simp only [List.setIfInBounds_toArray, List.set_cons_zero, List.set_cons_succ])
  refine wpAnyM_take (i := 4) (oi := ⟨_, _, _, _, _, _⟩) (v := ?_) rfl (by kernel_rfl) (by kernel_rfl) (by kernel_rfl) (by kernel_rfl) (fun _ _ _ h => h) (Or.inl ⟨by rfl, ?_⟩) hHeld ?_
  rotate_left
  · (intro w' hSw; (try dsimp only at hSw); go_simp; try (with_reducible rfl))
  (try simp only [Act.put, List.setIfInBounds_toArray, List.set_cons_zero, List.set_cons_succ])
  refine wpAnyM_take (i := 5) (oi := ⟨_, _, _, _, _, _⟩) (v := ?_) rfl (by kernel_rfl) (by kernel_rfl) (by kernel_rfl) (by kernel_rfl) (fun _ _ _ h => h) (Or.inl ⟨by rfl, ?_⟩) hHeld ?_
  rotate_left
  · (intro w' hSw; (try dsimp only at hSw); go_simp; try (with_reducible rfl))
  (try simp only [Act.put, List.setIfInBounds_toArray, List.set_cons_zero, List.set_cons_succ])
  refine wpAnyM_done (by kernel_rfl) ?_ _
  go_wp2_with fail
  go_ret
  exact ⟨rfl, HBB.out.trans (B2.out.mono HBB.out.size)⟩
set_option maxHeartbeats 1000000 in
set_option maxRecDepth 100000 in
theorem endC_any {w : World} {KB : Nat} {mk : Int} (hK : BoxT 2 w KB #[.int .i64 mk]) (x : Sp) : Calls Try.prog 58 #[x.val, .pointer (some ⟨KB, 0, none⟩)] w fun e w' => e = .returned (.bool (decide (wrap64 (x.t - 1) ≤ mk))) ∧ Below w.heap.size w w' := by
  obtain ⟨xf, xt⟩ := x
  unfold Sp.val
  simp only
  have HB0 : Hid (BoxT 41 (w.alloc (.cells #[.int .i64 xf, .int .i64 xt] 41)) w.heap.size #[.int .i64 xf, .int .i64 xt]) := BoxT.new _ _ _
  have HBB := hide (below_box w (.cells #[.int .i64 xf, .int .i64 xt] 41))
  have HK1 : Hid (BoxT 2 (w.alloc (.cells #[.int .i64 xf, .int .i64 xt] 41)) KB #[.int .i64 mk]) := BoxT.below (t := 2) hK HBB.out
  have HG : Hid (∀ w', Below (w.alloc (.cells #[.int .i64 xf, .int .i64 xt] 41)).heap.size (w.alloc (.cells #[.int .i64 xf, .int .i64 xt] 41)) w' → Calls Try.prog 43 #[.agg #[.int .i64 xf, .int .i64 xt]] w' fun e w'' => e = .returned (.int .i64 (wrap64 (xt - 1))) ∧ Below (w.alloc (.cells #[.int .i64 xf, .int .i64 xt] 41)).heap.size (w.alloc (.cells #[.int .i64 xf, .int .i64 xt] 41)) w'') := fun w' h => (last_any w' xf xt).mono (by rintro e w'' ⟨rfl, h2⟩; exact ⟨rfl, h.trans (h2.mono h.size)⟩)
  generalize hL : wrap64 (xt - 1) = L at *
  clear hL
  have KC : Hid (∀ w' : World, Below ((w.alloc (.cells #[.int .i64 xf, .int .i64 xt] 41))).heap.size ((w.alloc (.cells #[.int .i64 xf, .int .i64 xt] 41))) w' → w'.cell? ⟨w.heap.size, 0, none⟩ = some (.int .i64 xf) ∧ w'.cell? ⟨w.heap.size, 1, none⟩ = some (.int .i64 xt) ∧ w'.cell? ⟨KB, 0, none⟩ = some (.int .i64 mk)) := fun w' h => ⟨(by rw [(BoxT.below (t := 41) HB0.out h).cellAt]; rfl), (by rw [(BoxT.below (t := 41) HB0.out h).cellAt]; rfl), (by rw [(BoxT.below (t := 2) HK1.out h).cellAt]; rfl)⟩
  clear hK
  go_enter Try.func58, Try.ntmps58
  go_upto_region 1 with fail
  have B1 : Hid (Below ((w.alloc (.cells #[.int .i64 xf, .int .i64 xt] 41))).heap.size ((w.alloc (.cells #[.int .i64 xf, .int .i64 xt] 41))) ((w.alloc (.cells #[.int .i64 xf, .int .i64 xt] 41))).drew) := (Below.refl _ _).drew
  refine wp_region_M (S := fun w' => w'.cell? ⟨w.heap.size, 0, none⟩ = some (.int .i64 xf) ∧ w'.cell? ⟨w.heap.size, 1, none⟩ = some (.int .i64 xt) ∧ w'.cell? ⟨KB, 0, none⟩ = some (.int .i64 mk)) (late := []) (by kernel_rfl) (KC.out _ B1.out) (fun hHeld => ?_)
  (try simp only [List.size_toArray, List.length_cons, List.length_nil, Nat.zero_add, Nat.reduceAdd, Array.replicate, List.replicate])
  refine wpAnyM_take (i := 0) (oi := ⟨_, _, _, _, _, _⟩) (v := ?_) rfl (by kernel_rfl) (by kernel_rfl) (by kernel_rfl) (by kernel_rfl) (fun _ _ _ h => h) (Or.inl ⟨by rfl, ?_⟩) hHeld ?_
  rotate_left
  · (intro w' hSw; (try dsimp only at hSw); go_simp; try (with_reducible rfl))
  (try simp only [Act.put, List.setIfInBounds_toArray, List.set_cons_zero, List.set_cons_succ])
  refine wpAnyM_take (i := 2) (oi := ⟨_, _, _, _, _, _⟩) (v := ?_) rfl (by kernel_rfl) (by kernel_rfl) (by kernel_rfl) (by kernel_rfl) (fun _ _ _ h => h) (Or.inl ⟨by rfl, ?_⟩) hHeld ?_
  rotate_left
  · (intro w' hSw; (try dsimp only at hSw); go_simp; try (with_reducible rfl))
  (try simp only [Act.put, List.setIfInBounds_toArray, List.set_cons_zero, List.set_cons_succ])
  refine wpAnyM_one (i := 1) (o := ⟨_, _, _, _, _, _⟩) (by kernel_rfl) rfl (fun K hK => ?_)
  go_simp
  go_at_call 43
  refine (HG.out _ B1.out).mono ?_
  rintro e w2 ⟨rfl, hb⟩
  have B2 := hide hb
  refine hK.out _ _ (KC.out _ hb) (fun hHeld => ?_)
  clear hK K hb
  (try simp only [List.setIfInBounds_toArray, List.set_cons_zero, List.set_cons_succ])
  refine wpAnyM_take (i := 3) (oi := ⟨_, _, _, _, _, _⟩) (v := ?_) rfl (by kernel_rfl) (by kernel_rfl) (by kernel_rfl) (by kernel_rfl) (fun _ _ _ h => h) (Or.inl ⟨by rfl, ?_⟩) hHeld ?_
  rotate_left
  · (intro w' hSw; (try dsimp only at hSw); go_simp; try (with_reducible rfl))
  (try simp only [Act.put, List.setIfInBounds_toArray, List.set_cons_zero, List.set_cons_succ])
  refine wpAnyM_take (i := 4) (oi := ⟨_, _, _, _, _, _⟩) (v := ?_) rfl (by kernel_rfl) (by kernel_rfl) (by kernel_rfl) (by kernel_rfl) (fun _ _ _ h => h) (Or.inl ⟨by rfl, ?_⟩) hHeld ?_
  rotate_left
  · (intro w' hSw; (try dsimp only at hSw); go_simp; try (with_reducible rfl))
  (try simp only [Act.put, List.setIfInBounds_toArray, List.set_cons_zero, List.set_cons_succ])
  refine wpAnyM_done (by kernel_rfl) ?_ _
  go_wp2_with fail
  go_ret
  exact ⟨rfl, HBB.out.trans (B2.out.mono HBB.out.size)⟩
theorem Row.mono {α : Type} {t sz : Nat} {cs : α → List Value} {base base' : Nat} {w : World} {v : Value} {xs : List α} (h : Row t sz cs base w v xs) (hb : base' ≤ base) : Row t sz cs base' w v xs := by
  rcases h with h | ⟨g, off, cap, cur, h1, h2, h3⟩
  · exact .inl h
  · exact .inr ⟨g, off, cap, cur, h1, Nat.le_trans hb h2, h3⟩
set_option maxHeartbeats 1000000 in
set_option maxRecDepth 100000 in
theorem Panes_any {w : World} {s : Nat} {kd size slide ag : Int} {fp : Nat → Prop} {M : List Pn} (h : SA w s kd size slide ag fp M) (hn : M.length ≤ 1000000) :
    Calls Try.prog 17 #[.pointer (some ⟨s, 0, none⟩)] w fun e w' => ∃ u, e = .returned u ∧ Row 43 4 Pn.cs w.heap.size w' u (srt M) ∧ Below w.heap.size w w' := by
  have HP := hide (pick_any h 38 #[] (fun _ => true) (fun args W => by kernel_rfl) (fun w1 _ x => by simpa using panesC_any w1 x) hn)
  clear h
  go_enter Try.func17, Try.ntmps17
  go_wp2_with (first | (go_at_call 37; refine HP.out.mono ?_; rintro e w1 ⟨u, c, rfl, o1, p1, b1⟩; have hl1 : c.length ≤ 1000000 := (by rw [p1.length_eq]; exact Nat.le_trans (List.length_filter_le ..) hn); have HS := hide (Sort_any (o1.seg Pn.cs_len (by omega)) hl1); have P1 := hide p1; have B1 := hide b1; clear o1 p1 b1 hl1) | (go_at_call 34; refine HS.out.mono ?_; rintro e w2 ⟨u2, rfl, o2, b2⟩; have O2 := hide o2; have B2 := hide b2; clear o2 b2) | fail)
  go_ret
  have e1 : srt c = srt M := srt_eq (by have := P1.out; rwa [List.filter_eq_self.2 (fun _ _ => rfl)] at this)
  refine ⟨_, rfl, ?_, B1.out.trans (B2.out.mono B1.out.size)⟩
  rw [← e1]
  exact O2.out.mono B1.out.size
set_option maxHeartbeats 1000000 in
set_option maxRecDepth 100000 in
theorem SGroup_any {w : World} {s : Nat} {kd size slide ag : Int} {fp : Nat → Prop} {M : List Pn} (h : SA w s kd size slide ag fp M) (g : Int) (hn : M.length ≤ 1000000) :
    Calls Try.prog 18 #[.pointer (some ⟨s, 0, none⟩), .int .i64 g] w fun e w' => ∃ u, e = .returned u ∧ Row 43 4 Pn.cs w.heap.size w' u (srt (M.filter fun x => decide ((grp x.k : Int) = g))) ∧ Below w.heap.size w w' := by
  have HB0 := hide (below_box w (.cells #[.int .i64 g] 3))
  have hK : BoxT 3 (w.alloc (.cells #[.int .i64 g] 3)) w.heap.size #[.int .i64 g] := BoxT.new _ _ _
  have HP := hide (pick_any (h.below HB0.out) 39 #[.pointer (some ⟨w.heap.size, 0, none⟩)] (fun x => decide ((grp x.k : Int) = g)) (fun args W => by kernel_rfl) (fun w1 hb x => by simpa using groupC_any (BoxT.below (t := 3) hK hb) x) hn)
  clear h hK
  go_enter Try.func18, Try.ntmps18
  go_wp2_with (first | (go_at_call 37; refine HP.out.mono ?_; rintro e w1 ⟨u, c, rfl, o1, p1, b1⟩; have hl1 : c.length ≤ 1000000 := (by rw [p1.length_eq]; exact Nat.le_trans (List.length_filter_le ..) hn); have HS := hide (Sort_any (o1.seg Pn.cs_len (by omega)) hl1); have P1 := hide p1; have B1 := hide (HB0.out.trans (b1.mono HB0.out.size)); clear o1 p1 b1 hl1) | (go_at_call 34; refine HS.out.mono ?_; rintro e w2 ⟨u2, rfl, o2, b2⟩; have O2 := hide o2; have B2 := hide b2; clear o2 b2) | fail)
  go_ret
  refine ⟨_, rfl, ?_, B1.out.trans (B2.out.mono B1.out.size)⟩
  rw [← srt_eq P1.out]
  exact O2.out.mono B1.out.size
end Go.Proofs.Ytdoldohcimbdaaa
