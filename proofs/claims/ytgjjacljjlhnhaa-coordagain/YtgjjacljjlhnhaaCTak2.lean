/-
  Take that does something.
-/
import Derived.Test.YtgjjacljjlhnhaaCTake
namespace Go.Proofs.Ytgjjacljjlhnhaa
open Go.RowKit

set_option maxHeartbeats 4000000 in
set_option maxRecDepth 100000 in
theorem Take_ready {w : World} {k : Nat} {P : Sh} {s : Cd} (h : CX w k P s) (m : Ct) (ht : In64 m.task) (he : m.ep = s.ep) (hkd : m.kind = 6) (hn : m.n = s.du) :
    Calls Try.prog 16 #[.pointer (some ⟨k, 0, none⟩), .agg #[.int .i64 m.kind, .int .u64 (m.ep : Int), .int .u64 (m.n : Int), .int .i64 m.task]] w fun r w' => r = .returned (.tuple #[.int .u64 0, .slice none 0 0]) ∧ CP w w' k P { s with rd := ansL s.T s.rd m.task } := by
  obtain ⟨W, hW⟩ : ∃ W, W = w.alloc (.cells #[.int .i64 m.kind, .int .u64 (m.ep : Int), .int .u64 (m.n : Int), .int .i64 m.task] 32) := ⟨_, rfl⟩
  have hb1 : Below w.heap.size w W := by rw [hW]; exact below_box w _
  have hx1 : BoxT 32 W w.heap.size #[.int .i64 m.kind, .int .u64 (m.ep : Int), .int .u64 (m.n : Int), .int .i64 m.task] := by rw [hW]; exact BoxT.new _ _ _
  obtain ⟨b0, b1, b2, b3⟩ := hx1.cells4
  have z3 := (h.below hb1).c3
  have z4 := (h.below hb1).c4
  have z5 := (h.below hb1).c5
  have HW := hide hW
  have HB := hide hb1
  have HX := hide hx1
  have H := hide h
  have HT : Hid (In64 m.task) := hide ht
  have KC : Hid (∀ w' : World, Below W.heap.size W w' → w'.cell? ⟨k, 10, none⟩ = some (P.v1) ∧ w'.cell? ⟨k, 11, none⟩ = some (.map (some P.o1)) ∧ w'.cell? ⟨k, 12, none⟩ = some (.map (some P.a1)) ∧ w'.cell? ⟨w.heap.size, 3, none⟩ = some (.int .i64 m.task)) := hide (fun w' hb => ⟨(Take_at HB.out HX.out H.out hb).1.c10, (Take_at HB.out HX.out H.out hb).1.c11, (Take_at HB.out HX.out H.out hb).1.c12, (Take_at HB.out HX.out H.out hb).2⟩)
  have eV : (Value.agg #[.int .i64 m.kind, .int .u64 (m.ep : Int), .int .u64 (m.n : Int), .int .i64 m.task]) = .agg #[.int .i64 6, .int .u64 (s.ep : Int), .int .u64 (s.du : Int), .int .i64 m.task] := by rw [he, hkd, hn]
  rw [he] at b1 HW
  rw [hkd] at b0 HW
  rw [hn] at b2 HW
  rw [eV]
  clear h hW hb1 hx1 he hkd ht hn eV
  go_enter Try.func16, Try.ntmps16
  go_wp2_with fail
  rw [← HW.out]
  go_quiet (fail)
  go_wp2_with fail
  go_quiet (fail)
  go_wp2_with fail
  refine wp_region_M (S := fun w' => w'.cell? ⟨k, 10, none⟩ = some (P.v1) ∧ w'.cell? ⟨k, 11, none⟩ = some (.map (some P.o1)) ∧ w'.cell? ⟨k, 12, none⟩ = some (.map (some P.a1)) ∧ w'.cell? ⟨w.heap.size, 3, none⟩ = some (.int .i64 m.task)) (late := []) (by kernel_rfl) (KC.out _ (below_drewN (below_drewN (Below.refl _ _) _) _).drew) (fun hHeld => ?_)
  (try simp only [List.size_toArray, List.length_cons, List.length_nil, Nat.zero_add, Nat.reduceAdd, Array.replicate, List.replicate])
  refine wpAnyM_take (i := 0) (oi := ⟨_, _, _, _, _, _⟩) (v := ?_) rfl (by kernel_rfl) (by kernel_rfl) (by kernel_rfl) (by kernel_rfl) (fun _ _ _ h => h) (Or.inl ⟨by rfl, ?_⟩) hHeld ?_
  rotate_left
  · (intro w' hSw; (try dsimp only at hSw); go_simp; try (with_reducible rfl))
  (try simp only [Act.put, List.setIfInBounds_toArray, List.set_cons_zero, List.set_cons_succ])
  refine wpAnyM_take (i := 1) (oi := ⟨_, _, _, _, _, _⟩) (v := ?_) rfl (by kernel_rfl) (by kernel_rfl) (by kernel_rfl) (by kernel_rfl) (fun _ _ _ h => h) (Or.inl ⟨by rfl, ?_⟩) hHeld ?_
  rotate_left
  · (intro w' hSw; (try dsimp only at hSw); go_simp; try (with_reducible rfl))
  (try simp only [Act.put, List.setIfInBounds_toArray, List.set_cons_zero, List.set_cons_succ])
  refine wpAnyM_take (i := 2) (oi := ⟨_, _, _, _, _, _⟩) (v := ?_) rfl (by kernel_rfl) (by kernel_rfl) (by kernel_rfl) (by kernel_rfl) (fun _ _ _ h => h) (Or.inl ⟨by rfl, ?_⟩) hHeld ?_
  rotate_left
  · (intro w' hSw; (try dsimp only at hSw); go_simp; try (with_reducible rfl))
  (try simp only [Act.put, List.setIfInBounds_toArray, List.set_cons_zero, List.set_cons_succ])
  refine wpAnyM_take (i := 3) (oi := ⟨_, _, _, _, _, _⟩) (v := ?_) rfl (by kernel_rfl) (by kernel_rfl) (by kernel_rfl) (by kernel_rfl) (fun _ _ _ h => h) (Or.inl ⟨by rfl, ?_⟩) hHeld ?_
  rotate_left
  · (intro w' hSw; (try dsimp only at hSw); go_simp; try (with_reducible rfl))
  (try simp only [Act.put, List.setIfInBounds_toArray, List.set_cons_zero, List.set_cons_succ])
  refine wpAnyM_take (i := 4) (oi := ⟨_, _, _, _, _, _⟩) (v := ?_) rfl (by kernel_rfl) (by kernel_rfl) (by kernel_rfl) (by kernel_rfl) (fun _ _ _ h => h) (Or.inl ⟨by rfl, ?_⟩) hHeld ?_
  rotate_left
  · (intro w' hSw; (try dsimp only at hSw); go_simp; try (with_reducible rfl))
  (try simp only [Act.put, List.setIfInBounds_toArray, List.set_cons_zero, List.set_cons_succ])
  refine wpAnyM_take (i := 5) (oi := ⟨_, _, _, _, _, _⟩) (v := ?_) rfl (by kernel_rfl) (by kernel_rfl) (by kernel_rfl) (by kernel_rfl) (fun _ _ _ h => h) (Or.inl ⟨by rfl, ?_⟩) hHeld ?_
  rotate_left
  · (intro w' hSw; (try dsimp only at hSw); go_simp; try (with_reducible rfl))
  (try simp only [Act.put, List.setIfInBounds_toArray, List.set_cons_zero, List.set_cons_succ])
  refine wpAnyM_one (i := 6) (o := ⟨_, _, _, _, _, _⟩) (by kernel_rfl) rfl (fun K hK => ?_)
  go_simp
  go_at_call 35
  refine (ans1 (Take_at HB.out HX.out H.out (below_drewN (Below.refl _ _) _)).1 HT.out).mono ?_
  rintro e w5 ⟨rfl, c5⟩
  have C5 := hide ((H.out.cp.below (HB.out.trans ((below_drewN (Below.refl _ _) _).mono HB.out.size))).trans c5)
  refine hK.out _ _ (⟨c5.x.c10, c5.x.c11, c5.x.c12, H.out.far (HX.out.below (below_drewN (Below.refl _ _) _)) c5⟩) (fun hHeld => ?_)
  clear hK K
  (try simp only [List.setIfInBounds_toArray, List.set_cons_zero, List.set_cons_succ])
  refine wpAnyM_done (by kernel_rfl) ?_ _
  clear hHeld
  go_wp2_with fail
  refine bodyPost_ret (v := .tuple #[.int .u64 0, .slice none 0 0]) (by simp [results, Try.results16, go_sem]) rfl ⟨rfl, C5.out⟩
set_option maxHeartbeats 4000000 in
set_option maxRecDepth 100000 in
theorem Take_done {w : World} {k : Nat} {P : Sh} {s : Cd} (h : CX w k P s) (m : Ct) (ht : In64 m.task) (he : m.ep = s.ep) (hkd : m.kind = 4) (hn : m.n = s.du) :
    Calls Try.prog 16 #[.pointer (some ⟨k, 0, none⟩), .agg #[.int .i64 m.kind, .int .u64 (m.ep : Int), .int .u64 (m.n : Int), .int .i64 m.task]] w fun r w' => r = .returned (.tuple #[.int .u64 0, .slice none 0 0]) ∧ CP w w' k P { s with dn := ansL s.S s.dn m.task } := by
  obtain ⟨W, hW⟩ : ∃ W, W = w.alloc (.cells #[.int .i64 m.kind, .int .u64 (m.ep : Int), .int .u64 (m.n : Int), .int .i64 m.task] 32) := ⟨_, rfl⟩
  have hb1 : Below w.heap.size w W := by rw [hW]; exact below_box w _
  have hx1 : BoxT 32 W w.heap.size #[.int .i64 m.kind, .int .u64 (m.ep : Int), .int .u64 (m.n : Int), .int .i64 m.task] := by rw [hW]; exact BoxT.new _ _ _
  obtain ⟨b0, b1, b2, b3⟩ := hx1.cells4
  have z3 := (h.below hb1).c3
  have z4 := (h.below hb1).c4
  have z5 := (h.below hb1).c5
  have HW := hide hW
  have HB := hide hb1
  have HX := hide hx1
  have H := hide h
  have HT : Hid (In64 m.task) := hide ht
  have KC : Hid (∀ w' : World, Below W.heap.size W w' → w'.cell? ⟨k, 16, none⟩ = some (P.v2) ∧ w'.cell? ⟨k, 17, none⟩ = some (.map (some P.o3)) ∧ w'.cell? ⟨k, 18, none⟩ = some (.map (some P.a3)) ∧ w'.cell? ⟨w.heap.size, 3, none⟩ = some (.int .i64 m.task)) := hide (fun w' hb => ⟨(Take_at HB.out HX.out H.out hb).1.c16, (Take_at HB.out HX.out H.out hb).1.c17, (Take_at HB.out HX.out H.out hb).1.c18, (Take_at HB.out HX.out H.out hb).2⟩)
  have eV : (Value.agg #[.int .i64 m.kind, .int .u64 (m.ep : Int), .int .u64 (m.n : Int), .int .i64 m.task]) = .agg #[.int .i64 4, .int .u64 (s.ep : Int), .int .u64 (s.du : Int), .int .i64 m.task] := by rw [he, hkd, hn]
  rw [he] at b1 HW
  rw [hkd] at b0 HW
  rw [hn] at b2 HW
  rw [eV]
  clear h hW hb1 hx1 he hkd ht hn eV
  go_enter Try.func16, Try.ntmps16
  go_wp2_with fail
  rw [← HW.out]
  go_quiet (fail)
  go_wp2_with fail
  go_quiet (fail)
  go_wp2_with fail
  go_quiet (fail)
  go_wp2_with fail
  refine wp_region_M (S := fun w' => w'.cell? ⟨k, 16, none⟩ = some (P.v2) ∧ w'.cell? ⟨k, 17, none⟩ = some (.map (some P.o3)) ∧ w'.cell? ⟨k, 18, none⟩ = some (.map (some P.a3)) ∧ w'.cell? ⟨w.heap.size, 3, none⟩ = some (.int .i64 m.task)) (late := []) (by kernel_rfl) (KC.out _ (below_drewN (below_drewN (below_drewN (Below.refl _ _) _) _) _).drew) (fun hHeld => ?_)
  (try simp only [List.size_toArray, List.length_cons, List.length_nil, Nat.zero_add, Nat.reduceAdd, Array.replicate, List.replicate])
  refine wpAnyM_take (i := 0) (oi := ⟨_, _, _, _, _, _⟩) (v := ?_) rfl (by kernel_rfl) (by kernel_rfl) (by kernel_rfl) (by kernel_rfl) (fun _ _ _ h => h) (Or.inl ⟨by rfl, ?_⟩) hHeld ?_
  rotate_left
  · (intro w' hSw; (try dsimp only at hSw); go_simp; try (with_reducible rfl))
  (try simp only [Act.put, List.setIfInBounds_toArray, List.set_cons_zero, List.set_cons_succ])
  refine wpAnyM_take (i := 1) (oi := ⟨_, _, _, _, _, _⟩) (v := ?_) rfl (by kernel_rfl) (by kernel_rfl) (by kernel_rfl) (by kernel_rfl) (fun _ _ _ h => h) (Or.inl ⟨by rfl, ?_⟩) hHeld ?_
  rotate_left
  · (intro w' hSw; (try dsimp only at hSw); go_simp; try (with_reducible rfl))
  (try simp only [Act.put, List.setIfInBounds_toArray, List.set_cons_zero, List.set_cons_succ])
  refine wpAnyM_take (i := 2) (oi := ⟨_, _, _, _, _, _⟩) (v := ?_) rfl (by kernel_rfl) (by kernel_rfl) (by kernel_rfl) (by kernel_rfl) (fun _ _ _ h => h) (Or.inl ⟨by rfl, ?_⟩) hHeld ?_
  rotate_left
  · (intro w' hSw; (try dsimp only at hSw); go_simp; try (with_reducible rfl))
  (try simp only [Act.put, List.setIfInBounds_toArray, List.set_cons_zero, List.set_cons_succ])
  refine wpAnyM_take (i := 3) (oi := ⟨_, _, _, _, _, _⟩) (v := ?_) rfl (by kernel_rfl) (by kernel_rfl) (by kernel_rfl) (by kernel_rfl) (fun _ _ _ h => h) (Or.inl ⟨by rfl, ?_⟩) hHeld ?_
  rotate_left
  · (intro w' hSw; (try dsimp only at hSw); go_simp; try (with_reducible rfl))
  (try simp only [Act.put, List.setIfInBounds_toArray, List.set_cons_zero, List.set_cons_succ])
  refine wpAnyM_take (i := 4) (oi := ⟨_, _, _, _, _, _⟩) (v := ?_) rfl (by kernel_rfl) (by kernel_rfl) (by kernel_rfl) (by kernel_rfl) (fun _ _ _ h => h) (Or.inl ⟨by rfl, ?_⟩) hHeld ?_
  rotate_left
  · (intro w' hSw; (try dsimp only at hSw); go_simp; try (with_reducible rfl))
  (try simp only [Act.put, List.setIfInBounds_toArray, List.set_cons_zero, List.set_cons_succ])
  refine wpAnyM_take (i := 5) (oi := ⟨_, _, _, _, _, _⟩) (v := ?_) rfl (by kernel_rfl) (by kernel_rfl) (by kernel_rfl) (by kernel_rfl) (fun _ _ _ h => h) (Or.inl ⟨by rfl, ?_⟩) hHeld ?_
  rotate_left
  · (intro w' hSw; (try dsimp only at hSw); go_simp; try (with_reducible rfl))
  (try simp only [Act.put, List.setIfInBounds_toArray, List.set_cons_zero, List.set_cons_succ])
  refine wpAnyM_one (i := 6) (o := ⟨_, _, _, _, _, _⟩) (by kernel_rfl) rfl (fun K hK => ?_)
  go_simp
  go_at_call 35
  refine (ans3 (Take_at HB.out HX.out H.out (below_drewN (Below.refl _ _) _)).1 HT.out).mono ?_
  rintro e w5 ⟨rfl, c5⟩
  have C5 := hide ((H.out.cp.below (HB.out.trans ((below_drewN (Below.refl _ _) _).mono HB.out.size))).trans c5)
  refine hK.out _ _ (⟨c5.x.c16, c5.x.c17, c5.x.c18, H.out.far (HX.out.below (below_drewN (Below.refl _ _) _)) c5⟩) (fun hHeld => ?_)
  clear hK K
  (try simp only [List.setIfInBounds_toArray, List.set_cons_zero, List.set_cons_succ])
  refine wpAnyM_done (by kernel_rfl) ?_ _
  clear hHeld
  go_wp2_with fail
  refine bodyPost_ret (v := .tuple #[.int .u64 0, .slice none 0 0]) (by simp [results, Try.results16, go_sem]) rfl ⟨rfl, C5.out⟩
set_option maxHeartbeats 4000000 in
set_option maxRecDepth 100000 in
theorem Take_ack0 {w : World} {k : Nat} {P : Sh} {s : Cd} (h : CX w k P s) (m : Ct) (ht : In64 m.task) (he : m.ep = s.ep) (hkd : m.kind = 2) (hn : m.n = s.un) (hu : 0 < s.un) (hr : ansB s.T s.ak m.task = false) :
    Calls Try.prog 16 #[.pointer (some ⟨k, 0, none⟩), .agg #[.int .i64 m.kind, .int .u64 (m.ep : Int), .int .u64 (m.n : Int), .int .i64 m.task]] w fun r w' => r = .returned (.tuple #[.int .u64 0, .slice none 0 0]) ∧ CP w w' k P { s with ak := ansL s.T s.ak m.task } := by
  obtain ⟨W, hW⟩ : ∃ W, W = w.alloc (.cells #[.int .i64 m.kind, .int .u64 (m.ep : Int), .int .u64 (m.n : Int), .int .i64 m.task] 32) := ⟨_, rfl⟩
  have hb1 : Below w.heap.size w W := by rw [hW]; exact below_box w _
  have hx1 : BoxT 32 W w.heap.size #[.int .i64 m.kind, .int .u64 (m.ep : Int), .int .u64 (m.n : Int), .int .i64 m.task] := by rw [hW]; exact BoxT.new _ _ _
  obtain ⟨b0, b1, b2, b3⟩ := hx1.cells4
  have z3 := (h.below hb1).c3
  have z4 := (h.below hb1).c4
  have z5 := (h.below hb1).c5
  have HW := hide hW
  have HB := hide hb1
  have HX := hide hx1
  have H := hide h
  have HT : Hid (In64 m.task) := hide ht
  have KC : Hid (∀ w' : World, Below W.heap.size W w' → w'.cell? ⟨k, 13, none⟩ = some (P.v1) ∧ w'.cell? ⟨k, 14, none⟩ = some (.map (some P.o2)) ∧ w'.cell? ⟨k, 15, none⟩ = some (.map (some P.a2)) ∧ w'.cell? ⟨w.heap.size, 3, none⟩ = some (.int .i64 m.task)) := hide (fun w' hb => ⟨(Take_at HB.out HX.out H.out hb).1.c13, (Take_at HB.out HX.out H.out hb).1.c14, (Take_at HB.out HX.out H.out hb).1.c15, (Take_at HB.out HX.out H.out hb).2⟩)
  have eV : (Value.agg #[.int .i64 m.kind, .int .u64 (m.ep : Int), .int .u64 (m.n : Int), .int .i64 m.task]) = .agg #[.int .i64 2, .int .u64 (s.ep : Int), .int .u64 (s.un : Int), .int .i64 m.task] := by rw [he, hkd, hn]
  rw [he] at b1 HW
  rw [hkd] at b0 HW
  rw [hn] at b2 HW
  rw [eV]
  clear h hW hb1 hx1 he hkd ht hn eV
  go_enter Try.func16, Try.ntmps16
  go_wp2_with fail
  rw [← HW.out]
  have HR := hide hr
  clear hr
  have bu : ((s.un : Int) > 0) := by omega
  clear hu
  go_quiet (fail)
  go_wp2_with fail
  go_quiet (fail)
  go_wp2_with fail
  go_quiet (fail)
  go_wp2_with fail
  go_quiet (fail)
  go_wp2_with fail
  refine wp_region_M (S := fun w' => w'.cell? ⟨k, 13, none⟩ = some (P.v1) ∧ w'.cell? ⟨k, 14, none⟩ = some (.map (some P.o2)) ∧ w'.cell? ⟨k, 15, none⟩ = some (.map (some P.a2)) ∧ w'.cell? ⟨w.heap.size, 3, none⟩ = some (.int .i64 m.task)) (late := []) (by kernel_rfl) (KC.out _ (below_drewN (below_drewN (below_drewN (below_drewN (Below.refl _ _) _) _) _) _).drew) (fun hHeld => ?_)
  (try simp only [List.size_toArray, List.length_cons, List.length_nil, Nat.zero_add, Nat.reduceAdd, Array.replicate, List.replicate])
  refine wpAnyM_take (i := 0) (oi := ⟨_, _, _, _, _, _⟩) (v := ?_) rfl (by kernel_rfl) (by kernel_rfl) (by kernel_rfl) (by kernel_rfl) (fun _ _ _ h => h) (Or.inl ⟨by rfl, ?_⟩) hHeld ?_
  rotate_left
  · (intro w' hSw; (try dsimp only at hSw); go_simp; try (with_reducible rfl))
  (try simp only [Act.put, List.setIfInBounds_toArray, List.set_cons_zero, List.set_cons_succ])
  refine wpAnyM_take (i := 1) (oi := ⟨_, _, _, _, _, _⟩) (v := ?_) rfl (by kernel_rfl) (by kernel_rfl) (by kernel_rfl) (by kernel_rfl) (fun _ _ _ h => h) (Or.inl ⟨by rfl, ?_⟩) hHeld ?_
  rotate_left
  · (intro w' hSw; (try dsimp only at hSw); go_simp; try (with_reducible rfl))
  (try simp only [Act.put, List.setIfInBounds_toArray, List.set_cons_zero, List.set_cons_succ])
  refine wpAnyM_take (i := 2) (oi := ⟨_, _, _, _, _, _⟩) (v := ?_) rfl (by kernel_rfl) (by kernel_rfl) (by kernel_rfl) (by kernel_rfl) (fun _ _ _ h => h) (Or.inl ⟨by rfl, ?_⟩) hHeld ?_
  rotate_left
  · (intro w' hSw; (try dsimp only at hSw); go_simp; try (with_reducible rfl))
  (try simp only [Act.put, List.setIfInBounds_toArray, List.set_cons_zero, List.set_cons_succ])
  refine wpAnyM_take (i := 3) (oi := ⟨_, _, _, _, _, _⟩) (v := ?_) rfl (by kernel_rfl) (by kernel_rfl) (by kernel_rfl) (by kernel_rfl) (fun _ _ _ h => h) (Or.inl ⟨by rfl, ?_⟩) hHeld ?_
  rotate_left
  · (intro w' hSw; (try dsimp only at hSw); go_simp; try (with_reducible rfl))
  (try simp only [Act.put, List.setIfInBounds_toArray, List.set_cons_zero, List.set_cons_succ])
  refine wpAnyM_take (i := 4) (oi := ⟨_, _, _, _, _, _⟩) (v := ?_) rfl (by kernel_rfl) (by kernel_rfl) (by kernel_rfl) (by kernel_rfl) (fun _ _ _ h => h) (Or.inl ⟨by rfl, ?_⟩) hHeld ?_
  rotate_left
  · (intro w' hSw; (try dsimp only at hSw); go_simp; try (with_reducible rfl))
  (try simp only [Act.put, List.setIfInBounds_toArray, List.set_cons_zero, List.set_cons_succ])
  refine wpAnyM_take (i := 5) (oi := ⟨_, _, _, _, _, _⟩) (v := ?_) rfl (by kernel_rfl) (by kernel_rfl) (by kernel_rfl) (by kernel_rfl) (fun _ _ _ h => h) (Or.inl ⟨by rfl, ?_⟩) hHeld ?_
  rotate_left
  · (intro w' hSw; (try dsimp only at hSw); go_simp; try (with_reducible rfl))
  (try simp only [Act.put, List.setIfInBounds_toArray, List.set_cons_zero, List.set_cons_succ])
  refine wpAnyM_one (i := 6) (o := ⟨_, _, _, _, _, _⟩) (by kernel_rfl) rfl (fun K hK => ?_)
  go_simp
  go_at_call 35
  refine (ans2 (Take_at HB.out HX.out H.out (below_drewN (Below.refl _ _) _)).1 HT.out).mono ?_
  rintro e w5 ⟨rfl, c5⟩
  have C5 := hide ((H.out.cp.below (HB.out.trans ((below_drewN (Below.refl _ _) _).mono HB.out.size))).trans c5)
  refine hK.out _ _ (⟨c5.x.c13, c5.x.c14, c5.x.c15, H.out.far (HX.out.below (below_drewN (Below.refl _ _) _)) c5⟩) (fun hHeld => ?_)
  clear hK K
  (try simp only [List.setIfInBounds_toArray, List.set_cons_zero, List.set_cons_succ])
  refine wpAnyM_done (by kernel_rfl) ?_ _
  clear hHeld
  rw [HR.out]
  go_wp2_with fail
  refine bodyPost_ret (v := .tuple #[.int .u64 0, .slice none 0 0]) (by simp [results, Try.results16, go_sem]) rfl ⟨rfl, C5.out⟩
set_option maxHeartbeats 4000000 in
set_option maxRecDepth 100000 in
theorem Take_ack1 {w : World} {k : Nat} {P : Sh} {s : Cd} (h : CX w k P s) (m : Ct) (ht : In64 m.task) (he : m.ep = s.ep) (hkd : m.kind = 2) (hn : m.n = s.un) (hu : 0 < s.un) (hr : ansB s.T s.ak m.task = true) :
    Calls Try.prog 16 #[.pointer (some ⟨k, 0, none⟩), .agg #[.int .i64 m.kind, .int .u64 (m.ep : Int), .int .u64 (m.n : Int), .int .i64 m.task]] w fun r w' => r = .returned (.tuple #[.int .u64 (s.un : Int), .slice none 0 0]) ∧ CP w w' k P { s with ak := ansL s.T s.ak m.task, st := true } := by
  obtain ⟨W, hW⟩ : ∃ W, W = w.alloc (.cells #[.int .i64 m.kind, .int .u64 (m.ep : Int), .int .u64 (m.n : Int), .int .i64 m.task] 32) := ⟨_, rfl⟩
  have hb1 : Below w.heap.size w W := by rw [hW]; exact below_box w _
  have hx1 : BoxT 32 W w.heap.size #[.int .i64 m.kind, .int .u64 (m.ep : Int), .int .u64 (m.n : Int), .int .i64 m.task] := by rw [hW]; exact BoxT.new _ _ _
  obtain ⟨b0, b1, b2, b3⟩ := hx1.cells4
  have z3 := (h.below hb1).c3
  have z4 := (h.below hb1).c4
  have z5 := (h.below hb1).c5
  have HW := hide hW
  have HB := hide hb1
  have HX := hide hx1
  have H := hide h
  have HT : Hid (In64 m.task) := hide ht
  have KC : Hid (∀ w' : World, Below W.heap.size W w' → w'.cell? ⟨k, 13, none⟩ = some (P.v1) ∧ w'.cell? ⟨k, 14, none⟩ = some (.map (some P.o2)) ∧ w'.cell? ⟨k, 15, none⟩ = some (.map (some P.a2)) ∧ w'.cell? ⟨w.heap.size, 3, none⟩ = some (.int .i64 m.task)) := hide (fun w' hb => ⟨(Take_at HB.out HX.out H.out hb).1.c13, (Take_at HB.out HX.out H.out hb).1.c14, (Take_at HB.out HX.out H.out hb).1.c15, (Take_at HB.out HX.out H.out hb).2⟩)
  have eV : (Value.agg #[.int .i64 m.kind, .int .u64 (m.ep : Int), .int .u64 (m.n : Int), .int .i64 m.task]) = .agg #[.int .i64 2, .int .u64 (s.ep : Int), .int .u64 (s.un : Int), .int .i64 m.task] := by rw [he, hkd, hn]
  rw [he] at b1 HW
  rw [hkd] at b0 HW
  rw [hn] at b2 HW
  rw [eV]
  clear h hW hb1 hx1 he hkd ht hn eV
  go_enter Try.func16, Try.ntmps16
  go_wp2_with fail
  rw [← HW.out]
  have HR := hide hr
  clear hr
  have bu : ((s.un : Int) > 0) := by omega
  clear hu
  go_quiet (fail)
  go_wp2_with fail
  go_quiet (fail)
  go_wp2_with fail
  go_quiet (fail)
  go_wp2_with fail
  go_quiet (fail)
  go_wp2_with fail
  refine wp_region_M (S := fun w' => w'.cell? ⟨k, 13, none⟩ = some (P.v1) ∧ w'.cell? ⟨k, 14, none⟩ = some (.map (some P.o2)) ∧ w'.cell? ⟨k, 15, none⟩ = some (.map (some P.a2)) ∧ w'.cell? ⟨w.heap.size, 3, none⟩ = some (.int .i64 m.task)) (late := []) (by kernel_rfl) (KC.out _ (below_drewN (below_drewN (below_drewN (below_drewN (Below.refl _ _) _) _) _) _).drew) (fun hHeld => ?_)
  (try simp only [List.size_toArray, List.length_cons, List.length_nil, Nat.zero_add, Nat.reduceAdd, Array.replicate, List.replicate])
  refine wpAnyM_take (i := 0) (oi := ⟨_, _, _, _, _, _⟩) (v := ?_) rfl (by kernel_rfl) (by kernel_rfl) (by kernel_rfl) (by kernel_rfl) (fun _ _ _ h => h) (Or.inl ⟨by rfl, ?_⟩) hHeld ?_
  rotate_left
  · (intro w' hSw; (try dsimp only at hSw); go_simp; try (with_reducible rfl))
  (try simp only [Act.put, List.setIfInBounds_toArray, List.set_cons_zero, List.set_cons_succ])
  refine wpAnyM_take (i := 1) (oi := ⟨_, _, _, _, _, _⟩) (v := ?_) rfl (by kernel_rfl) (by kernel_rfl) (by kernel_rfl) (by kernel_rfl) (fun _ _ _ h => h) (Or.inl ⟨by rfl, ?_⟩) hHeld ?_
  rotate_left
  · (intro w' hSw; (try dsimp only at hSw); go_simp; try (with_reducible rfl))
  (try simp only [Act.put, List.setIfInBounds_toArray, List.set_cons_zero, List.set_cons_succ])
  refine wpAnyM_take (i := 2) (oi := ⟨_, _, _, _, _, _⟩) (v := ?_) rfl (by kernel_rfl) (by kernel_rfl) (by kernel_rfl) (by kernel_rfl) (fun _ _ _ h => h) (Or.inl ⟨by rfl, ?_⟩) hHeld ?_
  rotate_left
  · (intro w' hSw; (try dsimp only at hSw); go_simp; try (with_reducible rfl))
  (try simp only [Act.put, List.setIfInBounds_toArray, List.set_cons_zero, List.set_cons_succ])
  refine wpAnyM_take (i := 3) (oi := ⟨_, _, _, _, _, _⟩) (v := ?_) rfl (by kernel_rfl) (by kernel_rfl) (by kernel_rfl) (by kernel_rfl) (fun _ _ _ h => h) (Or.inl ⟨by rfl, ?_⟩) hHeld ?_
  rotate_left
  · (intro w' hSw; (try dsimp only at hSw); go_simp; try (with_reducible rfl))
  (try simp only [Act.put, List.setIfInBounds_toArray, List.set_cons_zero, List.set_cons_succ])
  refine wpAnyM_take (i := 4) (oi := ⟨_, _, _, _, _, _⟩) (v := ?_) rfl (by kernel_rfl) (by kernel_rfl) (by kernel_rfl) (by kernel_rfl) (fun _ _ _ h => h) (Or.inl ⟨by rfl, ?_⟩) hHeld ?_
  rotate_left
  · (intro w' hSw; (try dsimp only at hSw); go_simp; try (with_reducible rfl))
  (try simp only [Act.put, List.setIfInBounds_toArray, List.set_cons_zero, List.set_cons_succ])
  refine wpAnyM_take (i := 5) (oi := ⟨_, _, _, _, _, _⟩) (v := ?_) rfl (by kernel_rfl) (by kernel_rfl) (by kernel_rfl) (by kernel_rfl) (fun _ _ _ h => h) (Or.inl ⟨by rfl, ?_⟩) hHeld ?_
  rotate_left
  · (intro w' hSw; (try dsimp only at hSw); go_simp; try (with_reducible rfl))
  (try simp only [Act.put, List.setIfInBounds_toArray, List.set_cons_zero, List.set_cons_succ])
  refine wpAnyM_one (i := 6) (o := ⟨_, _, _, _, _, _⟩) (by kernel_rfl) rfl (fun K hK => ?_)
  go_simp
  go_at_call 35
  refine (ans2 (Take_at HB.out HX.out H.out (below_drewN (Below.refl _ _) _)).1 HT.out).mono ?_
  rintro e w5 ⟨rfl, c5⟩
  have C5 := hide ((H.out.cp.below (HB.out.trans ((below_drewN (Below.refl _ _) _).mono HB.out.size))).trans c5)
  refine hK.out _ _ (⟨c5.x.c13, c5.x.c14, c5.x.c15, H.out.far (HX.out.below (below_drewN (Below.refl _ _) _)) c5⟩) (fun hHeld => ?_)
  clear hK K
  (try simp only [List.setIfInBounds_toArray, List.set_cons_zero, List.set_cons_succ])
  refine wpAnyM_done (by kernel_rfl) ?_ _
  clear hHeld
  rw [HR.out]
  have y5 : w5.cell? ⟨k, 5, none⟩ = some (.int .u64 (s.un : Int)) := C5.out.x.c5
  have y6 : w5.cell? ⟨k, 6, none⟩ = some (.bool s.st) := C5.out.x.c6
  have yf := C5.out.x.wfree
  go_wp2_with fail
  refine bodyPost_ret (v := .tuple #[.int .u64 (s.un : Int), .slice none 0 0]) (by simp [results, Try.results16, go_sem]) rfl ⟨rfl, ?_⟩
  exact C5.out.set { s with ak := ansL s.T s.ak m.task, st := true } 6 (.bool true) rfl rfl rfl rfl rfl rfl
theorem Take_any {w : World} {k : Nat} {P : Sh} {s : Cd} (h : CX w k P s) (m : Ct) (ht : In64 m.task) :
    Calls Try.prog 16 #[.pointer (some ⟨k, 0, none⟩), .agg #[.int .i64 m.kind, .int .u64 (m.ep : Int), .int .u64 (m.n : Int), .int .i64 m.task]] w fun r w' => r = .returned (.tuple #[.int .u64 (cTakeN s m : Int), .slice none 0 0]) ∧ CP w w' k P (cTakeS s m) := by
  by_cases he : m.ep = s.ep
  · by_cases h6 : m.kind = 6 ∧ m.n = s.du
    · have e1 : cTakeS s m = { s with rd := ansL s.T s.rd m.task } := by unfold cTakeS; rw [if_neg (fun h => h he), if_pos h6]
      have e2 : cTakeN s m = 0 := by unfold cTakeN; rw [if_neg (fun h => h he), if_pos h6]
      rw [e1, e2]
      exact Take_ready h m ht he h6.1 h6.2
    · by_cases h4 : m.kind = 4 ∧ m.n = s.du
      · have e1 : cTakeS s m = { s with dn := ansL s.S s.dn m.task } := by unfold cTakeS; rw [if_neg (fun h => h he), if_neg h6, if_pos h4]
        have e2 : cTakeN s m = 0 := by unfold cTakeN; rw [if_neg (fun h => h he), if_neg h6, if_pos h4]
        rw [e1, e2]
        exact Take_done h m ht he h4.1 h4.2
      · by_cases h2 : m.kind = 2 ∧ m.n = s.un ∧ 0 < s.un
        · have e1 : cTakeS s m = { s with ak := ansL s.T s.ak m.task, st := s.st || ansB s.T s.ak m.task } := by unfold cTakeS; rw [if_neg (fun h => h he), if_neg h6, if_neg h4, if_pos h2]
          by_cases hr : ansB s.T s.ak m.task = true
          · have e2 : cTakeN s m = s.un := by unfold cTakeN; rw [if_neg (fun h => h he), if_neg h6, if_neg h4, if_pos ⟨h2.1, h2.2.1, h2.2.2, hr⟩]
            rw [e1, e2, hr, Bool.or_true]
            exact Take_ack1 h m ht he h2.1 h2.2.1 h2.2.2 hr
          · have e2 : cTakeN s m = 0 := by unfold cTakeN; rw [if_neg (fun h => h he), if_neg h6, if_neg h4, if_neg (fun h => hr h.2.2.2)]
            have hr' : ansB s.T s.ak m.task = false := by simpa using hr
            rw [e1, e2, hr', Bool.or_false]
            exact Take_ack0 h m ht he h2.1 h2.2.1 h2.2.2 hr'
        · have e1 : cTakeS s m = s := by unfold cTakeS; rw [if_neg (fun h => h he), if_neg h6, if_neg h4, if_neg h2]
          have e2 : cTakeN s m = 0 := by unfold cTakeN; rw [if_neg (fun h => h he), if_neg h6, if_neg h4, if_neg (fun h => h2 ⟨h.1, h.2.1, h.2.2.1⟩)]
          rw [e1, e2]
          exact Take_none h m he h6 h4 h2
  · have e1 : cTakeS s m = s := if_pos he
    have e2 : cTakeN s m = 0 := if_pos he
    rw [e1, e2]
    exact Take_old h m he

end Go.Proofs.Ytgjjacljjlhnhaa
