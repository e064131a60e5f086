/-
  Stores: beginNext.
-/
import Derived.Test.YtgjjacljjlhnhaaCBox
namespace Go.Proofs.Ytgjjacljjlhnhaa
open Go.RowKit

section
variable {w w' : World} {k : Nat} {P : Sh} {s : Cd}
theorem CX.set (h : CX w k P s) (s' : Cd) (j : Nat) (u : Value) (hc : (s.cells P).setIfInBounds j u = s'.cells P) (hT : s'.T = s.T) (hS : s'.S = s.S) (hr : s'.rd = s.rd) (ha : s'.ak = s.ak) (hd : s'.dn = s.dn) : CX (w.setCell ⟨k, j, none⟩ u) k P s' := by
  have hb : ∀ i, i ≠ k → (w.setCell ⟨k, j, none⟩ u).heap[i]? = w.heap[i]? := fun i hi => Below.heap_setCell w ⟨k, j, none⟩ u i hi
  have hrow : ∀ {v : Value} {l : List Int}, OwnL 3 1 i64cs 0 w v l → ∀ g, v.ownBlock = some g → g ≠ k := fun ho g e => by
    obtain ⟨cur, hcur⟩ := ho.has g e
    exact BoxT.ne (t := 3) (t' := 59) hcur h.box (by decide)
  exact { box := hc ▸ h.box.set j u
          r1 := by rw [hT]; exact h.r1.back (fun g e => hb g (hrow h.r1 g e))
          r2 := by rw [hS]; exact h.r2.back (fun g e => hb g (hrow h.r2 g e))
          p1 := by rw [hT]; exact h.p1.back (hb _ (h.p1.noBox h.box).symm)
          p2 := by rw [hT]; exact h.p2.back (hb _ (h.p2.noBox h.box).symm)
          p3 := by rw [hS]; exact h.p3.back (hb _ (h.p3.noBox h.box).symm)
          q1 := by rw [hr]; exact h.q1.back (hb _ (h.q1.noBox h.box).symm)
          q2 := by rw [ha]; exact h.q2.back (hb _ (h.q2.noBox h.box).symm)
          q3 := by rw [hd]; exact h.q3.back (hb _ (h.q3.noBox h.box).symm)
          n1 := h.n1, ts := by rw [hT, hS]; exact h.ts }
theorem CX.ne (h : CX w k P s) : P.a1 ≠ P.o1 ∧ P.a1 ≠ P.o2 ∧ P.a1 ≠ P.o3 ∧ P.a2 ≠ P.o1 ∧ P.a2 ≠ P.o2 ∧ P.a2 ≠ P.o3 ∧ P.a3 ≠ P.o1 ∧ P.a3 ≠ P.o2 ∧ P.a3 ≠ P.o3 ∧ P.a1 ≠ P.a2 ∧ P.a1 ≠ P.a3 ∧ P.a2 ≠ P.a3 := by
  have := h.n1
  simp only [List.nodup_cons, List.mem_cons, List.not_mem_nil, or_false, not_or] at this
  obtain ⟨⟨_, _, e1, e2, e3⟩, ⟨_, f1, f2, f3⟩, ⟨g1, g2, g3⟩, ⟨i1, i2⟩, i3, _⟩ := this
  exact ⟨Ne.symm e1, Ne.symm f1, Ne.symm g1, Ne.symm e2, Ne.symm f2, Ne.symm g2, Ne.symm e3, Ne.symm f3, Ne.symm g3, i1, i2, i3⟩
theorem CX.turn1 (h : CX w k P s) {A : List Int} (hA : SetAt w' P.a1 A) (hg : w.grownBy w' (some P.a1)) : CX w' k P { s with rd := A } := by
  obtain ⟨e1, e2, e3, f1, f2, f3, g1, g2, g3, i1, i2, i3⟩ := h.ne
  have hb : ∀ i, i < w.heap.size → i ≠ P.a1 → w'.heap[i]? = w.heap[i]? := fun i h1 h2 => hg.block i h1 (fun e => h2 (by cases e; rfl))
  exact { box := h.box.back (hb _ h.box.lt (h.q1.noBox h.box)), r1 := h.r1.back (fun g e => hb g (h.r1.lt g e) (fun e2 => h.q1.noRow h.r1 (e2 ▸ e))), r2 := h.r2.back (fun g e => hb g (h.r2.lt g e) (fun e2 => h.q1.noRow h.r2 (e2 ▸ e))),
          p1 := h.p1.back (hb _ h.p1.lt e1.symm), p2 := h.p2.back (hb _ h.p2.lt e2.symm), p3 := h.p3.back (hb _ h.p3.lt e3.symm), q1 := hA, q2 := h.q2.back (hb _ h.q2.lt i1.symm), q3 := h.q3.back (hb _ h.q3.lt i2.symm), n1 := h.n1, ts := h.ts }
theorem CX.turn2 (h : CX w k P s) {A : List Int} (hA : SetAt w' P.a2 A) (hg : w.grownBy w' (some P.a2)) : CX w' k P { s with ak := A } := by
  obtain ⟨e1, e2, e3, f1, f2, f3, g1, g2, g3, i1, i2, i3⟩ := h.ne
  have hb : ∀ i, i < w.heap.size → i ≠ P.a2 → w'.heap[i]? = w.heap[i]? := fun i h1 h2 => hg.block i h1 (fun e => h2 (by cases e; rfl))
  exact { box := h.box.back (hb _ h.box.lt (h.q2.noBox h.box)), r1 := h.r1.back (fun g e => hb g (h.r1.lt g e) (fun e2 => h.q2.noRow h.r1 (e2 ▸ e))), r2 := h.r2.back (fun g e => hb g (h.r2.lt g e) (fun e2 => h.q2.noRow h.r2 (e2 ▸ e))),
          p1 := h.p1.back (hb _ h.p1.lt f1.symm), p2 := h.p2.back (hb _ h.p2.lt f2.symm), p3 := h.p3.back (hb _ h.p3.lt f3.symm), q1 := h.q1.back (hb _ h.q1.lt i1), q2 := hA, q3 := h.q3.back (hb _ h.q3.lt i3.symm), n1 := h.n1, ts := h.ts }
theorem CX.turn3 (h : CX w k P s) {A : List Int} (hA : SetAt w' P.a3 A) (hg : w.grownBy w' (some P.a3)) : CX w' k P { s with dn := A } := by
  obtain ⟨e1, e2, e3, f1, f2, f3, g1, g2, g3, i1, i2, i3⟩ := h.ne
  have hb : ∀ i, i < w.heap.size → i ≠ P.a3 → w'.heap[i]? = w.heap[i]? := fun i h1 h2 => hg.block i h1 (fun e => h2 (by cases e; rfl))
  exact { box := h.box.back (hb _ h.box.lt (h.q3.noBox h.box)), r1 := h.r1.back (fun g e => hb g (h.r1.lt g e) (fun e2 => h.q3.noRow h.r1 (e2 ▸ e))), r2 := h.r2.back (fun g e => hb g (h.r2.lt g e) (fun e2 => h.q3.noRow h.r2 (e2 ▸ e))),
          p1 := h.p1.back (hb _ h.p1.lt g1.symm), p2 := h.p2.back (hb _ h.p2.lt g2.symm), p3 := h.p3.back (hb _ h.p3.lt g3.symm), q1 := h.q1.back (hb _ h.q1.lt i2), q2 := h.q2.back (hb _ h.q2.lt i3), q3 := hA, n1 := h.n1, ts := h.ts }
end
/-- What a call leaves: the coordinator, and all else as it was. -/
structure CP (w w' : World) (k : Nat) (P : Sh) (s' : Cd) : Prop where
  x : CX w' k P s'
  f : FT (Mu P k) (Mu P k) w w'
theorem CP.trans {w w1 w2 : World} {k : Nat} {P : Sh} {s1 s2 : Cd} (h : CP w w1 k P s1) (h2 : CP w1 w2 k P s2) : CP w w2 k P s2 := ⟨h2.x, h.f.trans h2.f⟩
theorem CP.below {w w1 w2 : World} {k : Nat} {P : Sh} {s1 : Cd} (h : CP w w1 k P s1) (h2 : Below w1.heap.size w1 w2) : CP w w2 k P s1 := ⟨h.x.below h2, h.f.trans (FT.of_below h2)⟩
theorem CX.cp {w : World} {k : Nat} {P : Sh} {s : Cd} (h : CX w k P s) : CP w w k P s := ⟨h, FT.refl _ _⟩
theorem CP.drew {w w1 : World} {k : Nat} {P : Sh} {s1 : Cd} (h : CP w w1 k P s1) : CP w w1.drew k P s1 := h.below (Below.refl _ _).drew
theorem CP.set {w w1 : World} {k : Nat} {P : Sh} {s1 : Cd} (h : CP w w1 k P s1) (s' : Cd) (j : Nat) (u : Value) (hc : (s1.cells P).setIfInBounds j u = s'.cells P) (hT : s'.T = s1.T) (hS : s'.S = s1.S) (hr : s'.rd = s1.rd) (ha : s'.ak = s1.ak) (hd : s'.dn = s1.dn) : CP w (w1.setCell ⟨k, j, none⟩ u) k P s' :=
  ⟨h.x.set s' j u hc hT hS hr ha hd, h.f.trans (FT.set w1 (.inl rfl) j u)⟩
theorem CX.wfree {w : World} {k : Nat} {P : Sh} {s : Cd} (h : CX w k P s) (j : Nat) : w.frozen? ⟨k, j, none⟩ = false := h.box.free j
theorem CX.c0 {w : World} {k : Nat} {P : Sh} {s : Cd} (h : CX w k P s) : w.cell? ⟨k, 0, none⟩ = some (.int .i64 (s.iv : Int)) := h.at_ 0
theorem CX.c1 {w : World} {k : Nat} {P : Sh} {s : Cd} (h : CX w k P s) : w.cell? ⟨k, 1, none⟩ = some (.int .i64 (s.to_ : Int)) := h.at_ 1
theorem CX.c2 {w : World} {k : Nat} {P : Sh} {s : Cd} (h : CX w k P s) : w.cell? ⟨k, 2, none⟩ = some (.int .i64 (s.pa : Int)) := h.at_ 2
theorem CX.c3 {w : World} {k : Nat} {P : Sh} {s : Cd} (h : CX w k P s) : w.cell? ⟨k, 3, none⟩ = some (.int .u64 (s.ep : Int)) := h.at_ 3
theorem CX.c4 {w : World} {k : Nat} {P : Sh} {s : Cd} (h : CX w k P s) : w.cell? ⟨k, 4, none⟩ = some (.int .u64 (s.du : Int)) := h.at_ 4
theorem CX.c5 {w : World} {k : Nat} {P : Sh} {s : Cd} (h : CX w k P s) : w.cell? ⟨k, 5, none⟩ = some (.int .u64 (s.un : Int)) := h.at_ 5
theorem CX.c6 {w : World} {k : Nat} {P : Sh} {s : Cd} (h : CX w k P s) : w.cell? ⟨k, 6, none⟩ = some (.bool s.st) := h.at_ 6
theorem CX.c7 {w : World} {k : Nat} {P : Sh} {s : Cd} (h : CX w k P s) : w.cell? ⟨k, 7, none⟩ = some (.int .u64 (s.gr : Int)) := h.at_ 7
theorem CX.c8 {w : World} {k : Nat} {P : Sh} {s : Cd} (h : CX w k P s) : w.cell? ⟨k, 8, none⟩ = some (.int .i64 (s.ti : Int)) := h.at_ 8
theorem CX.c9 {w : World} {k : Nat} {P : Sh} {s : Cd} (h : CX w k P s) : w.cell? ⟨k, 9, none⟩ = some (.int .i64 (s.be : Int)) := h.at_ 9
theorem CX.c10 {w : World} {k : Nat} {P : Sh} {s : Cd} (h : CX w k P s) : w.cell? ⟨k, 10, none⟩ = some (P.v1) := h.at_ 10
theorem CX.c11 {w : World} {k : Nat} {P : Sh} {s : Cd} (h : CX w k P s) : w.cell? ⟨k, 11, none⟩ = some (.map (some P.o1)) := h.at_ 11
theorem CX.c12 {w : World} {k : Nat} {P : Sh} {s : Cd} (h : CX w k P s) : w.cell? ⟨k, 12, none⟩ = some (.map (some P.a1)) := h.at_ 12
theorem CX.c13 {w : World} {k : Nat} {P : Sh} {s : Cd} (h : CX w k P s) : w.cell? ⟨k, 13, none⟩ = some (P.v1) := h.at_ 13
theorem CX.c14 {w : World} {k : Nat} {P : Sh} {s : Cd} (h : CX w k P s) : w.cell? ⟨k, 14, none⟩ = some (.map (some P.o2)) := h.at_ 14
theorem CX.c15 {w : World} {k : Nat} {P : Sh} {s : Cd} (h : CX w k P s) : w.cell? ⟨k, 15, none⟩ = some (.map (some P.a2)) := h.at_ 15
theorem CX.c16 {w : World} {k : Nat} {P : Sh} {s : Cd} (h : CX w k P s) : w.cell? ⟨k, 16, none⟩ = some (P.v2) := h.at_ 16
theorem CX.c17 {w : World} {k : Nat} {P : Sh} {s : Cd} (h : CX w k P s) : w.cell? ⟨k, 17, none⟩ = some (.map (some P.o3)) := h.at_ 17
theorem CX.c18 {w : World} {k : Nat} {P : Sh} {s : Cd} (h : CX w k P s) : w.cell? ⟨k, 18, none⟩ = some (.map (some P.a3)) := h.at_ 18
theorem wrap64u {n : Nat} (h : n < 18446744073709551616) : IntKind.u64.wrap (n : Int) = (n : Int) := by
  simp [IntKind.wrap, IntKind.bits, IntKind.signed]
  omega
set_option maxHeartbeats 4000000 in
set_option maxRecDepth 100000 in
theorem beginNext_any {w : World} {k : Nat} {P : Sh} {s : Cd} (h : CX w k P s) (hg : s.gr < 4611686018427387904) :
    Calls Try.prog 40 #[.pointer (some ⟨k, 0, none⟩)] w fun e w' => e = .returned (.tuple #[]) ∧ CP w w' k P (cNext s) := by
  have z7 := h.c7
  have zf := h.wfree
  have hw : IntKind.u64.wrap ((s.gr : Int) + 1) = (s.gr : Int) + 1 := wrap64u (n := s.gr + 1) (by omega)
  have C1 := hide (h.cp.set { s with gr := s.gr + 1 } 7 (.int .u64 ((s.gr : Int) + 1)) rfl rfl rfl rfl rfl rfl)
  obtain ⟨w1, hw1⟩ : ∃ w1, w1 = w.setCell ⟨k, 7, none⟩ (.int .u64 ((s.gr : Int) + 1)) := ⟨_, rfl⟩
  rw [← hw1] at C1
  have HW1 := hide hw1
  clear hw1
  have KC : Hid (w1.drew.cell? ⟨k, 7, none⟩ = some (.int .u64 ((s.gr : Int) + 1)) ∧ w1.drew.cell? ⟨k, 8, none⟩ = some (.int .i64 (s.ti : Int))) := hide ⟨C1.out.drew.x.c7, C1.out.drew.x.c8⟩
  have C3 := hide (C1.out.drew.set { s with gr := s.gr + 1, un := s.gr + 1 } 5 (.int .u64 ((s.gr : Int) + 1)) rfl rfl rfl rfl rfl rfl)
  have C4 := hide (C3.out.set { s with gr := s.gr + 1, un := s.gr + 1, be := s.ti } 9 (.int .i64 (s.ti : Int)) rfl rfl rfl rfl rfl rfl)
  have y5 : w1.cell? ⟨k, 5, none⟩ = some (.int .u64 (s.un : Int)) := C1.out.x.c5
  have y9 : w1.cell? ⟨k, 9, none⟩ = some (.int .i64 (s.be : Int)) := C1.out.x.c9
  have yf := C1.out.x.wfree
  clear h
  go_enter Try.func40, Try.ntmps40
  go_wp2_with fail
  rw [← HW1.out]
  refine wp_region_M (S := fun w' => w'.cell? ⟨k, 7, none⟩ = some (.int .u64 ((s.gr : Int) + 1)) ∧ w'.cell? ⟨k, 8, none⟩ = some (.int .i64 (s.ti : Int))) (late := []) (by kernel_rfl) KC.out (fun hHeld => ?_)
  (try simp only [List.size_toArray, List.length_cons, List.length_nil, Nat.zero_add, Nat.reduceAdd, Array.replicate, List.replicate])
  refine wpAnyM_take (i := 0) (oi := ⟨_, _, _, _, _, _⟩) (v := ?_) rfl (by kernel_rfl) (by kernel_rfl) (by kernel_rfl) (by kernel_rfl) (fun _ _ _ h => h) (Or.inl ⟨by rfl, ?_⟩) hHeld ?_
  rotate_left
  · (intro w' hSw; (try dsimp only at hSw); go_simp; try (with_reducible rfl))
  (try simp only [Act.put, List.setIfInBounds_toArray, List.set_cons_zero, List.set_cons_succ])
  refine wpAnyM_take (i := 1) (oi := ⟨_, _, _, _, _, _⟩) (v := ?_) rfl (by kernel_rfl) (by kernel_rfl) (by kernel_rfl) (by kernel_rfl) (fun _ _ _ h => h) (Or.inl ⟨by rfl, ?_⟩) hHeld ?_
  rotate_left
  · (intro w' hSw; (try dsimp only at hSw); go_simp; try (with_reducible rfl))
  (try simp only [Act.put, List.setIfInBounds_toArray, List.set_cons_zero, List.set_cons_succ])
  refine wpAnyM_take (i := 2) (oi := ⟨_, _, _, _, _, _⟩) (v := ?_) rfl (by kernel_rfl) (by kernel_rfl) (by kernel_rfl) (by kernel_rfl) (fun _ _ _ h => h) (Or.inl ⟨by rfl, ?_⟩) hHeld ?_
  rotate_left
  · (intro w' hSw; (try dsimp only at hSw); go_simp; try (with_reducible rfl))
  (try simp only [Act.put, List.setIfInBounds_toArray, List.set_cons_zero, List.set_cons_succ])
  refine wpAnyM_take (i := 3) (oi := ⟨_, _, _, _, _, _⟩) (v := ?_) rfl (by kernel_rfl) (by kernel_rfl) (by kernel_rfl) (by kernel_rfl) (fun _ _ _ h => h) (Or.inl ⟨by rfl, ?_⟩) hHeld ?_
  rotate_left
  · (intro w' hSw; (try dsimp only at hSw); go_simp; try (with_reducible rfl))
  (try simp only [Act.put, List.setIfInBounds_toArray, List.set_cons_zero, List.set_cons_succ])
  refine wpAnyM_take (i := 4) (oi := ⟨_, _, _, _, _, _⟩) (v := ?_) rfl (by kernel_rfl) (by kernel_rfl) (by kernel_rfl) (by kernel_rfl) (fun _ _ _ h => h) (Or.inl ⟨by rfl, ?_⟩) hHeld ?_
  rotate_left
  · (intro w' hSw; (try dsimp only at hSw); go_simp; try (with_reducible rfl))
  (try simp only [Act.put, List.setIfInBounds_toArray, List.set_cons_zero, List.set_cons_succ])
  refine wpAnyM_take (i := 5) (oi := ⟨_, _, _, _, _, _⟩) (v := ?_) rfl (by kernel_rfl) (by kernel_rfl) (by kernel_rfl) (by kernel_rfl) (fun _ _ _ h => h) (Or.inl ⟨by rfl, ?_⟩) hHeld ?_
  rotate_left
  · (intro w' hSw; (try dsimp only at hSw); go_simp; try (with_reducible rfl))
  (try simp only [Act.put, List.setIfInBounds_toArray, List.set_cons_zero, List.set_cons_succ])
  refine wpAnyM_take (i := 6) (oi := ⟨_, _, _, _, _, _⟩) (v := ?_) rfl (by kernel_rfl) (by kernel_rfl) (by kernel_rfl) (by kernel_rfl) (fun _ _ _ h => h) (Or.inl ⟨by rfl, ?_⟩) hHeld ?_
  rotate_left
  · (intro w' hSw; (try dsimp only at hSw); go_simp; try (with_reducible rfl))
  (try simp only [Act.put, List.setIfInBounds_toArray, List.set_cons_zero, List.set_cons_succ])
  refine wpAnyM_take (i := 7) (oi := ⟨_, _, _, _, _, _⟩) (v := ?_) rfl (by kernel_rfl) (by kernel_rfl) (by kernel_rfl) (by kernel_rfl) (fun _ _ _ h => h) (Or.inl ⟨by rfl, ?_⟩) hHeld ?_
  rotate_left
  · (intro w' hSw; (try dsimp only at hSw); go_simp; try (with_reducible rfl))
  (try simp only [Act.put, List.setIfInBounds_toArray, List.set_cons_zero, List.set_cons_succ])
  refine wpAnyM_take (i := 8) (oi := ⟨_, _, _, _, _, _⟩) (v := ?_) rfl (by kernel_rfl) (by kernel_rfl) (by kernel_rfl) (by kernel_rfl) (fun _ _ _ h => h) (Or.inl ⟨by rfl, ?_⟩) hHeld ?_
  rotate_left
  · (intro w' hSw; (try dsimp only at hSw); go_simp; try (with_reducible rfl))
  (try simp only [Act.put, List.setIfInBounds_toArray, List.set_cons_zero, List.set_cons_succ])
  refine wpAnyM_take (i := 9) (oi := ⟨_, _, _, _, _, _⟩) (v := ?_) rfl (by kernel_rfl) (by kernel_rfl) (by kernel_rfl) (by kernel_rfl) (fun _ _ _ h => h) (Or.inl ⟨by rfl, ?_⟩) hHeld ?_
  rotate_left
  · (intro w' hSw; (try dsimp only at hSw); go_simp; try (with_reducible rfl))
  (try simp only [Act.put, List.setIfInBounds_toArray, List.set_cons_zero, List.set_cons_succ])
  refine wpAnyM_take (i := 10) (oi := ⟨_, _, _, _, _, _⟩) (v := ?_) rfl (by kernel_rfl) (by kernel_rfl) (by kernel_rfl) (by kernel_rfl) (fun _ _ _ h => h) (Or.inl ⟨by rfl, ?_⟩) hHeld ?_
  rotate_left
  · (intro w' hSw; (try dsimp only at hSw); go_simp; try (with_reducible rfl))
  (try simp only [Act.put, List.setIfInBounds_toArray, List.set_cons_zero, List.set_cons_succ])
  refine wpAnyM_take (i := 11) (oi := ⟨_, _, _, _, _, _⟩) (v := ?_) rfl (by kernel_rfl) (by kernel_rfl) (by kernel_rfl) (by kernel_rfl) (fun _ _ _ h => h) (Or.inl ⟨by rfl, ?_⟩) hHeld ?_
  rotate_left
  · (intro w' hSw; (try dsimp only at hSw); go_simp; try (with_reducible rfl))
  (try simp only [Act.put, List.setIfInBounds_toArray, List.set_cons_zero, List.set_cons_succ])
  refine wpAnyM_one (i := 12) (o := ⟨_, _, _, _, _, _⟩) (by kernel_rfl) rfl (fun K hK => ?_)
  go_simp
  refine hK.out _ _ (⟨C3.out.x.c7, C3.out.x.c8⟩) (fun hHeld => ?_)
  clear hK K
  (try simp only [List.setIfInBounds_toArray, List.set_cons_zero, List.set_cons_succ])
  refine wpAnyM_take (i := 13) (oi := ⟨_, _, _, _, _, _⟩) (v := ?_) rfl (by kernel_rfl) (by kernel_rfl) (by kernel_rfl) (by kernel_rfl) (fun _ _ _ h => h) (Or.inl ⟨by rfl, ?_⟩) hHeld ?_
  rotate_left
  · (intro w' hSw; (try dsimp only at hSw); go_simp; try (with_reducible rfl))
  (try simp only [Act.put, List.setIfInBounds_toArray, List.set_cons_zero, List.set_cons_succ])
  refine wpAnyM_take (i := 14) (oi := ⟨_, _, _, _, _, _⟩) (v := ?_) rfl (by kernel_rfl) (by kernel_rfl) (by kernel_rfl) (by kernel_rfl) (fun _ _ _ h => h) (Or.inl ⟨by rfl, ?_⟩) hHeld ?_
  rotate_left
  · (intro w' hSw; (try dsimp only at hSw); go_simp; try (with_reducible rfl))
  (try simp only [Act.put, List.setIfInBounds_toArray, List.set_cons_zero, List.set_cons_succ])
  refine wpAnyM_one (i := 15) (o := ⟨_, _, _, _, _, _⟩) (by kernel_rfl) rfl (fun K hK => ?_)
  go_simp
  refine hK.out _ _ (⟨C4.out.x.c7, C4.out.x.c8⟩) (fun hHeld => ?_)
  clear hK K
  (try simp only [List.setIfInBounds_toArray, List.set_cons_zero, List.set_cons_succ])
  refine wpAnyM_done (by kernel_rfl) ?_ _
  clear hHeld
  obtain ⟨w4, hw4⟩ : ∃ w4, w4 = ((w1.setCell ⟨k, 5, none⟩ (.int .u64 ((s.gr : Int) + 1))).setCell ⟨k, 9, none⟩ (.int .i64 (s.ti : Int))).drew := ⟨_, rfl⟩
  have C5 : Hid (CP w w4 k P { s with gr := s.gr + 1, un := s.gr + 1, be := s.ti }) := hide (by rw [hw4]; exact C4.out)
  rw [← hw4]
  clear hw4 C4 C3 y5 y9 yf
  have y13 := C5.out.x.c13
  have y14 := C5.out.x.c14
  have y15 := C5.out.x.c15
  go_wp2_with (first | (go_at_call 29; refine (askAgain_any C5.out.x.q2 P.v1 (.map (some P.o2))).mono ?_; rintro e w5 ⟨rfl, s5, g5⟩; have S5 := hide s5; have G5 := hide g5; clear s5 g5) | fail)
  go_end0
  exact ⟨rfl, C5.out.x.turn2 S5.out G5.out, C5.out.f.trans (FT.of_grown G5.out (.inr (.inr (.inl rfl))))⟩

end Go.Proofs.Ytgjjacljjlhnhaa
