/-
  A coordinator as it lies; restores, commits, triggers.
-/
import Derived.Test.YtgjjacljjlhnhaaCTell
import Derived.Test.YtgjjacljjlhnhaaCHold
namespace Go.Proofs.Ytgjjacljjlhnhaa
open Go.RowKit

/-- Where the parts of a coordinator lie. -/
structure Sh where
  v1 : Value
  v2 : Value
  o1 : Nat
  o2 : Nat
  o3 : Nat
  a1 : Nat
  a2 : Nat
  a3 : Nat
def Cd.cells (P : Sh) (s : Cd) : Array Value := #[.int .i64 (s.iv : Int), .int .i64 (s.to_ : Int), .int .i64 (s.pa : Int), .int .u64 (s.ep : Int), .int .u64 (s.du : Int), .int .u64 (s.un : Int), .bool s.st, .int .u64 (s.gr : Int), .int .i64 (s.ti : Int), .int .i64 (s.be : Int), P.v1, .map (some P.o1), .map (some P.a1), P.v1, .map (some P.o2), .map (some P.a2), P.v2, .map (some P.o3), .map (some P.a3)]
/-- The blocks that a call may turn. -/
def Mu (P : Sh) (k : Nat) (i : Nat) : Prop := i = k ∨ i = P.a1 ∨ i = P.a2 ∨ i = P.a3
/-- All blocks of a coordinator. -/
def Fp (P : Sh) (k : Nat) (i : Nat) : Prop := Mu P k i ∨ i = P.o1 ∨ i = P.o2 ∨ i = P.o3 ∨ P.v1.ownBlock = some i ∨ P.v2.ownBlock = some i
/-- Who is asked. -/
structure TS (T S : List Int) : Prop where
  t64 : ∀ x ∈ T, In64 x
  s64 : ∀ x ∈ S, In64 x
  tl4 : T.length ≤ 400000
  sl4 : S.length ≤ 400000
theorem TS.tl {T S : List Int} (h : TS T S) : T.length ≤ 1000000 := by have := h.tl4; omega
theorem TS.sl {T S : List Int} (h : TS T S) : S.length ≤ 1000000 := by have := h.sl4; omega
/-- A coordinator as it lies, with the tasks T, the sinks S. -/
structure CX (w : World) (k : Nat) (P : Sh) (s : Cd) : Prop where
  box : BoxT 59 w k (s.cells P)
  r1 : OwnL 3 1 i64cs 0 w P.v1 s.T
  r2 : OwnL 3 1 i64cs 0 w P.v2 s.S
  p1 : SetAt w P.o1 s.T.reverse
  p2 : SetAt w P.o2 s.T.reverse
  p3 : SetAt w P.o3 s.S.reverse
  q1 : SetAt w P.a1 s.rd
  q2 : SetAt w P.a2 s.ak
  q3 : SetAt w P.a3 s.dn
  n1 : [P.o1, P.o2, P.o3, P.a1, P.a2, P.a3].Nodup
  ts : TS s.T s.S
section
variable {w w' : World} {k : Nat} {P : Sh} {s : Cd}
theorem CX.back (h : CX w k P s) (hb : ∀ i, Fp P k i → w'.heap[i]? = w.heap[i]?) : CX w' k P s :=
  { box := h.box.back (hb _ (.inl (.inl rfl)))
    r1 := h.r1.back (fun g e => hb g (.inr (.inr (.inr (.inr (.inl e))))))
    r2 := h.r2.back (fun g e => hb g (.inr (.inr (.inr (.inr (.inr e))))))
    p1 := h.p1.back (hb _ (.inr (.inl rfl)))
    p2 := h.p2.back (hb _ (.inr (.inr (.inl rfl))))
    p3 := h.p3.back (hb _ (.inr (.inr (.inr (.inl rfl)))))
    q1 := h.q1.back (hb _ (.inl (.inr (.inl rfl))))
    q2 := h.q2.back (hb _ (.inl (.inr (.inr (.inl rfl)))))
    q3 := h.q3.back (hb _ (.inl (.inr (.inr (.inr rfl)))))
    n1 := h.n1, ts := h.ts }
theorem CX.flt (h : CX w k P s) : ∀ i, Fp P k i → i < w.heap.size := by
  intro i hi
  rcases hi with (rfl | rfl | rfl | rfl) | rfl | rfl | rfl | hi | hi
  · exact h.box.lt
  · exact h.q1.lt
  · exact h.q2.lt
  · exact h.q3.lt
  · exact h.p1.lt
  · exact h.p2.lt
  · exact h.p3.lt
  · exact h.r1.lt i hi
  · exact h.r2.lt i hi
theorem CX.below (h : CX w k P s) (hb : Below w.heap.size w w') : CX w' k P s := h.back (fun i hi => hb.block i (h.flt i hi))
theorem CX.at_ (h : CX w k P s) (j : Nat) : w.cell? ⟨k, j, none⟩ = (s.cells P)[j]? := h.box.cellAt j
theorem CX.seg1 (h : CX w k P s) : LSeg 1 i64cs w.heap.size w P.v1 s.T := h.r1.seg i64cs_len (by have := h.ts.tl; omega)
theorem CX.seg2 (h : CX w k P s) : LSeg 1 i64cs w.heap.size w P.v2 s.S := h.r2.seg i64cs_len (by have := h.ts.sl; omega)
theorem CX.shape1 (h : CX w k P s) : ∃ ao cap, P.v1 = .slice ao s.T.length cap := h.seg1.shapeOf
theorem CX.shape2 (h : CX w k P s) : ∃ ao cap, P.v2 = .slice ao s.S.length cap := h.seg2.shapeOf
end
theorem miss64 {l A : List Int} (h : ∀ x ∈ l, In64 x) : ∀ x ∈ miss l A, In64 x := fun x hx => h x ((List.mem_filter.1 hx).1)
set_option maxHeartbeats 4000000 in
set_option maxRecDepth 100000 in
theorem restores_any {w : World} {k : Nat} {P : Sh} {s : Cd} (h : CX w k P s) :
    Calls Try.prog 30 #[.pointer (some ⟨k, 0, none⟩)] w fun e w' => ∃ u, e = .returned u ∧ OwnL 32 4 Ct.cs w.heap.size w' u (cRest s) ∧ Below w.heap.size w w' := by
  have KC : Hid (∀ w' : World, Below w.heap.size w w' → w'.cell? ⟨k, 4, none⟩ = some (.int .u64 (s.du : Int)) ∧ w'.cell? ⟨k, 10, none⟩ = some (P.v1) ∧ w'.cell? ⟨k, 11, none⟩ = some (.map (some P.o1)) ∧ w'.cell? ⟨k, 12, none⟩ = some (.map (some P.a1))) := hide (fun w' hb => ⟨(h.below hb).at_ 4, (h.below hb).at_ 10, (h.below hb).at_ 11, (h.below hb).at_ 12⟩)
  have HM : Hid (∀ w' : World, Below w.heap.size w w' → Calls Try.prog 39 #[.agg #[P.v1, .map (some P.o1), .map (some P.a1)]] w' fun e w'' => ∃ u, e = .returned u ∧ OwnL 3 1 i64cs w'.heap.size w'' u (miss s.T s.rd) ∧ Below w'.heap.size w' w'') := hide (fun w' hb => missing_any ((h.below hb).seg1) (Nat.le_refl _) h.ts.tl h.ts.t64 _ (h.below hb).q1)
  have HT : Hid (∀ (w' : World) (u : Value), Below w.heap.size w w' → LSeg 1 i64cs w'.heap.size w' u (miss s.T s.rd) → Calls Try.prog 38 #[.pointer (some ⟨k, 0, none⟩), .int .i64 5, .int .u64 (s.du : Int), u] w' fun e w'' => ∃ u2, e = .returned u2 ∧ OwnL 32 4 Ct.cs w'.heap.size w'' u2 (tellL 5 s.ep s.du (miss s.T s.rd)) ∧ Below w'.heap.size w' w'') := hide (fun w' u hb hu => tell_any (h.below hb).box (ep := s.ep) rfl 5 s.du hu (Nat.le_refl _) (Nat.le_trans (miss_len _ _) h.ts.tl))
  have HLN : Hid ((miss s.T s.rd).length ≤ 140737488355328) := hide (by have := miss_len s.T s.rd; have := h.ts.tl; omega)
  clear h
  go_enter Try.func30, Try.ntmps30
  go_wp2_with fail
  refine wp_region_M (S := fun w' => w'.cell? ⟨k, 4, none⟩ = some (.int .u64 (s.du : Int)) ∧ w'.cell? ⟨k, 10, none⟩ = some (P.v1) ∧ w'.cell? ⟨k, 11, none⟩ = some (.map (some P.o1)) ∧ w'.cell? ⟨k, 12, none⟩ = some (.map (some P.a1))) (late := []) (by kernel_rfl) (KC.out _ (Below.refl _ _).drew) (fun hHeld => ?_)
  (try simp only [List.size_toArray, List.length_cons, List.length_nil, Nat.zero_add, Nat.reduceAdd, Array.replicate, List.replicate])
  refine wpAnyM_take (i := 0) (oi := ⟨_, _, _, _, _, _⟩) (v := ?_) rfl (by kernel_rfl) (by kernel_rfl) (by kernel_rfl) (by kernel_rfl) (fun _ _ _ h => h) (Or.inl ⟨by rfl, ?_⟩) hHeld ?_
  rotate_left
  · (intro w' hSw; (try dsimp only at hSw); go_simp; try (with_reducible rfl))
  (try simp only [Act.put, List.setIfInBounds_toArray, List.set_cons_zero, List.set_cons_succ])
  refine wpAnyM_take (i := 1) (oi := ⟨_, _, _, _, _, _⟩) (v := ?_) rfl (by kernel_rfl) (by kernel_rfl) (by kernel_rfl) (by kernel_rfl) (fun _ _ _ h => h) (Or.inl ⟨by rfl, ?_⟩) hHeld ?_
  rotate_left
  · (intro w' hSw; (try dsimp only at hSw); go_simp; try (with_reducible rfl))
  (try simp only [Act.put, List.setIfInBounds_toArray, List.set_cons_zero, List.set_cons_succ])
  refine wpAnyM_take (i := 2) (oi := ⟨_, _, _, _, _, _⟩) (v := ?_) rfl (by kernel_rfl) (by kernel_rfl) (by kernel_rfl) (by kernel_rfl) (fun _ _ _ h => h) (Or.inl ⟨by rfl, ?_⟩) hHeld ?_
  rotate_left
  · (intro w' hSw; (try dsimp only at hSw); go_simp; try (with_reducible rfl))
  (try simp only [Act.put, List.setIfInBounds_toArray, List.set_cons_zero, List.set_cons_succ])
  refine wpAnyM_take (i := 3) (oi := ⟨_, _, _, _, _, _⟩) (v := ?_) rfl (by kernel_rfl) (by kernel_rfl) (by kernel_rfl) (by kernel_rfl) (fun _ _ _ h => h) (Or.inl ⟨by rfl, ?_⟩) hHeld ?_
  rotate_left
  · (intro w' hSw; (try dsimp only at hSw); go_simp; try (with_reducible rfl))
  (try simp only [Act.put, List.setIfInBounds_toArray, List.set_cons_zero, List.set_cons_succ])
  refine wpAnyM_take (i := 4) (oi := ⟨_, _, _, _, _, _⟩) (v := ?_) rfl (by kernel_rfl) (by kernel_rfl) (by kernel_rfl) (by kernel_rfl) (fun _ _ _ h => h) (Or.inl ⟨by rfl, ?_⟩) hHeld ?_
  rotate_left
  · (intro w' hSw; (try dsimp only at hSw); go_simp; try (with_reducible rfl))
  (try simp only [Act.put, List.setIfInBounds_toArray, List.set_cons_zero, List.set_cons_succ])
  refine wpAnyM_take (i := 5) (oi := ⟨_, _, _, _, _, _⟩) (v := ?_) rfl (by kernel_rfl) (by kernel_rfl) (by kernel_rfl) (by kernel_rfl) (fun _ _ _ h => h) (Or.inl ⟨by rfl, ?_⟩) hHeld ?_
  rotate_left
  · (intro w' hSw; (try dsimp only at hSw); go_simp; try (with_reducible rfl))
  (try simp only [Act.put, List.setIfInBounds_toArray, List.set_cons_zero, List.set_cons_succ])
  refine wpAnyM_take (i := 6) (oi := ⟨_, _, _, _, _, _⟩) (v := ?_) rfl (by kernel_rfl) (by kernel_rfl) (by kernel_rfl) (by kernel_rfl) (fun _ _ _ h => h) (Or.inl ⟨by rfl, ?_⟩) hHeld ?_
  rotate_left
  · (intro w' hSw; (try dsimp only at hSw); go_simp; try (with_reducible rfl))
  (try simp only [Act.put, List.setIfInBounds_toArray, List.set_cons_zero, List.set_cons_succ])
  refine wpAnyM_take (i := 7) (oi := ⟨_, _, _, _, _, _⟩) (v := ?_) rfl (by kernel_rfl) (by kernel_rfl) (by kernel_rfl) (by kernel_rfl) (fun _ _ _ h => h) (Or.inl ⟨by rfl, ?_⟩) hHeld ?_
  rotate_left
  · (intro w' hSw; (try dsimp only at hSw); go_simp; try (with_reducible rfl))
  (try simp only [Act.put, List.setIfInBounds_toArray, List.set_cons_zero, List.set_cons_succ])
  refine wpAnyM_take (i := 8) (oi := ⟨_, _, _, _, _, _⟩) (v := ?_) rfl (by kernel_rfl) (by kernel_rfl) (by kernel_rfl) (by kernel_rfl) (fun _ _ _ h => h) (Or.inl ⟨by rfl, ?_⟩) hHeld ?_
  rotate_left
  · (intro w' hSw; (try dsimp only at hSw); go_simp; try (with_reducible rfl))
  (try simp only [Act.put, List.setIfInBounds_toArray, List.set_cons_zero, List.set_cons_succ])
  refine wpAnyM_one (i := 9) (o := ⟨_, _, _, _, _, _⟩) (by kernel_rfl) rfl (fun K hK => ?_)
  go_simp
  go_at_call 39
  refine (HM.out _ (Below.refl _ _).drew).mono ?_
  rintro e w1 ⟨u1, rfl, o1, b1⟩
  have B1 := hide ((Below.refl w.heap.size w).drew.trans b1)
  have L1 := hide (o1.seg i64cs_len HLN.out)
  clear o1 b1
  refine hK.out _ _ (KC.out _ B1.out) (fun hHeld => ?_)
  clear hK K
  (try simp only [List.setIfInBounds_toArray, List.set_cons_zero, List.set_cons_succ])
  refine wpAnyM_one (i := 10) (o := ⟨_, _, _, _, _, _⟩) (by kernel_rfl) rfl (fun K hK => ?_)
  go_simp
  go_at_call 38
  refine (HT.out _ _ B1.out L1.out).mono ?_
  rintro e w2 ⟨u2, rfl, o2, b2⟩
  have B2 := hide (B1.out.trans (b2.mono B1.out.size))
  have O2 := hide (o2.mono B1.out.size)
  clear o2 b2
  refine hK.out _ _ (KC.out _ B2.out) (fun hHeld => ?_)
  clear hK K
  (try simp only [List.setIfInBounds_toArray, List.set_cons_zero, List.set_cons_succ])
  refine wpAnyM_take (i := 11) (oi := ⟨_, _, _, _, _, _⟩) (v := ?_) rfl (by kernel_rfl) (by kernel_rfl) (by kernel_rfl) (by kernel_rfl) (fun _ _ _ h => h) (Or.inl ⟨by rfl, ?_⟩) hHeld ?_
  rotate_left
  · (intro w' hSw; (try dsimp only at hSw); go_simp; try (with_reducible rfl))
  (try simp only [Act.put, List.setIfInBounds_toArray, List.set_cons_zero, List.set_cons_succ])
  refine wpAnyM_done (by kernel_rfl) ?_ _
  clear hHeld
  go_wp2_with fail
  go_ret
  exact ⟨_, rfl, O2.out, B2.out⟩
set_option maxHeartbeats 4000000 in
set_option maxRecDepth 100000 in
theorem commits_any {w : World} {k : Nat} {P : Sh} {s : Cd} (h : CX w k P s) :
    Calls Try.prog 33 #[.pointer (some ⟨k, 0, none⟩)] w fun e w' => ∃ u, e = .returned u ∧ OwnL 32 4 Ct.cs w.heap.size w' u (cComm s) ∧ Below w.heap.size w w' := by
  have KC : Hid (∀ w' : World, Below w.heap.size w w' → w'.cell? ⟨k, 4, none⟩ = some (.int .u64 (s.du : Int)) ∧ w'.cell? ⟨k, 16, none⟩ = some (P.v2) ∧ w'.cell? ⟨k, 17, none⟩ = some (.map (some P.o3)) ∧ w'.cell? ⟨k, 18, none⟩ = some (.map (some P.a3))) := hide (fun w' hb => ⟨(h.below hb).at_ 4, (h.below hb).at_ 16, (h.below hb).at_ 17, (h.below hb).at_ 18⟩)
  have HM : Hid (∀ w' : World, Below w.heap.size w w' → Calls Try.prog 39 #[.agg #[P.v2, .map (some P.o3), .map (some P.a3)]] w' fun e w'' => ∃ u, e = .returned u ∧ OwnL 3 1 i64cs w'.heap.size w'' u (miss s.S s.dn) ∧ Below w'.heap.size w' w'') := hide (fun w' hb => missing_any ((h.below hb).seg2) (Nat.le_refl _) h.ts.sl h.ts.s64 _ (h.below hb).q3)
  have HT : Hid (∀ (w' : World) (u : Value), Below w.heap.size w w' → LSeg 1 i64cs w'.heap.size w' u (miss s.S s.dn) → Calls Try.prog 38 #[.pointer (some ⟨k, 0, none⟩), .int .i64 3, .int .u64 (s.du : Int), u] w' fun e w'' => ∃ u2, e = .returned u2 ∧ OwnL 32 4 Ct.cs w'.heap.size w'' u2 (tellL 3 s.ep s.du (miss s.S s.dn)) ∧ Below w'.heap.size w' w'') := hide (fun w' u hb hu => tell_any (h.below hb).box (ep := s.ep) rfl 3 s.du hu (Nat.le_refl _) (Nat.le_trans (miss_len _ _) h.ts.sl))
  have HLN : Hid ((miss s.S s.dn).length ≤ 140737488355328) := hide (by have := miss_len s.S s.dn; have := h.ts.sl; omega)
  obtain ⟨c0, _⟩ := KC.out w (Below.refl _ _)
  unfold cComm
  clear h
  by_cases hq : s.du = 0
  · rw [if_pos hq]
    rw [hq] at c0
    go_enter Try.func33, Try.ntmps33
    go_wp2_with fail
    go_ret
    exact ⟨_, rfl, OwnL.nil _ _ _ _ _, Below.refl _ _⟩
  · rw [if_neg hq]
    have bq : ¬ ((s.du : Nat) : Int) = 0 := by omega
    clear hq
    go_enter Try.func33, Try.ntmps33
    go_wp2_with fail
    clear c0
    refine wp_region_M (S := fun w' => w'.cell? ⟨k, 4, none⟩ = some (.int .u64 (s.du : Int)) ∧ w'.cell? ⟨k, 16, none⟩ = some (P.v2) ∧ w'.cell? ⟨k, 17, none⟩ = some (.map (some P.o3)) ∧ w'.cell? ⟨k, 18, none⟩ = some (.map (some P.a3))) (late := []) (by kernel_rfl) (KC.out _ (Below.refl _ _).drew) (fun hHeld => ?_)
    (try simp only [List.size_toArray, List.length_cons, List.length_nil, Nat.zero_add, Nat.reduceAdd, Array.replicate, List.replicate])
    refine wpAnyM_take (i := 0) (oi := ⟨_, _, _, _, _, _⟩) (v := ?_) rfl (by kernel_rfl) (by kernel_rfl) (by kernel_rfl) (by kernel_rfl) (fun _ _ _ h => h) (Or.inl ⟨by rfl, ?_⟩) hHeld ?_
    rotate_left
    · (intro w' hSw; (try dsimp only at hSw); go_simp; try (with_reducible rfl))
    (try simp only [Act.put, List.setIfInBounds_toArray, List.set_cons_zero, List.set_cons_succ])
    refine wpAnyM_take (i := 1) (oi := ⟨_, _, _, _, _, _⟩) (v := ?_) rfl (by kernel_rfl) (by kernel_rfl) (by kernel_rfl) (by kernel_rfl) (fun _ _ _ h => h) (Or.inl ⟨by rfl, ?_⟩) hHeld ?_
    rotate_left
    · (intro w' hSw; (try dsimp only at hSw); go_simp; try (with_reducible rfl))
    (try simp only [Act.put, List.setIfInBounds_toArray, List.set_cons_zero, List.set_cons_succ])
    refine wpAnyM_take (i := 2) (oi := ⟨_, _, _, _, _, _⟩) (v := ?_) rfl (by kernel_rfl) (by kernel_rfl) (by kernel_rfl) (by kernel_rfl) (fun _ _ _ h => h) (Or.inl ⟨by rfl, ?_⟩) hHeld ?_
    rotate_left
    · (intro w' hSw; (try dsimp only at hSw); go_simp; try (with_reducible rfl))
    (try simp only [Act.put, List.setIfInBounds_toArray, List.set_cons_zero, List.set_cons_succ])
    refine wpAnyM_take (i := 3) (oi := ⟨_, _, _, _, _, _⟩) (v := ?_) rfl (by kernel_rfl) (by kernel_rfl) (by kernel_rfl) (by kernel_rfl) (fun _ _ _ h => h) (Or.inl ⟨by rfl, ?_⟩) hHeld ?_
    rotate_left
    · (intro w' hSw; (try dsimp only at hSw); go_simp; try (with_reducible rfl))
    (try simp only [Act.put, List.setIfInBounds_toArray, List.set_cons_zero, List.set_cons_succ])
    refine wpAnyM_take (i := 4) (oi := ⟨_, _, _, _, _, _⟩) (v := ?_) rfl (by kernel_rfl) (by kernel_rfl) (by kernel_rfl) (by kernel_rfl) (fun _ _ _ h => h) (Or.inl ⟨by rfl, ?_⟩) hHeld ?_
    rotate_left
    · (intro w' hSw; (try dsimp only at hSw); go_simp; try (with_reducible rfl))
    (try simp only [Act.put, List.setIfInBounds_toArray, List.set_cons_zero, List.set_cons_succ])
    refine wpAnyM_take (i := 5) (oi := ⟨_, _, _, _, _, _⟩) (v := ?_) rfl (by kernel_rfl) (by kernel_rfl) (by kernel_rfl) (by kernel_rfl) (fun _ _ _ h => h) (Or.inl ⟨by rfl, ?_⟩) hHeld ?_
    rotate_left
    · (intro w' hSw; (try dsimp only at hSw); go_simp; try (with_reducible rfl))
    (try simp only [Act.put, List.setIfInBounds_toArray, List.set_cons_zero, List.set_cons_succ])
    refine wpAnyM_take (i := 6) (oi := ⟨_, _, _, _, _, _⟩) (v := ?_) rfl (by kernel_rfl) (by kernel_rfl) (by kernel_rfl) (by kernel_rfl) (fun _ _ _ h => h) (Or.inl ⟨by rfl, ?_⟩) hHeld ?_
    rotate_left
    · (intro w' hSw; (try dsimp only at hSw); go_simp; try (with_reducible rfl))
    (try simp only [Act.put, List.setIfInBounds_toArray, List.set_cons_zero, List.set_cons_succ])
    refine wpAnyM_take (i := 7) (oi := ⟨_, _, _, _, _, _⟩) (v := ?_) rfl (by kernel_rfl) (by kernel_rfl) (by kernel_rfl) (by kernel_rfl) (fun _ _ _ h => h) (Or.inl ⟨by rfl, ?_⟩) hHeld ?_
    rotate_left
    · (intro w' hSw; (try dsimp only at hSw); go_simp; try (with_reducible rfl))
    (try simp only [Act.put, List.setIfInBounds_toArray, List.set_cons_zero, List.set_cons_succ])
    refine wpAnyM_take (i := 8) (oi := ⟨_, _, _, _, _, _⟩) (v := ?_) rfl (by kernel_rfl) (by kernel_rfl) (by kernel_rfl) (by kernel_rfl) (fun _ _ _ h => h) (Or.inl ⟨by rfl, ?_⟩) hHeld ?_
    rotate_left
    · (intro w' hSw; (try dsimp only at hSw); go_simp; try (with_reducible rfl))
    (try simp only [Act.put, List.setIfInBounds_toArray, List.set_cons_zero, List.set_cons_succ])
    refine wpAnyM_one (i := 9) (o := ⟨_, _, _, _, _, _⟩) (by kernel_rfl) rfl (fun K hK => ?_)
    go_simp
    go_at_call 39
    refine (HM.out _ (Below.refl _ _).drew).mono ?_
    rintro e w1 ⟨u1, rfl, o1, b1⟩
    have B1 := hide ((Below.refl w.heap.size w).drew.trans b1)
    have L1 := hide (o1.seg i64cs_len HLN.out)
    clear o1 b1
    refine hK.out _ _ (KC.out _ B1.out) (fun hHeld => ?_)
    clear hK K
    (try simp only [List.setIfInBounds_toArray, List.set_cons_zero, List.set_cons_succ])
    refine wpAnyM_one (i := 10) (o := ⟨_, _, _, _, _, _⟩) (by kernel_rfl) rfl (fun K hK => ?_)
    go_simp
    go_at_call 38
    refine (HT.out _ _ B1.out L1.out).mono ?_
    rintro e w2 ⟨u2, rfl, o2, b2⟩
    have B2 := hide (B1.out.trans (b2.mono B1.out.size))
    have O2 := hide (o2.mono B1.out.size)
    clear o2 b2
    refine hK.out _ _ (KC.out _ B2.out) (fun hHeld => ?_)
    clear hK K
    (try simp only [List.setIfInBounds_toArray, List.set_cons_zero, List.set_cons_succ])
    refine wpAnyM_take (i := 11) (oi := ⟨_, _, _, _, _, _⟩) (v := ?_) rfl (by kernel_rfl) (by kernel_rfl) (by kernel_rfl) (by kernel_rfl) (fun _ _ _ h => h) (Or.inl ⟨by rfl, ?_⟩) hHeld ?_
    rotate_left
    · (intro w' hSw; (try dsimp only at hSw); go_simp; try (with_reducible rfl))
    (try simp only [Act.put, List.setIfInBounds_toArray, List.set_cons_zero, List.set_cons_succ])
    refine wpAnyM_done (by kernel_rfl) ?_ _
    clear hHeld
    go_wp2_with fail
    go_ret
    exact ⟨_, rfl, O2.out, B2.out⟩
set_option maxHeartbeats 4000000 in
set_option maxRecDepth 100000 in
theorem triggers_any {w : World} {k : Nat} {P : Sh} {s : Cd} (h : CX w k P s) :
    Calls Try.prog 34 #[.pointer (some ⟨k, 0, none⟩)] w fun e w' => ∃ u, e = .returned u ∧ OwnL 32 4 Ct.cs w.heap.size w' u (cTrig s) ∧ Below w.heap.size w w' := by
  have KC : Hid (∀ w' : World, Below w.heap.size w w' → w'.cell? ⟨k, 5, none⟩ = some (.int .u64 (s.un : Int)) ∧ w'.cell? ⟨k, 13, none⟩ = some (P.v1) ∧ w'.cell? ⟨k, 14, none⟩ = some (.map (some P.o2)) ∧ w'.cell? ⟨k, 15, none⟩ = some (.map (some P.a2))) := hide (fun w' hb => ⟨(h.below hb).at_ 5, (h.below hb).at_ 13, (h.below hb).at_ 14, (h.below hb).at_ 15⟩)
  have HM : Hid (∀ w' : World, Below w.heap.size w w' → Calls Try.prog 39 #[.agg #[P.v1, .map (some P.o2), .map (some P.a2)]] w' fun e w'' => ∃ u, e = .returned u ∧ OwnL 3 1 i64cs w'.heap.size w'' u (miss s.T s.ak) ∧ Below w'.heap.size w' w'') := hide (fun w' hb => missing_any ((h.below hb).seg1) (Nat.le_refl _) h.ts.tl h.ts.t64 _ (h.below hb).q2)
  have HT : Hid (∀ (w' : World) (u : Value), Below w.heap.size w w' → LSeg 1 i64cs w'.heap.size w' u (miss s.T s.ak) → Calls Try.prog 38 #[.pointer (some ⟨k, 0, none⟩), .int .i64 1, .int .u64 (s.un : Int), u] w' fun e w'' => ∃ u2, e = .returned u2 ∧ OwnL 32 4 Ct.cs w'.heap.size w'' u2 (tellL 1 s.ep s.un (miss s.T s.ak)) ∧ Below w'.heap.size w' w'') := hide (fun w' u hb hu => tell_any (h.below hb).box (ep := s.ep) rfl 1 s.un hu (Nat.le_refl _) (Nat.le_trans (miss_len _ _) h.ts.tl))
  have HLN : Hid ((miss s.T s.ak).length ≤ 140737488355328) := hide (by have := miss_len s.T s.ak; have := h.ts.tl; omega)
  obtain ⟨c0, _⟩ := KC.out w (Below.refl _ _)
  unfold cTrig
  clear h
  by_cases hq : s.un = 0
  · rw [if_pos hq]
    rw [hq] at c0
    go_enter Try.func34, Try.ntmps34
    go_wp2_with fail
    go_ret
    exact ⟨_, rfl, OwnL.nil _ _ _ _ _, Below.refl _ _⟩
  · rw [if_neg hq]
    have bq : ¬ ((s.un : Nat) : Int) = 0 := by omega
    clear hq
    go_enter Try.func34, Try.ntmps34
    go_wp2_with fail
    clear c0
    refine wp_region_M (S := fun w' => w'.cell? ⟨k, 5, none⟩ = some (.int .u64 (s.un : Int)) ∧ w'.cell? ⟨k, 13, none⟩ = some (P.v1) ∧ w'.cell? ⟨k, 14, none⟩ = some (.map (some P.o2)) ∧ w'.cell? ⟨k, 15, none⟩ = some (.map (some P.a2))) (late := []) (by kernel_rfl) (KC.out _ (Below.refl _ _).drew) (fun hHeld => ?_)
    (try simp only [List.size_toArray, List.length_cons, List.length_nil, Nat.zero_add, Nat.reduceAdd, Array.replicate, List.replicate])
    refine wpAnyM_take (i := 0) (oi := ⟨_, _, _, _, _, _⟩) (v := ?_) rfl (by kernel_rfl) (by kernel_rfl) (by kernel_rfl) (by kernel_rfl) (fun _ _ _ h => h) (Or.inl ⟨by rfl, ?_⟩) hHeld ?_
    rotate_left
    · (intro w' hSw; (try dsimp only at hSw); go_simp; try (with_reducible rfl))
    (try simp only [Act.put, List.setIfInBounds_toArray, List.set_cons_zero, List.set_cons_succ])
    refine wpAnyM_take (i := 1) (oi := ⟨_, _, _, _, _, _⟩) (v := ?_) rfl (by kernel_rfl) (by kernel_rfl) (by kernel_rfl) (by kernel_rfl) (fun _ _ _ h => h) (Or.inl ⟨by rfl, ?_⟩) hHeld ?_
    rotate_left
    · (intro w' hSw; (try dsimp only at hSw); go_simp; try (with_reducible rfl))
    (try simp only [Act.put, List.setIfInBounds_toArray, List.set_cons_zero, List.set_cons_succ])
    refine wpAnyM_take (i := 2) (oi := ⟨_, _, _, _, _, _⟩) (v := ?_) rfl (by kernel_rfl) (by kernel_rfl) (by kernel_rfl) (by kernel_rfl) (fun _ _ _ h => h) (Or.inl ⟨by rfl, ?_⟩) hHeld ?_
    rotate_left
    · (intro w' hSw; (try dsimp only at hSw); go_simp; try (with_reducible rfl))
    (try simp only [Act.put, List.setIfInBounds_toArray, List.set_cons_zero, List.set_cons_succ])
    refine wpAnyM_take (i := 3) (oi := ⟨_, _, _, _, _, _⟩) (v := ?_) rfl (by kernel_rfl) (by kernel_rfl) (by kernel_rfl) (by kernel_rfl) (fun _ _ _ h => h) (Or.inl ⟨by rfl, ?_⟩) hHeld ?_
    rotate_left
    · (intro w' hSw; (try dsimp only at hSw); go_simp; try (with_reducible rfl))
    (try simp only [Act.put, List.setIfInBounds_toArray, List.set_cons_zero, List.set_cons_succ])
    refine wpAnyM_take (i := 4) (oi := ⟨_, _, _, _, _, _⟩) (v := ?_) rfl (by kernel_rfl) (by kernel_rfl) (by kernel_rfl) (by kernel_rfl) (fun _ _ _ h => h) (Or.inl ⟨by rfl, ?_⟩) hHeld ?_
    rotate_left
    · (intro w' hSw; (try dsimp only at hSw); go_simp; try (with_reducible rfl))
    (try simp only [Act.put, List.setIfInBounds_toArray, List.set_cons_zero, List.set_cons_succ])
    refine wpAnyM_take (i := 5) (oi := ⟨_, _, _, _, _, _⟩) (v := ?_) rfl (by kernel_rfl) (by kernel_rfl) (by kernel_rfl) (by kernel_rfl) (fun _ _ _ h => h) (Or.inl ⟨by rfl, ?_⟩) hHeld ?_
    rotate_left
    · (intro w' hSw; (try dsimp only at hSw); go_simp; try (with_reducible rfl))
    (try simp only [Act.put, List.setIfInBounds_toArray, List.set_cons_zero, List.set_cons_succ])
    refine wpAnyM_take (i := 6) (oi := ⟨_, _, _, _, _, _⟩) (v := ?_) rfl (by kernel_rfl) (by kernel_rfl) (by kernel_rfl) (by kernel_rfl) (fun _ _ _ h => h) (Or.inl ⟨by rfl, ?_⟩) hHeld ?_
    rotate_left
    · (intro w' hSw; (try dsimp only at hSw); go_simp; try (with_reducible rfl))
    (try simp only [Act.put, List.setIfInBounds_toArray, List.set_cons_zero, List.set_cons_succ])
    refine wpAnyM_take (i := 7) (oi := ⟨_, _, _, _, _, _⟩) (v := ?_) rfl (by kernel_rfl) (by kernel_rfl) (by kernel_rfl) (by kernel_rfl) (fun _ _ _ h => h) (Or.inl ⟨by rfl, ?_⟩) hHeld ?_
    rotate_left
    · (intro w' hSw; (try dsimp only at hSw); go_simp; try (with_reducible rfl))
    (try simp only [Act.put, List.setIfInBounds_toArray, List.set_cons_zero, List.set_cons_succ])
    refine wpAnyM_take (i := 8) (oi := ⟨_, _, _, _, _, _⟩) (v := ?_) rfl (by kernel_rfl) (by kernel_rfl) (by kernel_rfl) (by kernel_rfl) (fun _ _ _ h => h) (Or.inl ⟨by rfl, ?_⟩) hHeld ?_
    rotate_left
    · (intro w' hSw; (try dsimp only at hSw); go_simp; try (with_reducible rfl))
    (try simp only [Act.put, List.setIfInBounds_toArray, List.set_cons_zero, List.set_cons_succ])
    refine wpAnyM_one (i := 9) (o := ⟨_, _, _, _, _, _⟩) (by kernel_rfl) rfl (fun K hK => ?_)
    go_simp
    go_at_call 39
    refine (HM.out _ (Below.refl _ _).drew).mono ?_
    rintro e w1 ⟨u1, rfl, o1, b1⟩
    have B1 := hide ((Below.refl w.heap.size w).drew.trans b1)
    have L1 := hide (o1.seg i64cs_len HLN.out)
    clear o1 b1
    refine hK.out _ _ (KC.out _ B1.out) (fun hHeld => ?_)
    clear hK K
    (try simp only [List.setIfInBounds_toArray, List.set_cons_zero, List.set_cons_succ])
    refine wpAnyM_one (i := 10) (o := ⟨_, _, _, _, _, _⟩) (by kernel_rfl) rfl (fun K hK => ?_)
    go_simp
    go_at_call 38
    refine (HT.out _ _ B1.out L1.out).mono ?_
    rintro e w2 ⟨u2, rfl, o2, b2⟩
    have B2 := hide (B1.out.trans (b2.mono B1.out.size))
    have O2 := hide (o2.mono B1.out.size)
    clear o2 b2
    refine hK.out _ _ (KC.out _ B2.out) (fun hHeld => ?_)
    clear hK K
    (try simp only [List.setIfInBounds_toArray, List.set_cons_zero, List.set_cons_succ])
    refine wpAnyM_take (i := 11) (oi := ⟨_, _, _, _, _, _⟩) (v := ?_) rfl (by kernel_rfl) (by kernel_rfl) (by kernel_rfl) (by kernel_rfl) (fun _ _ _ h => h) (Or.inl ⟨by rfl, ?_⟩) hHeld ?_
    rotate_left
    · (intro w' hSw; (try dsimp only at hSw); go_simp; try (with_reducible rfl))
    (try simp only [Act.put, List.setIfInBounds_toArray, List.set_cons_zero, List.set_cons_succ])
    refine wpAnyM_done (by kernel_rfl) ?_ _
    clear hHeld
    go_wp2_with fail
    go_ret
    exact ⟨_, rfl, O2.out, B2.out⟩

end Go.Proofs.Ytgjjacljjlhnhaa
