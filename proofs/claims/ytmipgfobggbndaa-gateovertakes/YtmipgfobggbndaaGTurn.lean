/-
  What a call turns of a gate: giveUp, capture.
-/
import Derived.Test.YtmipgfobggbndaaGClone
namespace Go.Proofs.Ytmipgfobggbndaa
open Go.RowKit

theorem step_L {α : Type} {t sl sz by_ : Nat} {z : Value} {cs : α → List Value} (hinfo : (Try.prog.info? t).map (fun i => (i.zero, i.size, i.bytes)) = some (some z, sz, by_)) (hund : Try.prog.underlying sl = some (.slice t)) (hz : z.cells.size = sz) (hsz : 0 < sz) (hby : by_ ≤ 100)
    (hcs : ∀ x, (cs x).length = sz) (h1c : ∀ x, ∀ u ∈ cs x, u.oneCell' = true) {w : World} {ops : Array Oper} {o : Oper} {a : Act} {K : Act → World → Prop} {Q : Exit → Act → World → Prop} {E : Prop} (hgd : o.guard = none) (s x : Operand)
    (ho : o.op = .call { callee := .builtin .append, args := #[s, x], argTypes := #[sl, sl] }) (base : Nat) (v : Value) (xs : List α) (hs : a.eval s = v) (hown : OwnL t sz cs base w v xs)
    (B : Nat) (v2 : Value) (ys : List α) (hx : a.eval x = v2) (hseg : LSeg sz cs B w v2 ys) (hl : xs.length + ys.length ≤ 1000000) (hbase : base ≤ w.heap.size)
    (h : ∀ v' w', OwnL t sz cs base w' v' (xs ++ ys) → w.grownBy w' v.ownBlock → (v'.ownBlock = v.ownBlock ∨ v'.ownBlock = some w.heap.size) → K (a.put o.dst v') w') :
    if Region.wanted o (yielded ops a.tmps) = true then Oper.wp Try.prog o a w K Q else E := by
  have hw : Region.wanted o (yielded ops a.tmps) = true := by simp [Region.wanted, hgd]
  rw [if_pos hw]
  obtain ⟨v', w', hr, h2, h3, h4⟩ := run_segL hinfo hund hz hsz hby hcs h1c o.type base hown hseg hl hbase
  unfold Oper.wp execOp
  simp only [ho, resolve, invoke, builtin, Sem.run_bind, Sem.run_pure, Result.andThen_ok, List.map_toArray, List.map_cons, List.map_nil, hs, hx, hr]
  exact h v' w' h2 h3 h4
/-- One thing in a box of its own, as a slice. -/
theorem seg_one {α : Type} {t sz : Nat} {cs : α → List Value} {w : World} {n B : Nat} {ca : Array Value} (x : α) (hb : BoxT t w n ca) (hB : n < B) (hc : ∀ (j : Nat) (u : Value), (cs x)[j]? = some u → ca[j]? = some u) (c : Nat) : LSeg sz cs B w (.slice (some ⟨n, 0, none⟩) 1 c) [x] := by
  refine ⟨_, _, rfl, by simp, .inr ⟨n, 0, rfl, hB, fun i y hi j u hu => ?_⟩⟩
  match i, hi with
  | 0, hi =>
    obtain rfl : x = y := by simpa using hi
    rw [hb.cellAt]
    simpa using hc j u hu
  | i + 1, hi => simp at hi
theorem Ou.at (x : Ou) (j : Nat) (u : Value) (hu : (Ou.cs x)[j]? = some u) : (#[.int .i64 x.ch, .int .i64 x.f.kd, .int .i64 x.f.ke, .int .i64 x.f.ti, .int .i64 x.f.va, .int .i64 x.f.ma, .int .u64 x.f.n, .bool x.f.ov] : Array Value)[j]? = some u := by
  simpa [Ou.cs] using hu
theorem OwnL.own {α : Type} {t sz : Nat} {cs : α → List Value} {base : Nat} {w : World} {v : Value} {xs : List α} (h : OwnL t sz cs base w v xs) : OwnL t sz cs 0 w v xs := h.mono (Nat.zero_le _)
set_option maxRecDepth 100000 in
theorem giveUp_any {w : World} {k : Nat} {fp : Nat → Prop} {s : Gs} (h : GA w k fp s) : Calls Try.prog 28 #[.pointer (some ⟨k, 0, none⟩)] w fun e w' => e = .returned (.tuple #[]) ∧ ∃ fp', GA w' k fp' { s with un := 0, cp := [] } ∧ FT fp fp' w w' := by
  obtain ⟨mb, cb, mi, cv, h, hf⟩ := h
  obtain ⟨-, -, c2, -, -, -, c6⟩ := h.cells
  have fr := h.box.free
  go_enter Try.func28, Try.ntmps28
  go_wp2_with fail
  go_end0
  have hb := (h.box.set 2 (.int .u64 0)).set 6 (.slice none 0 0)
  refine ⟨rfl, GP k mb cb (.slice none 0 0), ⟨mb, cb, mi, .slice none 0 0, { box := by simpa using hb, mx := (h.mx.other 2 _ h.nkm.symm).other 6 _ h.nkm.symm, cm := (h.cm.other 2 _ h.nkc.symm).other 6 _ h.nkc.symm, cp := OwnL.nil _ _ _ _ _, len := h.len, pos := h.pos, le := h.le, mis := fun e => absurd rfl e }, fun i => Iff.rfl⟩, ?_⟩
  have hk : fp k := (hf k).2 (.inl rfl)
  have f1 : FT fp fp w _ := (FT.of_grown (grownBy_set w k 2 (.int .u64 0)) hk).trans (FT.of_grown (grownBy_set _ k 6 (.slice none 0 0)) hk)
  exact ⟨f1.os, f1.tape, f1.output, f1.size, f1.block, fun i hi => .inl ((hf i).2 (by rcases hi with e | e | e | e; exact .inl e; exact .inr (.inl e); exact .inr (.inr (.inl e)); cases e))⟩
theorem FT.grow {fp : Nat → Prop} {a b : World} {o : Option Nat} (h : a.grownBy b o) (hv : ∀ g, o = some g → fp g) : FT fp fp a b :=
  ⟨h.os, h.tape, h.output, h.size, fun i hi hn => h.block i hi (fun e => hn (hv i e.symm)), fun _ h => .inl h⟩
theorem FT.to_ {fp fp' : Nat → Prop} {a b : World} (h : FT fp fp a b) (hs : ∀ i, fp' i → fp i ∨ a.heap.size ≤ i) : FT fp fp' a b := ⟨h.os, h.tape, h.output, h.size, h.block, hs⟩
theorem FT.set {fp : Nat → Prop} (w : World) {k : Nat} (hk : fp k) (j : Nat) (u : Value) : FT fp fp w (w.setCell ⟨k, j, none⟩ u) := FT.of_grown (grownBy_set w k j u) hk
theorem OwnL.otherBox {α : Type} {t t' sz : Nat} {cs : α → List Value} {base : Nat} {w : World} {v : Value} {xs : List α} (h : OwnL t sz cs base w v xs) {k : Nat} {ca : Array Value} (hk : BoxT t' w k ca) (ht : t ≠ t') (j : Nat) (u : Value) : OwnL t sz cs base (w.setCell ⟨k, j, none⟩ u) v xs := by
  refine h.back (fun g e => Below.heap_setCell w ⟨k, j, none⟩ u g (fun e2 => ?_))
  obtain ⟨cur, hc⟩ := h.has g e
  exact BoxT.ne (t := t) (t' := t') hc hk ht e2
/-- What is captured. -/
def Gs.capt (s : Gs) (c : Nat) (f : Fr) : Gs := if s.un ≠ 0 ∧ s.ov = true ∧ s.co[c]? = some false then { s with cp := s.cp ++ [⟨(c : Int), f⟩] } else s
theorem Gs.capt_M (s : Gs) (c : Nat) (f : Fr) : (s.capt c f).M = s.M := by unfold Gs.capt; split <;> rfl
theorem GX.come_of {w : World} {k mb cb : Nat} {mi : Int} {cv : Value} {s : Gs} (h : GX w k mb cb mi cv s) {c : Nat} (hc : c < s.M.length) : ∃ x, s.co[c]? = some x ∧ w.cell? ⟨cb, c, none⟩ = some (.bool x) := by
  obtain ⟨x, hx⟩ := get_of_lt (show c < s.co.length by rw [h.len]; exact hc)
  exact ⟨x, hx, h.come hx⟩
set_option maxHeartbeats 1000000 in
set_option maxRecDepth 100000 in
theorem capture_no {w : World} {k : Nat} {fp : Nat → Prop} {s : Gs} (h : GA w k fp s) {c : Nat} (hc : c < s.M.length) (f : Fr) (hno : ¬ (s.un ≠ 0 ∧ s.ov = true ∧ s.co[c]? = some false)) : Calls Try.prog 30 #[.pointer (some ⟨k, 0, none⟩), .int .i64 (c : Int), f.val] w fun e w' => e = .returned (.tuple #[]) ∧ ∃ fp', GA w' k fp' s ∧ FT fp fp' w w' := by
  obtain ⟨mb, cb, mi, cv, h, hf⟩ := h
  obtain ⟨x, hx, e5⟩ := h.come_of hc
  have B1 := hide (below_box w (.cells #[.int .i64 f.kd, .int .i64 f.ke, .int .i64 f.ti, .int .i64 f.va, .int .i64 f.ma, .int .u64 f.n, .bool f.ov] 37))
  have h1 : GX (w.alloc (.cells #[.int .i64 f.kd, .int .i64 f.ke, .int .i64 f.ti, .int .i64 f.va, .int .i64 f.ma, .int .u64 f.n, .bool f.ov] 37)) k mb cb mi cv s := h.back (fun i hi => B1.out.block i (h.flt i hi))
  obtain ⟨-, -, c2, c3, c4, -, -⟩ := h1.cells
  have e6 := h1.come hx
  have H : Hid (∃ fp', GA (w.alloc (.cells #[.int .i64 f.kd, .int .i64 f.ke, .int .i64 f.ti, .int .i64 f.va, .int .i64 f.ma, .int .u64 f.n, .bool f.ov] 37)) k fp' s ∧ FT fp fp' w (w.alloc (.cells #[.int .i64 f.kd, .int .i64 f.ke, .int .i64 f.ti, .int .i64 f.va, .int .i64 f.ma, .int .u64 f.n, .bool f.ov] 37))) := ⟨fp, ⟨mb, cb, mi, cv, h1, hf⟩, FT.of_below B1.out⟩
  have hi : (c : Int) < (s.M.length : Int) := by omega
  have hle := h.le
  clear h h1 hf e5
  generalize s.M.length = n at *
  generalize hun : s.un = un at *
  generalize hov : s.ov = ov at *
  rw [hx] at hno
  by_cases h0 : un = 0
  · subst h0
    unfold Fr.val
    go_enter Try.func30, Try.ntmps30
    go_wp2_with fail
    go_end0
    exact ⟨rfl, H.out⟩
  · cases ov with
    | false =>
      unfold Fr.val
      go_enter Try.func30, Try.ntmps30
      go_wp2_with fail
      go_end0
      exact ⟨rfl, H.out⟩
    | true =>
      obtain rfl : x = true := by
        cases x with
        | true => rfl
        | false => exact absurd ⟨h0, rfl, rfl⟩ hno
      unfold Fr.val
      go_enter Try.func30, Try.ntmps30
      go_wp2_with fail
      go_end0
      exact ⟨rfl, H.out⟩
set_option maxHeartbeats 1000000 in
set_option maxRecDepth 100000 in
theorem capture_yes {w : World} {k : Nat} {fp : Nat → Prop} {s : Gs} (h : GA w k fp s) {c : Nat} (hc : c < s.M.length) (f : Fr) (hun : s.un ≠ 0) (hov : s.ov = true) (hco : s.co[c]? = some false) (hl : s.cp.length ≤ 100000) : Calls Try.prog 30 #[.pointer (some ⟨k, 0, none⟩), .int .i64 (c : Int), f.val] w fun e w' => e = .returned (.tuple #[]) ∧ ∃ fp', GA w' k fp' { s with cp := s.cp ++ [⟨(c : Int), f⟩] } ∧ FT fp fp' w w' := by
  obtain ⟨mb, cb, mi, cv, h, hf⟩ := h
  have hi : (c : Int) < (s.M.length : Int) := by omega
  have hle := h.le
  obtain ⟨ca, cc, rfl⟩ := h.cp.shape
  have B1 := hide (below_box w (.cells #[.int .i64 f.kd, .int .i64 f.ke, .int .i64 f.ti, .int .i64 f.va, .int .i64 f.ma, .int .u64 f.n, .bool f.ov] 37))
  have h1 : GX (w.alloc (.cells #[.int .i64 f.kd, .int .i64 f.ke, .int .i64 f.ti, .int .i64 f.va, .int .i64 f.ma, .int .u64 f.n, .bool f.ov] 37)) k mb cb mi (.slice ca s.cp.length cc) s := h.back (fun i hi => B1.out.block i (h.flt i hi))
  have F1 : BoxT 37 (w.alloc (.cells #[.int .i64 f.kd, .int .i64 f.ke, .int .i64 f.ti, .int .i64 f.va, .int .i64 f.ma, .int .u64 f.n, .bool f.ov] 37)) w.heap.size #[.int .i64 f.kd, .int .i64 f.ke, .int .i64 f.ti, .int .i64 f.va, .int .i64 f.ma, .int .u64 f.n, .bool f.ov] := BoxT.new _ _ _
  have HF := hide hf
  have HW : Hid (w.heap.size < (w.alloc (.cells #[.int .i64 f.kd, .int .i64 f.ke, .int .i64 f.ti, .int .i64 f.va, .int .i64 f.ma, .int .u64 f.n, .bool f.ov] 37)).heap.size) := (show _ < _ by simp)
  obtain ⟨-, -, c2, c3, c4, -, c6⟩ := h1.cells
  have e6 := h1.come hco
  rw [hov] at c3
  have H1 := hide h1
  have f0 := F1.cellAt 0
  have f1 := F1.cellAt 1
  have f2 := F1.cellAt 2
  have f3 := F1.cellAt 3
  have f4 := F1.cellAt 4
  have f5 := F1.cellAt 5
  have f6 := F1.cellAt 6
  have hk1 := h1.box.lt
  clear h h1 hf hc
  have HL : Hid (s.cp.length + [(⟨(c : Int), f⟩ : Ou)].length ≤ 1000000) := (show _ ≤ _ by simp; omega)
  generalize hNN : s.M.length = n at *
  generalize hCP : s.cp.length = p at *
  generalize hUU : s.un = un at *
  have fr := H1.out.box.free
  unfold Fr.val
  go_enter Try.func30, Try.ntmps30
  go_wp2_with fail
  have HQ := hide hun
  clear hun
  have KC : Hid (∀ w' : World, Below ((w.alloc (.cells #[.int .i64 f.kd, .int .i64 f.ke, .int .i64 f.ti, .int .i64 f.va, .int .i64 f.ma, .int .u64 f.n, .bool f.ov] 37))).heap.size (w.alloc (.cells #[.int .i64 f.kd, .int .i64 f.ke, .int .i64 f.ti, .int .i64 f.va, .int .i64 f.ma, .int .u64 f.n, .bool f.ov] 37)) w' → w'.cell? ⟨k, 6, none⟩ = some (.slice ca p cc) ∧ w'.cell? ⟨w.heap.size, 0, none⟩ = some (.int .i64 f.kd) ∧ w'.cell? ⟨w.heap.size, 1, none⟩ = some (.int .i64 f.ke) ∧ w'.cell? ⟨w.heap.size, 2, none⟩ = some (.int .i64 f.ti) ∧ w'.cell? ⟨w.heap.size, 3, none⟩ = some (.int .i64 f.va) ∧ w'.cell? ⟨w.heap.size, 4, none⟩ = some (.int .i64 f.ma) ∧ w'.cell? ⟨w.heap.size, 5, none⟩ = some (.int .u64 f.n) ∧ w'.cell? ⟨w.heap.size, 6, none⟩ = some (.bool f.ov)) := fun w' hb => ⟨(hb.cell (p := ⟨k, 6, none⟩) hk1).trans c6, (hb.cell (p := ⟨w.heap.size, 0, none⟩) HW.out).trans f0, (hb.cell (p := ⟨w.heap.size, 1, none⟩) HW.out).trans f1, (hb.cell (p := ⟨w.heap.size, 2, none⟩) HW.out).trans f2, (hb.cell (p := ⟨w.heap.size, 3, none⟩) HW.out).trans f3, (hb.cell (p := ⟨w.heap.size, 4, none⟩) HW.out).trans f4, (hb.cell (p := ⟨w.heap.size, 5, none⟩) HW.out).trans f5, (hb.cell (p := ⟨w.heap.size, 6, none⟩) HW.out).trans f6⟩
  have BB := hide (((Below.refl ((w.alloc (.cells #[.int .i64 f.kd, .int .i64 f.ke, .int .i64 f.ti, .int .i64 f.va, .int .i64 f.ma, .int .u64 f.n, .bool f.ov] 37))).heap.size (w.alloc (.cells #[.int .i64 f.kd, .int .i64 f.ke, .int .i64 f.ti, .int .i64 f.va, .int .i64 f.ma, .int .u64 f.n, .bool f.ov] 37))).drew).alloc (Nat.le_refl _) (.cells #[.int .i64 (c : Int), .int .i64 f.kd, .int .i64 f.ke, .int .i64 f.ti, .int .i64 f.va, .int .i64 f.ma, .int .u64 f.n, .bool f.ov] 65))
  have BX := hide (BoxT.new_at (t := 65) (w := ((w.alloc (.cells #[.int .i64 f.kd, .int .i64 f.ke, .int .i64 f.ti, .int .i64 f.va, .int .i64 f.ma, .int .u64 f.n, .bool f.ov] 37))).drew) (cs := #[.int .i64 (c : Int), .int .i64 f.kd, .int .i64 f.ke, .int .i64 f.ti, .int .i64 f.va, .int .i64 f.ma, .int .u64 f.n, .bool f.ov]) (k := w.heap.size + 1) (by simp))
  have HX2 := hide (H1.out.back (fun i hi => BB.out.block i (H1.out.flt i hi)))
  have HCP := hide hCP
  refine wp_region_M (S := fun w' => w'.cell? ⟨k, 6, none⟩ = some (.slice ca p cc) ∧ w'.cell? ⟨w.heap.size, 0, none⟩ = some (.int .i64 f.kd) ∧ w'.cell? ⟨w.heap.size, 1, none⟩ = some (.int .i64 f.ke) ∧ w'.cell? ⟨w.heap.size, 2, none⟩ = some (.int .i64 f.ti) ∧ w'.cell? ⟨w.heap.size, 3, none⟩ = some (.int .i64 f.va) ∧ w'.cell? ⟨w.heap.size, 4, none⟩ = some (.int .i64 f.ma) ∧ w'.cell? ⟨w.heap.size, 5, none⟩ = some (.int .u64 f.n) ∧ w'.cell? ⟨w.heap.size, 6, none⟩ = some (.bool f.ov)) (late := [10, 11, 12]) (by kernel_rfl) (KC.out _ ((Below.refl _ _).drew)) (fun hHeld => ?_)
  (try simp only [List.size_toArray, List.length_cons, List.length_nil, Nat.zero_add, Nat.reduceAdd, Array.replicate, List.replicate])
  refine wpAnyM_take (i := 0) (oi := ⟨_, _, _, _, _, _⟩) (v := ?_) rfl (by kernel_rfl) (by kernel_rfl) (by kernel_rfl) (by kernel_rfl) (fun _ _ _ h => h) (Or.inl ⟨by rfl, ?_⟩) hHeld ?_
  rotate_left
  · (intro w' hSw; (try dsimp only at hSw); go_simp; try (with_reducible rfl))
  (try simp only [Act.put, List.setIfInBounds_toArray, List.set_cons_zero, List.set_cons_succ])
  refine wpAnyM_take (i := 1) (oi := ⟨_, _, _, _, _, _⟩) (v := ?_) rfl (by kernel_rfl) (by kernel_rfl) (by kernel_rfl) (by kernel_rfl) (fun _ _ _ h => h) (Or.inl ⟨by rfl, ?_⟩) hHeld ?_
  rotate_left
  · (intro w' hSw; (try dsimp only at hSw); go_simp; try (with_reducible rfl))
  (try simp only [Act.put, List.setIfInBounds_toArray, List.set_cons_zero, List.set_cons_succ])
  refine wpAnyM_take (i := 2) (oi := ⟨_, _, _, _, _, _⟩) (v := ?_) rfl (by kernel_rfl) (by kernel_rfl) (by kernel_rfl) (by kernel_rfl) (fun _ _ _ h => h) (Or.inl ⟨by rfl, ?_⟩) hHeld ?_
  rotate_left
  · (intro w' hSw; (try dsimp only at hSw); go_simp; try (with_reducible rfl))
  (try simp only [Act.put, List.setIfInBounds_toArray, List.set_cons_zero, List.set_cons_succ])
  refine wpAnyM_take (i := 3) (oi := ⟨_, _, _, _, _, _⟩) (v := ?_) rfl (by kernel_rfl) (by kernel_rfl) (by kernel_rfl) (by kernel_rfl) (fun _ _ _ h => h) (Or.inl ⟨by rfl, ?_⟩) hHeld ?_
  rotate_left
  · (intro w' hSw; (try dsimp only at hSw); go_simp; try (with_reducible rfl))
  (try simp only [Act.put, List.setIfInBounds_toArray, List.set_cons_zero, List.set_cons_succ])
  refine wpAnyM_take (i := 4) (oi := ⟨_, _, _, _, _, _⟩) (v := ?_) rfl (by kernel_rfl) (by kernel_rfl) (by kernel_rfl) (by kernel_rfl) (fun _ _ _ h => h) (Or.inl ⟨by rfl, ?_⟩) hHeld ?_
  rotate_left
  · (intro w' hSw; (try dsimp only at hSw); go_simp; try (with_reducible rfl))
  (try simp only [Act.put, List.setIfInBounds_toArray, List.set_cons_zero, List.set_cons_succ])
  refine wpAnyM_take (i := 5) (oi := ⟨_, _, _, _, _, _⟩) (v := ?_) rfl (by kernel_rfl) (by kernel_rfl) (by kernel_rfl) (by kernel_rfl) (fun _ _ _ h => h) (Or.inl ⟨by rfl, ?_⟩) hHeld ?_
  rotate_left
  · (intro w' hSw; (try dsimp only at hSw); go_simp; try (with_reducible rfl))
  (try simp only [Act.put, List.setIfInBounds_toArray, List.set_cons_zero, List.set_cons_succ])
  refine wpAnyM_take (i := 6) (oi := ⟨_, _, _, _, _, _⟩) (v := ?_) rfl (by kernel_rfl) (by kernel_rfl) (by kernel_rfl) (by kernel_rfl) (fun _ _ _ h => h) (Or.inl ⟨by rfl, ?_⟩) hHeld ?_
  rotate_left
  · (intro w' hSw; (try dsimp only at hSw); go_simp; try (with_reducible rfl))
  (try simp only [Act.put, List.setIfInBounds_toArray, List.set_cons_zero, List.set_cons_succ])
  refine wpAnyM_take (i := 7) (oi := ⟨_, _, _, _, _, _⟩) (v := ?_) rfl (by kernel_rfl) (by kernel_rfl) (by kernel_rfl) (by kernel_rfl) (fun _ _ _ h => h) (Or.inl ⟨by rfl, ?_⟩) hHeld ?_
  rotate_left
  · (intro w' hSw; (try dsimp only at hSw); go_simp; try (with_reducible rfl))
  (try simp only [Act.put, List.setIfInBounds_toArray, List.set_cons_zero, List.set_cons_succ])
  refine wpAnyM_one (i := 8) (o := ⟨_, _, _, _, _, _⟩) (by kernel_rfl) rfl (fun K hK => ?_)
  go_simp
  refine hK.out _ _ (KC.out _ BB.out) (fun hHeld => ?_)
  clear hK K
  (try simp only [List.setIfInBounds_toArray, List.set_cons_zero, List.set_cons_succ])
  refine wpAnyM_one (i := 9) (o := ⟨_, _, _, _, _, _⟩) (by kernel_rfl) rfl (fun K hK => ?_)
  (refine step_L Try.infoOu Try.underlying31 rfl (by decide) (by decide) Ou.cs_len Ou.cs_one rfl _ _ rfl 0 (.slice ca p cc) s.cp rfl (by rw [← HCP.out]; rw [← HCP.out] at HX2; exact HX2.out.cp) _ _ [(⟨(c : Int), f⟩ : Ou)] rfl (seg_one _ BX.out (Nat.lt_succ_self _) (fun j u hu => Ou.at ⟨(c : Int), f⟩ j u hu) 1) (by have := HL.out; rw [← HCP.out] at this; exact this) (Nat.zero_le _) ?_; intro v5 w5 o5 g5 k5)
  obtain ⟨a5, e5, hv5⟩ := o5.shape
  have O5 := hide o5
  have G5 := hide g5
  have K5 := hide k5
  generalize hn5 : (s.cp ++ [(⟨(c : Int), f⟩ : Ou)]).length = n5 at hv5
  have HN5 := hide hn5
  subst hv5
  clear o5 g5 k5 hn5
  have Q5 : Hid (BoxT 68 w5 k #[.slice (some ⟨mb, 0, none⟩) n n, .int .u64 s.la, .int .u64 un, .bool s.ov, .slice (some ⟨cb, 0, none⟩) n n, .int .i64 mi, .slice ca p cc] ∧ BoxT 37 w5 w.heap.size #[.int .i64 f.kd, .int .i64 f.ke, .int .i64 f.ti, .int .i64 f.va, .int .i64 f.ma, .int .u64 f.n, .bool f.ov] ∧ BoxT 2 w5 mb (i64s s.M) ∧ BoxT 4 w5 cb (bls s.co)) := by
    have hz := HX2.out
    rw [← HCP.out] at hz G5
    have F2 := (BoxT.new 37 w #[.int .i64 f.kd, .int .i64 f.ke, .int .i64 f.ti, .int .i64 f.va, .int .i64 f.ma, .int .u64 f.n, .bool f.ov]).below BB.out
    have hkeep : ∀ (t : TypeId) (b : Nat) (ar : Array Value), t ≠ 65 → BoxT t _ b ar → BoxT t w5 b ar := fun t b ar ht hb => hb.back (G5.out.block b hb.lt (fun e => by obtain ⟨cur, hc⟩ := hz.cp.has b e.symm; exact BoxT.ne (t := t) (t' := 65) hb hc ht rfl))
    refine ⟨?_, hkeep _ _ _ (by decide) F2, hkeep _ _ _ (by decide) hz.mx, hkeep _ _ _ (by decide) hz.cm⟩
    have := hkeep _ _ _ (by decide) hz.box
    rw [hNN, hUU, HCP.out] at this
    exact this
  have fr5 := Q5.out.1.free
  refine hK.out _ _ (⟨(Q5.out.1.cellAt 6).trans rfl, (Q5.out.2.1.cellAt 0).trans rfl, (Q5.out.2.1.cellAt 1).trans rfl, (Q5.out.2.1.cellAt 2).trans rfl, (Q5.out.2.1.cellAt 3).trans rfl, (Q5.out.2.1.cellAt 4).trans rfl, (Q5.out.2.1.cellAt 5).trans rfl, (Q5.out.2.1.cellAt 6).trans rfl⟩) (fun hHeld => ?_)
  clear hK K
  (try simp only [List.setIfInBounds_toArray, List.set_cons_zero, List.set_cons_succ])
  refine wpAnyM_last (i := 10) (o := ⟨_, _, _, _, _, _⟩) (by kernel_rfl) (by rfl) rfl (fun K hK => ?_)
  go_simp
  refine hK.out _ _ ?_
  clear hK K
  (try simp only [List.setIfInBounds_toArray, List.set_cons_zero, List.set_cons_succ])
  refine wpAnyM_last (i := 11) (o := ⟨_, _, _, _, _, _⟩) (by kernel_rfl) (by rfl) rfl (fun K hK => ?_)
  go_simp
  refine hK.out _ _ ?_
  clear hK K
  (try simp only [List.setIfInBounds_toArray, List.set_cons_zero, List.set_cons_succ])
  refine wpAnyM_last (i := 12) (o := ⟨_, _, _, _, _, _⟩) (by kernel_rfl) (by rfl) rfl (fun K hK => ?_)
  go_simp
  refine hK.out _ _ ?_
  clear hK K
  (try simp only [List.setIfInBounds_toArray, List.set_cons_zero, List.set_cons_succ])
  refine wpAnyM_done (by kernel_rfl) ?_ _
  go_wp2_with fail
  go_end0
  have hz := HX2.out
  have hk : fp k := (HF.out k).2 (.inl rfl)
  have T1 : FT fp fp w w5 := ((FT.of_below B1.out).trans (FT.of_below BB.out)).trans (FT.grow G5.out (fun g e => (HF.out g).2 (.inr (.inr (.inr e)))))
  have T2 := T1.trans (FT.set w5 hk 6 (.slice a5 n5 e5))
  have hb5 := Q5.out.1.set 6 (.slice a5 n5 e5)
  refine ⟨rfl, GP k mb cb (.slice a5 n5 e5), ⟨mb, cb, mi, .slice a5 n5 e5, { box := ?_, mx := Q5.out.2.2.1.other 6 _ hz.nkm.symm, cm := Q5.out.2.2.2.other 6 _ hz.nkc.symm, cp := O5.out.otherBox Q5.out.1 (by decide) _ _, len := hz.len, pos := hz.pos, le := hz.le, mis := fun e => hz.mis (by rw [hUU]; exact e) }, fun _ => Iff.rfl⟩, T2.to_ (fun i hi => ?_)⟩
  · rw [← hNN] at hb5; simpa using hb5
  · rcases hi with e | e | e | e
    · exact .inl ((HF.out i).2 (.inl e))
    · exact .inl ((HF.out i).2 (.inr (.inl e)))
    · exact .inl ((HF.out i).2 (.inr (.inr (.inl e))))
    · rcases K5.out with h5 | h5
      · exact .inl ((HF.out i).2 (.inr (.inr (.inr (h5.symm.trans e)))))
      · rw [h5] at e; cases e; exact .inr (by simp; omega)
theorem capture_any {w : World} {k : Nat} {fp : Nat → Prop} {s : Gs} (h : GA w k fp s) {c : Nat} (hc : c < s.M.length) (f : Fr) (hl : s.cp.length ≤ 100000) : Calls Try.prog 30 #[.pointer (some ⟨k, 0, none⟩), .int .i64 (c : Int), f.val] w fun e w' => e = .returned (.tuple #[]) ∧ ∃ fp', GA w' k fp' (s.capt c f) ∧ FT fp fp' w w' := by
  unfold Gs.capt
  split
  · rename_i hy
    exact capture_yes h hc f hy.1 hy.2.1 hy.2.2 hl
  · rename_i hn
    exact capture_no h hc f hn
end Go.Proofs.Ytmipgfobggbndaa
