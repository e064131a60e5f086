/-
  append of a part of a list of whole numbers, in a region that draws.
-/
import Derived.Test.YtnomoekbfclckaaFAllI
namespace Go.Proofs.Ytnomoekbfclckaa
open Go.RowKit

theorem run_load0 (a : Addr) (w : World) : (loadCells a 0).run Try.prog w = .ok #[] w := by
  simp [loadCells, loadCellsFrom]
theorem run_lseg {w : World} (ty base : Nat) {v : Value} {xs : List Int} (hown : OwnL 3 1 i64cs base w v xs) {B : Nat} {v2 : Value} {ys : List Int} (hseg : LSeg 1 i64cs B w v2 ys) (hl : xs.length + ys.length ≤ 1000000) (hbase : base ≤ w.heap.size) :
    ∃ v' w', (Builtin.append_ #[35, 35] ty #[v, v2]).run Try.prog w = .ok v' w' ∧ OwnL 3 1 i64cs base w' v' (xs ++ ys) ∧ w.grownBy w' v.ownBlock ∧ (v'.ownBlock = v.ownBlock ∨ v'.ownBlock = some w.heap.size) := by
  obtain ⟨i0, hi, hz0, hz1, hz2⟩ := info_parts Try.info3'
  obtain ⟨ao, cap, rfl, hcap, hs⟩ := hseg
  by_cases hy : ys = []
  · subst hy
    rw [List.append_nil]
    refine ⟨v, w, ?_, hown, grownBy_refl _ _, .inl rfl⟩
    have hown2 := hown
    rcases hown2.2 with ⟨rfl, h0⟩ | ⟨g, c, cur, rfl, _, _, hnc, _⟩
    · cases ao <;> simp [Builtin.append_, run_underlying Try.underlying35, sizeOf, typeInfo, hi, Builtin.lenOf, Builtin.firstCells, run_load0]
    · cases ao <;> simp [Builtin.append_, run_underlying Try.underlying35, sizeOf, typeInfo, hi, Builtin.lenOf, Builtin.firstCells, hnc, storeCells, run_load0]
  · rcases hs with hs | ⟨b, off, rfl, hb, hc⟩
    · exact absurd hs hy
    · obtain ⟨v', w', r1, r2, r3, _, r4⟩ := run_append_own_at (P := Try.prog) w base 35 ty 3 i0 (.int .i64 0) 1 8 Try.underlying35 hi hz0 hz1 hz2 rfl (by decide) v xs.length (xs.flatMap i64cs) hown ⟨b, off, none⟩ ys.length cap (ys.flatMap i64cs) (flat_size i64cs_len ys) (fun j u hj => by
        obtain ⟨y, hy, rfl⟩ := flat_i64 ys j u hj
        rw [add_plain2]
        simpa using hc j y hy 0 _ rfl) (fun u hu => by
        simp only [List.mem_flatMap] at hu
        obtain ⟨y, _, hu⟩ := hu
        exact i64cs_one y u hu) (by unfold maxLen; omega) (by omega) hbase
      refine ⟨v', w', r1, ?_, r3, r4⟩
      show w'.ownsRow base 3 1 v' (xs ++ ys).length ((xs ++ ys).flatMap i64cs)
      rw [List.length_append, List.flatMap_append]; exact r2
theorem step_lseg {w : World} {ops : Array Oper} {o : Oper} {a : Act} {K : Act → World → Prop} {Q : Exit → Act → World → Prop} {E : Prop} (hgd : o.guard = none) (s x : Operand)
    (ho : o.op = .call { callee := .builtin .append, args := #[s, x], argTypes := #[35, 35] }) (base : Nat) (v : Value) (xs : List Int) (hs : a.eval s = v) (hown : OwnL 3 1 i64cs base w v xs)
    (B : Nat) (v2 : Value) (ys : List Int) (hx : a.eval x = v2) (hseg : LSeg 1 i64cs B w v2 ys) (hl : xs.length + ys.length ≤ 1000000) (hbase : base ≤ w.heap.size)
    (h : ∀ v' w', OwnL 3 1 i64cs base w' v' (xs ++ ys) → w.grownBy w' v.ownBlock → (v'.ownBlock = v.ownBlock ∨ v'.ownBlock = some w.heap.size) → K (a.put o.dst v') w') : if Region.wanted o (yielded ops a.tmps) = true then Oper.wp Try.prog o a w K Q else E := by
  have hw : Region.wanted o (yielded ops a.tmps) = true := by simp [Region.wanted, hgd]
  rw [if_pos hw]
  obtain ⟨v', w', hr, h2, h3, h4⟩ := run_lseg o.type base hown hseg hl hbase
  unfold Oper.wp execOp
  simp only [ho, resolve, invoke, builtin, Sem.run_bind, Sem.run_pure, Result.andThen_ok, List.map_toArray, List.map_cons, List.map_nil, hs, hx, hr]
  exact h v' w' h2 h3 h4
theorem app_lseg {w : World} {ops : Array Oper} {rest : List Oper} {o : Oper} {a : Act} {Q : Exit → Act → World → Prop} (hgd : o.guard = none) (s x : Operand)
    (ho : o.op = .call { callee := .builtin .append, args := #[s, x], argTypes := #[35, 35] }) (base : Nat) (v : Value) (xs : List Int) (hs : a.eval s = v) (hown : OwnL 3 1 i64cs base w v xs)
    (B : Nat) (v2 : Value) (ys : List Int) (hx : a.eval x = v2) (hseg : LSeg 1 i64cs B w v2 ys) (hl : xs.length + ys.length ≤ 1000000) (hbase : base ≤ w.heap.size)
    (h : ∀ v' w', OwnL 3 1 i64cs base w' v' (xs ++ ys) → w.grownBy w' v.ownBlock → (v'.ownBlock = v.ownBlock ∨ v'.ownBlock = some w.heap.size) → wpList Try.prog ops Q rest (a.put o.dst v') w') : wpList Try.prog ops Q (o :: rest) a w := by
  refine wpList_plain hgd fun K hK => ?_
  obtain ⟨v', w', hr, h2, h3, h4⟩ := run_lseg o.type base hown hseg hl hbase
  unfold Oper.wp execOp
  simp only [ho, resolve, invoke, builtin, Sem.run_bind, Sem.run_pure, Result.andThen_ok, List.map_toArray, List.map_cons, List.map_nil, hs, hx, hr]
  exact hK _ _ (h v' w' h2 h3 h4)
/-- The first j of a row. -/
theorem Row.front {base : Nat} {w : World} {g off n cap : Nat} {l : List Int} (H : Row 3 1 i64cs base w (.slice (some ⟨g, off, none⟩) n cap) l) {j : Nat} (hj : j ≤ l.length) (hl : l.length ≤ 1000000) : LSeg 1 i64cs w.heap.size w (.slice (some ⟨g, off, none⟩) j cap) (l.take j) := by
  have hlen : (l.take j).length = j := by simp; omega
  refine ⟨some ⟨g, off, none⟩, cap, by rw [hlen], by omega, ?_⟩
  rcases H with ⟨h, _⟩ | ⟨g', off', cap', cur, e, h2, h3, h4, h5, h6, h7⟩
  · cases h
  · cases e
    refine .inr ⟨g, off, rfl, h3.lt, fun i x hx k u hu => ?_⟩
    rw [List.getElem?_take] at hx
    split at hx
    · rw [h3.cellAt, Nat.add_assoc]
      exact h7 _ u (flat_get i64cs_len l i k x u hx hu)
    · cases hx
/-- What stands behind the first j. -/
theorem Row.rest {base : Nat} {w : World} {g off n cap : Nat} {l : List Int} (H : Row 3 1 i64cs base w (.slice (some ⟨g, off, none⟩) n cap) l) {j : Nat} (hj : j ≤ l.length) (hl : l.length ≤ 1000000) : LSeg 1 i64cs w.heap.size w (.slice (some ⟨g, off + j, none⟩) (l.length - j) (cap - j)) (l.drop j) := by
  have hlen : (l.drop j).length = l.length - j := by simp
  refine ⟨some ⟨g, off + j, none⟩, cap - j, by rw [hlen], by omega, ?_⟩
  rcases H with ⟨h, _⟩ | ⟨g', off', cap', cur, e, h2, h3, h4, h5, h6, h7⟩
  · cases h
  · cases e
    refine .inr ⟨g, off + j, rfl, h3.lt, fun i x hx k u hu => ?_⟩
    rw [List.getElem?_drop] at hx
    have := h7 _ u (flat_get i64cs_len l (j + i) k x u hx hu)
    rw [h3.cellAt, show off + j + i * 1 + k = off + ((j + i) * 1 + k) by omega]
    exact this
theorem lseg_one {w : World} {g : Nat} {x : Int} (h : BoxT 3 w g #[.int .i64 x]) : LSeg 1 i64cs w.heap.size w (.slice (some ⟨g, 0, none⟩) 1 1) [x] :=
  ⟨_, 1, rfl, by simp, .inr ⟨g, 0, rfl, h.lt, fun i y hy j u hu => by
    match i, hy with
    | 0, hy =>
      simp at hy
      subst hy
      match j, hu with
      | 0, hu =>
        simp [i64cs] at hu
        subst hu
        exact (h.cellAt _).trans rfl⟩⟩
theorem lseg_nil (B : Nat) (w : World) (a : Option Addr) (c : Nat) : LSeg 1 i64cs B w (.slice a 0 c) [] := ⟨a, c, rfl, by simp, .inl rfl⟩
end Go.Proofs.Ytnomoekbfclckaa
