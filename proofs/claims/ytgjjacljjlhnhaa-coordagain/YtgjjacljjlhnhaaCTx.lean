/-
  Appends within regions, boxes, maps in the walk.
-/
import Derived.Test.YtgjjacljjlhnhaaCRow
import Derived.Test.YtgjjacljjlhnhaaCMapW
namespace Go.Proofs.Ytgjjacljjlhnhaa
open Go.RowKit

theorem step_L {α : Type} {t sl sz by_ : Nat} {z : Value} {cs : α → List Value} (hinfo : (Try.prog.info? t).map (fun i => (i.zero, i.size, i.bytes)) = some (some z, sz, by_)) (hund : Try.prog.underlying sl = some (.slice t)) (hz : z.cells.size = sz) (hsz : 0 < sz) (hby : by_ ≤ 100)
    (hcs : ∀ x, (cs x).length = sz) (h1c : ∀ x, ∀ u ∈ cs x, u.oneCell' = true) {w : World} {ops : Array Oper} {o : Oper} {a : Act} {K : Act → World → Prop} {Q : Exit → Act → World → Prop} {E : Prop} (hgd : o.guard = none) (s x : Operand)
    (ho : o.op = .call { callee := .builtin .append, args := #[s, x], argTypes := #[sl, sl] }) (base : Nat) (v : Value) (xs : List α) (hs : a.eval s = v) (hown : OwnL t sz cs base w v xs)
    (B : Nat) (v2 : Value) (ys : List α) (hx : a.eval x = v2) (hseg : LSeg sz cs B w v2 ys) (hl : xs.length + ys.length ≤ 1000000) (hbase : base ≤ w.heap.size)
    (h : ∀ v' w', OwnL t sz cs base w' v' (xs ++ ys) → w.grownBy w' v.ownBlock → (v'.ownBlock = v.ownBlock ∨ v'.ownBlock = some w.heap.size) → K (a.put o.dst v') w') :
    if Region.wanted o (yielded ops a.tmps) = true then Oper.wp Try.prog o a w K Q else E := by
  have hw : Region.wanted o (yielded ops a.tmps) = true := by simp [Region.wanted, hgd]
  rw [if_pos hw]
  obtain ⟨v', w', hr, h2, h3, h4⟩ := run_segL hinfo hund hz hsz hby hcs h1c o.type base hown hseg hl hbase
  unfold Oper.wp execOp
  simp only [ho, resolve, invoke, builtin, Sem.run_bind, Sem.run_pure, Result.andThen_ok, List.map_toArray, List.map_cons, List.map_nil, hs, hx, hr]
  exact h v' w' h2 h3 h4
theorem seg_one {α : Type} {t sz : Nat} {cs : α → List Value} {w : World} {n B : Nat} {ca : Array Value} (x : α) (hb : BoxT t w n ca) (hB : n < B) (hc : ∀ (j : Nat) (u : Value), (cs x)[j]? = some u → ca[j]? = some u) (c : Nat) : LSeg sz cs B w (.slice (some ⟨n, 0, none⟩) 1 c) [x] := by
  refine ⟨_, _, rfl, by simp, .inr ⟨n, 0, rfl, hB, fun i y hi j u hu => ?_⟩⟩
  match i, hi with
  | 0, hi =>
    obtain rfl : x = y := by simpa using hi
    rw [hb.cellAt]
    simpa using hc j u hu
  | i + 1, hi => simp at hi

theorem BoxT.ne {t t' : TypeId} {w : World} {k k' : Nat} {cs cs' : Array Value} (h : BoxT t w k cs) (h' : BoxT t' w k' cs') (ht : t ≠ t') : k ≠ k' := fun e => by
  subst e
  unfold BoxT at h h'
  rw [h] at h'
  simp at h'
  exact ht h'.2
theorem BoxT.back {t : TypeId} {w w' : World} {k : Nat} {cs : Array Value} (h : BoxT t w k cs) (hb : w'.heap[k]? = w.heap[k]?) : BoxT t w' k cs := by
  unfold BoxT at *
  rw [hb]; exact h
theorem BoxT.cells3 {t : TypeId} {w : World} {k : Nat} {c0 c1 c2 : Value} (h : BoxT t w k #[c0, c1, c2]) : w.cell? ⟨k, 0, none⟩ = some c0 ∧ w.cell? ⟨k, 1, none⟩ = some c1 ∧ w.cell? ⟨k, 2, none⟩ = some c2 := by
  unfold BoxT at h
  simp [World.cell?, h]
theorem BoxT.cells1 {t : TypeId} {w : World} {k : Nat} {c0 : Value} (h : BoxT t w k #[c0]) : w.cell? ⟨k, 0, none⟩ = some c0 := by
  unfold BoxT at h
  simp [World.cell?, h]
theorem cell_alloc {w : World} {a : Addr} {v : Value} (h : w.cell? a = some v) (o : Obj) : (w.alloc o).cell? a = some v := by
  have hl : a.block < w.heap.size := by
    rcases Nat.lt_or_ge a.block w.heap.size with h1 | h1
    · exact h1
    · rw [World.cell?, Array.getElem?_eq_none h1] at h; cases h
  rw [World.cell?] at h ⊢
  rw [Below.heap_alloc w o _ hl]; exact h
theorem OwnL.own {α : Type} {t sz : Nat} {cs : α → List Value} {base : Nat} {w : World} {v : Value} {xs : List α} (h : OwnL t sz cs base w v xs) : OwnL t sz cs 0 w v xs := h.mono (Nat.zero_le _)
theorem FT.grow {fp : Nat → Prop} {a b : World} {o : Option Nat} (h : a.grownBy b o) (hv : ∀ g, o = some g → fp g) : FT fp fp a b :=
  ⟨h.os, h.tape, h.output, h.size, fun i hi hn => h.block i hi (fun e => hn (hv i e.symm)), fun _ h => .inl h⟩
theorem FT.to_ {fp fp' : Nat → Prop} {a b : World} (h : FT fp fp a b) (hs : ∀ i, fp' i → fp i ∨ a.heap.size ≤ i) : FT fp fp' a b := ⟨h.os, h.tape, h.output, h.size, h.block, hs⟩
theorem FT.set {fp : Nat → Prop} (w : World) {k : Nat} (hk : fp k) (j : Nat) (u : Value) : FT fp fp w (w.setCell ⟨k, j, none⟩ u) := FT.of_grown (grownBy_set w k j u) hk
theorem OwnL.otherBox {α : Type} {t t' sz : Nat} {cs : α → List Value} {base : Nat} {w : World} {v : Value} {xs : List α} (h : OwnL t sz cs base w v xs) {k : Nat} {ca : Array Value} (hk : BoxT t' w k ca) (ht : t ≠ t') (j : Nat) (u : Value) : OwnL t sz cs base (w.setCell ⟨k, j, none⟩ u) v xs := by
  refine h.back (fun g e => Below.heap_setCell w ⟨k, j, none⟩ u g (fun e2 => ?_))
  obtain ⟨cur, hc⟩ := h.has g e
  exact BoxT.ne (t := t) (t' := t') hc hk ht e2
theorem wp_lookM {P : Program} {w : World} {ops : Array Oper} {rest : List Oper} {o : Oper} {a : Act} {Q : Exit → Act → World → Prop} (hg : o.guard = none) (m x : Operand) (t : TypeId) (c : Bool) (hop : o.op = Op.lookup t m x c) (mv kv : Value) (hm : a.eval m = mv) (hx : a.eval x = kv) {v : Value} (hrun : (Instr.lookup t mv kv c).run P w = .ok v w)
    (h : wpList P ops Q rest (a.put o.dst v) w) : wpList P ops Q (o :: rest) a w := by
  refine wpList_plain hg fun K' hK' => ?_
  unfold Oper.wp
  simp [execOp, hop, hm, hx, hrun, Result.andThen]
  exact hK' _ _ h
theorem wp_putM {P : Program} {w : World} {ops : Array Oper} {rest : List Oper} {o : Oper} {a : Act} {Q : Exit → Act → World → Prop} (hg : o.guard = none) (m x v : Operand) (t : TypeId) (hop : o.op = Op.mapUpdate t m x v) (mv kv vv : Value) (hm : a.eval m = mv) (hx : a.eval x = kv) (hv : a.eval v = vv) {w' : World} (hrun : (Instr.mapUpdate t mv kv vv).run P w = .ok () w')
    (h : wpList P ops Q rest (a.put o.dst undef) w') : wpList P ops Q (o :: rest) a w := by
  refine wpList_plain hg fun K' hK' => ?_
  unfold Oper.wp
  simp [execOp, hop, hm, hx, hv, hrun, Result.andThen]
  exact hK' _ _ h
theorem wp_delM {P : Program} {w : World} {ops : Array Oper} {rest : List Oper} {o : Oper} {a : Act} {Q : Exit → Act → World → Prop} (hg : o.guard = none) (m x : Operand) (t k : TypeId) (hop : o.op = Op.call { callee := Callee.builtin Builtin.delete, args := #[m, x], argTypes := #[t, k] }) (mv kv : Value) (hm : a.eval m = mv) (hx : a.eval x = kv) {w' : World} (hrun : (Builtin.delete_ #[t, k] o.type #[mv, kv]).run P w = .ok (.tuple #[]) w')
    (h : wpList P ops Q rest (a.put o.dst (.tuple #[])) w') : wpList P ops Q (o :: rest) a w := by
  refine wpList_plain hg fun K' hK' => ?_
  unfold Oper.wp
  simp [execOp, hop, resolve, invoke, builtin, hm, hx, hrun, Result.andThen]
  exact hK' _ _ h
theorem step_put_run {P : Program} {w : World} {ops : Array Oper} {o : Oper} {a : Act} {K : Act → World → Prop} {Q : Exit → Act → World → Prop} {E : Prop} (hgd : o.guard = none) (m x v : Operand) (t : TypeId) (hop : o.op = Op.mapUpdate t m x v) (mv kv vv : Value) (hm : a.eval m = mv) (hx : a.eval x = kv) (hv : a.eval v = vv) {w' : World} (hrun : (Instr.mapUpdate t mv kv vv).run P w = .ok () w')
    (h : K (a.put o.dst undef) w') : if Region.wanted o (yielded ops a.tmps) = true then Oper.wp P o a w K Q else E := by
  have hw : Region.wanted o (yielded ops a.tmps) = true := by simp [Region.wanted, hgd]
  rw [if_pos hw]
  unfold Oper.wp
  simp [execOp, hop, hm, hx, hv, hrun, Result.andThen]
  exact h
def u64cs (x : Nat) : List Value := [.int .u64 (x : Int)]
theorem u64cs_len (x : Nat) : (u64cs x).length = 1 := rfl
theorem u64cs_one (x : Nat) : ∀ u ∈ u64cs x, u.oneCell' = true := by intro u hu; simp [u64cs] at hu; subst hu; rfl
theorem Try.infoU : (Try.prog.info? 30).map (fun i => (i.zero, i.size, i.bytes)) = some (some (.int .u64 0), 1, 8) := by kernel_rfl
theorem Try.infoI : (Try.prog.info? 3).map (fun i => (i.zero, i.size, i.bytes)) = some (some (.int .i64 0), 1, 8) := by kernel_rfl
theorem Try.infoC : (Try.prog.info? 32).map (fun i => (i.zero, i.size, i.bytes)) = some (some (.agg #[.int .i64 0, .int .u64 0, .int .u64 0, .int .i64 0]), 4, 32) := by kernel_rfl

end Go.Proofs.Ytgjjacljjlhnhaa
