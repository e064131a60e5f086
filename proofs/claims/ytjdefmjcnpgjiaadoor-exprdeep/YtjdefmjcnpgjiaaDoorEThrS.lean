/-
  soundThroughout: what its row and its map hold. No walk in it.
-/
import Derived.Test.YtjdefmjcnpgjiaaDoorEThrP
import Derived.WalkSmall
import Derived.Maps.AppendAt
namespace Go.Proofs.YtjdefmjcnpgjiaaDoor
open Go.RowKit

/-- The cells of a thing in a row. -/
def Ex.cs (x : Ex) : List Value := [.int .i64 x.op, .int .i64 x.n, .slice x.a x.l.length x.c]
theorem cs_len (l : List Ex) : (l.flatMap Ex.cs).length = l.length * 3 := by
  induction l with
  | nil => rfl
  | cons x r ih => rw [List.flatMap_cons, List.length_append, ih, List.length_cons]; show 3 + _ = _; omega
/-- The row todo and the map seen, in what the call has made. -/
structure TS (w0 w : World) (sp : List Addr) (todo : List Ex) (v : Value) : Prop where
  bel : Below w0.heap.size w0 w
  pm : PM w (w0.heap.size + 1) sp
  row : w.ownsRow (w0.heap.size + 2) 24 3 v todo.length (todo.flatMap Ex.cs)
theorem TS.below {w0 w w' : World} {sp : List Addr} {todo : List Ex} {v : Value} (h : TS w0 w sp todo v) (hb : Below w.heap.size w w') : TS w0 w' sp todo v := by
  refine ⟨h.bel.trans (hb.mono h.bel.size), ?_, h.row.1, ?_⟩
  · obtain ⟨es, clock, h1, h2⟩ := h.pm
    exact ⟨es, clock, (hb.block _ (Array.getElem?_eq_some_iff.1 h1).1).trans h1, h2⟩
  · rcases h.row.2 with h | ⟨g, cap, cur, h1, h2, h3, h4⟩
    · exact .inl h
    · exact .inr ⟨g, cap, cur, h1, h2, (hb.block g (Array.getElem?_eq_some_iff.1 h3).1).trans h3, h4⟩
theorem TS.last {w0 w : World} {sp : List Addr} {todo : List Ex} {x : Ex} {v : Value} (h : TS w0 w sp (todo ++ [x]) v) :
    ∃ g cap, v = .slice (some ⟨g, 0, none⟩) (todo.length + 1) cap ∧ todo.length + 1 ≤ cap ∧ cap ≤ maxLen ∧ AtP w ⟨g, 0 + todo.length * 3, none⟩ x ∧ TS w0 w sp todo (.slice (some ⟨g, 0, none⟩) todo.length cap) := by
  have hr := h.row
  rw [List.length_append, List.flatMap_append] at hr
  have hr' : w.ownsRow (w0.heap.size + 2) 24 3 v (todo.length + 1) (todo.flatMap Ex.cs ++ x.cs) := by simpa using hr
  rcases hr'.2 with ⟨_, h0⟩ | ⟨g, cap, cur, rfl, h2, h3, h4, h5, h6, h7⟩
  · omega
  · refine ⟨g, cap, rfl, h4, h5, ?_, h.bel, h.pm, Go.ownsRow_pop (cs_len todo) hr'⟩
    have key : ∀ j, j < 3 → w.cell? ⟨g, 0 + todo.length * 3 + j, none⟩ = x.cs[j]? := by
      intro j hj
      have h8 : (cur.toList.take ((todo.length + 1) * 3))[todo.length * 3 + j]? = x.cs[j]? := by
        rw [h7, List.getElem?_append_right (by rw [cs_len]; omega), cs_len]
        congr 1
        omega
      rw [List.getElem?_take_of_lt (by omega)] at h8
      rw [← h8]
      simp [World.cell?, h3]
    exact ⟨key 0 (by omega), key 1 (by omega), key 2 (by omega)⟩
theorem TS.shape {w0 w : World} {sp : List Addr} {todo : List Ex} {v : Value} (h : TS w0 w sp todo v) : ∃ ao cap, v = .slice ao todo.length cap := by
  rcases h.row.2 with ⟨rfl, h0⟩ | ⟨g, cap, cur, rfl, _⟩
  · exact ⟨none, 0, by rw [h0]⟩
  · exact ⟨_, cap, rfl⟩
/-- A new place is put into the map. -/
theorem TS.put {w0 w : World} {sp : List Addr} {todo : List Ex} {v : Value} (h : TS w0 w sp todo v) {p : Addr} (hp : Pl w p) (hq : ∀ q ∈ sp, Pl w q) (hn : p ∉ sp) :
    ∃ w', (Instr.mapUpdate 51 (.map (some (w0.heap.size + 1))) (.pointer (some p)) (.agg #[])).run Tryd.prog w = .ok () w' ∧ TS w0 w' (sp ++ [p]) todo v ∧ w'.heap.size = w.heap.size ∧ ∀ k, k ≠ w0.heap.size + 1 → w'.heap[k]? = w.heap[k]? := by
  obtain ⟨o, h1, h2⟩ := h.pm.put hp hq hn
  refine ⟨_, h1, ⟨?_, h2, ?_⟩, by simp, fun k hk => by simp only [Array.getElem?_setIfInBounds]; rw [if_neg (by omega)]⟩
  · refine ⟨h.bel.os, h.bel.tape, h.bel.output, ?_, ?_⟩
    · simpa using h.bel.size
    · intro k hk
      rw [← h.bel.block k hk]
      simp only [Array.getElem?_setIfInBounds]
      rw [if_neg (by omega)]
  · refine ⟨h.row.1, ?_⟩
    rcases h.row.2 with h | ⟨g, cap, cur, h1, h2, h3, h4⟩
    · exact .inl h
    · refine .inr ⟨g, cap, cur, h1, h2, ?_, h4⟩
      simp only [Array.getElem?_setIfInBounds]
      rw [if_neg (by omega)]
      exact h3
/-- One more is put into the row. -/
theorem TS.push {w0 w w' : World} {sp : List Addr} {todo : List Ex} {v v' : Value} (h : TS w0 w sp todo v) {x : Ex}
    (ho : w'.ownsRow (w0.heap.size + 2) 24 3 v' (todo.length + 1) (todo.flatMap Ex.cs ++ x.cs)) (hg : w.grownBy w' v.ownBlock) : TS w0 w' sp (todo ++ [x]) v' := by
  have hown : ∀ k, k < w0.heap.size + 2 → some k ≠ v.ownBlock := fun k hk e => by
    have := (World.ownsRow.lt h.row k e.symm).1
    omega
  refine ⟨⟨hg.os.trans h.bel.os, hg.tape.trans h.bel.tape, hg.output.trans h.bel.output, Nat.le_trans h.bel.size hg.size, fun k hk => ?_⟩, ?_, ?_⟩
  · exact (hg.block k (Nat.lt_of_lt_of_le hk h.bel.size) (hown k (by omega))).trans (h.bel.block k hk)
  · obtain ⟨es, clock, h1, h2⟩ := h.pm
    exact ⟨es, clock, (hg.block _ (Array.getElem?_eq_some_iff.1 h1).1 (hown _ (by omega))).trans h1, h2⟩
  · rw [List.length_append, List.flatMap_append]
    simpa using ho
/-- The box of x, which the row does not lie in. -/
structure BX (w : World) (B : Nat) (v : Value) (x : Ex) : Prop where
  box : w.heap[B]? = some (.cells #[.int .i64 x.op, .int .i64 x.n, .slice x.a x.l.length x.c] 24 (0, 0))
  off : v.ownBlock ≠ some B
theorem Tryd.info24r : (Tryd.prog.info? 24).map (fun i => (i.zero, i.size, i.bytes)) = some (some (.agg #[.int .i64 0, .int .i64 0, .slice none 0 0]), 3, 40) := by kernel_rfl
theorem app_ex {w0 w : World} {ops : Array Oper} {rest : List Oper} {o : Oper} {a : Act} {Q : Exit → Act → World → Prop} (hgd : o.guard = none) (s x : Operand)
    (ho : o.op = .call { callee := .builtin .append, args := #[s, x], argTypes := #[22, 22] }) {v : Value} {sp : List Addr} {todo : List Ex} {B : Nat} {X : Ex} (hs : a.eval s = v) (ht : TS w0 w sp todo v) (hb : BX w B v X)
    (ad : Addr) (c : Nat) (y : Ex) (hx : a.eval x = .slice (some ad) 1 c) (hnews : ∀ j u, y.cs[j]? = some u → w.cell? (ad.add j) = some u) (hl : todo.length ≤ 1000000)
    (h : ∀ v' w', TS w0 w' sp (todo ++ [y]) v' → BX w' B v' X → w.heap.size ≤ w'.heap.size → wpList Tryd.prog ops Q rest (a.put o.dst v') w') : wpList Tryd.prog ops Q (o :: rest) a w := by
  obtain ⟨i0, hi, hz⟩ := Option.map_eq_some_iff.1 Tryd.info24r
  simp only [Prod.mk.injEq] at hz
  obtain ⟨hz0, hz1, hz2⟩ := hz
  obtain ⟨es, clock, hm, _⟩ := ht.pm
  have hlt := (Array.getElem?_eq_some_iff.1 hm).1
  refine wpList_append_own_at w hgd s x 22 ho (w0.heap.size + 2) 24 i0 _ 3 40 Tryd.underlying22 hi hz0 hz1 hz2 rfl (by decide) v todo.length (todo.flatMap Ex.cs) hs ht.row ad 1 c y.cs hx rfl hnews ?_ ?_ ?_ (by omega) ?_
  · intro u hu
    simp [Ex.cs] at hu
    rcases hu with rfl | rfl | rfl <;> rfl
  · unfold maxLen; omega
  · omega
  · intro v' w' h1 h2 _ h4
    have hB := (Array.getElem?_eq_some_iff.1 hb.box).1
    refine h v' w' (ht.push h1 h2) ⟨(h2.block B hB hb.off.symm).trans hb.box, ?_⟩ h2.size
    rcases h4 with h4 | h4
    · rw [h4]; exact hb.off
    · rw [h4]
      intro e
      cases e
      omega
theorem BX.below {w w' : World} {B : Nat} {v : Value} {x : Ex} (h : BX w B v x) (hb : Below w.heap.size w w') : BX w' B v x := ⟨(hb.block B (Array.getElem?_eq_some_iff.1 h.box).1).trans h.box, h.off⟩
theorem BX.cell {w : World} {B : Nat} {v : Value} {x : Ex} (h : BX w B v x) : w.cell? ⟨B, 2, none⟩ = some (.slice x.a x.l.length x.c) := by simp [World.cell?, h.box]
end Go.Proofs.YtjdefmjcnpgjiaaDoor
