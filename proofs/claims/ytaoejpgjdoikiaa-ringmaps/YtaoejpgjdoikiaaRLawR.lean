/-
  Helps of the laws over rings: a ring, and the law's list beside it; append at the head.
-/
import Derived.Test.YtaoejpgjdoikiaaRHelp
namespace Go.Proofs.Ytaoejpgjdoikiaa
open Go.RowKit

section
variable {P : Program} {w : World}
theorem run_append_none_any (base : Nat) (t ty e : TypeId) (i : TypeInfo) (size : Nat) (ht : P.underlying t = some (.slice e)) (hi : P.info? e = some i)
    (v : Value) (n : Nat) (xs : List Value) (hown : w.ownsRow base e size v n xs) (c : Nat) :
    (Builtin.append_ #[t, t] ty #[v, .slice none 0 c]).run P w = .ok v w := by
  rcases hown.2 with ⟨rfl, rfl⟩ | ⟨g, cap, cur, rfl, _, _, hnc, _⟩
  · simp [Builtin.append_, run_underlying ht, sizeOf, typeInfo, hi, Builtin.lenOf, Builtin.firstCells]
  · simp [Builtin.append_, run_underlying ht, sizeOf, typeInfo, hi, Builtin.lenOf, Builtin.firstCells, hnc, storeCells]
theorem wpList_append_none_any {ops : Array Oper} {rest : List Oper} {o : Oper} {a : Act} {Q : Exit → Act → World → Prop} (hgd : o.guard = none) (s x : Operand) (t : TypeId)
    (ho : o.op = .call { callee := .builtin .append, args := #[s, x], argTypes := #[t, t] })
    (base : Nat) (e : TypeId) (i : TypeInfo) (size : Nat) (ht : P.underlying t = some (.slice e)) (hi : P.info? e = some i)
    (v : Value) (n : Nat) (xs : List Value) (hs : a.eval s = v) (hown : w.ownsRow base e size v n xs) (c : Nat) (hx : a.eval x = .slice none 0 c)
    (h : wpList P ops Q rest (a.put o.dst v) w) : wpList P ops Q (o :: rest) a w := by
  refine wpList_plain hgd fun K hK => ?_
  have hrun := run_append_none_any (P := P) (w := w) base t o.type e i size ht hi v n xs hown c
  unfold Oper.wp
  simp [execOp, ho, resolve, invoke, builtin, hs, hx, hrun, Result.andThen]
  exact hK _ _ h
end
/-- A list of just x, new. -/
theorem OwnL.lit {α : Type} {t : Nat} {cs : α → List Value} (w : World) (x : α) (f : α → Value) (hcs : cs x = [f x]) : OwnL t 1 cs w.heap.size (w.alloc (.cells #[f x] t)) (.slice (some ⟨w.heap.size, 0, none⟩) 1 1) [x] := by
  have := World.ownsRow_lit (base := w.heap.size) (e := t) (size := 1) w #[f x] 1 (Nat.le_refl _) (by unfold maxLen; omega) rfl
  show World.ownsRow _ _ _ _ _ 1 _
  simpa [hcs] using this
/-- append's law: all of xs behind a new x. -/
theorem app_front {α : Type} {t sl by_ : Nat} {z : Value} {cs : α → List Value} {f : α → Value} (hcf : ∀ x, cs x = [f x]) (h1f : ∀ x, (f x).oneCell' = true) (hinfo : (Try.prog.info? t).map (fun i => (i.zero, i.size, i.bytes)) = some (some z, 1, by_)) (hund : Try.prog.underlying sl = some (.slice t)) (hz : z.cells.size = 1) (hby : by_ ≤ 100)
    {w : World} {ops : Array Oper} {rest : List Oper} {o : Oper} {a : Act} {Q : Exit → Act → World → Prop} (hgd : o.guard = none) (s y : Operand)
    (ho : o.op = .call { callee := .builtin .append, args := #[s, y], argTypes := #[sl, sl] }) (x : α) (base : Nat) (v : Value) (xs : List α) (hs : a.eval s = .slice (some ⟨w.heap.size, 0, none⟩) 1 1) (hy : a.eval y = v) (hrow : Row t 1 cs base w v xs) (hl : xs.length ≤ 1000000)
    (h : ∀ v' w', OwnL t 1 cs w.heap.size w' v' (x :: xs) → Below w.heap.size w w' → wpList Try.prog ops Q rest (a.put o.dst v') w') : wpList Try.prog ops Q (o :: rest) a (w.alloc (.cells #[f x] t)) := by
  obtain ⟨i0, hi, hz0, hz1, hz2⟩ := info_parts hinfo
  have hlit := OwnL.lit (t := t) (cs := cs) w x f (hcf x)
  have ba : Below w.heap.size w (w.alloc (.cells #[f x] t)) := (Below.refl _ _).alloc (Nat.le_refl _) _
  rcases hrow with ⟨rfl, rfl⟩ | ⟨g, off, cap, cur, rfl, h2, h3, h4, h5, h6, h7⟩
  · exact wpList_append_none_any hgd s y sl ho w.heap.size t i0 1 hund hi _ _ _ hs hlit 0 hy (h _ _ hlit ba)
  · have h3' : BoxT t (w.alloc (.cells #[f x] t)) g cur := h3.alloc _
    refine wpList_append_own _ hgd s y sl ho w.heap.size t i0 z 1 by_ hund hi hz0 hz1 hz2 hz (by decide) _ 1 _ hs hlit ⟨g, off, none⟩ xs.length cap (xs.flatMap cs) hy ?_ ?_ ?_ ?_ ?_ (by simp) ?_
    · rw [flat_size (fun y => by rw [hcf y]; rfl)]
    · intro j u hj
      rw [show (⟨g, off, none⟩ : Addr).add j = ⟨g, off + j, none⟩ by unfold Addr.add; split <;> simp_all, h3'.cellAt]
      exact h7 j u hj
    · intro u hu
      simp only [List.mem_flatMap] at hu
      obtain ⟨y, _, hu⟩ := hu
      rw [hcf y] at hu
      simp at hu
      subst hu
      exact h1f y
    · unfold maxLen; omega
    · have : (1 + xs.length) * by_ ≤ 1000001 * 100 := Nat.mul_le_mul (by omega) hby
      omega
    · intro v' w' e1 e2 _
      refine h v' w' ?_ (ba.trans ⟨e2.os, e2.tape, e2.output, by have := e2.size; simp at this ⊢; omega, fun i hi => e2.block i (by simp; omega) (by simp [Value.ownBlock]; omega)⟩)
      show w'.ownsRow _ t 1 v' (x :: xs).length ((x :: xs).flatMap cs)
      simpa [Nat.add_comm] using e1
/-- A ring, and the law's list beside it. -/
structure RI {α : Type} (T e : Nat) (f : α → Value) (cs : α → List Value) (W w : World) (k b mo : Nat) (vq : Value) (qt q : List α) : Prop where
  r : Rg T e f w k b mo qt
  row : Row e 1 cs W.heap.size w vq q
  bel : Below W.heap.size W w
  hk : W.heap.size ≤ k
  hb : W.heap.size ≤ b
  hbl : b < w.heap.size
  d : ∀ g, vq.ownBlock = some g → g ≠ k ∧ g ≠ b
section
variable {α : Type} {T e : Nat} {f : α → Value} {cs : α → List Value} {W w w' : World} {k b mo : Nat} {vq : Value} {qt qt' q q' : List α}
theorem RI.below (H : RI T e f cs W w k b mo vq qt q) (hb : Below w.heap.size w w') : RI T e f cs W w' k b mo vq qt q :=
  ⟨H.r.below hb, H.row.below hb, H.bel.trans (hb.mono H.bel.size), H.hk, H.hb, by have := H.hbl; have := hb.size; omega, H.d⟩
/-- The ring turned. -/
theorem RI.turn (H : RI T e f cs W w k b mo vq qt q) {b' : Nat} (h1 : Rg T e f w' k b' mo qt') (t : Turned k b w w') (hb : b' = b ∨ w.heap.size ≤ b') : ∃ b'', RI T e f cs W w' k b'' mo vq qt' q := by
  have hlt : ∀ g, vq.ownBlock = some g → g < w.heap.size := fun g e => by obtain ⟨cur, h⟩ := H.row.has g e; exact h.lt
  have hrow := H.row.back (w' := w') (fun g e => t.block g (hlt g e) (H.d g e).1 (H.d g e).2)
  have hbel := t.toBelow H.bel H.bel.size H.hk H.hb
  have hkl := h1.lt
  have hsz := H.bel.size
  have ht := t.size
  have hbl := H.hbl
  have hHb := H.hb
  obtain ⟨L, hd, so, h2⟩ := h1
  rcases h2.pl with p | ⟨p1, p2, p3, cur, p4, p5⟩
  · exact ⟨k, ⟨L, hd, so, h2.box, h2.le, h2.big, .inl p⟩, hrow, hbel, H.hk, H.hk, hkl, fun g e => ⟨(H.d g e).1, (H.d g e).1⟩⟩
  · refine ⟨b', ⟨L, hd, so, h2⟩, hrow, hbel, H.hk, by omega, p4.lt, fun g e => ⟨(H.d g e).1, ?_⟩⟩
    have := hlt g e
    rcases hb with rfl | hb
    · exact (H.d g e).2
    · omega
/-- The list turned. -/
theorem RI.rowed (H : RI T e f cs W w k b mo vq qt q) {v' : Value} (h1 : Row e 1 cs W.heap.size w' v' q') (hg : w.grownBy w' vq.ownBlock) (hat : ∀ g, v'.ownBlock = some g → vq.ownBlock = some g ∨ w.heap.size ≤ g) : RI T e f cs W w' k b mo v' qt q' := by
  have hne : ∀ i, i < w.heap.size → vq.ownBlock ≠ some i → w'.heap[i]? = w.heap[i]? := fun i hi h => hg.block i hi (fun e => h e.symm)
  have hkl := H.r.lt
  have hbl := H.hbl
  refine ⟨H.r.back (hne k hkl (fun e => (H.d k e).1 rfl)) (fun h => hne b h (fun e => (H.d b e).2 rfl)), h1, ?_, H.hk, H.hb, by have := hg.size; omega, fun g e => ?_⟩
  · exact ⟨hg.os.trans H.bel.os, hg.tape.trans H.bel.tape, hg.output.trans H.bel.output, Nat.le_trans H.bel.size hg.size, fun i hi => (hne i (Nat.lt_of_lt_of_le hi H.bel.size) (fun e => by have := H.row.at i e; omega)).trans (H.bel.block i hi)⟩
  · rcases hat g e with h | h
    · exact H.d g h
    · omega
/-- A new list. -/
theorem RI.newRow (H : RI T e f cs W w k b mo vq qt q) {v' : Value} (h1 : OwnL e 1 cs w.heap.size w' v' q') (hb : Below w.heap.size w w') : RI T e f cs W w' k b mo v' qt q' := by
  have H2 := H.below hb
  have hkl := H.r.lt
  have hbl := H.hbl
  have hsz := H.bel.size
  exact ⟨H2.r, Row.of_own (h1.mono hsz), H2.bel, H.hk, H.hb, H2.hbl, fun g e => by have := h1.at g e; omega⟩
/-- No list. -/
theorem RI.noRow (H : RI T e f cs W w k b mo vq qt q) : RI T e f cs W w k b mo (.slice none 0 0) qt [] :=
  ⟨H.r, Row.nil _ _ _ _ _, H.bel, H.hk, H.hb, H.hbl, fun g e => (by cases e)⟩
/-- The head of the list, and what is left behind it. -/
theorem RI.tail (hcs : ∀ x, cs x = [f x]) {x : α} {pa : Option Addr} {n pc : Nat} (H : RI T e f cs W w k b mo (.slice pa n pc) qt (x :: q)) : ∃ g off, pa = some ⟨g, off, none⟩ ∧ n = q.length + 1 ∧ 1 ≤ pc ∧ w.cell? ⟨g, off, none⟩ = some (f x) ∧
    (pc ≠ 1 → RI T e f cs W w k b mo (.slice (some ⟨g, off + 1, none⟩) q.length (pc - 1)) qt q) ∧ (pc = 1 → q = [] ∧ RI T e f cs W w k b mo (.slice (some ⟨g, off, none⟩) 0 0) qt q) := by
  have hl : ∀ x, (cs x).length = 1 := fun x => by rw [hcs x]; rfl
  obtain ⟨g, off, rfl, h1, h2, h3, h4⟩ := H.row.tail hl
  obtain ⟨g', off', cap', e, hr⟩ := H.row.read hl (i := 0) rfl
  cases e
  refine ⟨g, off, rfl, h1, h2, by simpa using hr 0 _ (by rw [hcs x]; rfl), fun hc => H.rowed (h3 hc) (grownBy_refl _ _) (fun g e => .inl e), fun hc => ?_⟩
  obtain ⟨h5, rfl⟩ := h4 hc
  exact ⟨rfl, H.rowed h5 (grownBy_refl _ _) (fun g e => .inl e)⟩
/-- The i-th of the list. -/
theorem RI.get (hcs : ∀ x, cs x = [f x]) (H : RI T e f cs W w k b mo vq qt q) {i : Nat} {x : α} (hx : q[i]? = some x) : ∃ g off cap, vq = .slice (some ⟨g, off, none⟩) q.length cap ∧ w.cell? ⟨g, off + i, none⟩ = some (f x) := by
  obtain ⟨g, off, cap, h1, h2⟩ := H.row.read (fun x => by rw [hcs x]; rfl) hx
  exact ⟨g, off, cap, h1, by simpa using h2 0 _ (by rw [hcs x]; rfl)⟩
end
end Go.Proofs.Ytaoejpgjdoikiaa
