/-
  SinkOrder: a log, two boxes and rows of the law’s own.
-/
import Derived.Test.YteafnohponbbeaaKOrdP
namespace Go.Proofs.Yteafnohponbbeaa
open Go.RowKit

abbrev Rw := Value × List Rc
/-- A log, two boxes of a law's own, and rows of its own, each apart from each. -/
structure GOk (w wr : World) (la : Nat) (fa : Nat → Prop) (f : Int → PS) (o : List (List Rc)) (W A : Nat) (va : Array Value) (B : Nat) (vb : Array Value) (R : List Rw) : Prop where
  log : LA wr la fa f o W
  at_ : ∀ i, fa i → w.heap.size ≤ i
  wd : Below w.heap.size w wr
  ba : BoxT 55 wr A va
  la_ : w.heap.size ≤ A ∧ ¬ fa A
  bb : BoxT 56 wr B vb
  lb_ : w.heap.size ≤ B ∧ ¬ fa B
  row : ∀ (j : Nat) (x : Rw), R[j]? = some x → OwnL 39 3 Rc.cs w.heap.size wr x.1 x.2 ∧ ∀ g, x.1.ownBlock = some g → ¬ fa g
  ap : ∀ (j k : Nat) (x y : Rw), j ≠ k → R[j]? = some x → R[k]? = some y → ∀ g, x.1.ownBlock = some g → y.1.ownBlock ≠ some g
def GO (w wr : World) (la : Nat) (f : Int → PS) (o : List (List Rc)) (W A : Nat) (va : Array Value) (B : Nat) (vb : Array Value) (R : List Rw) : Prop := ∃ fa, GOk w wr la fa f o W A va B vb R
section
variable {w wr w' : World} {la A B : Nat} {f f' : Int → PS} {o o' : List (List Rc)} {W W' : Nat} {va vb : Array Value} {R : List Rw}
theorem GO.below (h : GO w wr la f o W A va B vb R) (hb : Below wr.heap.size wr w') : GO w w' la f o W A va B vb R := by
  obtain ⟨fa, h⟩ := h
  exact ⟨fa, { log := h.log.below hb, at_ := h.at_, wd := h.wd.trans (hb.mono h.wd.size), ba := h.ba.below hb, la_ := h.la_, bb := h.bb.below hb, lb_ := h.lb_, row := fun j x hx => ⟨(h.row j x hx).1.below hb, (h.row j x hx).2⟩, ap := h.ap }⟩
theorem GO.up (h : GO w wr la f o W A va B vb R) (hW : W ≤ W') : GO w wr la f o W' A va B vb R := by
  obtain ⟨fa, h⟩ := h
  exact ⟨fa, { h with log := h.log.up hW }⟩
theorem GO.world (h : GO w wr la f o W A va B vb R) : Below w.heap.size w wr := by
  obtain ⟨fa, h⟩ := h
  exact h.wd
theorem GO.boxA (h : GO w wr la f o W A va B vb R) : BoxT 55 wr A va := by
  obtain ⟨fa, h⟩ := h
  exact h.ba
theorem GO.boxB (h : GO w wr la f o W A va B vb R) : BoxT 56 wr B vb := by
  obtain ⟨fa, h⟩ := h
  exact h.bb
theorem GO.rowAt (h : GO w wr la f o W A va B vb R) {j : Nat} {x : Rw} (hx : R[j]? = some x) : OwnL 39 3 Rc.cs w.heap.size wr x.1 x.2 := by
  obtain ⟨fa, h⟩ := h
  exact (h.row j x hx).1
theorem GO.flat (h : GO w wr la f o W A va B vb R) : o.flatten.length ≤ W := by
  obtain ⟨fa, h⟩ := h
  exact h.log.flat
/-- A cell of the first box, of the second. -/
theorem GO.setA (h : GO w wr la f o W A va B vb R) (j : Nat) (u : Value) : GO w (wr.setCell ⟨A, j, none⟩ u) la f o W A (va.setIfInBounds j u) B vb R := by
  obtain ⟨fa, h⟩ := h
  have hk : ∀ i, i ≠ A → (wr.setCell ⟨A, j, none⟩ u).heap[i]? = wr.heap[i]? := fun i hi => Below.heap_setCell wr ⟨A, j, none⟩ u i hi
  have hs : (wr.setCell ⟨A, j, none⟩ u).heap.size = wr.heap.size := by simp
  have hf : FT (fun i => i = A) (fun i => i = A) wr (wr.setCell ⟨A, j, none⟩ u) := FT.set (fp := fun i => i = A) wr rfl j u
  exact ⟨fa, { log := h.log.back (fun i hi => hk i (fun e => h.la_.2 (e ▸ hi))) (by omega), at_ := h.at_, wd := h.wd.trans (hf.below h.wd.size (fun i e => by rw [e]; exact h.la_.1)), ba := h.ba.set j u, la_ := h.la_, bb := h.bb.other j u (fun e => BoxT.ne (t := 56) (t' := 55) h.bb h.ba (by decide) e), lb_ := h.lb_, row := fun k x hx => ⟨(h.row k x hx).1.otherBox h.ba (by decide) j u, (h.row k x hx).2⟩, ap := h.ap }⟩
theorem GO.setB (h : GO w wr la f o W A va B vb R) (j : Nat) (u : Value) : GO w (wr.setCell ⟨B, j, none⟩ u) la f o W A va B (vb.setIfInBounds j u) R := by
  obtain ⟨fa, h⟩ := h
  have hk : ∀ i, i ≠ B → (wr.setCell ⟨B, j, none⟩ u).heap[i]? = wr.heap[i]? := fun i hi => Below.heap_setCell wr ⟨B, j, none⟩ u i hi
  have hs : (wr.setCell ⟨B, j, none⟩ u).heap.size = wr.heap.size := by simp
  have hf : FT (fun i => i = B) (fun i => i = B) wr (wr.setCell ⟨B, j, none⟩ u) := FT.set (fp := fun i => i = B) wr rfl j u
  exact ⟨fa, { log := h.log.back (fun i hi => hk i (fun e => h.lb_.2 (e ▸ hi))) (by omega), at_ := h.at_, wd := h.wd.trans (hf.below h.wd.size (fun i e => by rw [e]; exact h.lb_.1)), ba := h.ba.other j u (fun e => BoxT.ne (t := 55) (t' := 56) h.ba h.bb (by decide) e), la_ := h.la_, bb := h.bb.set j u, lb_ := h.lb_, row := fun k x hx => ⟨(h.row k x hx).1.otherBox h.bb (by decide) j u, (h.row k x hx).2⟩, ap := h.ap }⟩
/-- One of the rows has grown. -/
theorem GO.app {w5 : World} {i : Nat} {v v5 : Value} {l l5 : List Rc} (h : GO w wr la f o W A va B vb R) (hi : R[i]? = some (v, l)) (hg : wr.grownBy w5 v.ownBlock) (ho : OwnL 39 3 Rc.cs w.heap.size w5 v5 l5) (hk : v5.ownBlock = v.ownBlock ∨ v5.ownBlock = some wr.heap.size) : GO w w5 la f o W A va B vb (R.set i (v5, l5)) := by
  obtain ⟨fa, h⟩ := h
  obtain ⟨hv, hvf⟩ := h.row i _ hi
  have hbl : ∀ b, b < wr.heap.size → v.ownBlock ≠ some b → w5.heap[b]? = wr.heap[b]? := fun b hb hne => hg.block b hb (fun e => hne e.symm)
  have hty : ∀ (t : TypeId) b ar, t ≠ 39 → BoxT t wr b ar → BoxT t w5 b ar := fun t b ar ht hb => hb.back (hbl b hb.lt (fun e => by
    obtain ⟨cur, hc⟩ := hv.has b e
    exact BoxT.ne (t := t) (t' := 39) hb hc ht rfl))
  have hv5 : ∀ g, v5.ownBlock = some g → v.ownBlock = some g ∨ g = wr.heap.size := fun g e => by
    rcases hk with e2 | e2
    · exact .inl (e2 ▸ e)
    · rw [e2] at e; cases e; exact .inr rfl
  have hf5 : ∀ g, v5.ownBlock = some g → ¬ fa g := fun g e hfa => by
    rcases hv5 g e with e | e
    · exact hvf g e hfa
    · have := h.log.flt g hfa; omega
  have hset : ∀ (j : Nat) (x : Rw), (R.set i (v5, l5))[j]? = some x → (j = i ∧ x = (v5, l5)) ∨ (j ≠ i ∧ R[j]? = some x) := fun j x hx => by
    by_cases hj : j = i
    · subst hj
      rw [List.getElem?_set_self (lt_of_get hi)] at hx
      cases hx; exact .inl ⟨rfl, rfl⟩
    · rw [List.getElem?_set_ne (fun e => hj e.symm)] at hx
      exact .inr ⟨hj, hx⟩
  have hd5 : ∀ (j : Nat) (x : Rw), j ≠ i → R[j]? = some x → ∀ g, x.1.ownBlock = some g → v5.ownBlock ≠ some g := fun j x hj hx g e e2 => by
    rcases hv5 g e2 with e3 | e3
    · exact h.ap j i x _ hj hx hi g e e3
    · have := (h.row j x hx).1.lt g e; omega
  refine ⟨fa, { log := h.log.back (fun b hb => hbl b (h.log.flt b hb) (fun e => hvf b e hb)) hg.size, at_ := h.at_, wd := h.wd.grown hg h.wd.size (fun g e => hv.at g e), ba := hty _ _ _ (by decide) h.ba, la_ := h.la_, bb := hty _ _ _ (by decide) h.bb, lb_ := h.lb_, row := fun j x hx => ?_, ap := fun j k x y hjk hx hy g e => ?_ }⟩
  · rcases hset j x hx with ⟨rfl, rfl⟩ | ⟨hj, hx⟩
    · exact ⟨ho, hf5⟩
    · exact ⟨(h.row j x hx).1.back (fun g e => hbl g ((h.row j x hx).1.lt g e) (fun e2 => h.ap j i x _ hj hx hi g e e2)), (h.row j x hx).2⟩
  · rcases hset j x hx with ⟨rfl, rfl⟩ | ⟨hj, hx0⟩
    · rcases hset k y hy with ⟨rfl, rfl⟩ | ⟨hk2, hy⟩
      · exact absurd rfl hjk
      · exact fun e2 => hd5 k y hk2 hy g e2 e
    · rcases hset k y hy with ⟨hk2, rfl⟩ | ⟨hk2, hy⟩
      · exact hd5 j x hj hx0 g e
      · exact h.ap j k x y hjk hx0 hy g e
theorem GO.post {fa : Nat → Prop} (h : GOk w wr la fa f o W A va B vb R) (hp : LPost wr w' la fa f' o' W') : GO w w' la f' o' W' A va B vb R := by
  obtain ⟨fa', h1, h2⟩ := hp
  have hn : ∀ i, i < wr.heap.size → ¬ fa i → ¬ fa' i := fun i hi hq e => by
    rcases h2.sub i e with e | e
    · exact hq e
    · omega
  refine ⟨fa', { log := h1, at_ := fun i hi => ?_, wd := h.wd.trans (h2.below h.wd.size h.at_), ba := h.ba.back (h2.block A h.ba.lt h.la_.2), la_ := ⟨h.la_.1, hn A h.ba.lt h.la_.2⟩, bb := h.bb.back (h2.block B h.bb.lt h.lb_.2), lb_ := ⟨h.lb_.1, hn B h.bb.lt h.lb_.2⟩, row := fun j x hx => ?_, ap := h.ap }⟩
  · rcases h2.sub i hi with e | e
    · exact h.at_ i e
    · have := h.wd.size; omega
  · obtain ⟨h3, h4⟩ := h.row j x hx
    exact ⟨h3.back (fun g e => h2.block g (h3.lt g e) (h4 g e)), fun g e => hn g (h3.lt g e) (h4 g e)⟩
theorem GO.stage (h : GO w wr la f o W A va B vb R) (hW : W ≤ 500000) {k : Int} (hk : In64 k) (n : Nat) {rv : Value} {rs : List Rc} {C : Nat} (hr : LSeg 3 Rc.cs C wr rv rs) (hC : C ≤ wr.heap.size) (hrl : rs.length ≤ 500000) :
    Calls Try.prog 11 #[.pointer (some ⟨la, 0, none⟩), .int .i64 k, .int .u64 (n : Int), rv] wr fun e w' => e = .returned (.int .i64 (stE f k n)) ∧ GO w w' la (stF f k n rs) o (W + rs.length + 1) A va B vb R := by
  obtain ⟨fa, h⟩ := h
  refine (Stage_LA h.log hW hk n hr hC hrl).mono ?_
  rintro e' w' ⟨rfl, hp⟩
  exact ⟨rfl, GO.post h hp⟩
theorem GO.commit (h : GO w wr la f o W A va B vb R) (hW : W ≤ 500000) {k : Int} (hk : In64 k) (n : Nat) :
    Calls Try.prog 13 #[.pointer (some ⟨la, 0, none⟩), .int .i64 k, .int .u64 (n : Int)] wr fun e w' => e = .returned (.int .i64 (cmE f k n)) ∧ GO w w' la (cmF f k n) (o ++ cmO f k n) W A va B vb R := by
  obtain ⟨fa, h⟩ := h
  refine (Commit_LA h.log hW hk n).mono ?_
  rintro e' w' ⟨rfl, hp⟩
  exact ⟨rfl, GO.post h hp⟩
theorem GO.all (h : GO w wr la f o W A va B vb R) (hW : W ≤ 500000) : Calls Try.prog 18 #[.pointer (some ⟨la, 0, none⟩)] wr fun e w' => ∃ u, e = .returned u ∧ OwnL 39 3 Rc.cs wr.heap.size w' u o.flatten ∧ Below wr.heap.size wr w' := by
  obtain ⟨fa, h⟩ := h
  exact All_LA h.log hW
theorem GO.last (h : GO w wr la f o W A va B vb R) {k : Int} (hk : In64 k) : Calls Try.prog 19 #[.pointer (some ⟨la, 0, none⟩), .int .i64 k] wr fun e w' => e = .returned (.int .u64 ((f k).last : Int)) ∧ wr = w' := by
  obtain ⟨fa, h⟩ := h
  exact Last_LA h.log hk
theorem GO.staged (h : GO w wr la f o W A va B vb R) (hW : W ≤ 500000) {k : Int} (hk : In64 k) : Calls Try.prog 22 #[.pointer (some ⟨la, 0, none⟩), .int .i64 k] wr fun e w' => ∃ u, e = .returned u ∧ OwnL 32 1 u64cs wr.heap.size w' u ((f k).stg.map Prod.fst) ∧ Below wr.heap.size wr w' := by
  obtain ⟨fa, h⟩ := h
  exact Staged_LA h.log hW hk
theorem GO.upto (h : GO w wr la f o W A va B vb R) (hW : W ≤ 500000) {k : Int} (hk : In64 k) (n : Nat) : Calls Try.prog 24 #[.pointer (some ⟨la, 0, none⟩), .int .i64 k, .int .u64 (n : Int)] wr fun e w' => ∃ u, e = .returned u ∧ OwnL 39 3 Rc.cs wr.heap.size w' u (uptoS (f k) n) ∧ Below wr.heap.size wr w' := by
  obtain ⟨fa, h⟩ := h
  exact Upto_LA h.log hW hk n
end

end Go.Proofs.Yteafnohponbbeaa
