/-
  Rows that are read, rows of one's own, what a call turns.
-/
import Derived.Test.YteafnohponbbeaaKBase
import Derived.Test.YteafnohponbbeaaKHold
namespace Go.Proofs.Yteafnohponbbeaa
open Go.RowKit

theorem lt_of_get {α : Type} {l : List α} {i : Nat} {x : α} (h : l[i]? = some x) : i < l.length := (List.getElem?_eq_some_iff.1 h).1
theorem get_of_lt {α : Type} {l : List α} {i : Nat} (h : i < l.length) : ∃ x, l[i]? = some x := ⟨_, List.getElem?_eq_getElem h⟩
theorem seg_int {B : Nat} {w : World} {ao : Option Addr} {n cap : Nat} {xs : List Int} (h : LSeg 1 i64cs B w (.slice ao n cap) xs) {t : Nat} {x : Int} (hx : xs[t]? = some x) : ∃ b o, ao = some ⟨b, o, none⟩ ∧ b < B ∧ w.cell? ⟨b, o + t, none⟩ = some (.int .i64 x) := by
  obtain ⟨ao', cap', e, _, hs⟩ := h
  cases e
  rcases hs with rfl | ⟨b, off, rfl, hb, hc⟩
  · simp at hx
  · exact ⟨b, off, rfl, hb, by simpa using hc t x hx 0 _ rfl⟩
theorem LSeg.shape {B : Nat} {w : World} {v : Value} {xs : List Int} (h : LSeg 1 i64cs B w v xs) : ∃ ao cap, v = .slice ao xs.length cap := by
  obtain ⟨ao, cap, e, _⟩ := h
  exact ⟨ao, cap, e⟩
theorem BoxT.below {t : TypeId} {w w' : World} {k : Nat} {cs : Array Value} (h : BoxT t w k cs) (hb : Below w.heap.size w w') : BoxT t w' k cs := by
  have hk := h.lt
  unfold BoxT at *
  rw [hb.block k hk]; exact h
theorem OwnL.seg {α : Type} {t sz : Nat} {cs : α → List Value} {base : Nat} {w : World} {v : Value} {xs : List α} (h : OwnL t sz cs base w v xs) (hcs : ∀ x, (cs x).length = sz) (hl : xs.length ≤ 140737488355328) : LSeg sz cs w.heap.size w v xs := by
  have hn := h.1
  rcases h.2 with ⟨rfl, h0⟩ | ⟨g, cap, cur, rfl, h2, h3, h4, h5, h6, h7⟩
  · have : xs = [] := List.length_eq_zero_iff.1 h0
    subst this
    exact ⟨none, 0, rfl, by simp, .inl rfl⟩
  · refine ⟨some ⟨g, 0, none⟩, cap, rfl, hl, .inr ⟨g, 0, rfl, (Array.getElem?_eq_some_iff.1 h3).1, fun i x hi j u hu => ?_⟩⟩
    have h8 := flat_get hcs xs i j x u hi hu
    rw [← h7, List.getElem?_take] at h8
    split at h8
    · have hb : BoxT t w g cur := h3
      rw [hb.cellAt, Nat.zero_add]; simpa using h8
    · cases h8
theorem LSeg.nil' {α : Type} (sz : Nat) (cs : α → List Value) (B : Nat) (w : World) : LSeg sz cs B w (.slice none 0 0) ([] : List α) := ⟨none, 0, rfl, by simp, .inl rfl⟩
theorem LSeg.shapeOf {α : Type} {sz : Nat} {cs : α → List Value} {B : Nat} {w : World} {v : Value} {xs : List α} (h : LSeg sz cs B w v xs) : ∃ ao cap, v = .slice ao xs.length cap := by
  obtain ⟨ao, cap, e, _⟩ := h
  exact ⟨ao, cap, e⟩
theorem LSeg.len {α : Type} {sz : Nat} {cs : α → List Value} {B : Nat} {w : World} {v : Value} {xs : List α} (h : LSeg sz cs B w v xs) : xs.length ≤ 140737488355328 := by
  obtain ⟨_, _, _, h, _⟩ := h
  exact h
theorem LSeg.readAt {α : Type} {sz : Nat} {cs : α → List Value} {B : Nat} {w : World} {ao : Option Addr} {n cap : Nat} {xs : List α} (h : LSeg sz cs B w (.slice ao n cap) xs) {i : Nat} {x : α} (hx : xs[i]? = some x) : ∃ b o, ao = some ⟨b, o, none⟩ ∧ b < B ∧ n = xs.length ∧ ∀ (j : Nat) (u : Value), (cs x)[j]? = some u → w.cell? ⟨b, o + i * sz + j, none⟩ = some u := by
  obtain ⟨ao', cap', e, _, hs⟩ := h
  cases e
  rcases hs with rfl | ⟨b, off, rfl, hb, hc⟩
  · simp at hx
  · exact ⟨b, off, rfl, hb, rfl, hc i x hx⟩
theorem ret_int {x y : Int} (h : x = y) : (Ending.returned (.int .i64 x)) = .returned (.int .i64 y) := by rw [h]
theorem ret_bool {x y : Bool} (h : x = y) : (Ending.returned (.bool x)) = .returned (.bool y) := by rw [h]
theorem drop_at {α : Type} {l : List α} {t : Nat} {x : α} (h : l[t]? = some x) : l.drop t = x :: l.drop (t + 1) := by
  have hl := lt_of_get h
  rw [List.getElem?_eq_getElem hl] at h
  cases h
  exact List.drop_eq_getElem_cons hl
theorem drop_end {α : Type} {l : List α} {t : Nat} (h : ¬ t < l.length) : l.drop t = [] := List.drop_eq_nil_of_le (by omega)
theorem flat_seg {α : Type} {sz : Nat} {cs : α → List Value} (hcs : ∀ x, (cs x).length = sz) (hs : 0 < sz) {w : World} {b off : Nat} {ys : List α} (hc : ∀ (i : Nat) (x : α), ys[i]? = some x → ∀ (j : Nat) (u : Value), (cs x)[j]? = some u → w.cell? ⟨b, off + i * sz + j, none⟩ = some u) (j : Nat) (u : Value) (hj : (ys.flatMap cs)[j]? = some u) : w.cell? ⟨b, off + j, none⟩ = some u := by
  have hl := lt_of_get hj
  rw [flat_size hcs] at hl
  have hi : j / sz < ys.length := (Nat.div_lt_iff_lt_mul hs).2 hl
  obtain ⟨x, hx⟩ := get_of_lt hi
  have hm : j % sz < (cs x).length := by rw [hcs]; exact Nat.mod_lt _ hs
  obtain ⟨u', hu⟩ := get_of_lt hm
  have h1 := flat_get hcs ys (j / sz) (j % sz) x u' hx hu
  have e : j / sz * sz + j % sz = j := by rw [Nat.mul_comm]; exact Nat.div_add_mod j sz
  rw [e, hj] at h1
  cases h1
  have := hc (j / sz) x hx (j % sz) u hu
  rw [Nat.add_assoc, e] at this
  exact this
theorem run_segL {α : Type} {t sl sz by_ : Nat} {z : Value} {cs : α → List Value} (hinfo : (Try.prog.info? t).map (fun i => (i.zero, i.size, i.bytes)) = some (some z, sz, by_)) (hund : Try.prog.underlying sl = some (.slice t)) (hz : z.cells.size = sz) (hsz : 0 < sz) (hby : by_ ≤ 100)
    (hcs : ∀ x, (cs x).length = sz) (h1c : ∀ x, ∀ u ∈ cs x, u.oneCell' = true) {w : World} (ty base : Nat) {v : Value} {xs : List α} (hown : OwnL t sz cs base w v xs) {B : Nat} {v2 : Value} {ys : List α} (hseg : LSeg sz cs B w v2 ys) (hl : xs.length + ys.length ≤ 1000000) (hbase : base ≤ w.heap.size) :
    ∃ v' w', (Builtin.append_ #[sl, sl] ty #[v, v2]).run Try.prog w = .ok v' w' ∧ OwnL t sz cs base w' v' (xs ++ ys) ∧ w.grownBy w' v.ownBlock ∧ (v'.ownBlock = v.ownBlock ∨ v'.ownBlock = some w.heap.size) := by
  obtain ⟨i0, hi, hz0, hz1, hz2⟩ := info_parts hinfo
  obtain ⟨ao, cap, rfl, hcap, hs⟩ := hseg
  have hb2 : (xs.length + ys.length) * by_ ≤ 140737488355328 := by
    have : (xs.length + ys.length) * by_ ≤ 1000000 * 100 := Nat.mul_le_mul hl hby
    omega
  by_cases hy : ys = []
  · subst hy
    rw [List.append_nil]
    refine ⟨v, w, ?_, hown, grownBy_refl _ _, .inl rfl⟩
    have hown2 := hown
    rcases hown2.2 with ⟨rfl, h0⟩ | ⟨g, c, cur, rfl, _, _, hnc, _⟩
    · cases ao <;> simp [Builtin.append_, run_underlying hund, sizeOf, typeInfo, hi, Builtin.lenOf, Builtin.firstCells, run_load0]
    · cases ao <;> simp [Builtin.append_, run_underlying hund, sizeOf, typeInfo, hi, Builtin.lenOf, Builtin.firstCells, hnc, storeCells, run_load0]
  · rcases hs with hs | ⟨b, off, rfl, hb, hc⟩
    · exact absurd hs hy
    · obtain ⟨v', w', r1, r2, r3, _, r4⟩ := run_append_own_at (P := Try.prog) w base sl ty t i0 z sz by_ hund hi hz0 hz1 hz2 hz hsz v xs.length (xs.flatMap cs) hown ⟨b, off, none⟩ ys.length cap (ys.flatMap cs) (flat_size hcs ys) (fun j u hj => by
        rw [add_plain2]
        exact flat_seg hcs hsz hc j u hj) (fun u hu => by
        simp only [List.mem_flatMap] at hu
        obtain ⟨y, _, hu⟩ := hu
        exact h1c y u hu) (by unfold maxLen; omega) hb2 hbase
      refine ⟨v', w', r1, ?_, r3, r4⟩
      show w'.ownsRow base t sz v' (xs ++ ys).length ((xs ++ ys).flatMap cs)
      rw [List.length_append, List.flatMap_append]; exact r2
theorem app_segL {α : Type} {t sl sz by_ : Nat} {z : Value} {cs : α → List Value} (hinfo : (Try.prog.info? t).map (fun i => (i.zero, i.size, i.bytes)) = some (some z, sz, by_)) (hund : Try.prog.underlying sl = some (.slice t)) (hz : z.cells.size = sz) (hsz : 0 < sz) (hby : by_ ≤ 100)
    (hcs : ∀ x, (cs x).length = sz) (h1c : ∀ x, ∀ u ∈ cs x, u.oneCell' = true) {w : World} {ops : Array Oper} {rest : List Oper} {o : Oper} {a : Act} {Q : Exit → Act → World → Prop} (hgd : o.guard = none) (s x : Operand)
    (ho : o.op = .call { callee := .builtin .append, args := #[s, x], argTypes := #[sl, sl] }) (base : Nat) (v : Value) (xs : List α) (hs : a.eval s = v) (hown : OwnL t sz cs base w v xs)
    (B : Nat) (v2 : Value) (ys : List α) (hx : a.eval x = v2) (hseg : LSeg sz cs B w v2 ys) (hl : xs.length + ys.length ≤ 1000000) (hbase : base ≤ w.heap.size)
    (h : ∀ v' w', OwnL t sz cs base w' v' (xs ++ ys) → w.grownBy w' v.ownBlock → (v'.ownBlock = v.ownBlock ∨ v'.ownBlock = some w.heap.size) → wpList Try.prog ops Q rest (a.put o.dst v') w') : wpList Try.prog ops Q (o :: rest) a w := by
  refine wpList_plain hgd fun K hK => ?_
  obtain ⟨v', w', hr, h2, h3, h4⟩ := run_segL hinfo hund hz hsz hby hcs h1c o.type base hown hseg hl hbase
  unfold Oper.wp execOp
  simp only [ho, resolve, invoke, builtin, Sem.run_bind, Sem.run_pure, Result.andThen_ok, List.map_toArray, List.map_cons, List.map_nil, hs, hx, hr]
  exact hK _ _ (h v' w' h2 h3 h4)
theorem app_L {α : Type} {t sl sz by_ : Nat} {z : Value} {cs : α → List Value} (hinfo : (Try.prog.info? t).map (fun i => (i.zero, i.size, i.bytes)) = some (some z, sz, by_)) (hund : Try.prog.underlying sl = some (.slice t)) (hz : z.cells.size = sz) (hsz : 0 < sz) (hby : by_ ≤ 100)
    (hcs : ∀ x, (cs x).length = sz) (h1c : ∀ x, ∀ u ∈ cs x, u.oneCell' = true)
    {w : World} {ops : Array Oper} {rest : List Oper} {o : Oper} {a : Act} {Q : Exit → Act → World → Prop} (hgd : o.guard = none) (s x : Operand)
    (ho : o.op = .call { callee := .builtin .append, args := #[s, x], argTypes := #[sl, sl] }) (base : Nat) (v : Value) (l : List α) (hs : a.eval s = v) (hown : OwnL t sz cs base w v l)
    (ad : Addr) (c : Nat) (y : α) (hx : a.eval x = .slice (some ad) 1 c) (hnews : ∀ (j : Nat) (u : Value), (cs y)[j]? = some u → w.cell? (ad.add j) = some u) (hl : l.length ≤ 1000000) (hbase : base ≤ w.heap.size)
    (h : ∀ v' w', OwnL t sz cs base w' v' (l ++ [y]) → w.grownBy w' v.ownBlock → (∀ g, v'.ownBlock = some g → v.ownBlock = some g ∨ w.heap.size ≤ g) → wpList Try.prog ops Q rest (a.put o.dst v') w') : wpList Try.prog ops Q (o :: rest) a w := by
  obtain ⟨i0, hi, hz0, hz1, hz2⟩ := info_parts hinfo
  have hb2 : (l.length + 1) * by_ ≤ 140737488355328 := by
    have : (l.length + 1) * by_ ≤ 1000001 * 100 := Nat.mul_le_mul (by omega) hby
    omega
  refine wpList_append_own_at w hgd s x sl ho base t i0 z sz by_ hund hi hz0 hz1 hz2 hz hsz v l.length (l.flatMap cs) hs hown ad 1 c (cs y) hx (by rw [hcs]; omega) hnews (h1c y) (by unfold maxLen; omega) hb2 hbase ?_
  intro v' w' h2 h3 _ h5
  refine h v' w' ?_ h3 (fun g e => ?_)
  · show w'.ownsRow _ _ _ _ _ _
    rw [List.length_append, List.flatMap_append]; simpa using h2
  · rcases h5 with h5 | h5
    · exact .inl (h5 ▸ e)
    · rw [h5] at e; cases e; exact .inr (Nat.le_refl _)
theorem OwnL.other {α β : Type} {t t' sz sz' : Nat} {cs : α → List Value} {cs' : β → List Value} {base base' : Nat} {w w' : World} {v v' : Value} {xs : List α} {ys : List β} (h : OwnL t sz cs base w v xs) (h' : OwnL t' sz' cs' base' w v' ys) (hg : w.grownBy w' v'.ownBlock) (ht : t ≠ t') : OwnL t sz cs base w' v xs := by
  refine h.back (fun g e => hg.block g (h.lt g e) (fun e' => ?_))
  obtain ⟨c1, h1⟩ := h.has g e
  obtain ⟨c2, h2⟩ := h'.has g e'.symm
  rw [h1] at h2
  simp at h2
  exact ht h2.2
theorem below_box (w : World) (o : Obj) : Below w.heap.size w (w.alloc o) := (Below.refl _ _).alloc (Nat.le_refl _) _
theorem below_box2 (w : World) (o p : Obj) : Below w.heap.size w ((w.alloc o).alloc p) := ((Below.refl _ _).alloc (Nat.le_refl _) _).alloc (by simp) _
structure FT (fp fp' : Nat → Prop) (w w' : World) : Prop where
  os : w'.os = w.os
  tape : w'.tape = w.tape
  output : w'.output = w.output
  size : w.heap.size ≤ w'.heap.size
  block : ∀ i, i < w.heap.size → ¬ fp i → w'.heap[i]? = w.heap[i]?
  sub : ∀ i, fp' i → fp i ∨ w.heap.size ≤ i
theorem FT.refl (fp : Nat → Prop) (w : World) : FT fp fp w w := ⟨rfl, rfl, rfl, Nat.le_refl _, fun _ _ _ => rfl, fun _ h => .inl h⟩
theorem FT.trans {fp fp' fp'' : Nat → Prop} {a b c : World} (h : FT fp fp' a b) (h' : FT fp' fp'' b c) : FT fp fp'' a c :=
  ⟨h'.os.trans h.os, h'.tape.trans h.tape, h'.output.trans h.output, Nat.le_trans h.size h'.size,
    fun i hi hn => (h'.block i (Nat.lt_of_lt_of_le hi h.size) (fun e => by rcases h.sub i e with e | e; exact hn e; omega)).trans (h.block i hi hn),
    fun i hi => by
      rcases h'.sub i hi with e | e
      · exact h.sub i e
      · exact .inr (Nat.le_trans h.size e)⟩
theorem FT.of_below {fp : Nat → Prop} {a b : World} (h : Below a.heap.size a b) : FT fp fp a b :=
  ⟨h.os, h.tape, h.output, h.size, fun i hi _ => h.block i hi, fun _ h => .inl h⟩
theorem FT.below {fp fp' : Nat → Prop} {a b : World} {B : Nat} (h : FT fp fp' a b) (hB : B ≤ a.heap.size) (hf : ∀ i, fp i → B ≤ i) : Below B a b :=
  ⟨h.os, h.tape, h.output, h.size, fun i hi => h.block i (by omega) (fun e => by have := hf i e; omega)⟩
theorem FT.of_grown {fp : Nat → Prop} {a b : World} {g : Nat} (h : a.grownBy b (some g)) (hg : fp g) : FT fp fp a b :=
  ⟨h.os, h.tape, h.output, h.size, fun i hi hn => h.block i hi (fun e => by cases e; exact hn hg), fun _ h => .inl h⟩
theorem FT.drew {fp fp' : Nat → Prop} {a b : World} (h : FT fp fp' a b) : FT fp fp' a b.drew := ⟨h.os, h.tape, h.output, h.size, h.block, h.sub⟩
theorem FT.apart {w w' : World} {fp fq fq' : Nat → Prop} (hf : FT fq fq' w w') (hlt : ∀ i, fp i → i < w.heap.size) (hd : ∀ i, fp i → ¬ fq i) : ∀ i, fp i → ¬ fq' i := fun i hi e => by
  rcases hf.sub i e with e | e
  · exact hd i hi e
  · have := hlt i hi; omega
end Go.Proofs.Yteafnohponbbeaa
