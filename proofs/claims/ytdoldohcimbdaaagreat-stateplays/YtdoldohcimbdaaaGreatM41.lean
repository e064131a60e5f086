/-
  Texts in build order: SGen, SMergeP.
-/
import Derived.Test.YtdoldohcimbdaaaGreatM40
import Derived.Test.YtdoldohcimbdaaaGreatM37
import Derived.Test.YtdoldohcimbdaaaGreatM32
/-
  Of general use beside the document's windows.
-/
namespace Go.Proofs.YtdoldohcimbdaaaGreat
open Go.RowKit

theorem BoxT.four {t : TypeId} {w : World} {k : Nat} {c0 c1 c2 c3 : Value} (h : BoxT t w k #[c0, c1, c2, c3]) (u0 u1 u2 u3 : Value) : BoxT t ((((w.setCell ⟨k, 0, none⟩ u0).setCell ⟨k, 1, none⟩ u1).setCell ⟨k, 2, none⟩ u2).setCell ⟨k, 3, none⟩ u3) k #[u0, u1, u2, u3] := by
  have h0 : BoxT t _ _ #[u0, c1, c2, c3] := h.set 0 u0
  have h1 : BoxT t _ _ #[u0, u1, c2, c3] := h0.set 1 u1
  have h2 : BoxT t _ _ #[u0, u1, u2, c3] := h1.set 2 u2
  exact h2.set 3 u3
theorem below_four {B : Nat} {a w : World} (h : Below B a w) {k : Nat} (hk : B ≤ k) (u0 u1 u2 u3 : Value) : Below B a ((((w.setCell ⟨k, 0, none⟩ u0).setCell ⟨k, 1, none⟩ u1).setCell ⟨k, 2, none⟩ u2).setCell ⟨k, 3, none⟩ u3) :=
  (((h.setCell (p := ⟨k, 0, none⟩) hk u0).setCell (p := ⟨k, 1, none⟩) hk u1).setCell (p := ⟨k, 2, none⟩) hk u2).setCell (p := ⟨k, 3, none⟩) hk u3
theorem box4 {w : World} {K : Nat} {x : Pn} (h : BoxT 70 w K x.cs.toArray) : w.cell? ⟨K, 0, none⟩ = some (.int .i64 x.k) ∧ w.cell? ⟨K, 1, none⟩ = some (.int .i64 x.f) ∧ w.cell? ⟨K, 2, none⟩ = some (.int .i64 x.t) ∧ w.cell? ⟨K, 3, none⟩ = some (.int .i64 x.a) := h.cells4
theorem heap_four (w : World) (k : Nat) (u0 u1 u2 u3 : Value) (i : Nat) (h : i ≠ k) : ((((w.setCell ⟨k, 0, none⟩ u0).setCell ⟨k, 1, none⟩ u1).setCell ⟨k, 2, none⟩ u2).setCell ⟨k, 3, none⟩ u3).heap[i]? = w.heap[i]? := by
  rw [Below.heap_setCell _ ⟨k, 3, none⟩ u3 i h, Below.heap_setCell _ ⟨k, 2, none⟩ u2 i h, Below.heap_setCell _ ⟨k, 1, none⟩ u1 i h, Below.heap_setCell _ ⟨k, 0, none⟩ u0 i h]
theorem wp_segL {α : Type} {t sl sz by_ : Nat} {z : Value} {cs : α → List Value} (hinfo : (Tryz.prog.info? t).map (fun i => (i.zero, i.size, i.bytes)) = some (some z, sz, by_)) (hund : Tryz.prog.underlying sl = some (.slice t)) (hz : z.cells.size = sz) (hsz : 0 < sz) (hby : by_ ≤ 100)
    (hcs : ∀ x, (cs x).length = sz) (h1c : ∀ x, ∀ u ∈ cs x, u.oneCell' = true) {w : World} {o : Oper} {a : Act} {K : Act → World → Prop} {Q : Exit → Act → World → Prop} (s x : Operand)
    (ho : o.op = .call { callee := .builtin .append, args := #[s, x], argTypes := #[sl, sl] }) (base : Nat) (v : Value) (xs : List α) (hs : a.eval s = v) (hown : OwnL t sz cs base w v xs)
    (B : Nat) (v2 : Value) (ys : List α) (hx : a.eval x = v2) (hseg : LSeg sz cs B w v2 ys) (hl : xs.length + ys.length ≤ 1000000) (hbase : base ≤ w.heap.size)
    (h : ∀ v' w', OwnL t sz cs base w' v' (xs ++ ys) → w.grownBy w' v.ownBlock → (v'.ownBlock = v.ownBlock ∨ v'.ownBlock = some w.heap.size) → K (a.put o.dst v') w') : Oper.wp Tryz.prog o a w K Q := by
  obtain ⟨v', w', hr, h2, h3, h4⟩ := run_segL hinfo hund hz hsz hby hcs h1c o.type base hown hseg hl hbase
  unfold Oper.wp execOp
  simp only [ho, resolve, invoke, builtin, Sem.run_bind, Sem.run_pure, Result.andThen_ok, List.map_toArray, List.map_cons, List.map_nil, hs, hx, hr]
  exact h v' w' h2 h3 h4
end Go.Proofs.YtdoldohcimbdaaaGreat
/-
  The document's overlap and merge.
-/
namespace Go.Proofs.YtdoldohcimbdaaaGreat
open Go.RowKit

set_option maxHeartbeats 1000000 in
set_option maxRecDepth 100000 in
theorem roverlap_any (w : World) (af at_ bf bt : Int) : Calls Tryz.prog 74 #[.agg #[.int .i64 af, .int .i64 at_], .agg #[.int .i64 bf, .int .i64 bt]] w fun e w' => e = .returned (.bool (decide (af < bt) && decide (bf < at_))) ∧ Below w.heap.size w w' := by
  have HB := hide (below_box2 w (.cells #[.int .i64 af, .int .i64 at_] 68) (.cells #[.int .i64 bf, .int .i64 bt] 68))
  by_cases h1 : af < bt
  · have hd : decide (af < bt) = true := decide_eq_true h1
    rw [hd, Bool.true_and]
    go_enter Tryz.func74, Tryz.ntmps74
    go_wp2_with fail
    go_ret
    exact ⟨rfl, HB.out⟩
  · have hd : decide (af < bt) = false := decide_eq_false h1
    rw [hd, Bool.false_and]
    go_enter Tryz.func74, Tryz.ntmps74
    go_wp2_with fail
    go_ret
    exact ⟨rfl, HB.out⟩
theorem LSeg.back {α : Type} {sz : Nat} {cs : α → List Value} {B B' : Nat} {w w' : World} {v : Value} {xs : List α} (h : LSeg sz cs B w v xs) (hb : ∀ b, v.ownBlock = some b → w'.heap[b]? = w.heap[b]?) (hB : B ≤ B') : LSeg sz cs B' w' v xs := by
  obtain ⟨ao, cap, rfl, h2, h4⟩ := h
  refine ⟨ao, cap, rfl, h2, ?_⟩
  rcases h4 with h4 | ⟨b, off, rfl, h6, h7⟩
  · exact .inl h4
  · refine .inr ⟨b, off, rfl, by omega, fun i x hi j u hu => ?_⟩
    have e := hb b rfl
    have := h7 i x hi j u hu
    unfold World.cell? at *
    simp only [e]
    exact this
theorem LSeg.keep {w w' : World} {v : Value} {xs : List Pn} (h : LSeg 4 Pn.cs w.heap.size w v xs) (hb : xs ≠ [] → ∀ b, v.ownBlock = some b → w'.heap[b]? = w.heap[b]?) (hB : w.heap.size ≤ w'.heap.size) : LSeg 4 Pn.cs w'.heap.size w' v xs := by
  by_cases e : xs = []
  · obtain ⟨ao, cap, rfl, h2, _⟩ := h
    exact ⟨ao, cap, rfl, h2, .inl e⟩
  · exact h.back (hb e) hB
/-- What merge has under way. -/
structure MI (w wr : World) (lv : Value) (l : List Pn) (rv : Value) (rest : List Pn) (p : Pn) : Prop where
  seg : LSeg 4 Pn.cs wr.heap.size wr lv l
  off : l ≠ [] → ∀ b, lv.ownBlock = some b → b ≠ w.heap.size ∧ b < wr.heap.size ∧ rv.ownBlock ≠ some b
  own : OwnL 70 4 Pn.cs (w.heap.size + 1) wr rv rest
  box : BoxT 70 wr w.heap.size p.cs.toArray
  bel : Below w.heap.size w wr
section
variable {w wr w' : World} {lv rv v' : Value} {l rest : List Pn} {p x : Pn}
theorem MI.below (h : MI w wr lv l rv rest p) (hb : Below wr.heap.size wr w') : MI w w' lv l rv rest p :=
  ⟨h.seg.on hb, fun hl b e => ⟨(h.off hl b e).1, Nat.lt_of_lt_of_le (h.off hl b e).2.1 hb.size, (h.off hl b e).2.2⟩, h.own.below hb, BoxT.below (t := 70) h.box hb, h.bel.trans (hb.mono h.bel.size)⟩
theorem MI.put (h : MI w wr lv l rv rest p) (y : Pn) : MI w ((((wr.setCell ⟨w.heap.size, 0, none⟩ (.int .i64 y.k)).setCell ⟨w.heap.size, 1, none⟩ (.int .i64 y.f)).setCell ⟨w.heap.size, 2, none⟩ (.int .i64 y.t)).setCell ⟨w.heap.size, 3, none⟩ (.int .i64 y.a)) lv l rv rest y :=
  ⟨h.seg.keep (fun hl b e => heap_four wr _ _ _ _ _ b (h.off hl b e).1) (by simp), fun hl b e => by simpa using h.off hl b e, h.own.back (fun g e => heap_four wr _ _ _ _ _ g (by have := h.own.at g e; omega)), BoxT.four h.box _ _ _ _, below_four h.bel (Nat.le_refl _) _ _ _ _⟩
theorem MI.app (h : MI w wr lv l rv rest p) (o : OwnL 70 4 Pn.cs (w.heap.size + 1) w' v' (rest ++ [x])) (g : wr.grownBy w' rv.ownBlock) (hv : v'.ownBlock = rv.ownBlock ∨ v'.ownBlock = some wr.heap.size) : MI w w' lv l v' (rest ++ [x]) p := by
  have hK := h.box.lt
  have hat : ∀ k, rv.ownBlock = some k → w.heap.size + 1 ≤ k := fun k e => h.own.at k e
  refine ⟨h.seg.keep (fun hl b e => g.block b (h.off hl b e).2.1 (fun e' => (h.off hl b e).2.2 e'.symm)) g.size, fun hl b e => ⟨(h.off hl b e).1, Nat.lt_of_lt_of_le (h.off hl b e).2.1 g.size, fun e' => ?_⟩, o, ?_, h.bel.grown g h.bel.size (fun k e => by have := hat k e; omega)⟩
  · rcases hv with h1 | h1
    · exact (h.off hl b e).2.2 (h1 ▸ e')
    · rw [h1] at e'
      cases e'
      exact Nat.lt_irrefl _ (h.off hl _ e).2.1
  · have h1 := h.box
    unfold BoxT at *
    rw [g.block _ hK (fun e => by have := hat _ e.symm; omega)]; exact h1
theorem MI.next (h : MI w wr lv l rv rest p) (hl : rest.length ≤ 1000000) : MI w wr rv rest (.slice none 0 0) [] p :=
  ⟨h.own.seg Pn.cs_len (by omega), fun _ b e => ⟨by have := h.own.at b e; omega, h.own.lt b e, fun e' => by cases e'⟩, OwnL.nil _ _ _ _ _, h.box, h.bel⟩
theorem MI.drew_put (h : MI w wr lv l rv rest p) (y : Pn) : MI w ((((wr.setCell ⟨w.heap.size, 0, none⟩ (.int .i64 y.k)).setCell ⟨w.heap.size, 1, none⟩ (.int .i64 y.f)).setCell ⟨w.heap.size, 2, none⟩ (.int .i64 y.t)).setCell ⟨w.heap.size, 3, none⟩ (.int .i64 y.a)).drew lv l rv rest y :=
  (h.put y).below (Below.refl _ _).drew
end
theorem seg_one {w : World} {g : Nat} {x : Pn} (h : BoxT 70 w g #[.int .i64 x.k, .int .i64 x.f, .int .i64 x.t, .int .i64 x.a]) : LSeg 4 Pn.cs w.heap.size w (.slice (some ⟨g, 0, none⟩) 1 1) [x] := by
  refine ⟨_, 1, rfl, by simp, .inr ⟨g, 0, rfl, h.lt, fun i y hy j v hv => ?_⟩⟩
  have e0 : i = 0 := by have := lt_of_get hy; simp at this; exact this
  subst e0
  cases hy
  rw [h.cellAt]
  have hj : j < 4 := by have := lt_of_get hv; rwa [Pn.cs_len] at this
  have e4 : j = 0 ∨ j = 1 ∨ j = 2 ∨ j = 3 := by omega
  rcases e4 with rfl | rfl | rfl | rfl <;> simpa [Pn.cs] using hv
/-- What merge has come to, pure. -/
structure MP (a : Int) (p0 : Pn) (l0 l rest : List Pn) (p : Pn) (i : Nat) (met : Bool) : Prop where
  red : Reds true (jn a) (p0 :: l0) (p :: (rest ++ l.drop i))
  sub : (rest ++ l.drop i).Sublist l
  no : met = false → ∀ x ∈ rest, ¬ mt true p x
  yes : met = true → rest.length + (l.length - i) < l.length
  fp : Full p
  fl : ∀ x ∈ l, Full x
theorem sub_step {l rest : List Pn} {i : Nat} {x : Pn} (hx : l[i]? = some x) (h : (rest ++ l.drop i).Sublist l) : (rest ++ l.drop (i + 1)).Sublist l := by
  refine List.Sublist.trans ?_ h
  rw [drop_at hx]
  exact List.Sublist.append_left (List.sublist_cons_self _ _) rest
theorem meets_full {x p : Pn} (hx : Full x) (hp : Full p) (hk : x.k = p.k) : (decide (x.f < p.t) && decide (p.f < x.t)) = true ↔ mt true x p := by
  unfold Full at *
  simp only [Bool.and_eq_true, decide_eq_true_eq, mt, hk, true_and, Bool.true_eq_false, false_and, or_false]
  omega
theorem MP.met {a : Int} {p0 x p : Pn} {l0 l rest : List Pn} {i : Nat} {m : Bool} (h : MP a p0 l0 l rest p i m) (hx : l[i]? = some x) (hm : mt true p x) : MP a p0 l0 l rest (jp (jn a) p x) (i + 1) true := by
  have hil := lt_of_get hx
  have hle := h.sub.length_le
  rw [List.length_append, List.length_drop] at hle
  refine ⟨h.red.trans ?_, sub_step hx h.sub, (fun e => by cases e), (fun _ => by omega), jp_full hm h.fp (h.fl x (List.mem_of_getElem? hx)), h.fl⟩
  rw [drop_at hx]
  refine (Reds.of_perm ?_).trans (Reds.pair (rest ++ l.drop (i + 1)) hm)
  exact .cons _ List.perm_middle
theorem MP.past {a : Int} {p0 x p : Pn} {l0 l rest : List Pn} {i : Nat} {m : Bool} (h : MP a p0 l0 l rest p i m) (hx : l[i]? = some x) (hm : ¬ mt true p x) : MP a p0 l0 l (rest ++ [x]) p (i + 1) m := by
  have hil := lt_of_get hx
  have e : rest ++ l.drop i = (rest ++ [x]) ++ l.drop (i + 1) := by rw [drop_at hx]; simp
  refine ⟨e ▸ h.red, e ▸ h.sub, fun e1 y hy => ?_, fun e1 => ?_, h.fp, h.fl⟩
  · rcases List.mem_append.1 hy with hy | hy
    · exact h.no e1 y hy
    · obtain rfl := List.mem_singleton.1 hy; exact hm
  · have := h.yes e1
    rw [List.length_append, List.length_singleton]
    omega
theorem MP.turn {a : Int} {p0 p : Pn} {l0 l rest : List Pn} {m : Bool} (h : MP a p0 l0 l rest p l.length m) : rest.Sublist l ∧ Reds true (jn a) (p0 :: l0) (p :: rest) := by
  have h1 := h.sub
  have h2 := h.red
  rw [List.drop_length, List.append_nil] at h1 h2
  exact ⟨h1, h2⟩
theorem MP.start {a : Int} {p0 p : Pn} {l0 l : List Pn} (h : Reds true (jn a) (p0 :: l0) (p :: l)) (hf : Full p) (hl : ∀ x ∈ l, Full x) : MP a p0 l0 l [] p 0 false :=
  ⟨(by simpa using h), (by simp), (fun _ x hx => by simp at hx), (fun e => by cases e), hf, hl⟩
end Go.Proofs.YtdoldohcimbdaaaGreat
