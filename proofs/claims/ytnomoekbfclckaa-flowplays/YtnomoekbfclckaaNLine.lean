/-
  A line: rings in a row, of which one at most is there while no more than 512 things are.
-/
import Derived.Deep.RegionLaw
import Derived.Maps.AppendAt
import Derived.Test.YtnomoekbfclckaaNPair
namespace Go.Proofs.Ytnomoekbfclckaa
open Go.RowKit

theorem add_plain2 (b o i : Nat) : (⟨b, o, none⟩ : Addr).add i = ⟨b, o + i, none⟩ := by unfold Addr.add; split <;> simp_all
/-- append onto a row that begins anywhere. -/
theorem run_row {α : Type} {t sl sz by_ : Nat} {z : Value} {cs : α → List Value} (hinfo : (Try.prog.info? t).map (fun i => (i.zero, i.size, i.bytes)) = some (some z, sz, by_)) (hund : Try.prog.underlying sl = some (.slice t)) (hz : z.cells.size = sz) (hsz : 0 < sz) (hby : by_ ≤ 100)
    (hcs : ∀ x, (cs x).length = sz) (h1c : ∀ x, ∀ u ∈ cs x, u.oneCell' = true) {w : World} (ty base : Nat) {v : Value} {xs : List α} (hown : Row t sz cs base w v xs)
    (ad : Addr) (c : Nat) (y : α) (hnews : ∀ j u, (cs y)[j]? = some u → w.cell? (ad.add j) = some u) (hl : xs.length ≤ 1000000) (hbase : base ≤ w.heap.size) :
    ∃ v' w', (Builtin.append_ #[sl, sl] ty #[v, .slice (some ad) 1 c]).run Try.prog w = .ok v' w' ∧ Row t sz cs base w' v' (xs ++ [y]) ∧ w.grownBy w' v.ownBlock ∧ ∀ g, v'.ownBlock = some g → v.ownBlock = some g ∨ w.heap.size ≤ g := by
  obtain ⟨i0, hi, hz0, hz1, hz2⟩ := info_parts hinfo
  have hb2 : (xs.length + 1) * by_ ≤ 140737488355328 := by
    have : (xs.length + 1) * by_ ≤ 1000001 * 100 := Nat.mul_le_mul (by omega) hby
    omega
  have grown : ∀ v' w', w'.ownsRow w.heap.size t sz v' (xs.length + 1) (xs.flatMap cs ++ cs y) → Row t sz cs base w' v' (xs ++ [y]) ∧ ∀ g, v'.ownBlock = some g → v.ownBlock = some g ∨ w.heap.size ≤ g := by
    intro v' w' h1
    have h2 : OwnL t sz cs w.heap.size w' v' (xs ++ [y]) := by
      show w'.ownsRow _ t sz v' (xs ++ [y]).length ((xs ++ [y]).flatMap cs)
      rw [List.length_append, List.flatMap_append]; simpa using h1
    exact ⟨Row.of_own (h2.mono hbase), fun g e => .inr (h2.at g e)⟩
  rcases id hown with ⟨rfl, rfl⟩ | ⟨g, off, cap, cur, rfl, g2, g3, g4, g5, g6, g7⟩
  · obtain ⟨v', w', r1, r2, r3, _, _⟩ := run_append_own_at (P := Try.prog) w w.heap.size sl ty t i0 z sz by_ hund hi hz0 hz1 hz2 hz hsz (.slice none 0 0) 0 [] (World.ownsRow_nil _ _ _ _) ad 1 c (cs y) (by rw [hcs]; omega) hnews (h1c y) (by unfold maxLen; omega) (by simpa using hb2) (Nat.le_refl _)
    obtain ⟨k1, k2⟩ := grown v' w' (by simpa using r2)
    exact ⟨v', w', r1, k1, r3, k2⟩
  · by_cases hr : xs.length + 1 ≤ cap
    · have hfit : off + xs.length * sz + (cs y).length ≤ cur.size := by
        have : (xs.length + 1) * sz ≤ cap * sz := Nat.mul_le_mul_right _ hr
        rw [Nat.succ_mul] at this; rw [hcs]; omega
      have hrun := run_append_room_cells (P := Try.prog) w sl ty t i0 hund hi g off xs.length cap ad 1 c (cs y) (by rw [hcs, hz1]; omega) hnews (h1c y) hr
        (fun j hj => by rw [hz1, g3.cellAt, Array.getElem?_eq_getElem (show off + xs.length * sz + j < cur.size by omega)]; rfl) (fun j _ => g3.free _)
      rw [hz1] at hrun
      refine ⟨_, _, hrun, ?_, grown_setCells g (cs y) w _, fun g' e => .inl e⟩
      refine .inr ⟨g, off, cap, setL cur (off + xs.length * sz) (cs y), by simp, g2, g3.setCells (cs y), by simpa using hr, g5, by rw [setL_size]; exact g6, fun j u hu => ?_⟩
      rw [List.flatMap_append] at hu
      simp only [List.flatMap_cons, List.flatMap_nil, List.append_nil] at hu
      by_cases hj : j < xs.length * sz
      · rw [List.getElem?_append_left (by rw [flat_size hcs]; exact hj)] at hu
        rw [setL_out _ _ _ _ (.inl (by omega))]
        exact g7 j u hu
      · rw [List.getElem?_append_right (by rw [flat_size hcs]; omega), flat_size hcs] at hu
        rw [show off + j = off + xs.length * sz + (j - xs.length * sz) by omega]
        exact setL_in _ _ _ _ _ hfit hu
    · obtain ⟨v', w', r1, r2, r3⟩ := run_append_arg_grows (P := Try.prog) w sl ty t i0 z sz by_ hund hi hz0 hz1 hz2 hz hsz ⟨g, off, none⟩ xs.length cap (xs.flatMap cs) (flat_size hcs xs) (fun j u hj => by rw [add_plain2, g3.cellAt]; exact g7 j u hj) ad 1 c (cs y) (by rw [hcs]; omega) hnews (by omega) (by unfold maxLen; omega) hb2
      obtain ⟨k1, k2⟩ := grown v' w' r2
      exact ⟨v', w', r1, k1, ⟨r3.os, r3.tape, r3.output, r3.size, fun i hi _ => r3.block i hi (by simp)⟩, k2⟩
theorem step_row {α : Type} {t sl sz by_ : Nat} {z : Value} {cs : α → List Value} (hinfo : (Try.prog.info? t).map (fun i => (i.zero, i.size, i.bytes)) = some (some z, sz, by_)) (hund : Try.prog.underlying sl = some (.slice t)) (hz : z.cells.size = sz) (hsz : 0 < sz) (hby : by_ ≤ 100)
    (hcs : ∀ x, (cs x).length = sz) (h1c : ∀ x, ∀ u ∈ cs x, u.oneCell' = true) {w : World} {ops : Array Oper} {o : Oper} {a : Act} {K : Act → World → Prop} {Q : Exit → Act → World → Prop} {E : Prop} (hgd : o.guard = none) (s x : Operand)
    (ho : o.op = .call { callee := .builtin .append, args := #[s, x], argTypes := #[sl, sl] }) (base : Nat) (v : Value) (xs : List α) (hs : a.eval s = v) (hown : Row t sz cs base w v xs)
    (ad : Addr) (c : Nat) (y : α) (hx : a.eval x = .slice (some ad) 1 c) (hnews : ∀ j u, (cs y)[j]? = some u → w.cell? (ad.add j) = some u) (hl : xs.length ≤ 1000000) (hbase : base ≤ w.heap.size)
    (h : ∀ v' w', Row t sz cs base w' v' (xs ++ [y]) → w.grownBy w' v.ownBlock → (∀ g, v'.ownBlock = some g → v.ownBlock = some g ∨ w.heap.size ≤ g) → K (a.put o.dst v') w') :
    if Region.wanted o (yielded ops a.tmps) = true then Oper.wp Try.prog o a w K Q else E := by
  have hw : Region.wanted o (yielded ops a.tmps) = true := by simp [Region.wanted, hgd]
  rw [if_pos hw]
  obtain ⟨v', w', hr, h2, h3, h4⟩ := run_row hinfo hund hz hsz hby hcs h1c o.type base hown ad c y hnews hl hbase
  unfold Oper.wp execOp
  simp only [ho, resolve, invoke, builtin, Sem.run_bind, Sem.run_pure, Result.andThen_ok, List.map_toArray, List.map_cons, List.map_nil, hs, hx, hr]
  exact h v' w' h2 h3 h4
/-- A ring's place in a row of rings. -/
def pc (k : Nat) : List Value := [.pointer (some ⟨k, 0, none⟩)]
theorem pc1 (k : Nat) : (pc k).length = 1 := rfl
theorem pcc (k : Nat) : ∀ u ∈ pc k, u.oneCell' = true := fun u hu => by rcases List.mem_singleton.1 hu with rfl; rfl
/-- Nothing turned but the blocks fp; there may be more. -/
structure TurnedL (fp : List Nat) (w w' : World) : Prop where
  os : w'.os = w.os
  tape : w'.tape = w.tape
  output : w'.output = w.output
  size : w.heap.size ≤ w'.heap.size
  block : ∀ i, i < w.heap.size → i ∉ fp → w'.heap[i]? = w.heap[i]?
theorem TurnedL.refl (fp : List Nat) (w : World) : TurnedL fp w w := ⟨rfl, rfl, rfl, Nat.le_refl _, fun _ _ _ => rfl⟩
theorem TurnedL.of_below {fp : List Nat} {w w' : World} (h : Below w.heap.size w w') : TurnedL fp w w' := ⟨h.os, h.tape, h.output, h.size, fun i hi _ => h.block i hi⟩
theorem TurnedL.of_turned {fp : List Nat} {k b : Nat} {w w' : World} (h : Turned k b w w') (hk : k ∈ fp ∨ w.heap.size ≤ k) (hb : b ∈ fp ∨ w.heap.size ≤ b) : TurnedL fp w w' :=
  ⟨h.os, h.tape, h.output, h.size, fun i hi hn => h.block i hi (fun e => by subst e; rcases hk with hk | hk; exact hn hk; omega) (fun e => by subst e; rcases hb with hb | hb; exact hn hb; omega)⟩
theorem TurnedL.of_grown {fp : List Nat} {w w' : World} {r : Option Nat} (h : w.grownBy w' r) (hr : ∀ g, r = some g → g ∈ fp ∨ w.heap.size ≤ g) : TurnedL fp w w' :=
  ⟨h.os, h.tape, h.output, h.size, fun i hi hn => h.block i hi (fun e => by rcases hr i e.symm with h | h; exact hn h; omega)⟩
theorem TurnedL.set {fp : List Nat} {K : Nat} (hK : K ∈ fp) (w : World) (j : Nat) (u : Value) : TurnedL fp w (w.setCell ⟨K, j, none⟩ u) :=
  ⟨rfl, rfl, rfl, by simp, fun i _ hn => Below.heap_setCell w ⟨K, j, none⟩ u i (fun e => hn (by rw [e]; exact hK))⟩
/-- The blocks fp' are old ones or new. -/
def Grew (fp fp' : List Nat) (w : World) : Prop := ∀ i ∈ fp', i ∈ fp ∨ w.heap.size ≤ i
theorem Grew.refl (fp : List Nat) (w : World) : Grew fp fp w := fun _ h => .inl h
theorem TurnedL.trans {fp fp' : List Nat} {u v w : World} (h : TurnedL fp u v) (h' : TurnedL fp' v w) (hg : Grew fp fp' u) : TurnedL fp u w :=
  ⟨h'.os.trans h.os, h'.tape.trans h.tape, h'.output.trans h.output, Nat.le_trans h.size h'.size, fun i hi hn => (h'.block i (Nat.lt_of_lt_of_le hi h.size) (fun hm => by rcases hg i hm with h | h; exact hn h; omega)).trans (h.block i hi hn)⟩
theorem Grew.trans {a b c : List Nat} {u v : World} (h : Grew a b u) (h' : Grew b c v) (hs : u.heap.size ≤ v.heap.size) : Grew a c u := fun i hi => by
  rcases h' i hi with h1 | h1
  · exact h i h1
  · exact .inr (Nat.le_trans hs h1)
theorem BoxT.turnedL {t g : Nat} {fp : List Nat} {w w' : World} {cs : Array Value} (h : BoxT t w g cs) (ht : TurnedL fp w w') (hn : g ∉ fp) : BoxT t w' g cs := by
  have := h.lt
  unfold BoxT at *
  rw [ht.block g this hn]; exact h
theorem BoxT.grownO {t k : Nat} {w w' : World} {cs : Array Value} {r : Option Nat} (h : BoxT t w k cs) (hg : w.grownBy w' r) (hr : r ≠ some k) : BoxT t w' k cs := by
  have := h.lt
  unfold BoxT at *
  rw [hg.block k this (fun e => hr e.symm)]; exact h
/-- What is asked of rings. -/
structure RL {α : Type} (R : World → Nat → Nat → List α → Prop) : Prop where
  back : ∀ {w w' : World} {k b : Nat} {q : List α}, R w k b q → w'.heap[k]? = w.heap[k]? → (b < w.heap.size → w'.heap[b]? = w.heap[b]?) → R w' k b q
  lt : ∀ {w : World} {k b : Nat} {q : List α}, R w k b q → k < w.heap.size ∧ b < w.heap.size
/-- A line at cell o of block K: it has the things q; fp: its blocks. -/
structure Ln {α : Type} (P : Nat) (R : World → Nat → Nat → List α → Prop) (w : World) (fp : List Nat) (K o t : Nat) (cs : Array Value) (q : List α) (v : Value) (ks : List Nat) : Prop where
  box : BoxT t w K cs
  c0 : cs[o]? = some v
  c1 : cs[o + 1]? = some (.int .i64 q.length)
  row : Row P 1 pc 0 w v ks
  inK : K ∈ fp
  own : ∀ g, v.ownBlock = some g → g ∈ fp ∧ g ≠ K
  lt : ∀ i ∈ fp, i < w.heap.size
  rings : (ks = [] ∧ q = []) ∨ ∃ k b, ks = [k] ∧ q ≠ [] ∧ R w k b q ∧ k ∈ fp ∧ b ∈ fp ∧ k ≠ K ∧ b ≠ K ∧ ∀ g, v.ownBlock = some g → g ≠ k ∧ g ≠ b
section
variable {α : Type} {P : Nat} {R : World → Nat → Nat → List α → Prop} {w w' : World} {fp : List Nat} {K o t : Nat} {cs : Array Value} {q : List α} {v : Value} {ks : List Nat}
theorem Ln.back (hR : RL R) (H : Ln P R w fp K o t cs q v ks) (hs : w.heap.size ≤ w'.heap.size) (hb : ∀ i ∈ fp, w'.heap[i]? = w.heap[i]?) : Ln P R w' fp K o t cs q v ks := by
  refine ⟨by have := H.box; unfold BoxT at *; rw [hb K H.inK]; exact this, H.c0, H.c1, H.row.back (fun g hg => hb g (H.own g hg).1), H.inK, H.own, fun i hi => Nat.lt_of_lt_of_le (H.lt i hi) hs, ?_⟩
  rcases H.rings with h | ⟨k, b, h1, h2, h3, h4, h5, h6⟩
  · exact .inl h
  · exact .inr ⟨k, b, h1, h2, hR.back h3 (hb k h4) (fun _ => hb b h5), h4, h5, h6⟩
theorem Ln.below (hR : RL R) (H : Ln P R w fp K o t cs q v ks) (hb : Below w.heap.size w w') : Ln P R w' fp K o t cs q v ks := H.back hR hb.size (fun i hi => hb.block i (H.lt i hi))
theorem Ln.cells (H : Ln P R w fp K o t cs q v ks) : w.cell? ⟨K, o, none⟩ = some v ∧ w.cell? ⟨K, o + 1, none⟩ = some (.int .i64 q.length) := ⟨(H.box.cellAt o).trans H.c0, (H.box.cellAt (o + 1)).trans H.c1⟩
theorem Ln.empty (H : Ln P R w fp K o t cs ([] : List α) v ks) : ks = [] := by
  rcases H.rings with h | ⟨_, _, _, h, _⟩
  · exact h.1
  · exact absurd rfl h
end
/-- The boxes cs and cs' differ at the cells o, o + 1 alone. -/
def Like (o : Nat) (cs cs' : Array Value) : Prop := cs'.size = cs.size ∧ ∀ j, j ≠ o → j ≠ o + 1 → cs'[j]? = cs[j]?
theorem Like.refl (o : Nat) (cs : Array Value) : Like o cs cs := ⟨rfl, fun _ _ _ => rfl⟩
theorem Like.set0 {o : Nat} {cs cs' : Array Value} (h : Like o cs cs') (v : Value) : Like o cs (cs'.setIfInBounds o v) := ⟨by simpa using h.1, fun j h1 h2 => by rw [Array.getElem?_setIfInBounds_ne (fun e => h1 e.symm)]; exact h.2 j h1 h2⟩
theorem Like.set1 {o : Nat} {cs cs' : Array Value} (h : Like o cs cs') (v : Value) : Like o cs (cs'.setIfInBounds (o + 1) v) := ⟨by simpa using h.1, fun j h1 h2 => by rw [Array.getElem?_setIfInBounds_ne (fun e => h2 e.symm)]; exact h.2 j h1 h2⟩
/-- A line with a ring, which may have nothing in it yet, or any more. -/
structure LnR {α : Type} (P : Nat) (R : World → Nat → Nat → List α → Prop) (w : World) (fp : List Nat) (K o t : Nat) (cs : Array Value) (n : Int) (q : List α) (v : Value) (k b : Nat) : Prop where
  box : BoxT t w K cs
  c0 : cs[o]? = some v
  c1 : cs[o + 1]? = some (.int .i64 n)
  row : Row P 1 pc 0 w v [k]
  inK : K ∈ fp
  own : ∀ g, v.ownBlock = some g → g ∈ fp ∧ g ≠ K
  lt : ∀ i ∈ fp, i < w.heap.size
  ring : R w k b q
  kf : k ∈ fp
  bf : b ∈ fp
  kK : k ≠ K
  bK : b ≠ K
  sep : ∀ g, v.ownBlock = some g → g ≠ k ∧ g ≠ b
section
variable {α : Type} {P : Nat} {R : World → Nat → Nat → List α → Prop} {w w' : World} {fp : List Nat} {K o t k b b' : Nat} {cs : Array Value} {q q' : List α} {v : Value} {ks : List Nat} {n : Int}
theorem LnR.ln (H : LnR P R w fp K o t cs q.length q v k b) (hq : q ≠ []) : Ln P R w fp K o t cs q v [k] :=
  ⟨H.box, H.c0, H.c1, H.row, H.inK, H.own, H.lt, .inr ⟨k, b, rfl, hq, H.ring, H.kf, H.bf, H.kK, H.bK, H.sep⟩⟩
theorem Ln.lnR (H : Ln P R w fp K o t cs q v ks) (hq : q ≠ []) : ∃ k b, ks = [k] ∧ LnR P R w fp K o t cs q.length q v k b := by
  rcases H.rings with ⟨_, h⟩ | ⟨k, b, h1, h2, h3, h4, h5, h6, h7, h8⟩
  · exact absurd h hq
  · subst h1
    exact ⟨k, b, rfl, H.box, H.c0, H.c1, H.row, H.inK, H.own, H.lt, h3, h4, h5, h6, h7, h8⟩
theorem LnR.below (hR : RL R) (H : LnR P R w fp K o t cs n q v k b) (hb : Below w.heap.size w w') : LnR P R w' fp K o t cs n q v k b :=
  ⟨by have h := H.box.lt; have := H.box; unfold BoxT at *; rw [hb.block K h]; exact this, H.c0, H.c1, H.row.back (fun g hg => hb.block g (H.lt g (H.own g hg).1)), H.inK, H.own, fun i hi => Nat.lt_of_lt_of_le (H.lt i hi) hb.size, hR.back H.ring (hb.block k (H.lt k H.kf)) (fun h => hb.block b h), H.kf, H.bf, H.kK, H.bK, H.sep⟩
/-- The ring turned by a call. -/
theorem LnR.turn (hR : RL R) (H : LnR P R w fp K o t cs n q v k b) (hr : R w' k b' q') (ht : Turned k b w w') (hb : b' = b ∨ w.heap.size ≤ b') : LnR P R w' (b' :: fp) K o t cs n q' v k b' ∧ TurnedL fp w w' ∧ Grew fp (b' :: fp) w := by
  have hKl := H.box.lt
  have hbl := (hR.lt hr).2
  refine ⟨⟨H.box.turned ht (fun e => H.kK e.symm) (fun e => H.bK e.symm), H.c0, H.c1, H.row.back (fun g hg => ht.block g (H.lt g (H.own g hg).1) (H.sep g hg).1 (H.sep g hg).2), List.mem_cons_of_mem _ H.inK, fun g hg => ⟨List.mem_cons_of_mem _ (H.own g hg).1, (H.own g hg).2⟩, fun i hi => ?_, hr, List.mem_cons_of_mem _ H.kf, List.mem_cons_self, H.kK, ?_, fun g hg => ⟨(H.sep g hg).1, ?_⟩⟩, TurnedL.of_turned ht (.inl H.kf) (.inl H.bf), fun i hi => ?_⟩
  · rcases List.mem_cons.1 hi with rfl | hi
    · exact hbl
    · exact Nat.lt_of_lt_of_le (H.lt i hi) ht.size
  · rcases hb with rfl | hb
    · exact H.bK
    · omega
  · rcases hb with rfl | hb
    · exact (H.sep g hg).2
    · have := H.lt g (H.own g hg).1
      omega
  · rcases List.mem_cons.1 hi with rfl | hi
    · exact hb.imp (fun e => by rw [e]; exact H.bf) id
    · exact .inl hi
/-- How many: set anew. -/
theorem LnR.count (hR : RL R) (H : LnR P R w fp K o t cs n q v k b) (m : Int) : LnR P R (w.setCell ⟨K, o + 1, none⟩ (.int .i64 m)) fp K o t (cs.setIfInBounds (o + 1) (.int .i64 m)) m q v k b := by
  have hn : ∀ i, i ≠ K → (w.setCell ⟨K, o + 1, none⟩ (.int .i64 m)).heap[i]? = w.heap[i]? := fun i hi => Below.heap_setCell w ⟨K, o + 1, none⟩ _ i hi
  exact ⟨H.box.set _ _, by rw [Array.getElem?_setIfInBounds_ne (by omega)]; exact H.c0, set_self _ (Array.getElem?_eq_some_iff.1 H.c1).1, H.row.back (fun g hg => hn g (H.own g hg).2), H.inK, H.own, fun i hi => by simpa using H.lt i hi, hR.back H.ring (hn k H.kK) (fun _ => hn b H.bK), H.kf, H.bf, H.kK, H.bK, H.sep⟩
/-- A first ring. -/
theorem Ln.made (hR : RL R) (H : Ln P R w fp K o t cs ([] : List α) v []) {w1 w3 : World} {v3 : Value} (hr : R w1 w.heap.size w.heap.size ([] : List α)) (b1 : Below w.heap.size w w1) {ob : Obj} (r3 : Row P 1 pc 0 w3 v3 [w.heap.size]) (g3 : (w1.alloc ob).grownBy w3 v.ownBlock) (at3 : ∀ g, v3.ownBlock = some g → v.ownBlock = some g ∨ (w1.alloc ob).heap.size ≤ g) :
    ∃ fp', LnR P R (w3.setCell ⟨K, o, none⟩ v3) fp' K o t (cs.setIfInBounds o v3) 0 ([] : List α) v3 w.heap.size w.heap.size ∧ TurnedL fp w (w3.setCell ⟨K, o, none⟩ v3) ∧ Grew fp fp' w := by
  have hk := (hR.lt hr).1
  have hs3 := g3.size
  simp at hs3
  have hKl := H.box.lt
  have hown : ∀ g, v.ownBlock = some g → g < w.heap.size := fun g hg => H.lt g (H.own g hg).1
  have hn : ∀ i, i ≠ K → (w3.setCell ⟨K, o, none⟩ v3).heap[i]? = w3.heap[i]? := fun i hi => Below.heap_setCell w3 ⟨K, o, none⟩ _ i hi
  have hbx : BoxT t w3 K cs := by
    have h1 : BoxT t w1 K cs := by have := H.box; unfold BoxT at *; rw [b1.block K hKl]; exact this
    exact (h1.alloc ob).grownO g3 (fun e => (H.own K e).2 rfl)
  have hkk : w3.heap[w.heap.size]? = w1.heap[w.heap.size]? := (g3.block _ (by simp; omega) (fun e => by have := hown _ e.symm; omega)).trans (Below.heap_alloc w1 ob _ hk)
  have hfl : ∀ g, v3.ownBlock = some g → g < w3.heap.size := fun g hg => by obtain ⟨cur, hc⟩ := r3.has g hg; exact hc.lt
  have hb2 := b1.size
  refine ⟨w.heap.size :: (v3.ownBlock.toList ++ fp), ⟨hbx.set _ _, set_self _ (Array.getElem?_eq_some_iff.1 H.c0).1, by rw [Array.getElem?_setIfInBounds_ne (by omega)]; simpa using H.c1, r3.back (fun g hg => hn g (fun e => ?_)), by simp [H.inK], fun g hg => ⟨by simp [hg], fun e => ?_⟩, fun i hi => ?_, hR.back hr ((hn _ (by omega)).trans hkk) (fun _ => (hn _ (by omega)).trans hkk), by simp, by simp, by omega, by omega, fun g hg => ?_⟩, ?_, fun i hi => ?_⟩
  · rcases at3 g hg with h | h
    · exact (H.own g h).2 e
    · simp at h; omega
  · rcases at3 g hg with h | h
    · exact (H.own g h).2 e
    · simp at h; omega
  · simp only [List.mem_cons, List.mem_append, Option.mem_toList] at hi
    have : (w3.setCell ⟨K, o, none⟩ v3).heap.size = w3.heap.size := by simp
    rw [this]
    rcases hi with rfl | hi | hi
    · omega
    · exact hfl i hi
    · have := H.lt i hi; omega
  · have : g ≠ w.heap.size := by
      rcases at3 g hg with h | h
      · have := hown g h; omega
      · simp at h; omega
    exact ⟨this, this⟩
  · refine ((TurnedL.of_below b1).trans ((TurnedL.of_below (w' := w1.alloc ob) ((Below.refl _ _).alloc (Nat.le_refl _) _)).trans (TurnedL.of_grown g3 (fun g hg => .inl (H.own g hg).1)) (Grew.refl _ _)) (Grew.refl _ _)).trans (TurnedL.set H.inK _ _ _) (Grew.refl _ _)
  · simp only [List.mem_cons, List.mem_append, Option.mem_toList] at hi
    rcases hi with rfl | hi | hi
    · exact .inr (Nat.le_refl _)
    · rcases at3 i hi with h | h
      · exact .inl (H.own i h).1
      · simp at h; exact .inr (by omega)
    · exact .inl hi
/-- The last ring gone. -/
theorem LnR.dropped {g off cap : Nat} (H : LnR P R w fp K o t cs n q (.slice (some ⟨g, off, none⟩) 1 cap) k b) :
    Ln P R (((w.drew.setCell ⟨g, off, none⟩ (.pointer none)).setCell ⟨K, o, none⟩ (.slice (some ⟨g, off, none⟩) 0 cap)).setCell ⟨K, o + 1, none⟩ (.int .i64 0)) fp K o t ((cs.setIfInBounds o (.slice (some ⟨g, off, none⟩) 0 cap)).setIfInBounds (o + 1) (.int .i64 0)) ([] : List α) (.slice (some ⟨g, off, none⟩) 0 cap) [] ∧
    TurnedL fp w (((w.drew.setCell ⟨g, off, none⟩ (.pointer none)).setCell ⟨K, o, none⟩ (.slice (some ⟨g, off, none⟩) 0 cap)).setCell ⟨K, o + 1, none⟩ (.int .i64 0)) ∧
    BoxT t (w.drew.setCell ⟨g, off, none⟩ (.pointer none)) K cs := by
  obtain ⟨hgf, hgK⟩ := H.own g rfl
  have hbx : BoxT t (w.drew.setCell ⟨g, off, none⟩ (.pointer none)) K cs := (H.box.drew).other off _ (fun e => hgK e.symm)
  have hsz : (((w.drew.setCell ⟨g, off, none⟩ (.pointer none)).setCell ⟨K, o, none⟩ (.slice (some ⟨g, off, none⟩) 0 cap)).setCell ⟨K, o + 1, none⟩ (.int .i64 0)).heap.size = w.heap.size := by
    have hs : ∀ (W : World) (p : Addr) (u : Value), (W.setCell p u).heap.size = W.heap.size := fun _ _ _ => by simp
    rw [hs, hs, hs]; rfl
  refine ⟨⟨(hbx.set _ _).set _ _, ?_, ?_, ?_, H.inK, fun g' e => ?_, fun i hi => by rw [hsz]; exact H.lt i hi, .inl ⟨rfl, rfl⟩⟩, ?_, hbx⟩
  · rw [Array.getElem?_setIfInBounds_ne (by omega)]
    exact set_self _ (Array.getElem?_eq_some_iff.1 H.c0).1
  · exact set_self _ (by rw [Array.size_setIfInBounds]; exact (Array.getElem?_eq_some_iff.1 H.c1).1)
  · rcases H.row with ⟨h, _⟩ | ⟨g', off', cap', cur, e, h2, h3, h4, h5, h6, h7⟩
    · cases h
    · cases e
      exact .inr ⟨g, off, cap, _, rfl, Nat.zero_le _, ((h3.drew.set off (.pointer none)).other o _ hgK).other (o + 1) _ hgK, Nat.zero_le _, h5, by simpa using h6, fun j u hu => by simp at hu⟩
  · cases e
    exact ⟨hgf, hgK⟩
  · exact (((TurnedL.of_below ((Below.refl _ _).drew)).trans (TurnedL.set hgf _ _ _) (Grew.refl _ _)).trans (TurnedL.set H.inK _ _ _) (Grew.refl _ _)).trans (TurnedL.set H.inK _ _ _) (Grew.refl _ _)
end
end Go.Proofs.Ytnomoekbfclckaa
