/-
  The document's channel: how it lies, and its calls (first part).
-/
import Derived.Test.YtnomoekbfclckaaFLaw2
namespace Go.Proofs.Ytnomoekbfclckaa
open Go.RowKit

def u64cs (x : Int) : List Value := [Value.int .u64 x]
theorem u64cs_len (x : Int) : (u64cs x).length = 1 := rfl
theorem u64cs_one (x : Int) : ∀ u ∈ u64cs x, u.oneCell' = true := fun u hu => by simp [u64cs] at hu; subst hu; rfl
theorem Try.info27' : (Try.prog.info? 27).map (fun i => (i.zero, i.size, i.bytes)) = some (some (.int .u64 0), 1, 8) := by kernel_rfl
/-- append onto a row that has no room: a new row, and nothing old is turned. -/
theorem run_full {α : Type} {t sl sz by_ : Nat} {z : Value} {cs : α → List Value} (hinfo : (Try.prog.info? t).map (fun i => (i.zero, i.size, i.bytes)) = some (some z, sz, by_)) (hund : Try.prog.underlying sl = some (.slice t)) (hz : z.cells.size = sz) (hsz : 0 < sz) (hby : by_ ≤ 100)
    (hcs : ∀ x, (cs x).length = sz) (h1c : ∀ x, ∀ u ∈ cs x, u.oneCell' = true) {w : World} (ty : Nat) {base : Nat} {a : Option Addr} {xs : List α} (hown : Row t sz cs base w (.slice a xs.length xs.length) xs)
    (ad : Addr) (c : Nat) (y : α) (hnews : ∀ j u, (cs y)[j]? = some u → w.cell? (ad.add j) = some u) (hl : xs.length ≤ 1000000) :
    ∃ v' w', (Builtin.append_ #[sl, sl] ty #[.slice a xs.length xs.length, .slice (some ad) 1 c]).run Try.prog w = .ok v' w' ∧ OwnL t sz cs w.heap.size w' v' (xs ++ [y]) ∧ Below w.heap.size w w' := by
  obtain ⟨i0, hi, hz0, hz1, hz2⟩ := info_parts hinfo
  have hb2 : (xs.length + 1) * by_ ≤ 140737488355328 := by
    have : (xs.length + 1) * by_ ≤ 1000001 * 100 := Nat.mul_le_mul (by omega) hby
    omega
  have grown : ∀ v' w', w'.ownsRow w.heap.size t sz v' (xs.length + 1) (xs.flatMap cs ++ cs y) → OwnL t sz cs w.heap.size w' v' (xs ++ [y]) := by
    intro v' w' h1
    show w'.ownsRow _ t sz v' (xs ++ [y]).length ((xs ++ [y]).flatMap cs)
    rw [List.length_append, List.flatMap_append]; simpa using h1
  rcases id hown with ⟨h, rfl⟩ | ⟨g, off, cap, cur, e, g2, g3, g4, g5, g6, g7⟩
  · cases h
    obtain ⟨v', w', r1, r2, r3, _, _⟩ := run_append_own_at (P := Try.prog) w w.heap.size sl ty t i0 z sz by_ hund hi hz0 hz1 hz2 hz hsz (.slice none 0 0) 0 [] (World.ownsRow_nil _ _ _ _) ad 1 c (cs y) (by rw [hcs]; omega) hnews (h1c y) (by unfold maxLen; omega) (by simpa using hb2) (Nat.le_refl _)
    exact ⟨v', w', r1, grown v' w' (by simpa using r2), ⟨r3.os, r3.tape, r3.output, r3.size, fun i hi => r3.block i hi (by simp [Value.ownBlock])⟩⟩
  · cases e
    obtain ⟨v', w', r1, r2, r3⟩ := run_append_arg_grows (P := Try.prog) w sl ty t i0 z sz by_ hund hi hz0 hz1 hz2 hz hsz ⟨g, off, none⟩ xs.length xs.length (xs.flatMap cs) (flat_size hcs xs) (fun j u hj => by rw [add_plain2, g3.cellAt]; exact g7 j u hj) ad 1 c (cs y) (by rw [hcs]; omega) hnews (by omega) (by unfold maxLen; omega) hb2
    exact ⟨v', w', r1, grown v' w' r2, ⟨r3.os, r3.tape, r3.output, r3.size, fun i hi => r3.block i hi (by simp)⟩⟩
theorem app_full {α : Type} {t sl sz by_ : Nat} {z : Value} {cs : α → List Value} (hinfo : (Try.prog.info? t).map (fun i => (i.zero, i.size, i.bytes)) = some (some z, sz, by_)) (hund : Try.prog.underlying sl = some (.slice t)) (hz : z.cells.size = sz) (hsz : 0 < sz) (hby : by_ ≤ 100)
    (hcs : ∀ x, (cs x).length = sz) (h1c : ∀ x, ∀ u ∈ cs x, u.oneCell' = true) {w : World} {ops : Array Oper} {rest : List Oper} {o : Oper} {a' : Act} {Q : Exit → Act → World → Prop} (hgd : o.guard = none) (s x : Operand)
    (ho : o.op = .call { callee := .builtin .append, args := #[s, x], argTypes := #[sl, sl] }) (base : Nat) (a : Option Addr) (xs : List α) (hs : a'.eval s = .slice a xs.length xs.length) (hown : Row t sz cs base w (.slice a xs.length xs.length) xs)
    (ad : Addr) (c : Nat) (y : α) (hx : a'.eval x = .slice (some ad) 1 c) (hnews : ∀ j u, (cs y)[j]? = some u → w.cell? (ad.add j) = some u) (hl : xs.length ≤ 1000000)
    (h : ∀ v' w', OwnL t sz cs w.heap.size w' v' (xs ++ [y]) → Below w.heap.size w w' → wpList Try.prog ops Q rest (a'.put o.dst v') w') : wpList Try.prog ops Q (o :: rest) a' w := by
  refine wpList_plain hgd fun K hK => ?_
  obtain ⟨v', w', hr, h2, h3⟩ := run_full hinfo hund hz hsz hby hcs h1c o.type hown ad c y hnews hl
  unfold Oper.wp execOp
  simp only [ho, resolve, invoke, builtin, Sem.run_bind, Sem.run_pure, Result.andThen_ok, List.map_toArray, List.map_cons, List.map_nil, hs, hx, hr]
  exact hK _ _ (h v' w' h2 h3)
theorem step_full {α : Type} {t sl sz by_ : Nat} {z : Value} {cs : α → List Value} (hinfo : (Try.prog.info? t).map (fun i => (i.zero, i.size, i.bytes)) = some (some z, sz, by_)) (hund : Try.prog.underlying sl = some (.slice t)) (hz : z.cells.size = sz) (hsz : 0 < sz) (hby : by_ ≤ 100)
    (hcs : ∀ x, (cs x).length = sz) (h1c : ∀ x, ∀ u ∈ cs x, u.oneCell' = true) {w : World} {ops : Array Oper} {o : Oper} {a' : Act} {K : Act → World → Prop} {Q : Exit → Act → World → Prop} {E : Prop} (hgd : o.guard = none) (s x : Operand)
    (ho : o.op = .call { callee := .builtin .append, args := #[s, x], argTypes := #[sl, sl] }) (base : Nat) (a : Option Addr) (xs : List α) (hs : a'.eval s = .slice a xs.length xs.length) (hown : Row t sz cs base w (.slice a xs.length xs.length) xs)
    (ad : Addr) (c : Nat) (y : α) (hx : a'.eval x = .slice (some ad) 1 c) (hnews : ∀ j u, (cs y)[j]? = some u → w.cell? (ad.add j) = some u) (hl : xs.length ≤ 1000000)
    (h : ∀ v' w', OwnL t sz cs w.heap.size w' v' (xs ++ [y]) → Below w.heap.size w w' → K (a'.put o.dst v') w') : if Region.wanted o (yielded ops a'.tmps) = true then Oper.wp Try.prog o a' w K Q else E := by
  have hw : Region.wanted o (yielded ops a'.tmps) = true := by simp [Region.wanted, hgd]
  rw [if_pos hw]
  obtain ⟨v', w', hr, h2, h3⟩ := run_full hinfo hund hz hsz hby hcs h1c o.type hown ad c y hnews hl
  unfold Oper.wp execOp
  simp only [ho, resolve, invoke, builtin, Sem.run_bind, Sem.run_pure, Result.andThen_ok, List.map_toArray, List.map_cons, List.map_nil, hs, hx, hr]
  exact h v' w' h2 h3
theorem Row.full {α : Type} {t sz base : Nat} {cs : α → List Value} {w : World} {a : Option Addr} {n c : Nat} {xs : List α} (h : Row t sz cs base w (.slice a n c) xs) : n = xs.length ∧ n ≤ c ∧ c ≤ maxLen ∧ Row t sz cs base w (.slice a n n) xs := by
  rcases h with ⟨h, rfl⟩ | ⟨g, off, cap, cur, e, g2, g3, g4, g5, g6, g7⟩
  · cases h
    exact ⟨rfl, Nat.le_refl _, by decide, .inl ⟨rfl, rfl⟩⟩
  · cases e
    refine ⟨rfl, g4, g5, .inr ⟨g, off, _, cur, rfl, g2, g3, Nat.le_refl _, by omega, ?_, g7⟩⟩
    have := Nat.mul_le_mul_right sz g4
    omega
set_option maxHeartbeats 1000000 in
set_option maxRecDepth 100000 in
theorem add_any {w : World} {base : Nat} {v : Value} {xs : List Int} (H : Row 3 1 i64cs base w v xs) (hl : xs.length ≤ 1000) (x : Int) :
    Calls Try.prog 51 #[v, .int .i64 x] w fun r w' => ∃ v', r = .returned v' ∧ OwnL 3 1 i64cs w.heap.size w' v' (xs ++ [x]) ∧ Below w.heap.size w w' := by
  obtain ⟨a, c, rfl⟩ := H.shape
  obtain ⟨_, h1, h2, h3⟩ := H.full
  unfold maxLen at h2
  have H3 := hide (h3.below ((Below.refl _ _).alloc (Nat.le_refl _) (.cells #[.int .i64 x] 3)))
  have gx : BoxT 3 (w.alloc (.cells #[.int .i64 x] 3)) w.heap.size #[.int .i64 x] := BoxT.new _ _ _
  have GX := hide ((gx.cellAt 0).trans rfl : (w.alloc (.cells #[.int .i64 x] 3)).cell? ⟨w.heap.size, 0, none⟩ = some (.int .i64 x))
  have hsz : (w.alloc (.cells #[.int .i64 x] 3)).heap.size = w.heap.size + 1 := by simp
  clear H h3 gx
  go_enter Try.func51, Try.ntmps51
  go_wp2_with (first | (at_builtin; refine stop_here ?_) | fail)
  generalize hw0 : w.alloc (.cells #[.int .i64 x] 3) = w0 at *
  refine app_full Try.info3' Try.underlying35 rfl (by decide) (by decide) i64cs_len i64cs_one rfl _ _ rfl base a xs rfl H3.out ⟨w.heap.size, 0, none⟩ 1 x rfl (fun j u hu => by match j, hu with | 0, hu => simp [i64cs] at hu; subst hu; rw [add_plain2]; exact GX.out) (by omega) ?_
  intro v1 w1 o1 b1
  have HF : Hid (OwnL 3 1 i64cs w.heap.size w1 v1 (xs ++ [x]) ∧ Below w.heap.size w w1) := ⟨o1.mono (by omega), (by rw [← hw0]; exact (Below.refl _ _).alloc (Nat.le_refl _) _ : Below w.heap.size w w0).trans (b1.mono (by omega))⟩
  obtain ⟨a1, c1, hv⟩ := o1.shape
  generalize (xs ++ [x]).length = n1 at hv
  subst hv
  clear o1 b1 hw0
  go_wp2
  go_ret
  exact ⟨_, rfl, HF.out.1, HF.out.2⟩
/-- The document's channel in box R. -/
structure Rf (w : World) (R cr : Nat) (S : FS Int) (vB vM vW vQ : Value) : Prop where
  box : BoxT 48 w R #[vB, vM, vW, vQ, .int .u64 S.s, .int .u64 S.e, .int .i64 cr, .int .u64 S.r, .int .i64 S.mo]
  rB : Row 3 1 i64cs 0 w vB S.back
  rM : Row 3 1 i64cs 0 w vM (S.mov.map Prod.snd)
  rW : Row 3 1 i64cs 0 w vW S.wait
  rQ : Row 27 1 u64cs 0 w vQ (S.mov.map Prod.fst)
/-- fr: its blocks. -/
structure Rg6 (w : World) (fr : List Nat) (R cr : Nat) (S : FS Int) (vB vM vW vQ : Value) : Prop where
  rf : Rf w R cr S vB vM vW vQ
  inR : R ∈ fr
  oB : ∀ g, vB.ownBlock = some g → g ∈ fr ∧ g ≠ R
  oM : ∀ g, vM.ownBlock = some g → g ∈ fr ∧ g ≠ R
  oW : ∀ g, vW.ownBlock = some g → g ∈ fr ∧ g ≠ R
  oQ : ∀ g, vQ.ownBlock = some g → g ∈ fr ∧ g ≠ R
  lt : ∀ i ∈ fr, i < w.heap.size
def Re (w : World) (fr : List Nat) (R cr : Nat) (S : FS Int) : Prop := ∃ vB vM vW vQ, Rg6 w fr R cr S vB vM vW vQ
def DidR (w w' : World) (fr : List Nat) (R cr : Nat) (S : FS Int) : Prop := ∃ fr', Re w' fr' R cr S ∧ TurnedL [R] w w' ∧ Grew fr fr' w
section
variable {w w' : World} {fr : List Nat} {R cr : Nat} {S : FS Int} {vB vM vW vQ : Value}
theorem Rg6.back (H : Rg6 w fr R cr S vB vM vW vQ) (hs : w.heap.size ≤ w'.heap.size) (hb : ∀ i ∈ fr, w'.heap[i]? = w.heap[i]?) : Rg6 w' fr R cr S vB vM vW vQ :=
  ⟨⟨by have := H.rf.box; unfold BoxT at *; rw [hb R H.inR]; exact this, H.rf.rB.back (fun g hg => hb g (H.oB g hg).1), H.rf.rM.back (fun g hg => hb g (H.oM g hg).1), H.rf.rW.back (fun g hg => hb g (H.oW g hg).1), H.rf.rQ.back (fun g hg => hb g (H.oQ g hg).1)⟩, H.inR, H.oB, H.oM, H.oW, H.oQ, fun i hi => Nat.lt_of_lt_of_le (H.lt i hi) hs⟩
theorem Rg6.below (H : Rg6 w fr R cr S vB vM vW vQ) (hb : Below w.heap.size w w') : Rg6 w' fr R cr S vB vM vW vQ := H.back hb.size (fun i hi => hb.block i (H.lt i hi))
theorem Re.lt (H : Re w fr R cr S) : ∀ i ∈ fr, i < w.heap.size := by obtain ⟨_, _, _, _, H⟩ := H; exact H.lt
theorem Re.back (H : Re w fr R cr S) (hs : w.heap.size ≤ w'.heap.size) (hb : ∀ i ∈ fr, w'.heap[i]? = w.heap[i]?) : Re w' fr R cr S := by
  obtain ⟨a, b, c, d, H⟩ := H
  exact ⟨a, b, c, d, H.back hs hb⟩
theorem Re.below (H : Re w fr R cr S) (hb : Below w.heap.size w w') : Re w' fr R cr S := H.back hb.size (fun i hi => hb.block i (H.lt i hi))
theorem Rg6.cells (H : Rg6 w fr R cr S vB vM vW vQ) : w.cell? ⟨R, 0, none⟩ = some vB ∧ w.cell? ⟨R, 1, none⟩ = some vM ∧ w.cell? ⟨R, 2, none⟩ = some vW ∧ w.cell? ⟨R, 3, none⟩ = some vQ ∧ w.cell? ⟨R, 4, none⟩ = some (.int .u64 S.s) ∧ w.cell? ⟨R, 5, none⟩ = some (.int .u64 S.e) ∧ w.cell? ⟨R, 6, none⟩ = some (.int .i64 cr) ∧ w.cell? ⟨R, 7, none⟩ = some (.int .u64 S.r) ∧ w.cell? ⟨R, 8, none⟩ = some (.int .i64 S.mo) :=
  ⟨(H.rf.box.cellAt 0).trans rfl, (H.rf.box.cellAt 1).trans rfl, (H.rf.box.cellAt 2).trans rfl, (H.rf.box.cellAt 3).trans rfl, (H.rf.box.cellAt 4).trans rfl, (H.rf.box.cellAt 5).trans rfl, (H.rf.box.cellAt 6).trans rfl, (H.rf.box.cellAt 7).trans rfl, (H.rf.box.cellAt 8).trans rfl⟩
theorem Rg6.shapes (H : Rg6 w fr R cr S vB vM vW vQ) : (∃ a c, vB = .slice a S.back.length c) ∧ (∃ a c, vM = .slice a S.mov.length c) ∧ (∃ a c, vW = .slice a S.wait.length c) ∧ (∃ a c, vQ = .slice a S.mov.length c) := by
  refine ⟨H.rf.rB.shape, ?_, H.rf.rW.shape, ?_⟩
  · have := H.rf.rM.shape; rwa [List.length_map] at this
  · have := H.rf.rQ.shape; rwa [List.length_map] at this
/-- The box stored anew: its rows lie where they lay, or in new blocks. -/
theorem Rg6.store {S' : FS Int} {vB' vM' vW' vQ' : Value} (H : Rg6 w fr R cr S vB vM vW vQ) (hb : TurnedL [R] w w')
    (hx : BoxT 48 w' R #[vB', vM', vW', vQ', .int .u64 S'.s, .int .u64 S'.e, .int .i64 cr, .int .u64 S'.r, .int .i64 S'.mo])
    (rB : Row 3 1 i64cs 0 w' vB' S'.back) (rM : Row 3 1 i64cs 0 w' vM' (S'.mov.map Prod.snd)) (rW : Row 3 1 i64cs 0 w' vW' S'.wait) (rQ : Row 27 1 u64cs 0 w' vQ' (S'.mov.map Prod.fst))
    (oB : ∀ g, vB'.ownBlock = some g → vB.ownBlock = some g ∨ w.heap.size ≤ g) (oM : ∀ g, vM'.ownBlock = some g → vM.ownBlock = some g ∨ w.heap.size ≤ g) (oW : ∀ g, vW'.ownBlock = some g → vW.ownBlock = some g ∨ w.heap.size ≤ g) (oQ : ∀ g, vQ'.ownBlock = some g → vQ.ownBlock = some g ∨ w.heap.size ≤ g) :
    DidR w w' fr R cr S' := by
  have hR := H.lt R H.inR
  let ob : Value → List Nat := fun v => v.ownBlock.toList
  have hob : ∀ (v : Value) (g : Nat), g ∈ ob v ↔ v.ownBlock = some g := fun v g => by simp [ob]
  have has : ∀ {t : Nat} {cs : Int → List Value} {v : Value} {l : List Int} (_ : Row t 1 cs 0 w' v l) (g : Nat), v.ownBlock = some g → g < w'.heap.size := fun r g hg => by obtain ⟨cur, hc⟩ := r.has g hg; exact hc.lt
  refine ⟨R :: (ob vB' ++ ob vM' ++ ob vW' ++ ob vQ'), ⟨vB', vM', vW', vQ', ⟨⟨hx, rB, rM, rW, rQ⟩, List.mem_cons_self, ?_, ?_, ?_, ?_, ?_⟩⟩, hb, ?_⟩
  · intro g hg
    refine ⟨by simp [hob, hg], fun e => ?_⟩
    rcases oB g hg with h | h
    · exact (H.oB g h).2 e
    · omega
  · intro g hg
    refine ⟨by simp [hob, hg], fun e => ?_⟩
    rcases oM g hg with h | h
    · exact (H.oM g h).2 e
    · omega
  · intro g hg
    refine ⟨by simp [hob, hg], fun e => ?_⟩
    rcases oW g hg with h | h
    · exact (H.oW g h).2 e
    · omega
  · intro g hg
    refine ⟨by simp [hob, hg], fun e => ?_⟩
    rcases oQ g hg with h | h
    · exact (H.oQ g h).2 e
    · omega
  · intro i hi
    simp only [List.mem_cons, List.mem_append, hob] at hi
    rcases hi with rfl | ((h | h) | h) | h
    · exact Nat.lt_of_lt_of_le hR hb.size
    · exact has rB i h
    · exact has rM i h
    · exact has rW i h
    · exact has rQ i h
  · intro i hi
    simp only [List.mem_cons, List.mem_append, hob] at hi
    rcases hi with rfl | ((h | h) | h) | h
    · exact .inl H.inR
    · exact (oB i h).imp (fun h => (H.oB i h).1) id
    · exact (oM i h).imp (fun h => (H.oM i h).1) id
    · exact (oW i h).imp (fun h => (H.oW i h).1) id
    · exact (oQ i h).imp (fun h => (H.oQ i h).1) id
end
end Go.Proofs.Ytnomoekbfclckaa
