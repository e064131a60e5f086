/-
  copied: a list in memory of its own.
-/
import Derived.Test.YtlikikiglicdlaaWBase
namespace Go.Proofs.Ytlikikiglicdlaa
open Go.RowKit

theorem flat_seg {α : Type} {sz : Nat} {cs : α → List Value} (hcs : ∀ x, (cs x).length = sz) (hs : 0 < sz) {w : World} {b off : Nat} {ys : List α} (hc : ∀ (i : Nat) (x : α), ys[i]? = some x → ∀ (j : Nat) (u : Value), (cs x)[j]? = some u → w.cell? ⟨b, off + i * sz + j, none⟩ = some u) (j : Nat) (u : Value) (hj : (ys.flatMap cs)[j]? = some u) : w.cell? ⟨b, off + j, none⟩ = some u := by
  have hl := lt_of_get hj
  rw [flat_size hcs] at hl
  have hi : j / sz < ys.length := (Nat.div_lt_iff_lt_mul hs).2 hl
  obtain ⟨x, hx⟩ := get_of_lt hi
  have hm : j % sz < (cs x).length := by rw [hcs]; exact Nat.mod_lt _ hs
  obtain ⟨u', hu⟩ := get_of_lt hm
  have h1 := flat_get hcs ys (j / sz) (j % sz) x u' hx hu
  have e : j / sz * sz + j % sz = j := by rw [Nat.mul_comm]; exact Nat.div_add_mod j sz
  rw [e, hj] at h1
  cases h1
  have := hc (j / sz) x hx (j % sz) u hu
  rw [Nat.add_assoc, e] at this
  exact this
/-- append of a list that can be read onto a row of one's own. -/
theorem run_segL {α : Type} {t sl sz by_ : Nat} {z : Value} {cs : α → List Value} (hinfo : (Try.prog.info? t).map (fun i => (i.zero, i.size, i.bytes)) = some (some z, sz, by_)) (hund : Try.prog.underlying sl = some (.slice t)) (hz : z.cells.size = sz) (hsz : 0 < sz) (hby : by_ ≤ 100)
    (hcs : ∀ x, (cs x).length = sz) (h1c : ∀ x, ∀ u ∈ cs x, u.oneCell' = true) {w : World} (ty base : Nat) {v : Value} {xs : List α} (hown : OwnL t sz cs base w v xs) {B : Nat} {v2 : Value} {ys : List α} (hseg : LSeg sz cs B w v2 ys) (hl : xs.length + ys.length ≤ 1000000) (hbase : base ≤ w.heap.size) :
    ∃ v' w', (Builtin.append_ #[sl, sl] ty #[v, v2]).run Try.prog w = .ok v' w' ∧ OwnL t sz cs base w' v' (xs ++ ys) ∧ w.grownBy w' v.ownBlock ∧ (v'.ownBlock = v.ownBlock ∨ v'.ownBlock = some w.heap.size) := by
  obtain ⟨i0, hi, hz0, hz1, hz2⟩ := info_parts hinfo
  obtain ⟨ao, cap, rfl, hcap, hs⟩ := hseg
  have hb2 : (xs.length + ys.length) * by_ ≤ 140737488355328 := by
    have : (xs.length + ys.length) * by_ ≤ 1000000 * 100 := Nat.mul_le_mul hl hby
    omega
  by_cases hy : ys = []
  · subst hy
    rw [List.append_nil]
    refine ⟨v, w, ?_, hown, grownBy_refl _ _, .inl rfl⟩
    have hown2 := hown
    rcases hown2.2 with ⟨rfl, h0⟩ | ⟨g, c, cur, rfl, _, _, hnc, _⟩
    · cases ao <;> simp [Builtin.append_, run_underlying hund, sizeOf, typeInfo, hi, Builtin.lenOf, Builtin.firstCells, run_load0]
    · cases ao <;> simp [Builtin.append_, run_underlying hund, sizeOf, typeInfo, hi, Builtin.lenOf, Builtin.firstCells, hnc, storeCells, run_load0]
  · rcases hs with hs | ⟨b, off, rfl, hb, hc⟩
    · exact absurd hs hy
    · obtain ⟨v', w', r1, r2, r3, _, r4⟩ := run_append_own_at (P := Try.prog) w base sl ty t i0 z sz by_ hund hi hz0 hz1 hz2 hz hsz v xs.length (xs.flatMap cs) hown ⟨b, off, none⟩ ys.length cap (ys.flatMap cs) (flat_size hcs ys) (fun j u hj => by
        rw [add_plain2]
        exact flat_seg hcs hsz hc j u hj) (fun u hu => by
        simp only [List.mem_flatMap] at hu
        obtain ⟨y, _, hu⟩ := hu
        exact h1c y u hu) (by unfold maxLen; omega) hb2 hbase
      refine ⟨v', w', r1, ?_, r3, r4⟩
      show w'.ownsRow base t sz v' (xs ++ ys).length ((xs ++ ys).flatMap cs)
      rw [List.length_append, List.flatMap_append]; exact r2
theorem app_segL {α : Type} {t sl sz by_ : Nat} {z : Value} {cs : α → List Value} (hinfo : (Try.prog.info? t).map (fun i => (i.zero, i.size, i.bytes)) = some (some z, sz, by_)) (hund : Try.prog.underlying sl = some (.slice t)) (hz : z.cells.size = sz) (hsz : 0 < sz) (hby : by_ ≤ 100)
    (hcs : ∀ x, (cs x).length = sz) (h1c : ∀ x, ∀ u ∈ cs x, u.oneCell' = true) {w : World} {ops : Array Oper} {rest : List Oper} {o : Oper} {a : Act} {Q : Exit → Act → World → Prop} (hgd : o.guard = none) (s x : Operand)
    (ho : o.op = .call { callee := .builtin .append, args := #[s, x], argTypes := #[sl, sl] }) (base : Nat) (v : Value) (xs : List α) (hs : a.eval s = v) (hown : OwnL t sz cs base w v xs)
    (B : Nat) (v2 : Value) (ys : List α) (hx : a.eval x = v2) (hseg : LSeg sz cs B w v2 ys) (hl : xs.length + ys.length ≤ 1000000) (hbase : base ≤ w.heap.size)
    (h : ∀ v' w', OwnL t sz cs base w' v' (xs ++ ys) → w.grownBy w' v.ownBlock → (v'.ownBlock = v.ownBlock ∨ v'.ownBlock = some w.heap.size) → wpList Try.prog ops Q rest (a.put o.dst v') w') : wpList Try.prog ops Q (o :: rest) a w := by
  refine wpList_plain hgd fun K hK => ?_
  obtain ⟨v', w', hr, h2, h3, h4⟩ := run_segL hinfo hund hz hsz hby hcs h1c o.type base hown hseg hl hbase
  unfold Oper.wp execOp
  simp only [ho, resolve, invoke, builtin, Sem.run_bind, Sem.run_pure, Result.andThen_ok, List.map_toArray, List.map_cons, List.map_nil, hs, hx, hr]
  exact hK _ _ (h v' w' h2 h3 h4)
/-- append of one thing onto a row of one's own. -/
theorem app_L {α : Type} {t sl sz by_ : Nat} {z : Value} {cs : α → List Value} (hinfo : (Try.prog.info? t).map (fun i => (i.zero, i.size, i.bytes)) = some (some z, sz, by_)) (hund : Try.prog.underlying sl = some (.slice t)) (hz : z.cells.size = sz) (hsz : 0 < sz) (hby : by_ ≤ 100)
    (hcs : ∀ x, (cs x).length = sz) (h1c : ∀ x, ∀ u ∈ cs x, u.oneCell' = true)
    {w : World} {ops : Array Oper} {rest : List Oper} {o : Oper} {a : Act} {Q : Exit → Act → World → Prop} (hgd : o.guard = none) (s x : Operand)
    (ho : o.op = .call { callee := .builtin .append, args := #[s, x], argTypes := #[sl, sl] }) (base : Nat) (v : Value) (l : List α) (hs : a.eval s = v) (hown : OwnL t sz cs base w v l)
    (ad : Addr) (c : Nat) (y : α) (hx : a.eval x = .slice (some ad) 1 c) (hnews : ∀ (j : Nat) (u : Value), (cs y)[j]? = some u → w.cell? (ad.add j) = some u) (hl : l.length ≤ 1000000) (hbase : base ≤ w.heap.size)
    (h : ∀ v' w', OwnL t sz cs base w' v' (l ++ [y]) → w.grownBy w' v.ownBlock → (∀ g, v'.ownBlock = some g → v.ownBlock = some g ∨ w.heap.size ≤ g) → wpList Try.prog ops Q rest (a.put o.dst v') w') : wpList Try.prog ops Q (o :: rest) a w := by
  obtain ⟨i0, hi, hz0, hz1, hz2⟩ := info_parts hinfo
  have hb2 : (l.length + 1) * by_ ≤ 140737488355328 := by
    have : (l.length + 1) * by_ ≤ 1000001 * 100 := Nat.mul_le_mul (by omega) hby
    omega
  refine wpList_append_own_at w hgd s x sl ho base t i0 z sz by_ hund hi hz0 hz1 hz2 hz hsz v l.length (l.flatMap cs) hs hown ad 1 c (cs y) hx (by rw [hcs]; omega) hnews (h1c y) (by unfold maxLen; omega) hb2 hbase ?_
  intro v' w' h2 h3 _ h5
  refine h v' w' ?_ h3 (fun g e => ?_)
  · show w'.ownsRow _ _ _ _ _ _
    rw [List.length_append, List.flatMap_append]; simpa using h2
  · rcases h5 with h5 | h5
    · exact .inl (h5 ▸ e)
    · rw [h5] at e; cases e; exact .inr (Nat.le_refl _)
set_option maxHeartbeats 1000000 in
set_option maxRecDepth 100000 in
theorem copied_any {w : World} {v : Value} {l : List Pn} (hl : LSeg 4 Pn.cs w.heap.size w v l) (hn : l.length ≤ 1000000) : Calls Try.prog 29 #[v] w fun e w' => ∃ u, e = .returned u ∧ OwnL 46 4 Pn.cs w.heap.size w' u l ∧ Below w.heap.size w w' := by
  obtain ⟨ao, cap, rfl⟩ := hl.shapeOf
  have HL := hide hl
  have HN : Hid (([] : List Pn).length + l.length ≤ 1000000) := (show _ ≤ _ by simpa using hn)
  clear hl hn
  go_enter Try.func29, Try.ntmps29
  go_wp2_with (at_builtin; refine app_segL Try.infoPn Try.underlying35 rfl (by decide) (by decide) Pn.cs_len Pn.cs_one rfl _ _ rfl w.heap.size (.slice none 0 0) [] rfl (OwnL.nil _ _ _ _ _) _ _ l rfl HL.out HN.out (Nat.le_refl _) ?_; intro v1 w1 h1 g1 _; rw [List.nil_append] at h1)
  have b1 : Below w.heap.size w w1 := (Below.refl _ _).grown g1 (Nat.le_refl _) (fun k e => by cases e)
  go_ret
  exact ⟨_, rfl, h1, b1⟩
end Go.Proofs.Ytlikikiglicdlaa
