/-
  Texts in build order: SMapW.
-/
import Derived.Test.YtpcbhcdpegbfjaaGreatM04
/-
 The operations on maps, for the walk.
-/
namespace Go.Proofs.YtpcbhcdpegbfjaaGreat
open Go.Maps (Keyed)
section
variable {P : Program} {K : TypeId} {b r : Nat} {M : List (Value × Value)} {α : Type} (f : α → Value × Value)
theorem perm_map_cons {p : Value × Value} {rs : List α} {q : List (Value × Value)} (h : (rs.map f).Perm (p :: q)) : ∃ x rs', rs.Perm (x :: rs') ∧ f x = p ∧ q.Perm (rs'.map f) := by
 have hm : p ∈ rs.map f := h.symm.subset (List.mem_cons_self ..)
 obtain ⟨x, hx, e⟩ := List.mem_map.1 hm
 obtain ⟨u, v, rfl⟩ := List.append_of_mem hx
 refine ⟨x, u ++ v, List.perm_middle, e, ?_⟩
 have h1 := ((List.perm_middle (l₁ := u) (a := x) (l₂ := v)).map f).symm.trans h
 rw [List.map_cons, e] at h1
 exact h1.cons_inv.symm
theorem RangeAt.nextF {w : World} {rs : List α} (h : RangeAt P K w b r M (rs.map f)) (ty : TypeId) :
  (rs = [] ∧ (Instr.next (.pointer (some ⟨r, 0, none⟩)) false ty).run P w = .ok (.tuple #[.bool false]) w) ∨
  ∃ x rs' w', rs.Perm (x :: rs') ∧ f x ∈ M ∧ (Instr.next (.pointer (some ⟨r, 0, none⟩)) false ty).run P w = .ok (.tuple #[.bool true, (f x).1, (f x).2]) w' ∧
   RangeAt P K w' b r M (rs'.map f) ∧ w.grownBy w' (some r) ∧ w'.heap.size = w.heap.size ∧ (Instr.entry (.pointer (some ⟨r, 0, none⟩))).run P w' = .ok (.tuple #[(f x).1, (f x).2]) w' := by
 rcases h.next ty with ⟨h0, hr⟩ | ⟨k, v, rest', w', hp, _, hm, hr, h1, h2, h3, h4⟩
 ·exact .inl ⟨List.map_eq_nil_iff.1 h0, hr⟩
 ·obtain ⟨x, rs', hq, e, hq2⟩ := perm_map_cons f hp
  refine .inr ⟨x, rs', w', hq, by rw [e]; exact hm, by rw [e]; exact hr, h1.perm (.refl _) hq2, h2, h3, by rw [e]; exact h4⟩
variable (w : World) {ops : Array Oper} {rest : List Oper} {o : Oper} {a : Act} {Q : Exit → Act → World → Prop}
theorem wp_rangeM (hg : o.guard = none) (m : Operand) (t : TypeId) (hop : o.op = Op.range t m) (e : TypeId) (ht : P.underlying t = some (.map K e)) (hm : a.eval m = .map (some b)) (h : MapAt P K w b M)
  (hK : ∀ w', RangeAt P K w' b w.heap.size M M → w.grownBy w' none → w'.heap.size = w.heap.size + 1 → wpList P ops Q rest (a.put o.dst (.pointer (some ⟨w.heap.size, 0, none⟩))) w') :
  wpList P ops Q (o :: rest) a w := by
 refine wpList_plain hg fun K' hK' => ?_
 obtain ⟨w', hrun, r1, r2, r3⟩ := h.range ht
 unfold Oper.wp
 simp [execOp, hop, hm, hrun, Result.andThen]
 exact hK' _ _ (hK w' r1 r2 r3)
theorem wp_nextM (hg : o.guard = none) (it : Operand) (hop : o.op = Op.next it false) (hit : a.eval it = .pointer (some ⟨r, 0, none⟩)) {rs : List α} (h : RangeAt P K w b r M (rs.map f))
  (hDone : rs = [] → wpList P ops Q rest (a.put o.dst (.tuple #[.bool false])) w)
  (hMore : ∀ (x : α) (rs' : List α) (w' : World), rs.Perm (x :: rs') → RangeAt P K w' b r M (rs'.map f) → w.grownBy w' (some r) → w'.heap.size = w.heap.size →
   (Instr.entry (.pointer (some ⟨r, 0, none⟩))).run P w' = .ok (.tuple #[(f x).1, (f x).2]) w' → wpList P ops Q rest (a.put o.dst (.tuple #[.bool true, (f x).1, (f x).2])) w') :
  wpList P ops Q (o :: rest) a w := by
 refine wpList_plain hg fun K' hK' => ?_
 unfold Oper.wp
 rcases h.nextF f o.type with ⟨h0, hrun⟩ | ⟨x, rs', w', h1, _, hrun, h3, h4, h5, h6⟩
 ·simp [execOp, hop, hit, hrun, Result.andThen]
  exact hK' _ _ (hDone h0)
 ·simp [execOp, hop, hit, hrun, Result.andThen]
  exact hK' _ _ (hMore x rs' w' h1 h3 h4 h5 h6)
theorem wp_lenM (hg : o.guard = none) (m : Operand) (t : TypeId) (hop : o.op = Op.call { callee := Callee.builtin Builtin.len, args := #[m], argTypes := #[t] }) (e : TypeId) (ht : P.underlying t = some (.map K e)) (hm : a.eval m = .map (some b)) (h : MapAt P K w b M)
  (hK : wpList P ops Q rest (a.put o.dst (.int .i64 M.length)) w) : wpList P ops Q (o :: rest) a w := by
 refine wpList_plain hg fun K' hK' => ?_
 unfold Oper.wp
 simp [execOp, hop, resolve, invoke, builtin, hm, h.len ht o.type, Result.andThen]
 exact hK' _ _ hK
end
end Go.Proofs.YtpcbhcdpegbfjaaGreat
