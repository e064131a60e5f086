/-
  Put in a law: at any world behind one in which its panes lie.
-/
import Derived.Test.YtlikikiglicdlaaWPure3
namespace Go.Proofs.Ytlikikiglicdlaa
open Go.RowKit

theorem Put_at {w : World} {v : Value} {l : List Pn} (hl : LSeg 4 Pn.cs w.heap.size w v l) (hn : l.length ≤ 50000) (k : Int) {size slide : Int} (hs : In64 size) (hsl : In64 slide) (a rk rt rv : Int) (wx : World) (hb : Below w.heap.size w wx) :
    Calls Try.prog 15 #[.agg #[.int .i64 k, .int .i64 size, .int .i64 slide], .int .i64 a, v, .agg #[.int .i64 rk, .int .i64 rt, .int .i64 rv]] wx fun e w' => ∃ u, e = .returned u ∧ LSeg 4 Pn.cs w'.heap.size w' u (pPut k size slide a l ⟨rk, rt, rv⟩) ∧ Below w.heap.size w w' :=
  (Put_any ((hl.below hb).mono hb.size) hn k hs hsl a ⟨rk, rt, rv⟩).mono fun _ _ ⟨u, h1, h2, h3⟩ => ⟨u, h1, h2.seg Pn.cs_len (by have := pPut_len k size slide a l ⟨rk, rt, rv⟩; omega), hb.trans (h3.mono hb.size)⟩
theorem LSeg.on {α : Type} {sz : Nat} {cs : α → List Value} {w w' : World} {v : Value} {xs : List α} (h : LSeg sz cs w.heap.size w v xs) (hb : Below w.heap.size w w') : LSeg sz cs w'.heap.size w' v xs := (h.below hb).mono hb.size
theorem take_snoc {α : Type} {l : List α} {i : Nat} {r : α} (h : l[i]? = some r) : l.take (i + 1) = l.take i ++ [r] := by
  have hlt := lt_of_get h
  rw [List.getElem?_eq_getElem hlt] at h
  cases h
  exact List.take_succ_eq_append_getElem hlt
theorem perm_ins {xs ys zs : List Rc} (h : (xs ++ ys).Perm zs) (r : Rc) : ((xs ++ [r]) ++ ys).Perm (zs ++ [r]) := by
  have h1 : ((xs ++ [r]) ++ ys).Perm ((xs ++ ys) ++ [r]) := by
    rw [List.append_assoc, List.append_assoc]
    exact List.Perm.append_left xs List.perm_append_comm
  exact h1.trans (h.append_right [r])
theorem perm_ins' {xs ys zs : List Rc} (h : (xs ++ ys).Perm zs) (r : Rc) : (xs ++ (ys ++ [r])).Perm (zs ++ [r]) := by
  rw [← List.append_assoc]
  exact h.append_right [r]
theorem ok_snoc {rs : List Rc} {i : Nat} {r : Rc} (hr : rs[i]? = some r) (h : ∀ r' ∈ rs.take i, RcOk r') (hT : TimeOk r.t) (hv : In64 r.v) : ∀ r' ∈ rs.take (i + 1), RcOk r' := by
  rw [take_snoc hr]
  intro r' h'
  rcases List.mem_append.1 h' with h' | h'
  · exact h r' h'
  · obtain rfl := List.mem_singleton.1 h'; exact ⟨hT, hv⟩
end Go.Proofs.Ytlikikiglicdlaa
