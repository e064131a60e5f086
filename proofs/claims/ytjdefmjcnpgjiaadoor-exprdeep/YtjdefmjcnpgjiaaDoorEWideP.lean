/-
  ExprDeep, the wide tree: what its list holds. No walk in it.
-/
import Derived.Test.YtjdefmjcnpgjiaaDoorEApp
namespace Go.Proofs.YtjdefmjcnpgjiaaDoor
open Go.RowKit

theorem wp_app_at {w : World} {o : Oper} {a : Act} {K : Act → World → Prop} {Q : Exit → Act → World → Prop} (s x : Operand)
    (ho : o.op = .call { callee := .builtin .append, args := #[s, x], argTypes := #[22, 22] }) {base : Nat} {v : Value} {n : Nat} {xs : List Value} (hs : a.eval s = v) (h : At3 w base v n xs)
    (ad : Addr) (c : Nat) (news : List Value) (hx : a.eval x = .slice (some ad) 1 c) (hl : news.length = 3) (hnews : ∀ j u, news[j]? = some u → w.cell? (ad.add j) = some u) (h1 : ∀ u ∈ news, u.oneCell' = true)
    (hn : n ≤ 1000000) (hbase : base ≤ w.heap.size)
    (hK : ∀ v' w', At3 w' base v' (n + 1) (xs ++ news) → w.grownBy w' v.ownBlock → (v'.ownBlock = v.ownBlock ∨ v'.ownBlock = some w.heap.size) → (∀ g off cap, v = .slice (some ⟨g, off, none⟩) n cap → ∀ j, j < off ∨ cap ≤ n → w'.cell? ⟨g, j, none⟩ = w.cell? ⟨g, j, none⟩) → K (a.put o.dst v') w') : o.wp Tryd.prog a w K Q := by
  obtain ⟨v', w', hr, h2, h3, h4, h5⟩ := run_app_at h o.type ad c news hl hnews h1 hn hbase
  unfold Oper.wp execOp
  simp only [ho, resolve, invoke, builtin, Sem.run_bind, Sem.run_pure, Result.andThen_ok, List.map_toArray, List.map_cons, List.map_nil, hs, hx, hr]
  exact hK v' w' h2 h3 h4 h5
/-- All blocks of a tree lie below K. -/
def lowB (K : Nat) (e : Ex) : Prop := ∀ x ∈ e.sub, ∀ b o, x.a = some ⟨b, o, none⟩ → b < K
theorem lowB.mono {K K' : Nat} {e : Ex} (h : lowB K e) (hk : K ≤ K') : lowB K' e := fun x hx b o e => Nat.lt_of_lt_of_le (h x hx b o e) hk
theorem lowB.offB {K K' : Nat} {e : Ex} (h : lowB K e) (hk : K ≤ K') : offB K' e := fun x hx b o e => by have := h x hx b o e; omega
theorem lowB.leaf (K : Nat) (op n : Int) : lowB K (leaf op n) := by
  intro x hx b o e
  rw [Ex.sub_eq] at hx
  simp [YtjdefmjcnpgjiaaDoor.leaf] at hx
  subst hx
  cases e
theorem lowB.mk2 {K g : Nat} {op : Int} {a b : Ex} (h : g < K) (ha : lowB K a) (hb : lowB K b) : lowB K (mk2 op g a b) := by
  intro x hx b' o e
  rw [Ex.sub_eq] at hx
  rcases List.mem_cons.1 hx with rfl | hx
  · simp only [YtjdefmjcnpgjiaaDoor.mk2, Option.some.injEq, Addr.mk.injEq] at e
    omega
  · obtain ⟨z, hz, hxz⟩ := List.mem_flatMap.1 hx
    simp only [YtjdefmjcnpgjiaaDoor.mk2, List.mem_cons, List.not_mem_nil, or_false] at hz
    rcases hz with rfl | rfl
    · exact ha x hxz b' o e
    · exact hb x hxz b' o e
/-- One tree in the list, and the list's own row is no part of it. -/
structure LE (w : World) (v : Value) (x : Ex) : Prop where
  in_ : In w x
  free : Free w x
  off : ∀ g, v.ownBlock = some g → offB g x
  low : lowB w.heap.size x
  f : formed x = true
/-- The list. -/
structure LW (w0 w : World) (base : Nat) (v : Value) (l : List Ex) : Prop where
  bel : Below w0.heap.size w0 w
  base0 : w0.heap.size ≤ base
  at_ : At3 w base v l.length (l.flatMap Ex.cs)
  all : ∀ x ∈ l, LE w v x
theorem LE.below {w w' : World} {v : Value} {x : Ex} (h : LE w v x) (hb : Below w.heap.size w w') : LE w' v x := ⟨h.in_.below hb, h.free.below hb, h.off, h.low.mono hb.size, h.f⟩
theorem At3.below {w w' : World} {base : Nat} {v : Value} {n : Nat} {xs : List Value} (h : At3 w base v n xs) (hb : Below w.heap.size w w') : At3 w' base v n xs := by
  obtain ⟨g, off, cap, cur, h1, h2, h3, h4⟩ := h
  exact ⟨g, off, cap, cur, h1, h2, (hb.block g (Array.getElem?_eq_some_iff.1 h3).1).trans h3, h4⟩
theorem At3.own {w : World} {base : Nat} {v : Value} {n : Nat} {xs : List Value} (h : At3 w base v n xs) : ∃ g, v.ownBlock = some g ∧ base ≤ g ∧ g < w.heap.size := by
  obtain ⟨g, off, cap, cur, rfl, h2, h3, h4⟩ := h
  exact ⟨g, rfl, h2, (Array.getElem?_eq_some_iff.1 h3).1⟩
/-- One more in the list. -/
theorem LW.push {w0 w w' : World} {base : Nat} {v v' : Value} {l : List Ex} {y : Ex} (hb : Below w0.heap.size w0 w) (hb0 : w0.heap.size ≤ base) {n : Nat} {xs : List Value} (hv : At3 w base v n xs) (ha : At3 w' base v' (l.length + 1) (l.flatMap Ex.cs ++ y.cs)) (hg : w.grownBy w' v.ownBlock)
    (ho : v'.ownBlock = v.ownBlock ∨ v'.ownBlock = some w.heap.size) (hall : ∀ x ∈ l ++ [y], LE w v x) : LW w0 w' base v' (l ++ [y]) := by
  obtain ⟨g, e1, e2, e3⟩ := hv.own
  have hne : ∀ k, k ≠ g → some k ≠ v.ownBlock := fun k hk e => hk (by rw [e1] at e; exact Option.some.inj e)
  refine ⟨⟨hg.os.trans hb.os, hg.tape.trans hb.tape, hg.output.trans hb.output, Nat.le_trans hb.size hg.size, fun k hk => (hg.block k (Nat.lt_of_lt_of_le hk hb.size) (hne k (by omega))).trans (hb.block k hk)⟩, hb0, ?_, fun x hx => ?_⟩
  · rw [List.length_append, List.flatMap_append]
    simpa using ha
  · have hL := hall x hx
    have hoff := hL.off g e1
    refine ⟨hL.in_.off hoff fun q hq hql => hg.block q hql (hne q hq), hL.free.off hoff fun q hq hql => hg.block q hql (hne q hq), fun q hq => ?_, hL.low.mono hg.size, hL.f⟩
    rcases ho with h | h
    · rw [h] at hq; exact hL.off q hq
    · rw [h] at hq
      cases hq
      exact hL.low.offB (Nat.le_refl _)
/-- How deep, how large. -/
def sh2 (x : Ex) : Nat × Nat := (dep x, size x)
def wst : List (Nat × Nat) → List (Nat × Nat)
  | a :: b :: r => r ++ [(1 + max a.1 b.1, 1 + (a.2 + b.2))]
  | l => l
def wit : Nat → List (Nat × Nat) → List (Nat × Nat)
  | 0, l => l
  | k + 1, l => wst (wit k l)
theorem wfin : (List.range 41).all (fun N => N == 0 || match wit (N - 1) (List.replicate N (1, 1)) with
    | [(d, s)] => s == 2 * N - 1 && (decide (32 < s) || decide (d ≤ 8))
    | _ => false) = true := by kernel_rfl
theorem sh2_two (g : Nat) (a b : Ex) : sh2 (mk2 10 g a b) = (1 + max (sh2 a).1 (sh2 b).1, 1 + ((sh2 a).2 + (sh2 b).2)) := by simp [sh2, mk2, dep_mk, size_mk]
theorem formed_two {g : Nat} {a b : Ex} (ha : formed a = true) (hb : formed b = true) : formed (mk2 10 g a b) = true := by simp [mk2, formed_mk, snd1, ari, ha, hb]
end Go.Proofs.YtjdefmjcnpgjiaaDoor
