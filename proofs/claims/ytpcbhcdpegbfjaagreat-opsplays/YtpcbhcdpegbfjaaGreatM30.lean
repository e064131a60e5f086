/-
  Texts in build order: ZPBase.
-/
import Derived.Test.YtpcbhcdpegbfjaaGreatM27
/-
 Tasks and channels as they lie; append onto a row of one's own; Group, Part, at, Keyed of package plan and of the document.
-/
namespace Go.Proofs.YtpcbhcdpegbfjaaGreat.J
open Go.RowKit
structure Tk where
 nd : Int
 pt : Int
structure Cn where
 fr : Int
 tg : Int
 inp : Int
def Tk.cs (t : Tk) : List Value := [.int .i64 t.nd, .int .i64 t.pt]
def Tk.val (t : Tk) : Value := .agg #[.int .i64 t.nd, .int .i64 t.pt]
def Cn.cs (c : Cn) : List Value := [.int .i64 c.fr, .int .i64 c.tg, .int .i64 c.inp]
def Cn.val (c : Cn) : Value := .agg #[.int .i64 c.fr, .int .i64 c.tg, .int .i64 c.inp]
theorem Tk.cs_len (t : Tk) : t.cs.length = 2 := rfl
theorem Cn.cs_len (c : Cn) : c.cs.length = 3 := rfl
theorem Tk.cs_one (n : Tk) : ∀ u ∈ n.cs, u.oneCell' = true := by
 intro u hu
 simp only [Tk.cs, List.mem_cons, List.not_mem_nil, or_false] at hu
 rcases hu with rfl | rfl <;> rfl
theorem Cn.cs_one (n : Cn) : ∀ u ∈ n.cs, u.oneCell' = true := by
 intro u hu
 simp only [Cn.cs, List.mem_cons, List.not_mem_nil, or_false] at hu
 rcases hu with rfl | rfl | rfl <;> rfl
theorem app_L {α : Type} {t sl sz by_ : Nat} {z : Value} {cs : α → List Value} (hinfo : (Tryz.prog.info? t).map (fun i => (i.zero, i.size, i.bytes)) = some (some z, sz, by_)) (hund : Tryz.prog.underlying sl = some (.slice t)) (hz : z.cells.size = sz) (hsz : 0 < sz) (hby : by_ ≤ 100)
  (hcs : ∀ x, (cs x).length = sz) (h1c : ∀ x, ∀ u ∈ cs x, u.oneCell' = true)
  {w : World} {ops : Array Oper} {rest : List Oper} {o : Oper} {a : Act} {Q : Exit → Act → World → Prop} (hgd : o.guard = none) (s x : Operand)
  (ho : o.op = .call { callee := .builtin .append, args := #[s, x], argTypes := #[sl, sl] }) (base : Nat) (v : Value) (l : List α) (hs : a.eval s = v) (hown : OwnL t sz cs base w v l)
  (ad : Addr) (c : Nat) (y : α) (hx : a.eval x = .slice (some ad) 1 c) (hnews : ∀ (j : Nat) (u : Value), (cs y)[j]? = some u → w.cell? (ad.add j) = some u) (hl : l.length ≤ 1000000) (hbase : base ≤ w.heap.size)
  (h : ∀ v' w', OwnL t sz cs base w' v' (l ++ [y]) → w.grownBy w' v.ownBlock → (∀ g, v'.ownBlock = some g → v.ownBlock = some g ∨ w.heap.size ≤ g) → wpList Tryz.prog ops Q rest (a.put o.dst v') w') : wpList Tryz.prog ops Q (o :: rest) a w := by
 obtain ⟨i0, hi, hz0, hz1, hz2⟩ := info_parts hinfo
 have hb2 : (l.length + 1) * by_ ≤ 140737488355328 := by
  have : (l.length + 1) * by_ ≤ 1000001 * 100 := Nat.mul_le_mul (by omega) hby
  omega
 refine wpList_append_own_at w hgd s x sl ho base t i0 z sz by_ hund hi hz0 hz1 hz2 hz hsz v l.length (l.flatMap cs) hs hown ad 1 c (cs y) hx (by rw [hcs]; omega) hnews (h1c y) (by unfold maxLen; omega) hb2 hbase ?_
 intro v' w' h2 h3 _ h5
 refine h v' w' ?_ h3 (fun g e => ?_)
 ·show w'.ownsRow _ _ _ _ _ _
  rw [List.length_append, List.flatMap_append]; simpa using h2
 ·rcases h5 with h5 | h5
  ·exact .inl (h5 ▸ e)
  ·rw [h5] at e; cases e; exact .inr (Nat.le_refl _)
theorem below_box (w : World) (o : Obj) : Below w.heap.size w (w.alloc o) := (Below.refl _ _).alloc (Nat.le_refl _) _
end Go.Proofs.YtpcbhcdpegbfjaaGreat.J
