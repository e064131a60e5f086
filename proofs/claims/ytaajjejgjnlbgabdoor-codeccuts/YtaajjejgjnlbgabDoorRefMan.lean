/-
  Walks over the document's writer of manifests.
-/
import Derived.Test.YtaajjejgjnlbgabDoorMan
import Derived.Deep.RegionHeld3
namespace Go.Proofs.YtaajjejgjnlbgabDoor
open Go.RowKit

/-- append's law at rows of bytes, as one step of a region that draws. -/
theorem step_own {ops : Array Oper} {o : Oper} {a : Act} {w : World} {K : Act → World → Prop} {Q : Exit → Act → World → Prop} {E : Prop} (hgd : o.guard = none) (s x : Operand)
    (ho : o.op = .call { callee := .builtin .append, args := #[s, x], argTypes := #[33, 33] }) (base : Nat) (v : Value) (l : List Nat) (hs : a.eval s = v) (hown : Own base w v l)
    (ad : Addr) (c : Nat) (news : List Nat) (hx : a.eval x = .slice (some ad) news.length c) (hnews : ∀ j (h : j < news.length), w.cell? (ad.add j) = some (.int .u8 (news[j] : Nat)))
    (hl : l.length + news.length ≤ 100000000000) (hbase : base ≤ w.heap.size)
    (h : ∀ v' w', Own base w' v' (l ++ news) → Kept base w w' → K (a.put o.dst v') w') : if Region.wanted o (yielded ops a.tmps) = true then Oper.wp Tryd.prog o a w K Q else E := by
  have hw : Region.wanted o (yielded ops a.tmps) = true := by simp [Region.wanted, hgd]
  rw [if_pos hw]
  obtain ⟨i0, hi, hz0, hz1, hz2⟩ := info_parts Tryd.info5
  refine wp_append_own w s x 33 ho base 5 i0 (.int .u8 0) 1 1 Tryd.underlying33 hi hz0 hz1 hz2 rfl (by decide) v l.length (bs l) hs hown ad news.length c (bs news) hx (by simp [bs]) ?_ ?_ ?_ ?_ hbase ?_
  · intro j u hj
    have hj' : j < news.length := by have := (List.getElem?_eq_some_iff.1 hj).1; simpa [bs] using this
    rw [hnews j hj']
    have : (bs news)[j]? = some (.int .u8 (news[j] : Nat)) := by simp [bs, List.getElem?_map, List.getElem?_eq_getElem hj']
    rw [this] at hj; exact hj
  · intro u hu
    simp only [bs, List.mem_map] at hu
    obtain ⟨x, _, rfl⟩ := hu
    rfl
  · unfold maxLen; omega
  · omega
  · intro v' w' h1 h2 _
    refine h v' w' ?_ (Kept.of_grown hown h2)
    show w'.ownsRow base 5 1 v' (l ++ news).length (bs (l ++ news))
    rw [List.length_append, bs_append]; exact h1
theorem step_str {ops : Array Oper} {o : Oper} {a : Act} {w : World} {K : Act → World → Prop} {Q : Exit → Act → World → Prop} {E : Prop} (hgd : o.guard = none) (s x : Operand)
    (ho : o.op = .call { callee := .builtin .append, args := #[s, x], argTypes := #[33, 9] }) (base : Nat) (v : Value) (l : List Nat) (hs : a.eval s = v) (hown : Own base w v l)
    (st : ByteArray) (hx : a.eval x = .string st) (hl : l.length + st.size ≤ 100000000000) (hbase : base ≤ w.heap.size)
    (h : ∀ v' w', Own base w' v' (l ++ sb st) → Kept base w w' → K (a.put o.dst v') w') : if Region.wanted o (yielded ops a.tmps) = true then Oper.wp Tryd.prog o a w K Q else E := by
  have hw : Region.wanted o (yielded ops a.tmps) = true := by simp [Region.wanted, hgd]
  rw [if_pos hw]
  obtain ⟨i0, hi, hz0, hz1, hz2⟩ := info_parts Tryd.info5
  obtain ⟨v', w', hr, h2, h3, h4⟩ := Lib.run_append_own_string (P := Tryd.prog) w base 33 9 o.type 5 i0 Tryd.underlying33 Tryd.underlying9 hi hz0 hz1 hz2 v l.length (bs l) hown st (by unfold maxLen; omega) (by omega) hbase
  unfold Oper.wp
  simp [execOp, ho, resolve, invoke, builtin, hs, hx, hr, Result.andThen]
  refine h v' w' ?_ (Kept.of_grown hown h3)
  show w'.ownsRow base 5 1 v' (l ++ sb st).length (bs (l ++ sb st))
  rw [List.length_append, bs_append, sb_length, bs_sb]; exact h2

/-- The box of a manifest, and that nothing else has turned. -/
def Boxm (w0 w : World) (c : Array Value) : Prop := BoxT 30 w w0.heap.size c ∧ Kept w0.heap.size w0 w
theorem Boxm.kept {w0 w w' : World} {c : Array Value} (h : Boxm w0 w c) (hk : Kept w0.heap.size w w') : Boxm w0 w' c := ⟨h.1.kept hk (by decide), h.2.trans hk⟩
theorem Boxm.alloc {w0 w : World} {c : Array Value} (h : Boxm w0 w c) (o : Obj) : Boxm w0 (w.alloc o) c := ⟨h.1.alloc _, h.2.alloc _⟩
theorem Boxm.drew {w0 w : World} {c : Array Value} (h : Boxm w0 w c) : Boxm w0 w.drew c := ⟨h.1, h.2.drew⟩
theorem Boxm.new (w : World) (c : Array Value) : Boxm w (w.alloc (.cells c 30)) c := ⟨BoxT.new _ _ _, (Kept.refl _ _).alloc _⟩
theorem Boxm.size {w0 w : World} {c : Array Value} (h : Boxm w0 w c) : w0.heap.size ≤ w.heap.size := by have := h.1.lt; omega
theorem Boxm.reads {w0 w : World} {c0 c1 c2 : Value} (h : Boxm w0 w #[c0, c1, c2]) :
    (w.cell? ⟨w0.heap.size, 0, none⟩ = some c0 ∧ w.cell? ⟨w0.heap.size, 1, none⟩ = some c1 ∧ w.cell? ⟨w0.heap.size, 2, none⟩ = some c2) ∧ Boxm w0 w #[c0, c1, c2] := ⟨h.1.cells3, h⟩
theorem Boxm.elem {w0 w : World} {c0 c1 c2 : Value} {b j : Nat} {u : Value} (hb : b < w0.heap.size) (hc : w0.cell? ⟨b, j, none⟩ = some u) (h : Boxm w0 w #[c0, c1, c2]) :
    (w.cell? ⟨w0.heap.size, 2, none⟩ = some c2 ∧ w.cell? ⟨b, j, none⟩ = some u) ∧ Boxm w0 w #[c0, c1, c2] :=
  ⟨⟨h.1.cells3.2.2, (World.cell?_of_block (h.2.block b hb (.inl hb))).trans hc⟩, h⟩

end Go.Proofs.YtaajjejgjnlbgabDoor
