/-
  Texts in build order: ZJLine, ZJOrder, ZJWeigh.
-/
import Derived.Test.YtpcbhcdpegbfjaaGreatM18
import Derived.Test.YtpcbhcdpegbfjaaGreatM19
/-
  newLine, place and Order.
-/
namespace Go.Proofs.YtpcbhcdpegbfjaaGreat.J
open Go.RowKit

theorem Tryz.info4' : (Tryz.prog.info? 4).map (fun i => (i.zero, i.size, i.bytes)) = some (some (.bool false), 1, 1) := by kernel_rfl
theorem Tryz.info22' : (Tryz.prog.info? 22).map (fun i => (i.zero, i.size, i.bytes)) = some (some (.slice none 0 0), 1, 24) := by kernel_rfl
theorem mkB (w : World) (n : Nat) (hn : n ≤ 1000000) : (Instr.makeSlice 121 (.int .i64 (n : Int)) (.int .i64 (n : Int))).run Tryz.prog w = .ok (.slice (some ⟨w.heap.size, 0, none⟩) n n) (w.alloc (.cells ((List.replicate n false).map Value.bool).toArray 4)) := by
  obtain ⟨i0, hi, hz0, hz1, hz2⟩ := info_parts Tryz.info4'
  have := run_make (P := Tryz.prog) w 121 4 i0 (.bool false) (by kernel_rfl) hi hz0 .i64 .i64 (n : Int) (n : Int) (by omega) (Int.le_refl _) (by rw [hz2]; omega) (by omega)
  rw [hz1, Nat.mul_one, Int.toNat_natCast] at this
  have e : madeCells (Value.bool false).cells n = ((List.replicate n false).map Value.bool).toArray := by
    apply Array.ext
    · simp [size_madeCells]
    · intro i h1 h2
      simp [madeCells, Value.cells, Nat.mod_one]
  rw [e] at this
  exact this
theorem mkN (w : World) (n : Nat) (hn : n ≤ 1000000) : (Instr.makeSlice 22 (.int .i64 (n : Int)) (.int .i64 (n : Int))).run Tryz.prog w = .ok (.slice (some ⟨w.heap.size, 0, none⟩) n n) (w.alloc (.cells ((List.replicate n 0).map fun x : Nat => Value.int .i64 (x : Int)).toArray 3)) := by
  obtain ⟨i0, hi, hz0, hz1, hz2⟩ := info_parts Tryz.info3'
  have := run_make (P := Tryz.prog) w 22 3 i0 (.int .i64 0) (by kernel_rfl) hi hz0 .i64 .i64 (n : Int) (n : Int) (by omega) (Int.le_refl _) (by rw [hz2]; omega) (by omega)
  rw [hz1, Nat.mul_one, Int.toNat_natCast] at this
  have e : madeCells (Value.int .i64 0).cells n = ((List.replicate n 0).map fun x : Nat => Value.int .i64 (x : Int)).toArray := by
    apply Array.ext
    · simp [size_madeCells]
    · intro i h1 h2
      simp [madeCells, Value.cells, Nat.mod_one]
  rw [e] at this
  exact this
end Go.Proofs.YtpcbhcdpegbfjaaGreat.J
/-
  place and Order.
-/
namespace Go.Proofs.YtpcbhcdpegbfjaaGreat.J
open Go.RowKit

/-- append of one number onto a row of one's own. -/
theorem app_ownN {sl : TypeId} (hund : Tryz.prog.underlying sl = some (.slice 3)) {w : World} {ops : Array Oper} {rest : List Oper} {o : Oper} {a : Act} {Q : Exit → Act → World → Prop} (hgd : o.guard = none) (s x : Operand)
    (ho : o.op = .call { callee := .builtin .append, args := #[s, x], argTypes := #[sl, sl] }) (base : Nat) (v : Value) (l : List Nat) (hs : a.eval s = v) (hown : OwnN base w v l)
    (ad : Addr) (c : Nat) (y : Nat) (hx : a.eval x = .slice (some ad) 1 c) (hnews : w.cell? ad = some (.int .i64 (y : Int))) (hl : l.length ≤ 1000000) (hbase : base ≤ w.heap.size)
    (h : ∀ v' w', OwnN base w' v' (l ++ [y]) → w.grownBy w' v.ownBlock → (∀ g, v'.ownBlock = some g → v.ownBlock = some g ∨ w.heap.size ≤ g) → wpList Tryz.prog ops Q rest (a.put o.dst v') w') : wpList Tryz.prog ops Q (o :: rest) a w := by
  obtain ⟨i0, hi, hz0, hz1, hz2⟩ := info_parts Tryz.info3'
  refine wpList_append_own_at w hgd s x sl ho base 3 i0 (.int .i64 0) 1 8 hund hi hz0 hz1 hz2 rfl (by omega) v l.length (l.flatMap nc) hs hown ad 1 c (nc y) hx rfl
    (fun j u hj => by match j, hj with | 0, hj => simp [nc] at hj; subst hj; rw [show ad.add 0 = ad from if_pos rfl]; exact hnews) (nc_one y) (by unfold maxLen; omega) (by omega) hbase ?_
  intro v' w' h2 h3 _ h5
  refine h v' w' ?_ h3 (fun g e => ?_)
  · show w'.ownsRow _ _ _ _ _ _
    rw [List.length_append, List.flatMap_append]; simpa using h2
  · rcases h5 with h5 | h5
    · exact .inl (h5 ▸ e)
    · rw [h5] at e; cases e; exact .inr (Nat.le_refl _)

end Go.Proofs.YtpcbhcdpegbfjaaGreat.J
/-
  weigh.
-/
namespace Go.Proofs.YtpcbhcdpegbfjaaGreat.J
open Go.RowKit

def ckE (ns : List Nd) (n : Nd) : Int := ckN (ns.map Nd.kind) n (chk n.e)
/-- The first fault of a node. -/
def fault (ns : List Nd) : List Nd → Int
  | [] => 0
  | n :: r => if ckE ns n = 0 then fault ns r else ckE ns n
def nd0 : Nd := ⟨0, none, 0, [], 0, ⟨0, 0, none, 0, []⟩, 0, 0, 0, 0⟩
def wtsL (ns : List Nd) (l : List Nat) (ws : List Nat) : List Nat := l.foldl (fun ws i => ws.set i (wt1 (ns.getD i nd0) ws)) ws
structure Fine (ns : List Nd) (n : Nd) : Prop where
  len : n.ins.length ≤ 4
  ins : ∀ x ∈ n.ins, 0 ≤ x ∧ x < (ns.length : Int)
  win : n.kind = 7 → n.wk = 2 → 1 ≤ n.ws ∧ n.ws ≤ 68719476736 ∧ 1 ≤ n.wl ∧ n.wl ≤ 68719476736
theorem ck_fine {ns : List Nd} {n : Nd} (h : ckE ns n = 0) : Fine ns n := by
  unfold ckE ckN at h
  by_cases h1 : n.kind < 1 ∨ 8 < n.kind
  · rw [if_pos h1] at h; cases h
  rw [if_neg h1] at h
  by_cases h2 : inB (ns.map Nd.kind) n.kind n.ins = false
  · rw [if_pos h2] at h; cases h
  rw [if_neg h2] at h
  by_cases h3 : n.par < 1 ∨ 4 < n.par
  · rw [if_pos h3] at h; cases h
  rw [if_neg h3] at h
  by_cases h4 : exB n.kind n.e.op n.e.n n.e.l.length (chk n.e) = false
  · rw [if_pos h4] at h; cases h
  rw [if_neg h4] at h
  by_cases h5 : aggB n.kind n.agg = false
  · rw [if_pos h5] at h; cases h
  rw [if_neg h5] at h
  by_cases h6 : winB n.kind n.wk n.ws n.wl = false
  · rw [if_pos h6] at h; cases h
  have i2 : inB (ns.map Nd.kind) n.kind n.ins = true := by simpa using h2
  unfold inB at i2
  rw [Bool.and_eq_true, List.all_eq_true] at i2
  refine ⟨?_, fun x hx => ?_, fun k7 k2 => ?_⟩
  · have := i2.1
    unfold cntOk at this
    by_cases a1 : n.kind = 1
    · rw [if_pos a1] at this; have := of_decide_eq_true this; omega
    · rw [if_neg a1] at this
      by_cases a5 : n.kind = 5
      · rw [if_pos a5] at this; have := of_decide_eq_true this; omega
      · rw [if_neg a5] at this; have := of_decide_eq_true this; omega
  · have := i2.2 x hx
    unfold okIn at this
    rw [Bool.and_eq_true, List.length_map] at this
    exact of_decide_eq_true this.1
  · have i6 : winB n.kind n.wk n.ws n.wl = true := by simpa using h6
    unfold winB at i6
    rw [if_pos k7, if_pos k2, Bool.and_eq_true] at i6
    unfold spanB at i6
    have a := of_decide_eq_true i6.1
    have b := of_decide_eq_true i6.2
    exact ⟨a.1, a.2, b.1, b.2⟩
theorem wt1_le (n : Nd) (ws : List Nat) : wt1 n ws ≤ 65 := by
  unfold wt1
  split <;> omega
theorem set_le {ws : List Nat} {i y : Nat} (h : ∀ x ∈ ws, x ≤ 65) (hy : y ≤ 65) : ∀ x ∈ ws.set i y, x ≤ 65 := by
  intro x hx
  rcases List.mem_or_eq_of_mem_set hx with hx | rfl
  · exact h x hx
  · exact hy
end Go.Proofs.YtpcbhcdpegbfjaaGreat.J
