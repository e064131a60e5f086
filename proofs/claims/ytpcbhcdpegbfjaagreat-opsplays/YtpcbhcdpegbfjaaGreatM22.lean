/-
  Texts in build order: ZJNode, ZJFit, ZJLook, ZJChk, ZJWt, ZJWgt, ZJLine, ZJOrder, ZJWeigh, ZJWeighW, ZJCheck, ZJItem, ZJLogs, ZJLogs2, ZJLight, ZJCkOpen, ZJExCount.
-/
import Derived.Test.YtpcbhcdpegbfjaaGreatM19
import Derived.Test.YtpcbhcdpegbfjaaGreatM21
import Derived.WalkMore
/-
 Nodes and jobs as they lie in memory; a line of nodes that wait for their places.
-/
namespace Go.Proofs.YtpcbhcdpegbfjaaGreat.J
open Go.RowKit
def ic (x : Int) : List Value := [.int .i64 x]
theorem ic_len (x : Int) : (ic x).length = 1 := rfl
structure Nd where
 kind : Int
 ia : Option Addr
 ic : Nat
 ins : List Int
 par : Int
 e : Ex
 agg : Int
 wk : Int
 ws : Int
 wl : Int
def Nd.cs (n : Nd) : List Value := [.int .i64 n.kind, .slice n.ia n.ins.length n.ic, .int .i64 n.par, .int .i64 n.e.op, .int .i64 n.e.n, .slice n.e.a n.e.l.length n.e.c, .int .i64 n.agg, .int .i64 n.wk, .int .i64 n.ws, .int .i64 n.wl]
def Nd.val (n : Nd) : Value := .agg #[.int .i64 n.kind, .slice n.ia n.ins.length n.ic, .int .i64 n.par, .int .i64 n.e.op, .int .i64 n.e.n, .slice n.e.a n.e.l.length n.e.c, .int .i64 n.agg, .int .i64 n.wk, .int .i64 n.ws, .int .i64 n.wl]
theorem Nd.cs_len (n : Nd) : n.cs.length = 10 := rfl
structure JobIn (B : Nat) (w : World) (v : Value) (ns : List Nd) : Prop where
 seg : LSeg 10 Nd.cs B w v ns
 ins : ∀ n ∈ ns, LSeg 1 ic B w (.slice n.ia n.ins.length n.ic) n.ins
theorem JobIn.below {B : Nat} {w w' : World} {v : Value} {ns : List Nd} (h : JobIn B w v ns) (hb : Below B w w') : JobIn B w' v ns := ⟨h.seg.below hb, fun n hn => (h.ins n hn).below hb⟩
theorem JobIn.mono {B B' : Nat} {w : World} {v : Value} {ns : List Nd} (h : JobIn B w v ns) (hb : B ≤ B') : JobIn B' w v ns := ⟨h.seg.mono hb, fun n hn => (h.ins n hn).mono hb⟩
theorem JobIn.shape {B : Nat} {w : World} {v : Value} {ns : List Nd} (h : JobIn B w v ns) : ∃ ao cap, v = .slice ao ns.length cap := by
 obtain ⟨ao, cap, h1, _⟩ := h.seg
 exact ⟨ao, cap, h1⟩
theorem JobIn.at_ {B : Nat} {w : World} {ao : Option Addr} {m cap : Nat} {ns : List Nd} (h : JobIn B w (.slice ao m cap) ns) {i : Nat} {n : Nd} (hn : ns[i]? = some n) :
  ∃ b o, ao = some ⟨b, o, none⟩ ∧ b < B ∧ w.cell? ⟨b, o + i * 10, none⟩ = some (.int .i64 n.kind) ∧ w.cell? ⟨b, o + i * 10 + 1, none⟩ = some (.slice n.ia n.ins.length n.ic) ∧ w.cell? ⟨b, o + i * 10 + 2, none⟩ = some (.int .i64 n.par) ∧
   w.cell? ⟨b, o + i * 10 + 3, none⟩ = some (.int .i64 n.e.op) ∧ w.cell? ⟨b, o + i * 10 + 4, none⟩ = some (.int .i64 n.e.n) ∧ w.cell? ⟨b, o + i * 10 + 5, none⟩ = some (.slice n.e.a n.e.l.length n.e.c) ∧ w.cell? ⟨b, o + i * 10 + 6, none⟩ = some (.int .i64 n.agg) ∧
   w.cell? ⟨b, o + i * 10 + 7, none⟩ = some (.int .i64 n.wk) ∧ w.cell? ⟨b, o + i * 10 + 8, none⟩ = some (.int .i64 n.ws) ∧ w.cell? ⟨b, o + i * 10 + 9, none⟩ = some (.int .i64 n.wl) := by
 obtain ⟨ao', cap', e, h2, h4⟩ := h.seg
 cases e
 rcases h4 with h4 | ⟨b, off, h5, h6, h7⟩
 ·subst h4; simp at hn
 ·exact ⟨b, off, h5, h6, h7 i n hn 0 _ rfl, h7 i n hn 1 _ rfl, h7 i n hn 2 _ rfl, h7 i n hn 3 _ rfl, h7 i n hn 4 _ rfl, h7 i n hn 5 _ rfl, h7 i n hn 6 _ rfl, h7 i n hn 7 _ rfl, h7 i n hn 8 _ rfl, h7 i n hn 9 _ rfl⟩
theorem LSeg.num {B : Nat} {w : World} {ao : Option Addr} {m cap : Nat} {l : List Int} (h : LSeg 1 ic B w (.slice ao m cap) l) {k : Nat} {x : Int} (hx : l[k]? = some x) : ∃ b o, ao = some ⟨b, o, none⟩ ∧ b < B ∧ w.cell? ⟨b, o + k, none⟩ = some (.int .i64 x) := by
 obtain ⟨ao', cap', e, h2, h4⟩ := h
 cases e
 rcases h4 with h4 | ⟨b, off, h5, h6, h7⟩
 ·subst h4; simp at hx
 ·exact ⟨b, off, h5, h6, by simpa using h7 k x hx 0 _ rfl⟩
section
variable {base : Nat} {w w' : World} {K A P B n : Nat} {nv : Value} {pl : List Bool} {ps : List Nat} {vs : List Value} {bs : List (List Nat)} {rv rv' : Value} {rs rs' : List Nat} {C : List (Value × List Nat)}
theorem OwnN.other {base : Nat} {w : World} {v : Value} {l : List Nat} (h : OwnN base w v l) {k j : Nat} {u : Value} (hk : ∀ g, v.ownBlock = some g → g ≠ k) : OwnN base (w.setCell ⟨k, j, none⟩ u) v l :=
 h.back (fun g hg => Below.heap_setCell w ⟨k, j, none⟩ u g (hk g hg))
theorem map_set {α : Type} (f : α → Value) (l : List α) (i : Nat) (x : α) : ((l.map f).toArray.setIfInBounds i (f x)) = ((l.set i x).map f).toArray := by
 simp [List.map_set]
end
end Go.Proofs.YtpcbhcdpegbfjaaGreat.J
/-
 What a node must have: its expression, its aggregate, its window.
-/
namespace Go.Proofs.YtpcbhcdpegbfjaaGreat.J
open Go.RowKit
def spanB (s : Int) : Bool := decide (1 ≤ s ∧ s ≤ 68719476736)
def winB (k wk ws wl : Int) : Bool := if k = 7 then (if wk = 2 then spanB ws && spanB wl else if wk = 1 ∨ wk = 3 then spanB ws && decide (wl = 0) else false) else decide (wk = 0 ∧ ws = 0 ∧ wl = 0)
def aggB (k a : Int) : Bool := if k = 6 ∨ k = 7 then decide (1 ≤ a ∧ a ≤ 5) else decide (a = 0)
theorem ret_bool {a b : Bool} (h : a = b) : Ending.returned (.bool a) = .returned (.bool b) := by rw [h]
def exB (k op n : Int) (m : Nat) (c : Int) : Bool := if 2 ≤ k ∧ k ≤ 4 then decide (c = 0) else decide (op = 0 ∧ n = 0 ∧ m = 0)
end Go.Proofs.YtpcbhcdpegbfjaaGreat.J
/-
 look: who may come next is sought out.
-/
namespace Go.Proofs.YtpcbhcdpegbfjaaGreat.J
open Go.RowKit
end Go.Proofs.YtpcbhcdpegbfjaaGreat.J
/-
 One node is checked.
-/
namespace Go.Proofs.YtpcbhcdpegbfjaaGreat.J
open Go.RowKit
def cntOk (k : Int) (m : Nat) : Bool := if k = 1 then decide (m = 0) else if k = 5 then decide (1 ≤ m ∧ m ≤ 4) else decide (m = 1)
def okIn (ks : List Int) (x : Int) : Bool := decide (0 ≤ x ∧ x < (ks.length : Int)) && decide (ks.getD x.toNat 0 ≠ 8)
def inB (ks : List Int) (k : Int) (ins : List Int) : Bool := cntOk k ins.length && ins.all (okIn ks)
end Go.Proofs.YtpcbhcdpegbfjaaGreat.J
/-
 checkNode; weight.
-/
namespace Go.Proofs.YtpcbhcdpegbfjaaGreat.J
open Go.RowKit
theorem ret_int {k : IntKind} {a b : Int} (h : a = b) : Ending.returned (.int k a) = .returned (.int k b) := by rw [h]
def ckN (ks : List Int) (n : Nd) (c : Int) : Int :=
 if n.kind < 1 ∨ 8 < n.kind then 81 else if inB ks n.kind n.ins = false then 82 else if n.par < 1 ∨ 4 < n.par then 84 else if exB n.kind n.e.op n.e.n n.e.l.length c = false then 85 else if aggB n.kind n.agg = false then 86 else if winB n.kind n.wk n.ws n.wl = false then 87 else 0
theorem BoxT.cells10 {t : TypeId} {w : World} {k : Nat} {c0 c1 c2 c3 c4 c5 c6 c7 c8 c9 : Value} (h : BoxT t w k #[c0, c1, c2, c3, c4, c5, c6, c7, c8, c9]) :
  w.cell? ⟨k, 0, none⟩ = some c0 ∧ w.cell? ⟨k, 1, none⟩ = some c1 ∧ w.cell? ⟨k, 2, none⟩ = some c2 ∧ w.cell? ⟨k, 3, none⟩ = some c3 ∧ w.cell? ⟨k, 4, none⟩ = some c4 ∧ w.cell? ⟨k, 5, none⟩ = some c5 ∧ w.cell? ⟨k, 6, none⟩ = some c6 ∧ w.cell? ⟨k, 7, none⟩ = some c7 ∧ w.cell? ⟨k, 8, none⟩ = some c8 ∧ w.cell? ⟨k, 9, none⟩ = some c9 := by
 unfold BoxT at h
 simp [World.cell?, h]
theorem BoxT.below {t : TypeId} {w w' : World} {k : Nat} {cs : Array Value} (h : BoxT t w k cs) (hb : Below w.heap.size w w') : BoxT t w' k cs := by
 have := hb.block k h.lt
 unfold BoxT at *
 rw [this]; exact h
end Go.Proofs.YtpcbhcdpegbfjaaGreat.J
/-
 weight.
-/
namespace Go.Proofs.YtpcbhcdpegbfjaaGreat.J
open Go.RowKit
def mulN (n : Nd) : Nat := if n.kind = 7 ∧ n.wk = 2 then ((n.ws + n.wl - 1) / n.wl).toNat else 1
def sumN (ins : List Int) (ws : List Nat) : Nat := (ins.map fun x => ws.getD x.toNat 0).sum
def wt1 (n : Nd) (ws : List Nat) : Nat := if n.kind = 1 then 1 else min (sumN n.ins ws * mulN n) 65
theorem sumN_take {ins : List Int} {ws : List Nat} {t : Nat} {x : Int} (hx : ins[t]? = some x) : sumN (ins.take (t + 1)) ws = sumN (ins.take t) ws + ws.getD x.toNat 0 := by
 have hl := lt_of_get hx
 rw [List.getElem?_eq_getElem hl] at hx
 cases hx
 unfold sumN
 rw [List.take_succ_eq_append_getElem hl, List.map_append, List.sum_append]
 simp
end Go.Proofs.YtpcbhcdpegbfjaaGreat.J
/-
 newLine, place and Order.
-/
namespace Go.Proofs.YtpcbhcdpegbfjaaGreat.J
open Go.RowKit
theorem Tryz.info4' : (Tryz.prog.info? 4).map (fun i => (i.zero, i.size, i.bytes)) = some (some (.bool false), 1, 1) := by kernel_rfl
theorem Tryz.info22' : (Tryz.prog.info? 22).map (fun i => (i.zero, i.size, i.bytes)) = some (some (.slice none 0 0), 1, 24) := by kernel_rfl
theorem mkB (w : World) (n : Nat) (hn : n ≤ 1000000) : (Instr.makeSlice 121 (.int .i64 (n : Int)) (.int .i64 (n : Int))).run Tryz.prog w = .ok (.slice (some ⟨w.heap.size, 0, none⟩) n n) (w.alloc (.cells ((List.replicate n false).map Value.bool).toArray 4)) := by
 obtain ⟨i0, hi, hz0, hz1, hz2⟩ := info_parts Tryz.info4'
 have := run_make (P := Tryz.prog) w 121 4 i0 (.bool false) (by kernel_rfl) hi hz0 .i64 .i64 (n : Int) (n : Int) (by omega) (Int.le_refl _) (by rw [hz2]; omega) (by omega)
 rw [hz1, Nat.mul_one, Int.toNat_natCast] at this
 have e : madeCells (Value.bool false).cells n = ((List.replicate n false).map Value.bool).toArray := by
  apply Array.ext
  ·simp [size_madeCells]
  ·intro i h1 h2
   simp [madeCells, Value.cells, Nat.mod_one]
 rw [e] at this
 exact this
theorem mkN (w : World) (n : Nat) (hn : n ≤ 1000000) : (Instr.makeSlice 22 (.int .i64 (n : Int)) (.int .i64 (n : Int))).run Tryz.prog w = .ok (.slice (some ⟨w.heap.size, 0, none⟩) n n) (w.alloc (.cells ((List.replicate n 0).map fun x : Nat => Value.int .i64 (x : Int)).toArray 3)) := by
 obtain ⟨i0, hi, hz0, hz1, hz2⟩ := info_parts Tryz.info3'
 have := run_make (P := Tryz.prog) w 22 3 i0 (.int .i64 0) (by kernel_rfl) hi hz0 .i64 .i64 (n : Int) (n : Int) (by omega) (Int.le_refl _) (by rw [hz2]; omega) (by omega)
 rw [hz1, Nat.mul_one, Int.toNat_natCast] at this
 have e : madeCells (Value.int .i64 0).cells n = ((List.replicate n 0).map fun x : Nat => Value.int .i64 (x : Int)).toArray := by
  apply Array.ext
  ·simp [size_madeCells]
  ·intro i h1 h2
   simp [madeCells, Value.cells, Nat.mod_one]
 rw [e] at this
 exact this
theorem four (w : World) (o1 o2 o3 o4 : Obj) : ((((w.alloc o1).alloc o2).alloc o3).alloc o4).heap[w.heap.size]? = some o1 ∧ ((((w.alloc o1).alloc o2).alloc o3).alloc o4).heap[w.heap.size + 1]? = some o2 ∧
  ((((w.alloc o1).alloc o2).alloc o3).alloc o4).heap[w.heap.size + 1 + 1]? = some o3 ∧ ((((w.alloc o1).alloc o2).alloc o3).alloc o4).heap[w.heap.size + 1 + 1 + 1]? = some o4 := by
 have e : ((((w.alloc o1).alloc o2).alloc o3).alloc o4).heap = (((w.heap.push o1).push o2).push o3).push o4 := rfl
 rw [e]
 simp only [Array.getElem?_push, Array.size_push]
 refine ⟨?_, ?_, ?_, ?_⟩
 ·rw [if_neg (by omega), if_neg (by omega), if_neg (by omega), if_pos trivial]
 ·rw [if_neg (by omega), if_neg (by omega), if_pos trivial]
 ·rw [if_neg (by omega), if_pos trivial]
 ·rw [if_pos trivial]
end Go.Proofs.YtpcbhcdpegbfjaaGreat.J
/-
 place and Order.
-/
namespace Go.Proofs.YtpcbhcdpegbfjaaGreat.J
open Go.RowKit
theorem app_ownN {sl : TypeId} (hund : Tryz.prog.underlying sl = some (.slice 3)) {w : World} {ops : Array Oper} {rest : List Oper} {o : Oper} {a : Act} {Q : Exit → Act → World → Prop} (hgd : o.guard = none) (s x : Operand)
  (ho : o.op = .call { callee := .builtin .append, args := #[s, x], argTypes := #[sl, sl] }) (base : Nat) (v : Value) (l : List Nat) (hs : a.eval s = v) (hown : OwnN base w v l)
  (ad : Addr) (c : Nat) (y : Nat) (hx : a.eval x = .slice (some ad) 1 c) (hnews : w.cell? ad = some (.int .i64 (y : Int))) (hl : l.length ≤ 1000000) (hbase : base ≤ w.heap.size)
  (h : ∀ v' w', OwnN base w' v' (l ++ [y]) → w.grownBy w' v.ownBlock → (∀ g, v'.ownBlock = some g → v.ownBlock = some g ∨ w.heap.size ≤ g) → wpList Tryz.prog ops Q rest (a.put o.dst v') w') : wpList Tryz.prog ops Q (o :: rest) a w := by
 obtain ⟨i0, hi, hz0, hz1, hz2⟩ := info_parts Tryz.info3'
 refine wpList_append_own_at w hgd s x sl ho base 3 i0 (.int .i64 0) 1 8 hund hi hz0 hz1 hz2 rfl (by omega) v l.length (l.flatMap nc) hs hown ad 1 c (nc y) hx rfl
  (fun j u hj => by match j, hj with | 0, hj => simp [nc] at hj; subst hj; rw [show ad.add 0 = ad from if_pos rfl]; exact hnews) (nc_one y) (by unfold maxLen; omega) (by omega) hbase ?_
 intro v' w' h2 h3 _ h5
 refine h v' w' ?_ h3 (fun g e => ?_)
 ·show w'.ownsRow _ _ _ _ _ _
  rw [List.length_append, List.flatMap_append]; simpa using h2
 ·rcases h5 with h5 | h5
  ·exact .inl (h5 ▸ e)
  ·rw [h5] at e; cases e; exact .inr (Nat.le_refl _)
end Go.Proofs.YtpcbhcdpegbfjaaGreat.J
/-
 weigh.
-/
namespace Go.Proofs.YtpcbhcdpegbfjaaGreat.J
open Go.RowKit
def ckE (ns : List Nd) (n : Nd) : Int := ckN (ns.map Nd.kind) n (chk n.e)
def fault (ns : List Nd) : List Nd → Int
 | [] => 0
 | n :: r => if ckE ns n = 0 then fault ns r else ckE ns n
def nd0 : Nd := ⟨0, none, 0, [], 0, ⟨0, 0, none, 0, []⟩, 0, 0, 0, 0⟩
def wtsL (ns : List Nd) (l : List Nat) (ws : List Nat) : List Nat := l.foldl (fun ws i => ws.set i (wt1 (ns.getD i nd0) ws)) ws
structure Fine (ns : List Nd) (n : Nd) : Prop where
 len : n.ins.length ≤ 4
 ins : ∀ x ∈ n.ins, 0 ≤ x ∧ x < (ns.length : Int)
 win : n.kind = 7 → n.wk = 2 → 1 ≤ n.ws ∧ n.ws ≤ 68719476736 ∧ 1 ≤ n.wl ∧ n.wl ≤ 68719476736
theorem ck_fine {ns : List Nd} {n : Nd} (h : ckE ns n = 0) : Fine ns n := by
 unfold ckE ckN at h
 by_cases h1 : n.kind < 1 ∨ 8 < n.kind
 ·rw [if_pos h1] at h; cases h
 rw [if_neg h1] at h
 by_cases h2 : inB (ns.map Nd.kind) n.kind n.ins = false
 ·rw [if_pos h2] at h; cases h
 rw [if_neg h2] at h
 by_cases h3 : n.par < 1 ∨ 4 < n.par
 ·rw [if_pos h3] at h; cases h
 rw [if_neg h3] at h
 by_cases h4 : exB n.kind n.e.op n.e.n n.e.l.length (chk n.e) = false
 ·rw [if_pos h4] at h; cases h
 rw [if_neg h4] at h
 by_cases h5 : aggB n.kind n.agg = false
 ·rw [if_pos h5] at h; cases h
 rw [if_neg h5] at h
 by_cases h6 : winB n.kind n.wk n.ws n.wl = false
 ·rw [if_pos h6] at h; cases h
 have i2 : inB (ns.map Nd.kind) n.kind n.ins = true := by simpa using h2
 unfold inB at i2
 rw [Bool.and_eq_true, List.all_eq_true] at i2
 refine ⟨?_, fun x hx => ?_, fun k7 k2 => ?_⟩
 ·have := i2.1
  unfold cntOk at this
  by_cases a1 : n.kind = 1
  ·rw [if_pos a1] at this; have := of_decide_eq_true this; omega
  ·rw [if_neg a1] at this
   by_cases a5 : n.kind = 5
   ·rw [if_pos a5] at this; have := of_decide_eq_true this; omega
   ·rw [if_neg a5] at this; have := of_decide_eq_true this; omega
 ·have := i2.2 x hx
  unfold okIn at this
  rw [Bool.and_eq_true, List.length_map] at this
  exact of_decide_eq_true this.1
 ·have i6 : winB n.kind n.wk n.ws n.wl = true := by simpa using h6
  unfold winB at i6
  rw [if_pos k7, if_pos k2, Bool.and_eq_true] at i6
  unfold spanB at i6
  have a := of_decide_eq_true i6.1
  have b := of_decide_eq_true i6.2
  exact ⟨a.1, a.2, b.1, b.2⟩
theorem wt1_le (n : Nd) (ws : List Nat) : wt1 n ws ≤ 65 := by
 unfold wt1
 split <;> omega
theorem set_le {ws : List Nat} {i y : Nat} (h : ∀ x ∈ ws, x ≤ 65) (hy : y ≤ 65) : ∀ x ∈ ws.set i y, x ≤ 65 := by
 intro x hx
 rcases List.mem_or_eq_of_mem_set hx with hx | rfl
 ·exact h x hx
 ·exact hy
end Go.Proofs.YtpcbhcdpegbfjaaGreat.J
/-
 weigh walked.
-/
namespace Go.Proofs.YtpcbhcdpegbfjaaGreat.J
open Go.RowKit
def ExOk (w : World) (ns : List Nd) : Prop := ∀ n ∈ ns, 2 ≤ n.kind ∧ n.kind ≤ 4 → ∀ w', Below w.heap.size w w' → Calls Tryz.prog 49 #[n.e.val] w' fun r w'' => r = .returned (.int .i64 (chk n.e)) ∧ Below w'.heap.size w' w''
theorem ExOk.below {w w' : World} {ns : List Nd} (h : ExOk w ns) (hb : Below w.heap.size w w') : ExOk w' ns := fun n hn hk w'' h2 => h n hn hk w'' (hb.trans (h2.mono hb.size))
theorem wtsL_at {ns : List Nd} {l ws : List Nat} {t i : Nat} {n : Nd} (h : l[t]? = some i) (hn : ns[i]? = some n) : wtsL ns (l.drop t) ws = wtsL ns (l.drop (t + 1)) (ws.set i (wt1 n ws)) := by
 have hl := lt_of_get h
 rw [List.drop_eq_getElem_cons hl]
 rw [List.getElem?_eq_getElem hl] at h
 cases h
 unfold wtsL
 rw [List.foldl_cons, getD_of hn]
end Go.Proofs.YtpcbhcdpegbfjaaGreat.J
/-
 Max, ContainsFunc; Check and Weights.
-/
namespace Go.Proofs.YtpcbhcdpegbfjaaGreat.J
open Go.RowKit
end Go.Proofs.YtpcbhcdpegbfjaaGreat.J
/-
 Logs: items, and whether they may stand there.
-/
namespace Go.Proofs.YtpcbhcdpegbfjaaGreat.J
open Go.RowKit
structure It where
 kind : Int
 key : Int
 time : Int
 val : Int
 mark : Int
def It.cs (i : It) : List Value := [.int .i64 i.kind, .int .i64 i.key, .int .i64 i.time, .int .i64 i.val, .int .i64 i.mark]
def It.vl (i : It) : Value := .agg #[.int .i64 i.kind, .int .i64 i.key, .int .i64 i.time, .int .i64 i.val, .int .i64 i.mark]
theorem It.cs_len (i : It) : i.cs.length = 5 := rfl
def recB (key time val : Int) : Bool := decide (key = 0 ∧ time = 0 ∧ val = 0)
end Go.Proofs.YtpcbhcdpegbfjaaGreat.J
/-
 Logs, Whole, Items of package job.
-/
namespace Go.Proofs.YtpcbhcdpegbfjaaGreat.J
open Go.RowKit
structure Pt where
 a : Option Addr
 c : Nat
 its : List It
def Pt.cs (p : Pt) : List Value := [.slice p.a p.its.length p.c]
theorem Pt.cs_len (p : Pt) : p.cs.length = 1 := rfl
structure En where
 a : Option Addr
 c : Nat
 pts : List Pt
def En.cs (e : En) : List Value := [.slice e.a e.pts.length e.c]
theorem En.cs_len (e : En) : e.cs.length = 1 := rfl
structure PtsIn (B : Nat) (w : World) (v : Value) (ps : List Pt) : Prop where
 seg : LSeg 1 Pt.cs B w v ps
 its : ∀ p ∈ ps, LSeg 5 It.cs B w (.slice p.a p.its.length p.c) p.its
structure LogIn (B : Nat) (w : World) (v : Value) (ls : List En) : Prop where
 seg : LSeg 1 En.cs B w v ls
 pts : ∀ e ∈ ls, PtsIn B w (.slice e.a e.pts.length e.c) e.pts
section
variable {B B' : Nat} {w w' : World} {v : Value}
theorem PtsIn.below {ps : List Pt} (h : PtsIn B w v ps) (hb : Below B w w') : PtsIn B w' v ps := ⟨h.seg.below hb, fun p hp => (h.its p hp).below hb⟩
theorem PtsIn.mono {ps : List Pt} (h : PtsIn B w v ps) (hb : B ≤ B') : PtsIn B' w v ps := ⟨h.seg.mono hb, fun p hp => (h.its p hp).mono hb⟩
theorem LogIn.below {ls : List En} (h : LogIn B w v ls) (hb : Below B w w') : LogIn B w' v ls := ⟨h.seg.below hb, fun e he => (h.pts e he).below hb⟩
theorem LogIn.mono {ls : List En} (h : LogIn B w v ls) (hb : B ≤ B') : LogIn B' w v ls := ⟨h.seg.mono hb, fun e he => (h.pts e he).mono hb⟩
theorem LSeg.shape {α : Type} {sz : Nat} {cs : α → List Value} {xs : List α} (h : LSeg sz cs B w v xs) : ∃ ao cap, v = .slice ao xs.length cap := by
 obtain ⟨ao, cap, h1, _⟩ := h
 exact ⟨ao, cap, h1⟩
theorem LSeg.len {α : Type} {sz : Nat} {cs : α → List Value} {xs : List α} (h : LSeg sz cs B w v xs) : xs.length ≤ 140737488355328 := by
 obtain ⟨ao, cap, h1, h2, _⟩ := h
 exact h2
theorem LSeg.one {α : Type} {f : α → Value} {xs : List α} {ao : Option Addr} {m cap : Nat} (h : LSeg 1 (fun x => [f x]) B w (.slice ao m cap) xs) {k : Nat} {x : α} (hx : xs[k]? = some x) : ∃ b o, ao = some ⟨b, o, none⟩ ∧ b < B ∧ w.cell? ⟨b, o + k, none⟩ = some (f x) := by
 obtain ⟨ao', cap', e, h2, h4⟩ := h
 cases e
 rcases h4 with h4 | ⟨b, off, h5, h6, h7⟩
 ·subst h4; simp at hx
 ·exact ⟨b, off, h5, h6, by simpa using h7 k x hx 0 _ rfl⟩
theorem LSeg.item {xs : List It} {ao : Option Addr} {m cap : Nat} (h : LSeg 5 It.cs B w (.slice ao m cap) xs) {k : Nat} {x : It} (hx : xs[k]? = some x) : ∃ b o, ao = some ⟨b, o, none⟩ ∧ b < B ∧ w.cell? ⟨b, o + k * 5, none⟩ = some (.int .i64 x.kind) ∧
  w.cell? ⟨b, o + k * 5 + 1, none⟩ = some (.int .i64 x.key) ∧ w.cell? ⟨b, o + k * 5 + 2, none⟩ = some (.int .i64 x.time) ∧ w.cell? ⟨b, o + k * 5 + 3, none⟩ = some (.int .i64 x.val) ∧ w.cell? ⟨b, o + k * 5 + 4, none⟩ = some (.int .i64 x.mark) := by
 obtain ⟨ao', cap', e, h2, h4⟩ := h
 cases e
 rcases h4 with h4 | ⟨b, off, h5, h6, h7⟩
 ·subst h4; simp at hx
 ·exact ⟨b, off, h5, h6, h7 k x hx 0 _ rfl, h7 k x hx 1 _ rfl, h7 k x hx 2 _ rfl, h7 k x hx 3 _ rfl, h7 k x hx 4 _ rfl⟩
end
end Go.Proofs.YtpcbhcdpegbfjaaGreat.J
/-
 Logs, Whole, Items walked.
-/
namespace Go.Proofs.YtpcbhcdpegbfjaaGreat.J
open Go.RowKit
end Go.Proofs.YtpcbhcdpegbfjaaGreat.J
/-
 Light of the document's expressions; which jobs the laws look at.
-/
namespace Go.Proofs.YtpcbhcdpegbfjaaGreat.J
set_option maxHeartbeats 16000000
set_option maxRecDepth 100000
open Go.RowKit
theorem below1 (w : World) (o : Obj) : Below w.heap.size w (w.alloc o) := (Below.refl _ _).alloc (Nat.le_refl _) _
structure Tri (w : World) (b : Nat) (v0 v1 v2 : Value) : Prop where
 c0 : w.cell? ⟨b, 0, none⟩ = some v0
 c1 : w.cell? ⟨b, 1, none⟩ = some v1
 c2 : w.cell? ⟨b, 2, none⟩ = some v2
theorem Tri.below {w w' : World} {b : Nat} {v0 v1 v2 : Value} (h : Tri w b v0 v1 v2) (hb : Below w.heap.size w w') : Tri w' b v0 v1 v2 := by
 have hl := cell_lt h.c0
 exact ⟨(hb.cell (p := ⟨b, _, none⟩) hl).trans h.c0, (hb.cell (p := ⟨b, _, none⟩) hl).trans h.c1, (hb.cell (p := ⟨b, _, none⟩) hl).trans h.c2⟩
theorem Tri.new (w : World) (v0 v1 v2 : Value) (t : TypeId) : Tri (w.alloc (.cells #[v0, v1, v2] t)) w.heap.size v0 v1 v2 := by
 have h : (w.alloc (.cells #[v0, v1, v2] t)).heap[w.heap.size]? = some (.cells #[v0, v1, v2] t) := heap_alloc_new w _
 refine ⟨?_, ?_, ?_⟩ <;> simp only [World.cell?, h] <;> rfl
/-! ### Light -/
def lgtL (fs : List (Int → Int → Int)) (most deep n : Int) : Int := match fs with
 | [] => n
 | f :: fs => if n ≤ most then lgtL fs most deep (n + f (most - n) (deep - 1)) else n
def lgt1 (_op _n : Int) (fs : List (Int → Int → Int)) (most deep : Int) : Int := if most ≤ 0 ∨ deep ≤ 0 then most + 1 else lgtL fs most deep 1
def lgt : Ex → Int → Int → Int := Ex.fold lgt1
theorem lgt_mk (op n : Int) (a : Option Addr) (c : Nat) (l : List Ex) : lgt ⟨op, n, a, c, l⟩ = lgt1 op n (l.map lgt) := by
 unfold lgt; rw [Ex.fold_mk]
theorem lgt_ok (e : Ex) : ∀ most deep : Int, 0 ≤ most → 1 ≤ lgt e most deep ∧ lgt e most deep ≤ most + 1 ∧ (lgt e most deep ≤ most → lgt e most deep = size e ∧ dep e ≤ deep) := by
 refine Ex.ind (P := fun e => ∀ most deep : Int, 0 ≤ most → 1 ≤ lgt e most deep ∧ lgt e most deep ≤ most + 1 ∧ (lgt e most deep ≤ most → lgt e most deep = size e ∧ dep e ≤ deep)) ?_ e
 intro op n a c l ih most deep hm
 rw [lgt_mk, size_mk, dep_mk]
 unfold lgt1
 by_cases h : most ≤ 0 ∨ deep ≤ 0
 ·rw [if_pos h]
  exact ⟨by omega, by omega, fun h => by omega⟩
 ·rw [if_neg h]
  have key : ∀ (l : List Ex) (k : Int), 1 ≤ k → k ≤ most + 1 → (∀ x ∈ l, ∀ most deep : Int, 0 ≤ most → 1 ≤ lgt x most deep ∧ lgt x most deep ≤ most + 1 ∧ (lgt x most deep ≤ most → lgt x most deep = size x ∧ dep x ≤ deep)) →
    k ≤ lgtL (l.map lgt) most deep k ∧ lgtL (l.map lgt) most deep k ≤ most + 1 ∧ (lgtL (l.map lgt) most deep k ≤ most → lgtL (l.map lgt) most deep k = k + ((l.map size).sum : Nat) ∧ (((l.map dep).foldr max 0 : Nat) : Int) ≤ deep - 1) := by
   intro l
   induction l with
   | nil =>
    intro k h1 h2 _
    simp only [List.map_nil, lgtL, List.sum_nil, List.foldr_nil]
    exact ⟨by omega, h2, fun _ => ⟨by simp, by simp; omega⟩⟩
   | cons x r ihr =>
    intro k h1 h2 hx
    simp only [List.map_cons, lgtL, List.sum_cons, List.foldr_cons]
    by_cases hk : k ≤ most
    ·rw [if_pos hk]
     obtain ⟨g1, g2, g3⟩ := hx x (by simp) (most - k) (deep - 1) (by omega)
     obtain ⟨i1, i2, i3⟩ := ihr (k + lgt x (most - k) (deep - 1)) (by omega) (by omega) (fun y hy => hx y (by simp [hy]))
     refine ⟨by omega, i2, fun h3 => ?_⟩
     obtain ⟨j1, j2⟩ := i3 h3
     have hle : lgt x (most - k) (deep - 1) ≤ most - k := by omega
     obtain ⟨q1, q2⟩ := g3 hle
     exact ⟨by rw [j1, q1]; push_cast; omega, by omega⟩
    ·rw [if_neg hk]
     exact ⟨by omega, h2, fun h3 => by omega⟩
  obtain ⟨h1, h2, h3⟩ := key l 1 (by omega) (by omega) ih
  refine ⟨h1, h2, fun h4 => ?_⟩
  obtain ⟨h5, h6⟩ := h3 h4
  exact ⟨by rw [h5]; push_cast; omega, by push_cast; omega⟩
theorem lgtL_drop (l : List Ex) (most deep n : Int) (i : Nat) (x : Ex) (h : l[i]? = some x) :
  lgtL ((l.drop i).map lgt) most deep n = if n ≤ most then lgtL ((l.drop (i + 1)).map lgt) most deep (n + lgt x (most - n) (deep - 1)) else n := by
 obtain ⟨hi, hx⟩ := List.getElem?_eq_some_iff.1 h
 rw [List.drop_eq_getElem_cons hi, hx, List.map_cons]
 rfl
theorem Light_any (e : Ex) : ∀ (w : World) (most deep : Int), In w e → 0 ≤ most → most ≤ 1000 → -1000 ≤ deep → deep ≤ 1000 →
  Calls Tryz.prog 25 #[e.val, .int .i64 most, .int .i64 deep] w fun r w' => r = .returned (.int .i64 (lgt e most deep)) ∧ Below w.heap.size w w' := by
 refine Ex.ind (P := fun e => ∀ (w : World) (most deep : Int), In w e → 0 ≤ most → most ≤ 1000 → -1000 ≤ deep → deep ≤ 1000 →
  Calls Tryz.prog 25 #[e.val, .int .i64 most, .int .i64 deep] w fun r w' => r = .returned (.int .i64 (lgt e most deep)) ∧ Below w.heap.size w w') ?_ e
 intro op m a c l ih w most deep hin hm0 hm1 hd0 hd1
 have hL := hin.self
 have hlen := hL.len
 have hcap := hL.cap
 simp only at hlen hcap
 rw [lgt_mk]
 have hb1 := hide (below1 w (.cells #[.int .i64 op, .int .i64 m, .slice a l.length c] 25))
 have T := hide (Tri.new w (.int .i64 op) (.int .i64 m) (.slice a l.length c) 25)
 unfold Ex.val lgt1
 by_cases hb : most ≤ 0 ∨ deep ≤ 0
 ·rw [if_pos hb]
  by_cases h1 : most ≤ 0
  ·clear hb
   go_enter Tryz.func25, Tryz.ntmps25
   go_wp2
   go_ret
   exact ⟨rfl, hb1.out⟩
  ·have h2 : deep ≤ 0 := by omega
   clear hb
   go_enter Tryz.func25, Tryz.ntmps25
   go_wp2
   go_ret
   exact ⟨rfl, hb1.out⟩
 ·rw [if_neg hb]
  have h1 : ¬ most ≤ 0 := by omega
  have h2 : ¬ deep ≤ 0 := by omega
  clear hb
  obtain ⟨R, hR⟩ : ∃ R, lgtL (l.map lgt) most deep 1 = R := ⟨_, rfl⟩
  rw [hR]
  have HR : Hid (lgtL ((l.drop 0).map lgt) most deep 1 = R) := hR
  have HIN := hide hin
  have IH := hide ih
  clear hR hin ih hL
  go_enter Tryz.func25, Tryz.ntmps25
  go_wp2_with fail
  go_loopw [7, 8] (fun k i wr => ∃ (j : Nat) (k' : Int), j ≤ l.length ∧ i = .int .i64 j ∧ k = .int .i64 k' ∧ 1 ≤ k' ∧ k' ≤ most + 1 ∧ Below w.heap.size w wr ∧ Hid (Tri wr w.heap.size (.int .i64 op) (.int .i64 m) (.slice a l.length c)) ∧ Hid (lgtL ((l.drop j).map lgt) most deep k' = R)) (fun _ i _ => l.length - (intOf i).toNat)
  case atStart => exact ⟨0, 1, Nat.zero_le _, rfl, rfl, by omega, by omega, hb1.out, T.out, HR⟩
  case round =>
   obtain ⟨j, k', hj, rfl, rfl, hk0, hk1, hbel, HT, HC⟩ := hrel
   obtain ⟨p0, p1, p2⟩ := HT.out
   by_cases hlt : j < l.length
   ·by_cases hkm : k' ≤ most
    ·obtain ⟨x, hx⟩ : ∃ x, l[j]? = some x := ⟨_, List.getElem?_eq_getElem hlt⟩
     obtain ⟨b, o, ha, e0, e1, e2⟩ := HIN.out.self.at_ j x hx
     simp only at ha
     subst ha
     have hlb := cell_lt e0
     have c0 := (hbel.cell (p := ⟨b, o + j * 3, none⟩) hlb).trans e0
     have c1 := (hbel.cell (p := ⟨b, o + j * 3 + 1, none⟩) hlb).trans e1
     have c2 := (hbel.cell (p := ⟨b, o + j * 3 + 2, none⟩) hlb).trans e2
     have hxm : x ∈ l := List.mem_of_getElem? hx
     have HQ := HC.out
     rw [lgtL_drop l _ _ _ j x hx, if_pos hkm] at HQ
     have HQ' := hide HQ
     have hok := lgt_ok x (most - k') (deep - 1) (by omega)
     have hcall := hide (IH.out x hxm wr (most - k') (deep - 1) ((HIN.out.kid hxm).below hbel) (by omega) (by omega) (by omega) (by omega))
     clear HC HQ hx hxm e0 e1 e2
     obtain ⟨xo, xn, xa, xc, xl⟩ := x
     simp only at c0 c1 c2
     generalize lgt ⟨xo, xn, xa, xc, xl⟩ (most - k') (deep - 1) = q at *
     obtain ⟨hq1, hq2, _⟩ := hok
     go_wp2_with (go_at_call 25; refine hcall.out.mono ?_; rintro r w3 ⟨rfl, hb3⟩)
     have hb4 := hbel.trans (hb3.mono hbel.size)
     go_roundw
     case rel => exact ⟨j + 1, k' + q, by omega, by go_num, rfl, by omega, by omega, hb4, HT.out.below hb3, HQ'⟩
     case measure => simp [intOf]; omega
    ·have hf : Hid (k' = R) := by
      obtain ⟨x, hx⟩ : ∃ x, l[j]? = some x := ⟨_, List.getElem?_eq_getElem hlt⟩
      have HQ := HC.out
      rw [lgtL_drop l _ _ _ j x hx, if_neg hkm] at HQ
      exact HQ
     go_wp2_with fail
     go_ret
     exact ⟨ret_int hf.out, hbel⟩
   ·have hf : Hid (k' = R) := by
     have HQ := HC.out
     rw [List.drop_eq_nil_of_le (by omega)] at HQ
     exact HQ
    go_wp2_with fail
    go_ret
    exact ⟨ret_int hf.out, hbel⟩
def ExIn (w : World) (ns : List Nd) : Prop := ∀ n ∈ ns, In w n.e
theorem ExIn.below {w w' : World} {ns : List Nd} (h : ExIn w ns) (hb : Below w.heap.size w w') : ExIn w' ns := fun n hn => (h n hn).below hb
def lgOk (n : Nd) : Prop := n.ins.length ≤ 40 ∧ lgt n.e 100 40 ≤ 100
end Go.Proofs.YtpcbhcdpegbfjaaGreat.J
/-
 Check where what it tells of an expression is left open.
-/
namespace Go.Proofs.YtpcbhcdpegbfjaaGreat.J
open Go.RowKit
end Go.Proofs.YtpcbhcdpegbfjaaGreat.J
/-
 sound, count, and Check of an expression that is not too large (turned from wip/expr).
-/
namespace Go.Proofs.YtpcbhcdpegbfjaaGreat.J
set_option maxHeartbeats 16000000
set_option maxRecDepth 100000
open Go.RowKit
theorem beq0 (k : Nat) : ((k : Int) == 0) = decide (k = 0) := by rw [Bool.eq_iff_iff]; simp
theorem sound_any (op n : Int) (a : Option Addr) (k c : Nat) (w : World) :
  Calls Tryz.prog 58 #[.agg #[.int .i64 op, .int .i64 n, .slice a k c]] w fun r w' => r = .returned (.bool (snd1 op n k)) ∧ Below w.heap.size w w' := by
 have hb := hide (below1 w (.cells #[.int .i64 op, .int .i64 n, .slice a k c] 25))
 by_cases hall : op = 1 ∨ op = 2 ∨ op = 3 ∨ op = 4 ∨ op = 5 ∨ op = 6 ∨ op = 7 ∨ op = 8 ∨ op = 9 ∨ op = 10 ∨ op = 11 ∨ op = 12 ∨ op = 13 ∨ op = 14
 ·by_cases hn : n = 0
  ·subst hn
   rcases hall with rfl | rfl | rfl | rfl | rfl | rfl | rfl | rfl | rfl | rfl | rfl | rfl | rfl | rfl
   all_goals
    go_enter Tryz.func58, Tryz.ntmps58
    go_wp2
    go_ret
    exact ⟨ret_bool (by simp [snd1, ari]; try first | rfl | exact beq0 k), hb.out⟩
  ·rcases hall with rfl | rfl | rfl | rfl | rfl | rfl | rfl | rfl | rfl | rfl | rfl | rfl | rfl | rfl
   all_goals
    go_enter Tryz.func58, Tryz.ntmps58
    go_wp2
    go_ret
    exact ⟨ret_bool (by simp [snd1, ari, hn]; try first | rfl | exact beq0 k), hb.out⟩
 ·have h1 : ¬ op = 1 := by omega
  have h2 : ¬ op = 2 := by omega
  have h3 : ¬ op = 3 := by omega
  have h4 : ¬ op = 4 := by omega
  have h5 : ¬ op = 5 := by omega
  have h6 : ¬ op = 6 := by omega
  have h7 : ¬ op = 7 := by omega
  have h8 : ¬ op = 8 := by omega
  have h9 : ¬ op = 9 := by omega
  have h10 : ¬ op = 10 := by omega
  have h11 : ¬ op = 11 := by omega
  have h12 : ¬ op = 12 := by omega
  have h13 : ¬ op = 13 := by omega
  have h14 : ¬ op = 14 := by omega
  have hs : snd1 op n k = false := by
   cases e : snd1 op n k
   ·rfl
   ·exfalso
    unfold snd1 ari at e
    simp only [Bool.and_eq_true, decide_eq_true_eq] at e
    have e1 := e.1.1
    rw [if_neg (by omega), if_neg h14, if_neg (by omega)] at e1
    omega
  rw [hs]
  clear hall hs
  go_enter Tryz.func58, Tryz.ntmps58
  go_wp2
  go_ret
  exact ⟨rfl, hb.out⟩
theorem cntL_drop (l : List Ex) (deep n : Int) (i : Nat) (x : Ex) (h : l[i]? = some x) :
  cntL ((l.drop i).map cnt) deep n = if (cnt x deep n).2 = 0 then cntL ((l.drop (i + 1)).map cnt) deep (cnt x deep n).1 else (0, (cnt x deep n).2) := by
 obtain ⟨hi, hx⟩ := List.getElem?_eq_some_iff.1 h
 rw [List.drop_eq_getElem_cons hi, hx, List.map_cons]
 rfl
theorem cnt_nat {e : Ex} {deep n : Int} (h0 : 0 ≤ n) (h1 : n ≤ 32) : 0 ≤ (cnt e deep n).1 ∧ (cnt e deep n).1 ≤ 32 := by
 rcases cnt_ok e deep n h0 with ⟨_, _, h2, h3, _⟩ | ⟨_, h2, _⟩ | ⟨_, h2, _⟩ <;> omega
theorem count_any (e : Ex) : ∀ (w : World) (deep n : Int), In w e → 0 ≤ n → n ≤ 32 → 0 ≤ deep → deep ≤ 9 →
  Calls Tryz.prog 54 #[e.val, .int .i64 deep, .int .i64 n] w fun r w' => r = .returned (.tuple #[.int .i64 (cnt e deep n).1, .int .i64 (cnt e deep n).2]) ∧ Below w.heap.size w w' := by
 refine Ex.ind (P := fun e => ∀ (w : World) (deep n : Int), In w e → 0 ≤ n → n ≤ 32 → 0 ≤ deep → deep ≤ 9 →
  Calls Tryz.prog 54 #[e.val, .int .i64 deep, .int .i64 n] w fun r w' => r = .returned (.tuple #[.int .i64 (cnt e deep n).1, .int .i64 (cnt e deep n).2]) ∧ Below w.heap.size w w') ?_ e
 intro op m a c l ih w deep n hin hn0 hn1 hd0 hd1
 have hL := hin.self
 have hlen := hL.len
 have hcap := hL.cap
 simp only at hlen hcap
 rw [cnt_mk]
 have hb1 := hide (below1 w (.cells #[.int .i64 op, .int .i64 m, .slice a l.length c] 25))
 unfold Ex.val cnt1
 rw [List.length_map]
 cases hs : snd1 op m l.length
 ·have HS := hide hs
  clear hs
  go_enter Tryz.func54, Tryz.ntmps54
  go_wp2_with (go_at_call 58; refine (sound_any _ _ _ _ _ _).mono ?_; rw [HS.out]; rintro r w1 ⟨rfl, hb2⟩)
  exact bodyPost_ret (v := .tuple #[.int .i64 0, .int .i64 70]) (by simp [results, Tryz.results54, go_sem]) rfl ⟨rfl, hb1.out.trans (hb2.mono (by simp))⟩
 ·have HS := hide hs
  clear hs
  rw [if_neg (by simp)]
  by_cases hbig : 8 < deep ∨ 32 < n + 1
  ·rw [if_pos hbig]
   by_cases hd : 8 < deep
   ·go_enter Tryz.func54, Tryz.ntmps54
    go_wp2_with (go_at_call 58; refine (sound_any _ _ _ _ _ _).mono ?_; rw [HS.out]; rintro r w1 ⟨rfl, hb2⟩)
    exact bodyPost_ret (v := .tuple #[.int .i64 0, .int .i64 71]) (by simp [results, Tryz.results54, go_sem]) rfl ⟨rfl, hb1.out.trans (hb2.mono (by simp))⟩
   ·have hn : 32 < n + 1 := by omega
    go_enter Tryz.func54, Tryz.ntmps54
    go_wp2_with (go_at_call 58; refine (sound_any _ _ _ _ _ _).mono ?_; rw [HS.out]; rintro r w1 ⟨rfl, hb2⟩)
    exact bodyPost_ret (v := .tuple #[.int .i64 0, .int .i64 71]) (by simp [results, Tryz.results54, go_sem]) rfl ⟨rfl, hb1.out.trans (hb2.mono (by simp))⟩
  ·rw [if_neg hbig]
   have hd : ¬ 8 < deep := by omega
   have hn : ¬ 32 < n + 1 := by omega
   clear hbig
   obtain ⟨R, hR⟩ : ∃ R, cntL (l.map cnt) (deep + 1) (n + 1) = R := ⟨_, rfl⟩
   rw [hR]
   have HR : Hid (cntL ((l.drop 0).map cnt) (deep + 1) (n + 1) = R) := hR
   have HIN := hide hin
   have IH := hide ih
   clear hR hin ih hL
   go_enter Tryz.func54, Tryz.ntmps54
   go_wp2_with (go_at_call 58; refine (sound_any _ _ _ _ _ _).mono ?_; rw [HS.out]; rintro r w1 ⟨rfl, hb2⟩; have hc2 := hb2.cell (p := ⟨w.heap.size, 2, none⟩) (by simp); simp at hc2)
   go_loopw [2, 25] (fun k i wr => ∃ (j : Nat) (k' : Int), j ≤ l.length ∧ i = .int .i64 j ∧ k = .int .i64 k' ∧ 0 ≤ k' ∧ k' ≤ 32 ∧ Below w.heap.size w wr ∧ Hid (cntL ((l.drop j).map cnt) (deep + 1) k' = R)) (fun _ i _ => l.length - (intOf i).toNat)
   case atStart => exact ⟨0, n + 1, Nat.zero_le _, rfl, rfl, by omega, by omega, hb1.out.trans (hb2.mono (by simp)), HR⟩
   case round =>
    obtain ⟨j, k', hj, rfl, rfl, hk0, hk1, hbel, HC⟩ := hrel
    by_cases hlt : j < l.length
    ·obtain ⟨x, hx⟩ : ∃ x, l[j]? = some x := ⟨_, List.getElem?_eq_getElem hlt⟩
     obtain ⟨b, o, ha, e0, e1, e2⟩ := HIN.out.self.at_ j x hx
     simp only at ha
     subst ha
     have hlb := cell_lt e0
     have c0 := (hbel.cell (p := ⟨b, o + j * 3, none⟩) hlb).trans e0
     have c1 := (hbel.cell (p := ⟨b, o + j * 3 + 1, none⟩) hlb).trans e1
     have c2 := (hbel.cell (p := ⟨b, o + j * 3 + 2, none⟩) hlb).trans e2
     have hxm : x ∈ l := List.mem_of_getElem? hx
     have HC' := HC.out
     rw [cntL_drop l _ _ j x hx] at HC'
     have HC2 := hide HC'
     have HX := hide hx
     have HM := hide hxm
     have hinx : In wr x := (HIN.out.kid hxm).below hbel
     have HNX := hide hinx
     clear HC' HC hx hxm e0 e1 e2 hinx
     obtain ⟨xo, xn, xa, xc, xl⟩ := x
     simp only at c0 c1 c2
     go_wp2_with fail
     go_at_call 54
     have hbA := below1 wr (.cells #[.int .i64 xo, .int .i64 xn, .slice xa xl.length xc] 25)
     refine (IH.out ⟨xo, xn, xa, xc, xl⟩ HM.out _ (deep + 1) k' (HNX.out.below hbA) hk0 hk1 (by omega) (by omega)).mono ?_
     have hk2 := cnt_nat (e := ⟨xo, xn, xa, xc, xl⟩) (deep := deep + 1) hk0 hk1
     have HQ := HC2.out
     clear HC2
     generalize cnt ⟨xo, xn, xa, xc, xl⟩ (deep + 1) k' = q at HQ hk2 ⊢
     obtain ⟨q1, q2⟩ := q
     simp only at HQ hk2 ⊢
     have HB := hide ((hbel.trans (hbA.mono hbel.size)))
     by_cases hq : q2 = 0
     ·rw [if_pos hq] at HQ
      have HQ' := hide HQ
      clear HQ hbA
      subst hq
      rintro r w3 ⟨rfl, hb3⟩
      have hb4 := hide (HB.out.trans (hb3.mono HB.out.size))
      go_wp2_with fail
      go_roundw
      case rel => exact ⟨j + 1, q1, by omega, by go_num, rfl, hk2.1, hk2.2, hb4.out, HQ'⟩
      case measure => simp [intOf]; omega
     ·rw [if_neg hq] at HQ
      have HQ' := hide HQ
      clear HQ hbA
      have hq1 : (q2 == 0) = false := by simp [hq]
      have hq2 : (q2 != 0) = true := by simp [hq]
      rintro r w3 ⟨rfl, hb3⟩
      have hb4 := hide (HB.out.trans (hb3.mono HB.out.size))
      go_wp2_with fail
      rw [← HQ'.out]
      exact bodyPost_ret (v := .tuple #[.int .i64 0, .int .i64 q2]) (by simp [results, Tryz.results54, go_sem]) rfl ⟨rfl, hb4.out⟩
    ·go_wp2
     have he : l.drop j = [] := List.drop_eq_nil_of_le (by omega)
     have h1 := HC.out
     rw [he] at h1
     simp only [List.map_nil, cntL] at h1
     subst h1
     exact bodyPost_ret (v := .tuple #[.int .i64 k', .int .i64 0]) (by simp [results, Tryz.results54, go_sem]) rfl ⟨rfl, hbel⟩
theorem check_few {w : World} (e : Ex) (hin : In w e) (hn : (cnt e 1 0).2 ≠ 71) :
  Calls Tryz.prog 49 #[e.val] w fun r w' => r = .returned (.int .i64 (chk e)) ∧ Below w.heap.size w w' := by
 have hb0 := below1 w (.cells #[.int .i64 e.op, .int .i64 e.n, .slice e.a e.l.length e.c] 25)
 have hct := hide (count_any e _ 1 0 (hin.below hb0) (by omega) (by omega) (by omega) (by omega))
 have HB := hide hb0
 have hc : (cnt e 1 0).2 = chk e := by
  rcases chk_of e with ⟨h1, h2⟩ | ⟨h1, h2⟩ | ⟨h1, _⟩
  ·rw [h1, h2]
  ·rw [h1, h2]
  ·exact absurd h1 hn
 rw [hc] at hct hn
 clear hc hb0 hin
 obtain ⟨eo, en, ea, ec, el⟩ := e
 unfold Ex.val at hct ⊢
 simp only at hct HB ⊢
 generalize chk ⟨eo, en, ea, ec, el⟩ = ck at *
 generalize (cnt ⟨eo, en, ea, ec, el⟩ 1 0).1 = cn at *
 have hn1 : (ck == 71) = false := by simp [hn]
 go_enter Tryz.func49, Tryz.ntmps49
 go_wp2_with (go_at_call 54; refine hct.out.mono ?_; rintro e w2 ⟨rfl, hb2⟩)
 go_ret
 exact ⟨rfl, HB.out.trans (hb2.mono HB.out.size)⟩
end Go.Proofs.YtpcbhcdpegbfjaaGreat.J
