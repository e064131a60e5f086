/-
  The heap of numbers that wait: Less, Swap, Len, Push, Pop of package job's leastFirst.
-/
import Derived.Test.YtfiafbfbiidnlaaJBase
namespace Go.Proofs.Ytfiafbfbiidnlaa
open Go.RowKit

def nc (x : Nat) : List Value := [.int .i64 (x : Int)]
theorem nc_len (x : Nat) : (nc x).length = 1 := rfl
theorem nc_one (x : Nat) : ∀ u ∈ nc x, u.oneCell' = true := fun u hu => by simp [nc] at hu; subst hu; rfl
/-- v is a slice of just the numbers l, at the head of a row of its own that lies from block base on. -/
abbrev OwnN (base : Nat) (w : World) (v : Value) (l : List Nat) : Prop := OwnL 3 1 nc base w v l
theorem nc_flat (l : List Nat) : l.flatMap nc = l.map fun x => .int .i64 (x : Int) := by
  induction l with
  | nil => rfl
  | cons x r ih => rw [List.flatMap_cons, ih]; rfl
/-- What lies there. -/
theorem OwnN.row {base : Nat} {w : World} {v : Value} {l : List Nat} (h : OwnN base w v l) (hne : l ≠ []) : ∃ (g cap : Nat) (cur : Array Value), v = .slice (some ⟨g, 0, none⟩) l.length cap ∧ base ≤ g ∧ BoxT 3 w g cur ∧ l.length ≤ cap ∧ cap ≤ maxLen ∧ cur.size = cap ∧ ∀ (i x : Nat), l[i]? = some x → cur[i]? = some (.int .i64 (x : Int)) := by
  rcases h.2 with ⟨rfl, h0⟩ | ⟨g, cap, cur, h1, h2, h3, h4, h5, h6, h7⟩
  · exact absurd (List.length_eq_zero_iff.1 h0) hne
  · refine ⟨g, cap, cur, h1, h2, h3, h4, h5, by simpa using h6, fun i x hx => ?_⟩
    have hi := (List.getElem?_eq_some_iff.1 hx).1
    have h8 : (cur.toList.take (l.length * 1))[i]? = some (.int .i64 (x : Int)) := by
      rw [h7, nc_flat, List.getElem?_map, hx]; rfl
    rw [List.getElem?_take_of_lt (by omega)] at h8
    simpa using h8

set_option maxHeartbeats 1000000 in
set_option maxRecDepth 100000 in
theorem less_any {base : Nat} {w : World} {v : Value} {l : List Nat} (h : OwnN base w v l) {i j : Nat} {x y : Nat} (hx : l[i]? = some x) (hy : l[j]? = some y) :
    Calls Try.prog 96 #[v, .int .i64 (i : Int), .int .i64 (j : Int)] w fun e w' => e = .returned (.bool (decide (x < y))) ∧ ∃ n, w' = w.drewN n := by
  have hi := (List.getElem?_eq_some_iff.1 hx).1
  have hj := (List.getElem?_eq_some_iff.1 hy).1
  obtain ⟨g, cap, cur, rfl, h2, h3, h4, h5, h6, h7⟩ := OwnN.row h (by intro e; rw [e] at hx; simp at hx)
  have c1 : w.cell? ⟨g, i, none⟩ = some (.int .i64 (x : Int)) := by rw [h3.cellAt]; exact h7 i x hx
  have c2 : w.cell? ⟨g, j, none⟩ = some (.int .i64 (y : Int)) := by rw [h3.cellAt]; exact h7 j y hy
  have b1 : (i : Int) < (l.length : Int) := by omega
  have b2 : (j : Int) < (l.length : Int) := by omega
  clear h h7 hx hy
  go_enter Try.func96, Try.ntmps96
  go_wp2
  go_quiet (fail)
  go_wp2
  go_ret
  exact ⟨rfl, _, rfl⟩

theorem OwnN.mk {base : Nat} {w : World} {g cap : Nat} {cur : Array Value} {l : List Nat} (hg : base ≤ g) (hb : BoxT 3 w g cur) (hc : l.length ≤ cap) (hm : cap ≤ maxLen) (hs : cur.size = cap) (hat : ∀ (i x : Nat), l[i]? = some x → cur[i]? = some (.int .i64 (x : Int))) :
    OwnN base w (.slice (some ⟨g, 0, none⟩) l.length cap) l := by
  refine ⟨by simp [nc_flat], .inr ⟨g, cap, cur, rfl, hg, hb, hc, hm, by simpa using hs, ?_⟩⟩
  apply List.ext_getElem?
  intro i
  rw [nc_flat, List.getElem?_map]
  by_cases hi : i < l.length
  · rw [List.getElem?_take_of_lt (by omega), List.getElem?_eq_getElem hi]
    have := hat i l[i] (List.getElem?_eq_getElem hi)
    simpa using this
  · rw [List.getElem?_eq_none (by simp; omega), List.getElem?_eq_none (by omega)]; rfl
def swp (l : List Nat) (i j : Nat) : List Nat := (l.set i (l.getD j 0)).set j (l.getD i 0)
theorem swp_len (l : List Nat) (i j : Nat) : (swp l i j).length = l.length := by simp [swp]
theorem swp_get {l : List Nat} {i j x y : Nat} (hx : l[i]? = some x) (hy : l[j]? = some y) (k : Nat) : (swp l i j)[k]? = if k = j then some x else if k = i then some y else l[k]? := by
  have hi := (List.getElem?_eq_some_iff.1 hx).1
  have hj := (List.getElem?_eq_some_iff.1 hy).1
  unfold swp
  simp only [List.getD_eq_getElem?_getD, hx, hy, Option.getD_some, List.getElem?_set, List.length_set]
  by_cases h1 : k = j
  · subst h1; simp [hj]
  · by_cases h2 : k = i
    · subst h2; rw [if_neg (by omega), if_pos rfl, if_pos hi, if_neg h1, if_pos rfl]
    · rw [if_neg (by omega), if_neg (by omega), if_neg h1, if_neg h2]

set_option maxHeartbeats 1000000 in
set_option maxRecDepth 100000 in
theorem swap_any {base : Nat} {w : World} {v : Value} {l : List Nat} (h : OwnN base w v l) {i j : Nat} (hi : i < l.length) (hj : j < l.length) :
    Calls Try.prog 97 #[v, .int .i64 (i : Int), .int .i64 (j : Int)] w fun e w' => e = .returned (.tuple #[]) ∧ OwnN base w' v (swp l i j) ∧ w.grownBy w' v.ownBlock := by
  obtain ⟨x, hx⟩ : ∃ x, l[i]? = some x := ⟨_, List.getElem?_eq_getElem hi⟩
  obtain ⟨y, hy⟩ : ∃ y, l[j]? = some y := ⟨_, List.getElem?_eq_getElem hj⟩
  obtain ⟨g, cap, cur, rfl, h2, h3, h4, h5, h6, h7⟩ := OwnN.row h (by intro e; rw [e] at hx; simp at hx)
  have c1 : w.cell? ⟨g, i, none⟩ = some (.int .i64 (x : Int)) := by rw [h3.cellAt]; exact h7 i x hx
  have c2 : w.cell? ⟨g, j, none⟩ = some (.int .i64 (y : Int)) := by rw [h3.cellAt]; exact h7 j y hy
  have f1 := h3.free i
  have f2 := h3.free j
  have b1 : (i : Int) < (l.length : Int) := by omega
  have b2 : (j : Int) < (l.length : Int) := by omega
  have hb2 := h3.set i (.int .i64 (y : Int))
  have c3 : ∃ v', (w.setCell ⟨g, i, none⟩ (.int .i64 (y : Int))).cell? ⟨g, j, none⟩ = some v' := by
    rw [hb2.cellAt]
    exact ⟨_, Array.getElem?_eq_getElem (by simp; omega)⟩
  obtain ⟨v3, c3⟩ := c3
  have c4 := hb2.free j
  have H2 := hide hb2
  have H3 := hide h3
  have H7 := hide h7
  have HX := hide hx
  have HY := hide hy
  clear h h7 hx hy h3 hb2
  go_enter Try.func97, Try.ntmps97
  go_wp2
  go_region
  go_wp2
  go_end0
  refine ⟨rfl, ?_, ?_⟩
  · have hb3 := (H2.out.set j (.int .i64 (x : Int))).drew
    have := OwnN.mk (base := base) (cap := cap) (l := swp l i j) h2 hb3 (by rw [swp_len]; exact h4) h5 (by simpa using h6) (fun k z hz => by
      rw [swp_get HX.out HY.out] at hz
      simp only [Array.getElem?_setIfInBounds, Array.size_setIfInBounds]
      by_cases k1 : k = j
      · subst k1
        rw [if_pos rfl] at hz
        cases hz
        simp; omega
      · rw [if_neg k1] at hz
        rw [if_neg (by omega)]
        by_cases k2 : k = i
        · subst k2
          rw [if_pos rfl] at hz
          cases hz
          simp; omega
        · rw [if_neg k2] at hz
          rw [if_neg (by omega)]
          exact H7.out k z hz)
    rw [swp_len] at this
    exact this
  · exact grownBy_drew (grownBy_trans (grownBy_set w g i _) (grownBy_set _ g j _))

theorem Try.info3' : (Try.prog.info? 3).map (fun i => (i.zero, i.size, i.bytes)) = some (some (.int .i64 0), 1, 8) := by kernel_rfl
/-- append of one number onto a row of one's own, as one step of a region that draws. -/
theorem step_ownN {sl : TypeId} (hund : Try.prog.underlying sl = some (.slice 3)) {w : World} {ops : Array Oper} {o : Oper} {a : Act} {K : Act → World → Prop} {Q : Exit → Act → World → Prop} {E : Prop} (hgd : o.guard = none) (s x : Operand)
    (ho : o.op = .call { callee := .builtin .append, args := #[s, x], argTypes := #[sl, sl] }) (base : Nat) (v : Value) (l : List Nat) (hs : a.eval s = v) (hown : OwnN base w v l)
    (ad : Addr) (c : Nat) (y : Nat) (hx : a.eval x = .slice (some ad) 1 c) (hnews : w.cell? ad = some (.int .i64 (y : Int))) (hl : l.length ≤ 1000000) (hbase : base ≤ w.heap.size)
    (h : ∀ v' w', OwnN base w' v' (l ++ [y]) → w.grownBy w' v.ownBlock → (∀ g, v'.ownBlock = some g → v.ownBlock = some g ∨ w.heap.size ≤ g) → K (a.put o.dst v') w') :
    if Region.wanted o (yielded ops a.tmps) = true then Oper.wp Try.prog o a w K Q else E := by
  have hw : Region.wanted o (yielded ops a.tmps) = true := by simp [Region.wanted, hgd]
  rw [if_pos hw]
  obtain ⟨i0, hi, hz0, hz1, hz2⟩ := info_parts Try.info3'
  obtain ⟨v', w', hr, h2, h3, _, h5⟩ := run_append_own_at (P := Try.prog) w base sl o.type 3 i0 (.int .i64 0) 1 8 hund hi hz0 hz1 hz2 rfl (by omega) v l.length (l.flatMap nc) hown ad 1 c (nc y) rfl
    (fun j u hj => by match j, hj with | 0, hj => simp [nc] at hj; subst hj; rw [show ad.add 0 = ad from if_pos rfl]; exact hnews) (nc_one y) (by unfold maxLen; omega) (by omega) hbase
  unfold Oper.wp execOp
  simp only [ho, resolve, invoke, builtin, Sem.run_bind, Sem.run_pure, Result.andThen_ok, List.map_toArray, List.map_cons, List.map_nil, hs, hx, hr]
  refine h v' w' ?_ h3 (fun g e => ?_)
  · show w'.ownsRow _ _ _ _ _ _
    rw [List.length_append, List.flatMap_append]; simpa using h2
  · rcases h5 with h5 | h5
    · exact .inl (h5 ▸ e)
    · rw [h5] at e; cases e; exact .inr (Nat.le_refl _)
theorem BoxT.cells5 {t : TypeId} {w : World} {k : Nat} {c0 c1 c2 c3 c4 : Value} (h : BoxT t w k #[c0, c1, c2, c3, c4]) :
    w.cell? ⟨k, 0, none⟩ = some c0 ∧ w.cell? ⟨k, 1, none⟩ = some c1 ∧ w.cell? ⟨k, 2, none⟩ = some c2 ∧ w.cell? ⟨k, 3, none⟩ = some c3 ∧ w.cell? ⟨k, 4, none⟩ = some c4 := by
  unfold BoxT at h
  simp [World.cell?, h]
theorem BoxT.ne {t t' : TypeId} {w : World} {k k' : Nat} {c c' : Array Value} (h : BoxT t w k c) (h' : BoxT t' w k' c') (ht : t ≠ t') : k ≠ k' := by
  intro e
  subst e
  unfold BoxT at h h'
  rw [h] at h'
  simp only [Option.some.injEq, Obj.cells.injEq] at h'
  exact ht h'.2.1
theorem BoxT.grownO {t : TypeId} {w w' : World} {k : Nat} {r : Option Nat} {cs : Array Value} (h : BoxT t w k cs) (hg : w.grownBy w' r) (hne : some k ≠ r) : BoxT t w' k cs := by
  unfold BoxT at *
  rw [hg.block k (Array.getElem?_eq_some_iff.1 h).1 hne]; exact h
/-- Nothing has turned but box K and the row of rv, which is rv' now. -/
structure HT (K : Nat) (rv rv' : Value) (w w' : World) : Prop where
  os : w'.os = w.os
  tape : w'.tape = w.tape
  output : w'.output = w.output
  size : w.heap.size ≤ w'.heap.size
  block : ∀ i, i < w.heap.size → i ≠ K → rv.ownBlock ≠ some i → w'.heap[i]? = w.heap[i]?
  own : ∀ g, rv'.ownBlock = some g → rv.ownBlock = some g ∨ w.heap.size ≤ g
theorem HT.refl (K : Nat) (rv : Value) (w : World) : HT K rv rv w w := ⟨rfl, rfl, rfl, Nat.le_refl _, fun _ _ _ _ => rfl, fun _ h => .inl h⟩
theorem HT.trans {K : Nat} {a b c : Value} {u v w : World} (h : HT K a b u v) (k : HT K b c v w) : HT K a c u w :=
  ⟨k.os.trans h.os, k.tape.trans h.tape, k.output.trans h.output, Nat.le_trans h.size k.size, fun i hi h1 h2 => by
    refine (k.block i (Nat.lt_of_lt_of_le hi h.size) h1 (fun e => ?_)).trans (h.block i hi h1 h2)
    rcases h.own i e with e' | e'
    · exact h2 e'
    · omega, fun g e => by
    rcases k.own g e with e' | e'
    · exact h.own g e'
    · exact .inr (Nat.le_trans h.size e')⟩
theorem HT.below {K : Nat} {rv : Value} {w w' : World} (h : Below w.heap.size w w') : HT K rv rv w w' := ⟨h.os, h.tape, h.output, h.size, fun i hi _ _ => h.block i hi, fun _ e => .inl e⟩
theorem HT.grown {K : Nat} {rv rv' : Value} {w w' : World} (h : w.grownBy w' rv.ownBlock) (ho : ∀ g, rv'.ownBlock = some g → rv.ownBlock = some g ∨ w.heap.size ≤ g) : HT K rv rv' w w' :=
  ⟨h.os, h.tape, h.output, h.size, fun i hi _ hn => h.block i hi (Ne.symm hn), ho⟩
theorem HT.set (K : Nat) (rv : Value) (w : World) (j : Nat) (u : Value) : HT K rv rv w (w.setCell ⟨K, j, none⟩ u) :=
  ⟨rfl, rfl, rfl, by simp, fun i _ h1 _ => Below.heap_setCell w ⟨K, j, none⟩ u i h1, fun _ e => .inl e⟩
/-- A line's box, and its heap. -/
structure Hp (base : Nat) (w : World) (K : Nat) (c0 c1 c2 c3 rv : Value) (l : List Nat) : Prop where
  box : BoxT 90 w K #[c0, c1, c2, c3, rv]
  own : OwnN base w rv l
theorem Hp.apart {base : Nat} {w : World} {K : Nat} {c0 c1 c2 c3 rv : Value} {l : List Nat} (h : Hp base w K c0 c1 c2 c3 rv l) (g : Nat) (hg : rv.ownBlock = some g) : K ≠ g := by
  obtain ⟨cur, hc⟩ := h.own.has g hg
  exact h.box.ne (t' := 3) hc (by decide)
theorem OwnN.setK {base : Nat} {w : World} {v : Value} {l : List Nat} (h : OwnN base w v l) {K j : Nat} {u : Value} (hk : ∀ g, v.ownBlock = some g → K ≠ g) : OwnN base (w.setCell ⟨K, j, none⟩ u) v l :=
  h.back (fun g hg => Below.heap_setCell w ⟨K, j, none⟩ u g (hk g hg).symm)

set_option maxHeartbeats 1000000 in
set_option maxRecDepth 100000 in
theorem mpush_any {base : Nat} {w : World} {K : Nat} {c0 c1 c2 c3 rv : Value} {l : List Nat} (h : Hp base w K c0 c1 c2 c3 rv l) (x : Nat) (hl : l.length ≤ 1000) (hb : base ≤ w.heap.size) :
    Calls Try.prog 99 #[.pointer (some ⟨K, 4, none⟩), .iface 3 (.int .i64 (x : Int))] w fun e w' => e = .returned (.tuple #[]) ∧ ∃ rv', Hp base w' K c0 c1 c2 c3 rv' (l ++ [x]) ∧ HT K rv rv' w w' := by
  obtain ⟨-, -, -, -, k4⟩ := h.box.cells5
  have k6 := (h.box.alloc (.cells #[.int .i64 (x : Int)] 3)).cells5.2.2.2.2
  have H := hide h
  have ht : ∀ W : World, (Instr.typeAssert (.iface 3 (.int .i64 (x : Int))) 20 3 false).run Try.prog W = .ok (.int .i64 (x : Int)) W := fun _ => by kernel_rfl
  clear h
  go_enter Try.func99, Try.ntmps99
  go_wp2
  go_region_law (refine step_ownN (by kernel_rfl) rfl _ _ rfl base rv l rfl (H.out.own.drew.alloc _) ⟨w.heap.size, 0, none⟩ 1 x rfl (by simp) (by omega) (by simp; omega) ?_; intro v1 w1 h1 g1 o1; obtain ⟨a1, p1, rfl⟩ := h1.shape; have B1 := hide ((H.out.box.drew.alloc (.cells #[.int .i64 (x : Int)] 3)).grownO g1 (fun e => H.out.apart K e.symm rfl)); have k5 := B1.out.cells5.2.2.2.2; have f5 := B1.out.free 4)
  all_goals
    go_wp2
    go_end0
    refine ⟨rfl, _, ⟨by simpa using B1.out.set 4 _, h1.setK (fun g e => ?_)⟩, ?_⟩
    · exact B1.out.ne (t' := 3) (h1.has g e).choose_spec (by decide)
    · have b1 : Below w.heap.size w (w.drew.alloc (.cells #[.int .i64 (x : Int)] 3)) := ((Below.refl _ _).drew).alloc (by simp) _
      exact ((HT.below b1).trans (HT.grown g1 o1)).trans (HT.set _ _ _ _ _)
end Go.Proofs.Ytfiafbfbiidnlaa
