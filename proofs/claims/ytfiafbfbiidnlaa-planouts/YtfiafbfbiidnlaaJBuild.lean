/-
  A job that a law makes, node by node.
-/
import Derived.Test.YtfiafbfbiidnlaaJKnown
namespace Go.Proofs.Ytfiafbfbiidnlaa
open Go.RowKit

abbrev ndZero : Value := .agg #[.int .i64 0, .slice none 0 0, .int .i64 0, .int .i64 0, .int .i64 0, .slice none 0 0, .int .i64 0, .int .i64 0, .int .i64 0, .int .i64 0]
theorem Try.info54' : (Try.prog.info? 54).map (fun i => (i.zero, i.size, i.bytes)) = some (some ndZero, 10, 112) := by kernel_rfl
theorem Nd.cs_one (n : Nd) : ∀ u ∈ n.cs, u.oneCell' = true := by
  intro u hu
  simp only [Nd.cs, List.mem_cons, List.not_mem_nil, or_false] at hu
  rcases hu with rfl | rfl | rfl | rfl | rfl | rfl | rfl | rfl | rfl | rfl <;> rfl
/-- append of one node onto a row of one's own. -/
theorem app_nd {w : World} {ops : Array Oper} {rest : List Oper} {o : Oper} {a : Act} {Q : Exit → Act → World → Prop} (hgd : o.guard = none) (s x : Operand)
    (ho : o.op = .call { callee := .builtin .append, args := #[s, x], argTypes := #[22, 22] }) (base : Nat) (v : Value) (l : List Nd) (hs : a.eval s = v) (hown : OwnL 54 10 Nd.cs base w v l)
    (ad : Addr) (c : Nat) (y : Nd) (hx : a.eval x = .slice (some ad) 1 c) (hnews : ∀ (j : Nat) (u : Value), y.cs[j]? = some u → w.cell? (ad.add j) = some u) (hl : l.length ≤ 1000) (hbase : base ≤ w.heap.size)
    (h : ∀ v' w', OwnL 54 10 Nd.cs base w' v' (l ++ [y]) → w.grownBy w' v.ownBlock → (∀ g, v'.ownBlock = some g → v.ownBlock = some g ∨ w.heap.size ≤ g) → wpList Try.prog ops Q rest (a.put o.dst v') w') : wpList Try.prog ops Q (o :: rest) a w := by
  obtain ⟨i0, hi, hz0, hz1, hz2⟩ := info_parts Try.info54'
  refine wpList_append_own_at w hgd s x 22 ho base 54 i0 ndZero 10 112 (by kernel_rfl) hi hz0 hz1 hz2 rfl (by omega) v l.length (l.flatMap Nd.cs) hs hown ad 1 c y.cs hx rfl hnews y.cs_one (by unfold maxLen; omega) (by omega) hbase ?_
  intro v' w' h2 h3 _ h5
  refine h v' w' ?_ h3 (fun g e => ?_)
  · show w'.ownsRow _ _ _ _ _ _
    rw [List.length_append, List.flatMap_append]; simpa using h2
  · rcases h5 with h5 | h5
    · exact .inl (h5 ▸ e)
    · rw [h5] at e; cases e; exact .inr (Nat.le_refl _)
theorem OwnL.lsegA {α : Type} {t sz : Nat} {cs : α → List Value} (hcs : ∀ x, (cs x).length = sz) {base : Nat} {w : World} {v : Value} {xs : List α} (h : OwnL t sz cs base w v xs) (hl : xs.length ≤ 1000) : LSeg sz cs w.heap.size w v xs := by
  rcases h.2 with ⟨rfl, h0⟩ | ⟨g, cap, cur, rfl, h2, h3, h4, h5, h6, h7⟩
  · rw [List.length_eq_zero_iff.1 h0]; exact LSeg.none
  · refine LSeg.ofRow hcs (t := t) (cur := cur) h3 (Array.getElem?_eq_some_iff.1 h3).1 (by omega) (fun j u hj => ?_)
    rw [← h7, List.getElem?_take] at hj
    split at hj
    · simpa using hj
    · cases hj
theorem OwnL.mk1 {α : Type} {t sz : Nat} {cs : α → List Value} {base : Nat} {w : World} {g : Nat} {x : α} (hcs : (cs x).length = sz) (hg : base ≤ g) (hb : BoxT t w g (cs x).toArray) : OwnL t sz cs base w (.slice (some ⟨g, 0, none⟩) 1 1) [x] :=
  ⟨by simp [hcs], .inr ⟨g, 1, (cs x).toArray, rfl, hg, hb, by simp, by unfold maxLen; omega, by simp [hcs], by subst hcs; simp⟩⟩
/-- A job in the box K, with rows of the law's own. -/
structure JB (base : Nat) (w : World) (K : Nat) (v : Value) (ns : List Nd) : Prop where
  box : BoxT 24 w K #[v]
  row : OwnL 54 10 Nd.cs base w v ns
  ins : ∀ n ∈ ns, OwnL 3 1 ic base w (.slice n.ia n.ins.length n.ic) n.ins
  kK : base ≤ K
section
variable {base : Nat} {w w' : World} {K : Nat} {v v' : Value} {ns : List Nd} {n : Nd}
theorem JB.below (h : JB base w K v ns) (hb : Below w.heap.size w w') : JB base w' K v ns := ⟨h.box.below hb, h.row.below hb, fun n hn => (h.ins n hn).below hb, h.kK⟩
theorem JB.job (h : JB base w K v ns) (hl : ns.length ≤ 1000) (hi : ∀ n ∈ ns, n.ins.length ≤ 1000) : JobIn w.heap.size w v ns :=
  ⟨h.row.lsegA Nd.cs_len hl, fun n hn => (h.ins n hn).lsegA ic_len (hi n hn)⟩
theorem JB.cell (h : JB base w K v ns) : w.cell? ⟨K, 0, none⟩ = some v ∧ w.frozen? ⟨K, 0, none⟩ = false := ⟨by rw [h.box.cellAt]; rfl, h.box.free 0⟩
theorem JB.vK (h : JB base w K v ns) : v.ownBlock ≠ some K := by
  intro e
  obtain ⟨cur, hc⟩ := h.row.has K e
  exact h.box.ne (t' := 54) hc (by decide) rfl
/-- What the append leaves. -/
theorem JB.grown (h : JB base w K v ns) (ho : OwnL 54 10 Nd.cs base w' v' (ns ++ [n])) (hg : w.grownBy w' v.ownBlock) (hi : OwnL 3 1 ic base w (.slice n.ia n.ins.length n.ic) n.ins) :
    BoxT 24 w' K #[v] ∧ JB base (w'.setCell ⟨K, 0, none⟩ v') K v' (ns ++ [n]) := by
  have bK : BoxT 24 w' K #[v] := h.box.grownO hg (Ne.symm h.vK)
  have keep : ∀ {u : Value} {l : List Int}, OwnL 3 1 ic base w u l → OwnL 3 1 ic base (w'.setCell ⟨K, 0, none⟩ v') u l := by
    intro u l hu
    refine hu.back (fun g e => ?_)
    obtain ⟨cur, hc⟩ := hu.has g e
    rw [Below.heap_setCell w' ⟨K, 0, none⟩ v' g (BoxT.ne (t := 3) hc h.box (by decide))]
    refine hg.block g (hu.lt g e) (fun e' => ?_)
    obtain ⟨cur', hc'⟩ := h.row.has g e'.symm
    exact BoxT.ne (t := 3) (t' := 54) hc hc' (by decide) rfl
  refine ⟨bK, by simpa using bK.set 0 v', ?_, fun m hm => ?_, h.kK⟩
  · refine ho.back (fun g e => Below.heap_setCell w' ⟨K, 0, none⟩ v' g (fun e' => ?_))
    obtain ⟨cur, hc⟩ := ho.has g e
    exact BoxT.ne (t := 54) hc bK (by decide) e'
  · rcases List.mem_append.1 hm with hm | hm
    · exact keep (h.ins m hm)
    · rcases List.mem_singleton.1 hm with rfl
      exact keep hi
theorem JB.grownBelow (h : JB base w K v ns) (hg : w.grownBy w' v.ownBlock) (hb : base ≤ w.heap.size) : Below base w (w'.setCell ⟨K, 0, none⟩ v') := by
  refine Below.setCell ⟨hg.os, hg.tape, hg.output, hg.size, fun k hk => hg.block k (by omega) (fun e => ?_)⟩ (show base ≤ K from h.kK) _
  have := h.row.at k e.symm
  omega
end
/-! ### What a job is told by does not ask where it lies -/
def Nd.strip (n : Nd) : Nd := { n with ia := none, ic := 0 }
theorem ckE_strip (ns : List Nd) (n : Nd) : ckE (ns.map Nd.strip) n.strip = ckE ns n := by
  unfold ckE
  rw [List.map_map]
  rfl
theorem fault_strip (ns : List Nd) : ∀ l : List Nd, fault (ns.map Nd.strip) (l.map Nd.strip) = fault ns l
  | [] => rfl
  | n :: r => by rw [List.map_cons, fault, fault, ckE_strip, fault_strip ns r]
theorem ins_strip (ns : List Nd) : (ns.map Nd.strip).map Nd.ins = ns.map Nd.ins := by rw [List.map_map]; rfl
theorem errW_strip (ns : List Nd) : errW (ns.map Nd.strip) = errW ns := by
  unfold errW
  rw [fault_strip, ins_strip, List.length_map]
theorem wtsL_strip (ns : List Nd) (l : List Nat) : ∀ ws, wtsL (ns.map Nd.strip) l ws = wtsL ns l ws := by
  induction l with
  | nil => intro ws; rfl
  | cons i r ih =>
    intro ws
    have e : wt1 ((ns.map Nd.strip).getD i nd0) ws = wt1 (ns.getD i nd0) ws := by
      rw [List.getD_eq_getElem?_getD, List.getD_eq_getElem?_getD, List.getElem?_map]
      cases ns[i]? <;> rfl
    unfold wtsL at *
    rw [List.foldl_cons, List.foldl_cons, e, ih]
theorem wts_strip (ns : List Nd) : wts (ns.map Nd.strip) = wts ns := by
  unfold wts
  rw [ins_strip, List.length_map, wtsL_strip]
theorem errJ_strip (ns : List Nd) : errJ (ns.map Nd.strip) = errJ ns := by
  unfold errJ
  rw [errW_strip, wts_strip, List.any_map]
  rfl
/-! ### The circles -/
def e0 : Ex := ⟨0, 0, none, 0, []⟩
def cSrc : Nd := ⟨1, none, 0, [], 1, e0, 0, 0, 0, 0⟩
def cUn (l : List Int) : Nd := ⟨5, none, 0, l, 2, e0, 0, 0, 0, 0⟩
def cSnk (n : Nat) : Nd := ⟨8, none, 0, [(n : Int)], 1, e0, 0, 0, 0, 0⟩
def cRow (k : Nat) : List Nd := cSrc :: (List.range k).map fun i : Nat => cUn [(i : Int)]
def cJob (n : Nat) : List Nd := cRow n ++ [cSnk n]
def cBad (n f t : Nat) : List Nd := (cJob n).set (1 + t) (cUn [(t : Int), 1 + (f : Int)])
theorem circ_good : ∀ n ∈ List.range 9, errJ (cJob n) = 0 ∧ (ordC ((cJob n).map Nd.ins)).length = n + 2 := by decide +kernel
theorem circ_bad : ∀ n ∈ List.range 9, ∀ f ∈ List.range n, ∀ t ∈ List.range (f + 1), errJ (cBad n f t) = 83 ∧ errW (cBad n f t) = 83 ∧ (ordC ((cBad n f t).map Nd.ins)).length = 1 + t := by decide +kernel
end Go.Proofs.Ytfiafbfbiidnlaa
