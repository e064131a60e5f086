/-
  The document's readers: parts; that they read what the program's readers read.
-/
import Derived.Test.YtaajjejgjnlbgaaDoorD2
import Derived.Test.YtaajjejgjnlbgaaDoorD1
import Derived.Test.YtaajjejgjnlbgaaDoorMathCuts
import Derived.Test.YtaajjejgjnlbgaaDoorOpenSnap
namespace Go.Proofs.YtaajjejgjnlbgaaDoor
open Go.RowKit

/-- Where g ends well it began well, and f does the same. -/
def Sub {α : Type} (f g : (List Nat × Bool) → α × (List Nat × Bool)) : Prop := ∀ s, (g s).2.2 = false → s.2 = false ∧ f s = g s
theorem numD_eq {k : Nat} {l : List Nat} : numD k (l, false) = num k (l, false) := by
  unfold numD num
  by_cases h : k ≤ l.length
  · rw [if_pos ⟨rfl, h⟩, if_pos h]
  · rw [if_neg (fun x => h x.2), if_neg h]
theorem sub_num (k : Nat) : Sub (numD k) (num k) := by
  intro s h
  have g := (mono_num k s [] h).1
  obtain ⟨l, b⟩ := s
  dsimp only at g
  subst g
  exact ⟨rfl, numD_eq⟩
theorem sub_num' (k : Nat) : Sub (num k) (numD k) := by
  intro s h
  obtain ⟨l, b⟩ := s
  cases b
  · exact ⟨rfl, numD_eq.symm⟩
  · unfold numD at h
    rw [if_neg (fun x => by cases x.1)] at h
    cases h
theorem sub_flag : Sub rFlagD rFlag := by
  intro s h
  unfold rFlag at h ⊢
  unfold rFlagD
  by_cases h1 : 1 < (num 1 s).1
  · simp only [if_pos h1] at h; cases h
  · simp only [if_neg h1] at h ⊢
    obtain ⟨g, e⟩ := sub_num 1 s h
    refine ⟨g, ?_⟩
    rw [e, decide_eq_false h1, Bool.or_false]
theorem sub_flag' : Sub rFlag rFlagD := by
  intro s h
  unfold rFlagD at h ⊢
  unfold rFlag
  simp only [Bool.or_eq_false_iff, decide_eq_false_iff_not] at h
  obtain ⟨g, e⟩ := sub_num' 1 s h.1
  refine ⟨g, ?_⟩
  rw [e, if_neg h.2, decide_eq_false h.2, Bool.or_false]
theorem sub_frame : Sub rFrameD rFrame := by
  intro s h
  unfold rFrame at h ⊢
  unfold rFrameD
  by_cases h1 : (num 1 s).1 = 1
  · simp only [if_pos h1] at h ⊢
    obtain ⟨g3, e4⟩ := sub_num 8 _ h
    obtain ⟨g2, e3⟩ := sub_num 8 _ g3
    obtain ⟨g1, e2⟩ := sub_num 8 _ g2
    obtain ⟨g0, e1⟩ := sub_num 1 _ g1
    exact ⟨g0, by simp only [e1, e2, e3, e4, if_pos h1]⟩
  by_cases h2 : (num 1 s).1 = 2
  · simp only [if_neg h1, if_pos h2] at h ⊢
    obtain ⟨g1, e2⟩ := sub_num 8 _ h
    obtain ⟨g0, e1⟩ := sub_num 1 _ g1
    exact ⟨g0, by simp only [e1, e2, if_neg h1, if_pos h2]⟩
  by_cases h3 : (num 1 s).1 = 3
  · simp only [if_neg h1, if_neg h2, if_pos h3] at h ⊢
    obtain ⟨g2, e3⟩ := sub_flag _ h
    obtain ⟨g1, e2⟩ := sub_num 8 _ g2
    obtain ⟨g0, e1⟩ := sub_num 1 _ g1
    exact ⟨g0, by simp only [e1, e2, e3, if_neg h1, if_neg h2, if_pos h3]⟩
  · simp only [if_neg h1, if_neg h2, if_neg h3] at h
    cases h
theorem sub_frame' : Sub rFrame rFrameD := by
  intro s h
  unfold rFrameD at h ⊢
  unfold rFrame
  by_cases h1 : (numD 1 s).1 = 1
  · simp only [if_pos h1] at h ⊢
    obtain ⟨g3, e4⟩ := sub_num' 8 _ h
    obtain ⟨g2, e3⟩ := sub_num' 8 _ g3
    obtain ⟨g1, e2⟩ := sub_num' 8 _ g2
    obtain ⟨g0, e1⟩ := sub_num' 1 _ g1
    exact ⟨g0, by simp only [e1, e2, e3, e4, if_pos h1]⟩
  by_cases h2 : (numD 1 s).1 = 2
  · simp only [if_neg h1, if_pos h2] at h ⊢
    obtain ⟨g1, e2⟩ := sub_num' 8 _ h
    obtain ⟨g0, e1⟩ := sub_num' 1 _ g1
    exact ⟨g0, by simp only [e1, e2, if_neg h1, if_pos h2]⟩
  by_cases h3 : (numD 1 s).1 = 3
  · simp only [if_neg h1, if_neg h2, if_pos h3] at h ⊢
    obtain ⟨g2, e3⟩ := sub_flag' _ h
    obtain ⟨g1, e2⟩ := sub_num' 8 _ g2
    obtain ⟨g0, e1⟩ := sub_num' 1 _ g1
    exact ⟨g0, by simp only [e1, e2, e3, if_neg h1, if_neg h2, if_pos h3]⟩
  · simp only [if_neg h1, if_neg h2, if_neg h3] at h
    cases h
/-- Two readers that do the same where either ends well: the same is done, or neither. -/
theorem both {α : Type} {f g : (List Nat × Bool) → α × (List Nat × Bool)} (hs : Sub f g) (hs' : Sub g f) (s : List Nat × Bool) : f s = g s ∨ done (f s).2 = false ∧ done (g s).2 = false := by
  rcases Bool.eq_false_or_eq_true (g s).2.2 with h | h
  · rcases Bool.eq_false_or_eq_true (f s).2.2 with h' | h'
    · right
      unfold done
      rw [h, h']
      exact ⟨rfl, rfl⟩
    · exact .inl (hs' s h').2.symm
  · exact .inl (hs s h).2
theorem frame_same (l : List Nat) : (if done (rFrameD (l, false)).2 then #[(rFrameD (l, false)).1.val, Value.int .i64 0] else #[Frm.zero.val, Value.int .i64 10]) = (if done (rFrame (l, false)).2 then #[(rFrame (l, false)).1.val, Value.int .i64 0] else #[Frm.zero.val, Value.int .i64 10]) := by
  rcases both sub_frame sub_frame' (l, false) with h | ⟨h1, h2⟩
  · rw [h]
  · simp only [h1, h2, Bool.false_eq_true, if_false]
theorem control_same (l : List Nat) (hb : Byts l) : (if (done (rControlD (l, false)).2 && cfits (rControlD (l, false)).1.kd (rControlD (l, false)).1.tk) = true then #[(rControlD (l, false)).1.val, Value.int .i64 0] else #[Ctl.zero.val, Value.int .i64 10]) = (if done (rControl (l, false)).2 then #[(rControl (l, false)).1.val, Value.int .i64 0] else #[Ctl.zero.val, Value.int .i64 10]) := by
  -- the four numbers
  have key : (numD 2 (numD 8 (numD 8 (numD 1 (l, false)).2).2).2).2.2 = false ∨ (num 2 (num 8 (num 8 (num 1 (l, false)).2).2).2).2.2 = false → numD 1 (l, false) = num 1 (l, false) ∧ numD 8 (num 1 (l, false)).2 = num 8 (num 1 (l, false)).2 ∧ numD 8 (num 8 (num 1 (l, false)).2).2 = num 8 (num 8 (num 1 (l, false)).2).2 ∧ numD 2 (num 8 (num 8 (num 1 (l, false)).2).2).2 = num 2 (num 8 (num 8 (num 1 (l, false)).2).2).2 := by
    rintro (h | h)
    · obtain ⟨g3, e4⟩ := sub_num' 2 _ h
      obtain ⟨g2, e3⟩ := sub_num' 8 _ g3
      obtain ⟨g1, e2⟩ := sub_num' 8 _ g2
      obtain ⟨g0, e1⟩ := sub_num' 1 _ g1
      rw [← e1] at e2 e3 e4
      rw [← e2] at e3 e4
      rw [← e3] at e4
      exact ⟨e1.symm, e2.symm, e3.symm, e4.symm⟩
    · obtain ⟨g3, e4⟩ := sub_num 2 _ h
      obtain ⟨g2, e3⟩ := sub_num 8 _ g3
      obtain ⟨g1, e2⟩ := sub_num 8 _ g2
      obtain ⟨g0, e1⟩ := sub_num 1 _ g1
      exact ⟨e1, e2, e3, e4⟩
  have byts_num : ∀ k s, Byts s.1 → Byts (num k s).2.1 := by
    intro k s hs
    by_cases hk : k ≤ s.1.length
    · rw [num_yes hk]; exact hs.drop k
    · rw [num_no hk]; exact hs
  have htk : (num 2 (num 8 (num 8 (num 1 (l, false)).2).2).2).1 < 256 ^ 2 := num_lt (byts_num _ _ (byts_num _ _ (byts_num _ _ hb)))
  unfold rControlD rControl
  by_cases h : (numD 2 (numD 8 (numD 8 (numD 1 (l, false)).2).2).2).2.2 = false ∨ (num 2 (num 8 (num 8 (num 1 (l, false)).2).2).2).2.2 = false
  · obtain ⟨e1, e2, e3, e4⟩ := key h
    simp only [e1, e2, e3, e4]
    generalize (num 2 (num 8 (num 8 (num 1 (l, false)).2).2).2) = p4 at *
    by_cases hk : 1 ≤ (num 1 (l, false)).1 ∧ (num 1 (l, false)).1 ≤ 6
    · rw [if_pos hk]
      have : cfits ((num 1 (l, false)).1 : Int) (p4.1 : Int) = true := by unfold cfits; simp; omega
      rw [this, Bool.and_true]
    · rw [if_neg hk]
      have : cfits ((num 1 (l, false)).1 : Int) (p4.1 : Int) = false := by unfold cfits; simp; omega
      rw [this, Bool.and_false]
      simp [done]
  · have h1 : (numD 2 (numD 8 (numD 8 (numD 1 (l, false)).2).2).2).2.2 = true := by
      rcases Bool.eq_false_or_eq_true (numD 2 (numD 8 (numD 8 (numD 1 (l, false)).2).2).2).2.2 with x | x
      · exact x
      · exact absurd (.inl x) h
    have h2 : (num 2 (num 8 (num 8 (num 1 (l, false)).2).2).2).2.2 = true := by
      rcases Bool.eq_false_or_eq_true (num 2 (num 8 (num 8 (num 1 (l, false)).2).2).2).2.2 with x | x
      · exact x
      · exact absurd (.inr x) h
    have d1 : done (numD 2 (numD 8 (numD 8 (numD 1 (l, false)).2).2).2).2 = false := by unfold done; rw [h1]; rfl
    have d2 : done (if 1 ≤ (num 1 (l, false)).1 ∧ (num 1 (l, false)).1 ≤ 6 then (num 2 (num 8 (num 8 (num 1 (l, false)).2).2).2).2 else ((num 2 (num 8 (num 8 (num 1 (l, false)).2).2).2).2.1, true)) = false := by
      split
      · unfold done; rw [h2]; rfl
      · rfl
    rw [d1, d2, Bool.false_and]
    simp only [Bool.false_eq_true, if_false]

/-- append's law at rows of things, as one step of a region that draws. -/
theorem step_ownL {α : Type} {t sl sz by_ : Nat} {z : Value} {cs : α → List Value} (hinfo : (Tryd.prog.info? t).map (fun i => (i.zero, i.size, i.bytes)) = some (some z, sz, by_)) (hund : Tryd.prog.underlying sl = some (.slice t)) (hz : z.cells.size = sz) (hsz : 0 < sz) (hby : by_ ≤ 100)
    (hcs : ∀ x, (cs x).length = sz) (h1c : ∀ x, ∀ u ∈ cs x, u.oneCell' = true)
    {ops : Array Oper} {o : Oper} {a : Act} {w : World} {K : Act → World → Prop} {Q : Exit → Act → World → Prop} {E : Prop} (hgd : o.guard = none) (s x : Operand)
    (ho : o.op = .call { callee := .builtin .append, args := #[s, x], argTypes := #[sl, sl] }) (base : Nat) (v : Value) (xs : List α) (hs : a.eval s = v) (hown : OwnL t sz cs base w v xs)
    (ad : Addr) (c : Nat) (y : α) (hx : a.eval x = .slice (some ad) 1 c) (hnews : ∀ j u, (cs y)[j]? = some u → w.cell? (ad.add j) = some u) (hl : xs.length ≤ 1000000) (hbase : base ≤ w.heap.size)
    (h : ∀ v' w', OwnL t sz cs base w' v' (xs ++ [y]) → w.grownBy w' v.ownBlock → K (a.put o.dst v') w') : if Region.wanted o (yielded ops a.tmps) = true then Oper.wp Tryd.prog o a w K Q else E := by
  have hw : Region.wanted o (yielded ops a.tmps) = true := by simp [Region.wanted, hgd]
  rw [if_pos hw]
  obtain ⟨i0, hi, hz0, hz1, hz2⟩ := info_parts hinfo
  refine wp_append_own w s x sl ho base t i0 z sz by_ hund hi hz0 hz1 hz2 hz hsz v xs.length (xs.flatMap cs) hs hown ad 1 c (cs y) hx (by rw [hcs]; omega) hnews (h1c y) ?_ ?_ hbase ?_
  · unfold maxLen; omega
  · have : (xs.length + 1) * by_ ≤ 1000001 * 100 := Nat.mul_le_mul (by omega) hby
    omega
  · intro v' w' h1 h2 _
    refine h v' w' ?_ h2
    show w'.ownsRow base t sz v' (xs ++ [y]).length ((xs ++ [y]).flatMap cs)
    rw [List.length_append, List.flatMap_append]; simpa using h1
section
variable {α β : Type} {t sz t2 sz2 : Nat} {cs : α → List Value} {cs2 : β → List Value} {base : Nat} {w w' : World} {v v2 : Value} {xs : List α} {ys : List β}
theorem OwnL.drew (h : OwnL t sz cs base w v xs) : OwnL t sz cs base w.drew v xs := h
theorem OwnL.at (h : OwnL t sz cs base w v xs) : ∀ g, v.ownBlock = some g → base ≤ g := fun g e => (World.ownsRow.lt h g e).1
theorem OwnL.back (h : OwnL t sz cs base w v xs) (hb : ∀ g, v.ownBlock = some g → w'.heap[g]? = w.heap[g]?) : OwnL t sz cs base w' v xs := by
  refine ⟨h.1, ?_⟩
  rcases h.2 with h | ⟨g, cap, cur, rfl, h2, h3, h4⟩
  · exact .inl h
  · exact .inr ⟨g, cap, cur, rfl, h2, by rw [hb g rfl]; exact h3, h4⟩
theorem OwnL.has (h : OwnL t sz cs base w v xs) (g : Nat) (hg : v.ownBlock = some g) : ∃ cur, w.heap[g]? = some (.cells cur t (0, 0)) := by
  rcases h.2 with ⟨rfl, _⟩ | ⟨g', cap, cur, rfl, h2, h3, _⟩
  · cases hg
  · obtain rfl : g' = g := Option.some.inj hg
    exact ⟨cur, h3⟩
theorem OwnL.other (h : OwnL t sz cs base w v xs) (h2 : OwnL t2 sz2 cs2 base w v2 ys) (ht : t ≠ t2) (hg : w.grownBy w' v2.ownBlock) : OwnL t sz cs base w' v xs :=
  h.back fun g e => by
    obtain ⟨cur, hc⟩ := h.has g e
    refine hg.block g (Array.getElem?_eq_some_iff.1 hc).1 fun e2 => ?_
    obtain ⟨cur2, hc2⟩ := h2.has g e2.symm
    rw [hc] at hc2
    simp at hc2
    exact ht hc2.2
theorem OwnL.lt (h : OwnL t sz cs base w v xs) (g : Nat) (hg : v.ownBlock = some g) : g < w.heap.size := by
  obtain ⟨cur, hc⟩ := h.has g hg
  exact (Array.getElem?_eq_some_iff.1 hc).1
end

theorem i64of_w (x : Nat) : IntKind.i64.wrap (x : Int) = i64of x := by rw [IntKind.wrap_i64, i64of, wrap64]
def rIntD (s : List Nat × Bool) : Int × (List Nat × Bool) := (i64of (numD 8 s).1, (numD 8 s).2)
def rPaneD (s : List Nat × Bool) : Pn × (List Nat × Bool) :=
  (⟨i64of (numD 8 s).1, i64of (numD 8 (numD 8 s).2).1, i64of (numD 8 (numD 8 (numD 8 s).2).2).1, i64of (numD 8 (numD 8 (numD 8 (numD 8 s).2).2).2).1⟩, (numD 8 (numD 8 (numD 8 (numD 8 s).2).2).2).2)
def rOutD (s : List Nat × Bool) : Ot × (List Nat × Bool) := (⟨((numD 2 s).1 : Nat), (rFrameD (numD 2 s).2).1⟩, (rFrameD (numD 2 s).2).2)
/-- What the document reads of a part: the part, how many panes and captured frames it was told, what is left. -/
structure SnD where
  s : Sn
  np : Nat
  nc : Nat
  st : List Nat × Bool
def rSnapD (l : List Nat) : SnD :=
  let p0 := numD 2 (l, false)
  let p1 := numD 2 p0.2
  let p2 := numD 8 p1.2
  let p3 := numD 2 p2.2
  let q3 := rL rIntD p3.1 p3.2
  let p4 := numD 2 q3.2
  let q4 := rL rPaneD p4.1 p4.2
  let p5 := numD 2 q4.2
  let q5 := rL rOutD p5.1 p5.2
  ⟨⟨(p0.1 : Nat), (p1.1 : Nat), i64of p2.1, q3.1, q4.1, q5.1⟩, p4.1, p5.1, q5.2⟩
def SnD.ok (d : SnD) : Bool := done d.st && (decide (d.np ≤ 4096) && decide (d.nc ≤ 4096))
def dSn (d : SnD) : Sn := if d.ok then d.s else Sn.nil
def dEr (d : SnD) : Int := if d.ok then 0 else 10

/-- In the midst of the document's OpenSnap. -/
structure SR (w W : World) (M : Nat) (cs : Array Value) (s : List Nat × Bool) : Prop where
  rd : RdSD (w.heap.size + 1) W s
  bm : BoxT 48 W M cs
  ba : BoxT 48 W w.heap.size #[.int .i64 0, .int .i64 0, .int .i64 0, .slice none 0 0, .slice none 0 0, .slice none 0 0]
  bel : Below w.heap.size w W
  lt : w.heap.size + 1 < M
section
variable {w W W' : World} {M : Nat} {cs : Array Value} {s s' : List Nat × Bool}
theorem SR.call (h : SR w W M cs s) (hr : RdSD (w.heap.size + 1) W' s') (hg : W.grownBy W' (some (w.heap.size + 1))) : SR w W' M cs s' := by
  have := h.lt
  have hz := h.bel.size
  exact ⟨hr, h.bm.grown hg (by omega), h.ba.grown hg (by omega), h.bel.trans (Below.of_grown hg (by omega) hz), h.lt⟩
theorem SR.below (h : SR w W M cs s) (hb : Below (M + 1) W W') : SR w W' M cs s := by
  have := h.lt
  have hm := h.bm.lt
  refine ⟨h.rd.keep fun i hi => hb.block i (by omega), ?_, ?_, h.bel.trans (hb.mono (by omega)), h.lt⟩
  · have := h.bm; unfold BoxT at *; rw [hb.block M (by omega)]; exact this
  · have := h.ba; unfold BoxT at *; rw [hb.block w.heap.size (by omega)]; exact this
theorem SR.set (h : SR w W M cs s) (j : Nat) (u : Value) : SR w (W.setCell ⟨M, j, none⟩ u) M (cs.setIfInBounds j u) s := by
  have := h.lt
  exact ⟨h.rd.set _ _ _ (by omega), h.bm.set j u, h.ba.other _ _ (by omega), h.bel.trans ((Below.refl _ _).setCell (by show _ ≤ M; omega) _), h.lt⟩
theorem SR.alloc (h : SR w W M cs s) (o : Obj) : SR w (W.alloc o) M cs s := h.below (below_more (Below.refl _ _) h.bm.lt o)
theorem SR.drew (h : SR w W M cs s) : SR w W.drew M cs s := h.below ((Below.refl _ _).drew)
end
theorem OwnL.setAt {α : Type} {t sz : Nat} {cs : α → List Value} {base : Nat} {w : World} {v : Value} {xs : List α} (h : OwnL t sz cs base w v xs) {k : Nat} (hk : ∀ g, v.ownBlock = some g → g < k) (j : Nat) (u : Value) : OwnL t sz cs base (w.setCell ⟨k, j, none⟩ u) v xs :=
  h.back fun g e => Below.heap_setCell w ⟨k, j, none⟩ u g (by have := hk g e; show g ≠ k; omega)
/-- In the midst of a pane. -/
structure PR2 (w W : World) (M : Nat) (cs : Array Value) (s : List Nat × Bool) (kP : Nat) (pc : Array Value) (vm : Value) (ms : List Int) (vk : Value) (acc : List Pn) : Prop where
  sr : SR w W M cs s
  pb : BoxT 100 W kP pc
  om : OwnL 2 1 ics (M + 1) W vm ms
  op : OwnL 100 4 Pn.cs (M + 1) W vk acc
  hk : ∀ g, vk.ownBlock = some g → g < kP
  hM : M < kP
section
variable {w W W' : World} {M kP : Nat} {cs pc : Array Value} {s s' : List Nat × Bool} {vm vk : Value} {ms : List Int} {acc : List Pn}
theorem PR2.start (h : SR w W M cs s) (hm : OwnL 2 1 ics (M + 1) W vm ms) (hp : OwnL 100 4 Pn.cs (M + 1) W vk acc) (pc : Array Value) : PR2 w (W.alloc (.cells pc 100)) M cs s W.heap.size pc vm ms vk acc :=
  ⟨h.alloc _, BoxT.new _ _ _, hm.alloc _, hp.alloc _, fun g e => hp.lt g e, h.bm.lt⟩
theorem PR2.call (h : PR2 w W M cs s kP pc vm ms vk acc) (hr : RdSD (w.heap.size + 1) W' s') (hg : W.grownBy W' (some (w.heap.size + 1))) : PR2 w W' M cs s' kP pc vm ms vk acc := by
  have h1 := h.sr.lt
  have h2 := h.hM
  exact ⟨h.sr.call hr hg, h.pb.grown hg (by omega), h.om.grown hg (by omega), h.op.grown hg (by omega), h.hk, h.hM⟩
theorem PR2.set (h : PR2 w W M cs s kP pc vm ms vk acc) (j : Nat) (u : Value) : PR2 w (W.setCell ⟨kP, j, none⟩ u) M cs s kP (pc.setIfInBounds j u) vm ms vk acc := by
  have h2 := h.hM
  exact ⟨h.sr.below ((Below.refl _ _).setCell (by show M + 1 ≤ kP; omega) _), h.pb.set j u, h.om.setBox h.pb (by decide) j u, h.op.setAt h.hk j u, h.hk, h.hM⟩
end
/-- In the midst of a captured frame. -/
structure PR3 (w W : World) (M : Nat) (cs : Array Value) (s : List Nat × Bool) (kP : Nat) (pc : Array Value) (vm : Value) (ms : List Int) (vp : Value) (ps : List Pn) (vk : Value) (acc : List Ot) : Prop where
  sr : SR w W M cs s
  pb : BoxT 94 W kP pc
  om : OwnL 2 1 ics (M + 1) W vm ms
  op : OwnL 100 4 Pn.cs (M + 1) W vp ps
  oc : OwnL 94 8 Ot.cs (M + 1) W vk acc
  hk : ∀ g, vk.ownBlock = some g → g < kP
  hM : M < kP
section
variable {w W W' : World} {M kP : Nat} {cs pc : Array Value} {s s' : List Nat × Bool} {vm vp vk : Value} {ms : List Int} {ps : List Pn} {acc : List Ot}
theorem PR3.start (h : SR w W M cs s) (hm : OwnL 2 1 ics (M + 1) W vm ms) (hp : OwnL 100 4 Pn.cs (M + 1) W vp ps) (hc : OwnL 94 8 Ot.cs (M + 1) W vk acc) (pc : Array Value) : PR3 w (W.alloc (.cells pc 94)) M cs s W.heap.size pc vm ms vp ps vk acc :=
  ⟨h.alloc _, BoxT.new _ _ _, hm.alloc _, hp.alloc _, hc.alloc _, fun g e => hc.lt g e, h.bm.lt⟩
theorem PR3.call (h : PR3 w W M cs s kP pc vm ms vp ps vk acc) (hr : RdSD (w.heap.size + 1) W' s') (hg : W.grownBy W' (some (w.heap.size + 1))) : PR3 w W' M cs s' kP pc vm ms vp ps vk acc := by
  have h1 := h.sr.lt
  have h2 := h.hM
  exact ⟨h.sr.call hr hg, h.pb.grown hg (by omega), h.om.grown hg (by omega), h.op.grown hg (by omega), h.oc.grown hg (by omega), h.hk, h.hM⟩
theorem PR3.set (h : PR3 w W M cs s kP pc vm ms vp ps vk acc) (j : Nat) (u : Value) : PR3 w (W.setCell ⟨kP, j, none⟩ u) M cs s kP (pc.setIfInBounds j u) vm ms vp ps vk acc := by
  have h2 := h.hM
  exact ⟨h.sr.below ((Below.refl _ _).setCell (by show M + 1 ≤ kP; omega) _), h.pb.set j u, h.om.setBox h.pb (by decide) j u, h.op.setBox h.pb (by decide) j u, h.oc.setAt h.hk j u, h.hk, h.hM⟩
end
theorem new4 (W : World) (n : Nat) (hn : n = W.heap.size) (x : Pn) (j : Nat) (u : Value) (hu : (Pn.cs x)[j]? = some u) : (W.alloc (.cells #[.int .i64 x.ke, .int .i64 x.fr, .int .i64 x.to, .int .i64 x.ac] 100)).cell? ((⟨n, 0, none⟩ : Addr).add j) = some u := by
  subst hn
  match j, hu with
  | 0, hu | 1, hu | 2, hu | 3, hu => simp [Pn.cs] at hu; subst hu; simp [Addr.add]
theorem new8 (W : World) (n : Nat) (hn : n = W.heap.size) (x : Ot) (j : Nat) (u : Value) (hu : (Ot.cs x)[j]? = some u) : (W.alloc (.cells #[.int .i64 x.ch, .int .i64 x.f.kd, .int .i64 x.f.ke, .int .i64 x.f.ti, .int .i64 x.f.va, .int .i64 x.f.ma, .int .u64 x.f.n, .bool x.f.ov] 94)).cell? ((⟨n, 0, none⟩ : Addr).add j) = some u := by
  subst hn
  match j, hu with
  | 0, hu | 1, hu | 2, hu | 3, hu | 4, hu | 5, hu | 6, hu | 7, hu => simp [Ot.cs] at hu; subst hu; simp [Addr.add]

theorem byts_num (k : Nat) (s : List Nat × Bool) (hs : Byts s.1) : Byts (num k s).2.1 := by
  by_cases hk : k ≤ s.1.length
  · rw [num_yes hk]; exact hs.drop k
  · rw [num_no hk]; exact hs
theorem sub_int : Sub rIntD (fun s => (i64of (num 8 s).1, (num 8 s).2)) := by
  intro s h
  obtain ⟨g, e⟩ := sub_num 8 s h
  exact ⟨g, by unfold rIntD; simp only [e]⟩
theorem sub_int' : Sub (fun s => (i64of (num 8 s).1, (num 8 s).2)) rIntD := by
  intro s h
  obtain ⟨g, e⟩ := sub_num' 8 s (show (numD 8 s).2.2 = false from h)
  exact ⟨g, by unfold rIntD; simp only [e]⟩
theorem sub_pane : Sub rPaneD rPane := by
  intro s h
  obtain ⟨g3, e4⟩ := sub_num 8 _ (show (num 8 (num 8 (num 8 (num 8 s).2).2).2).2.2 = false from h)
  obtain ⟨g2, e3⟩ := sub_num 8 _ g3
  obtain ⟨g1, e2⟩ := sub_num 8 _ g2
  obtain ⟨g0, e1⟩ := sub_num 8 _ g1
  exact ⟨g0, by unfold rPaneD rPane; simp only [e1, e2, e3, e4]⟩
theorem sub_pane' : Sub rPane rPaneD := by
  intro s h
  obtain ⟨g3, e4⟩ := sub_num' 8 _ (show (numD 8 (numD 8 (numD 8 (numD 8 s).2).2).2).2.2 = false from h)
  obtain ⟨g2, e3⟩ := sub_num' 8 _ g3
  obtain ⟨g1, e2⟩ := sub_num' 8 _ g2
  obtain ⟨g0, e1⟩ := sub_num' 8 _ g1
  exact ⟨g0, by unfold rPaneD rPane; simp only [e1, e2, e3, e4]⟩
theorem sub_out : Sub rOutD rOut := by
  intro s h
  obtain ⟨g1, e2⟩ := sub_frame _ (show (rFrame (num 2 s).2).2.2 = false from h)
  obtain ⟨g0, e1⟩ := sub_num 2 _ g1
  exact ⟨g0, by unfold rOutD rOut; simp only [e1, e2]⟩
theorem sub_out' : Sub rOut rOutD := by
  intro s h
  obtain ⟨g1, e2⟩ := sub_frame' _ (show (rFrameD (numD 2 s).2).2.2 = false from h)
  obtain ⟨g0, e1⟩ := sub_num' 2 _ g1
  exact ⟨g0, by unfold rOutD rOut; simp only [e1, e2]⟩
theorem sub_rL {α : Type} {f g : (List Nat × Bool) → α × (List Nat × Bool)} (hs : Sub f g) (n : Nat) : Sub (rL f n) (rL g n) := by
  induction n with
  | zero => intro s h; exact ⟨h, rfl⟩
  | succ n ih =>
    intro s h
    unfold rL at h
    by_cases hb : s.2 = true
    · simp only [if_pos hb] at h
      rw [hb] at h; cases h
    · simp only [if_neg hb] at h
      obtain ⟨g1, e2⟩ := ih _ h
      obtain ⟨g0, e1⟩ := hs _ g1
      refine ⟨g0, ?_⟩
      unfold rL
      simp only [if_neg hb, e1, e2]
theorem rList_good {α : Type} {rd : (List Nat × Bool) → α × (List Nat × Bool)} {most : Nat} {s : List Nat × Bool} (h : (rList rd most s).2.2 = false) : (num 2 s).1 ≤ most ∧ rList rd most s = rL rd (num 2 s).1 (num 2 s).2 := by
  unfold rList at h ⊢
  by_cases hm : most < (num 2 s).1
  · simp only [if_pos hm] at h; cases h
  · rw [if_neg hm]; exact ⟨by omega, rfl⟩
/-- Where the program's reader ends well, the document's does the same. -/
theorem snap_a (l : List Nat) (h : (rSnap (l, false)).2.2 = false) : (rSnapD l).s = (rSnap (l, false)).1 ∧ (rSnapD l).st = (rSnap (l, false)).2 ∧ (rSnapD l).np ≤ 4096 ∧ (rSnapD l).nc ≤ 4096 := by
  unfold rSnap at h ⊢
  unfold rSnapD
  dsimp only at h ⊢
  obtain ⟨b5, r5⟩ := rList_good h
  rw [r5] at h ⊢
  obtain ⟨g5, e5⟩ := sub_rL sub_out _ _ h
  obtain ⟨g5', f5⟩ := sub_num 2 _ g5
  obtain ⟨b4, r4⟩ := rList_good g5'
  rw [r4] at g5' b5 e5 f5 ⊢
  obtain ⟨g4, e4⟩ := sub_rL sub_pane _ _ g5'
  obtain ⟨g4', f4⟩ := sub_num 2 _ g4
  obtain ⟨b3, r3⟩ := rList_good g4'
  rw [r3] at g4' b4 e4 f4 b5 e5 f5 ⊢
  obtain ⟨g3, e3⟩ := sub_rL sub_int _ _ g4'
  obtain ⟨g3', f3⟩ := sub_num 2 _ g3
  obtain ⟨g2, f2⟩ := sub_num 8 _ g3'
  obtain ⟨g1, f1⟩ := sub_num 2 _ g2
  obtain ⟨_, f0⟩ := sub_num 2 _ g1
  rw [f0, f1, f2, f3, e3, f4, e4, f5, e5]
  exact ⟨rfl, rfl, b4, b5⟩
theorem snap_b (l : List Nat) (hb : Byts l) (h : (rSnapD l).st.2 = false) (hp : (rSnapD l).np ≤ 4096) (hc : (rSnapD l).nc ≤ 4096) : rSnap (l, false) = ((rSnapD l).s, (rSnapD l).st) := by
  unfold rSnapD at h hp hc ⊢
  unfold rSnap
  dsimp only at h hp hc ⊢
  obtain ⟨g5, e5⟩ := sub_rL sub_out' _ _ h
  obtain ⟨g5', f5⟩ := sub_num' 2 _ g5
  obtain ⟨g4, e4⟩ := sub_rL sub_pane' _ _ g5'
  obtain ⟨g4', f4⟩ := sub_num' 2 _ g4
  obtain ⟨g3, e3⟩ := sub_rL sub_int' _ _ g4'
  obtain ⟨g3', f3⟩ := sub_num' 2 _ g3
  obtain ⟨g2, f2⟩ := sub_num' 8 _ g3'
  obtain ⟨g1, f1⟩ := sub_num' 2 _ g2
  obtain ⟨_, f0⟩ := sub_num' 2 _ g1
  rw [← f0] at f1 f2 f3 e3 f4 e4 f5 e5 hp hc ⊢
  rw [← f1] at f2 f3 e3 f4 e4 f5 e5 hp hc ⊢
  rw [← f2] at f3 e3 f4 e4 f5 e5 hp hc ⊢
  rw [← f3] at e3 f4 e4 f5 e5 hp hc ⊢
  have hn : (num 2 (num 8 (num 2 (num 2 (l, false)).2).2).2).1 < 256 ^ 2 := num_lt (byts_num _ _ (byts_num _ _ (byts_num _ _ hb)))
  have r3 : rList (fun s => (i64of (num 8 s).1, (num 8 s).2)) 65535 (num 8 (num 2 (num 2 (l, false)).2).2).2 = rL (fun s => (i64of (num 8 s).1, (num 8 s).2)) (num 2 (num 8 (num 2 (num 2 (l, false)).2).2).2).1 (num 2 (num 8 (num 2 (num 2 (l, false)).2).2).2).2 := by
    unfold rList; rw [if_neg (by omega)]
  rw [← e3] at f4 e4 f5 e5 hp hc ⊢
  rw [r3]
  rw [← f4] at e4 f5 e5 hp hc ⊢
  rw [← e4] at f5 e5 hc ⊢
  rw [← f5] at e5 hc ⊢
  rw [← e5]
  have r4 : ∀ s, (num 2 s).1 ≤ 4096 → rList rPane 4096 s = rL rPane (num 2 s).1 (num 2 s).2 := fun s hs => by unfold rList; rw [if_neg (by omega)]
  have r5 : ∀ s, (num 2 s).1 ≤ 4096 → rList rOut 4096 s = rL rOut (num 2 s).1 (num 2 s).2 := fun s hs => by unfold rList; rw [if_neg (by omega)]
  rw [r4 _ hp, r5 _ hc]
theorem snap_same (l : List Nat) (hb : Byts l) : dSn (rSnapD l) = oSn (rSnap (l, false)) ∧ dEr (rSnapD l) = oEr (rSnap (l, false)) := by
  by_cases h : (rSnap (l, false)).2.2 = false
  · obtain ⟨h1, h2, h3, h4⟩ := snap_a l h
    have : (rSnapD l).ok = done (rSnap (l, false)).2 := by unfold SnD.ok; rw [h2, decide_eq_true h3, decide_eq_true h4, Bool.and_true, Bool.and_true]
    unfold dSn dEr oSn oEr
    rw [this, h1]
    exact ⟨rfl, rfl⟩
  · have h1 : done (rSnap (l, false)).2 = false := by
      unfold done
      rw [show (rSnap (l, false)).2.2 = true by simpa using h]; rfl
    have h2 : (rSnapD l).ok = false := by
      rcases Bool.eq_false_or_eq_true (rSnapD l).ok with hk | hk
      · exfalso
        unfold SnD.ok at hk
        simp only [Bool.and_eq_true, decide_eq_true_eq] at hk
        have hd := done_eq hk.1
        have := snap_b l hb (by rw [hd]) hk.2.1 hk.2.2
        rw [this, hd] at h
        exact h rfl
      · exact hk
    unfold dSn dEr oSn oEr
    rw [h1, h2]
    exact ⟨rfl, rfl⟩
theorem open_same (l : List Nat) : rOpenD l = rOpen l := by
  unfold rOpenD rOpen
  by_cases h : (numD 4 (numD 4 (l, false)).2).2.2 = false ∨ (num 4 (num 4 (l, false)).2).2.2 = false
  · have key : numD 4 (l, false) = num 4 (l, false) ∧ numD 4 (num 4 (l, false)).2 = num 4 (num 4 (l, false)).2 := by
      rcases h with h | h
      · obtain ⟨g1, e2⟩ := sub_num' 4 _ h
        obtain ⟨_, e1⟩ := sub_num' 4 _ g1
        rw [← e1] at e2
        exact ⟨e1.symm, e2.symm⟩
      · obtain ⟨g1, e2⟩ := sub_num 4 _ h
        obtain ⟨_, e1⟩ := sub_num 4 _ g1
        exact ⟨e1, e2⟩
    rw [key.1, key.2]
  · rw [if_neg (fun x => h (.inl x.2.1)), if_neg (fun x => h (.inr x.2.1))]
theorem names_a (n : Nat) : ∀ s, (rListS n s).2.2 = false → s.2 = false ∧ rNamesD n s = some (rListS n s) := by
  induction n with
  | zero => intro s h; exact ⟨h, rfl⟩
  | succ n ih =>
    intro s h
    unfold rListS at h ⊢
    by_cases hb : s.2 = true
    · simp only [if_pos hb] at h
      rw [hb] at h; cases h
    · simp only [if_neg hb] at h ⊢
      obtain ⟨g1, e2⟩ := ih _ h
      unfold rName at g1 e2 ⊢
      dsimp only at g1 e2 ⊢
      by_cases hm : 32 < (num 1 s).1
      · simp only [if_pos hm] at g1
        have := (mono_take _ _ [] g1).1
        cases this
      · simp only [if_neg hm] at g1 e2 ⊢
        have gt := (mono_take _ _ [] g1).1
        obtain ⟨g0, e1⟩ := sub_num 1 _ gt
        refine ⟨g0, ?_⟩
        have hk : (num 1 s).1 ≤ (num 1 s).2.1.length := by
          by_cases hk : (num 1 s).1 ≤ (num 1 s).2.1.length
          · exact hk
          · unfold takeS at g1; rw [if_neg hk] at g1; cases g1
        have ht : takeS (num 1 s).1 (num 1 s).2 = ((num 1 s).2.1.take (num 1 s).1, ((num 1 s).2.1.drop (num 1 s).1, false)) := by
          unfold takeS; rw [if_pos hk, gt]
        rw [ht] at e2 ⊢
        unfold rNamesD
        rw [if_neg hb, e1, if_neg (by rw [gt]; simp; omega), e2]
        rfl
theorem names_b (n : Nat) : ∀ s q, rNamesD n s = some q → q.2.2 = false → s.2 = false ∧ rListS n s = q := by
  induction n with
  | zero =>
    intro s q h hq
    unfold rNamesD at h
    obtain rfl := Option.some.inj h
    exact ⟨hq, rfl⟩
  | succ n ih =>
    intro s q h hq
    unfold rNamesD at h
    by_cases hb : s.2 = true
    · rw [if_pos hb] at h
      obtain rfl := Option.some.inj h
      rw [hb] at hq; cases hq
    · rw [if_neg hb] at h
      split at h
      · cases h
      · rename_i hc
        obtain ⟨q', h', rfl⟩ := Option.map_eq_some_iff.1 h
        obtain ⟨_, e2⟩ := ih _ _ h' hq
        have gt : (numD 1 s).2.2 = false := by
          rcases Bool.eq_false_or_eq_true (numD 1 s).2.2 with x | x
          · exact absurd (.inl x) hc
          · exact x
        obtain ⟨g0, e1⟩ := sub_num' 1 _ gt
        refine ⟨g0, ?_⟩
        rw [← e1] at e2 gt hc ⊢
        have hk : (num 1 s).1 ≤ (num 1 s).2.1.length := by
          by_cases x : (num 1 s).2.1.length < (num 1 s).1
          · exact absurd (.inr (.inl x)) hc
          · omega
        have h32 : ¬ 32 < (num 1 s).1 := fun x => hc (.inr (.inr x))
        have ht : takeS (num 1 s).1 (num 1 s).2 = ((num 1 s).2.1.take (num 1 s).1, ((num 1 s).2.1.drop (num 1 s).1, false)) := by
          unfold takeS; rw [if_pos hk, gt]
        unfold rListS
        rw [if_neg hb]
        unfold rName
        simp only [if_neg h32, ht, e2]
theorem man_same (l : List Nat) : rManD l = if done (rMan (l, false)).2 then some (rMan (l, false)).1 else none := by
  by_cases h : (rMan (l, false)).2.2 = false
  · unfold rMan at h ⊢
    unfold rManD
    dsimp only at h ⊢
    obtain ⟨g3, e3⟩ := names_a _ _ h
    obtain ⟨g2, f2⟩ := sub_num 2 _ g3
    obtain ⟨g1, f1⟩ := sub_num 8 _ g2
    obtain ⟨_, f0⟩ := sub_num 8 _ g1
    rw [f0, f1, f2, e3]
  · have hd : done (rMan (l, false)).2 = false := by
      unfold done
      rw [show (rMan (l, false)).2.2 = true by simpa using h]; rfl
    rw [hd]
    simp only [Bool.false_eq_true, if_false]
    unfold rManD
    generalize hx : rNamesD (numD 2 (numD 8 (numD 8 (l, false)).2).2).1 (numD 2 (numD 8 (numD 8 (l, false)).2).2).2 = x
    rcases x with _ | q
    · rfl
    · dsimp only
      rcases Bool.eq_false_or_eq_true (done q.2) with hq | hq
      · exfalso
        have hq2 := done_eq hq
        obtain ⟨g3, e3⟩ := names_b _ _ _ hx (by rw [hq2])
        obtain ⟨g2, f2⟩ := sub_num' 2 _ g3
        obtain ⟨g1, f1⟩ := sub_num' 8 _ g2
        obtain ⟨_, f0⟩ := sub_num' 8 _ g1
        rw [← f0] at f1 f2 e3
        rw [← f1] at f2 e3
        rw [← f2] at e3
        apply h
        unfold rMan
        dsimp only
        rw [e3, hq2]
      · rw [hq]; rfl
end Go.Proofs.YtaajjejgjnlbgaaDoor
