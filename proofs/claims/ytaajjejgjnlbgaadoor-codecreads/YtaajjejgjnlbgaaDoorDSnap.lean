/-
  The document's readers: parts; what they read.
-/
import Derived.Test.YtaajjejgjnlbgaaDoorDOpenM
import Derived.Test.YtaajjejgjnlbgaaDoorOpenSnap
namespace Go.Proofs.YtaajjejgjnlbgaaDoor
open Go.RowKit

/-- append's law at rows of things, as one step of a region that draws. -/
theorem step_ownL {α : Type} {t sl sz by_ : Nat} {z : Value} {cs : α → List Value} (hinfo : (Tryd.prog.info? t).map (fun i => (i.zero, i.size, i.bytes)) = some (some z, sz, by_)) (hund : Tryd.prog.underlying sl = some (.slice t)) (hz : z.cells.size = sz) (hsz : 0 < sz) (hby : by_ ≤ 100)
    (hcs : ∀ x, (cs x).length = sz) (h1c : ∀ x, ∀ u ∈ cs x, u.oneCell' = true)
    {ops : Array Oper} {o : Oper} {a : Act} {w : World} {K : Act → World → Prop} {Q : Exit → Act → World → Prop} {E : Prop} (hgd : o.guard = none) (s x : Operand)
    (ho : o.op = .call { callee := .builtin .append, args := #[s, x], argTypes := #[sl, sl] }) (base : Nat) (v : Value) (xs : List α) (hs : a.eval s = v) (hown : OwnL t sz cs base w v xs)
    (ad : Addr) (c : Nat) (y : α) (hx : a.eval x = .slice (some ad) 1 c) (hnews : ∀ j u, (cs y)[j]? = some u → w.cell? (ad.add j) = some u) (hl : xs.length ≤ 1000000) (hbase : base ≤ w.heap.size)
    (h : ∀ v' w', OwnL t sz cs base w' v' (xs ++ [y]) → w.grownBy w' v.ownBlock → K (a.put o.dst v') w') : if Region.wanted o (yielded ops a.tmps) = true then Oper.wp Tryd.prog o a w K Q else E := by
  have hw : Region.wanted o (yielded ops a.tmps) = true := by simp [Region.wanted, hgd]
  rw [if_pos hw]
  obtain ⟨i0, hi, hz0, hz1, hz2⟩ := info_parts hinfo
  refine wp_append_own w s x sl ho base t i0 z sz by_ hund hi hz0 hz1 hz2 hz hsz v xs.length (xs.flatMap cs) hs hown ad 1 c (cs y) hx (by rw [hcs]; omega) hnews (h1c y) ?_ ?_ hbase ?_
  · unfold maxLen; omega
  · have : (xs.length + 1) * by_ ≤ 1000001 * 100 := Nat.mul_le_mul (by omega) hby
    omega
  · intro v' w' h1 h2 _
    refine h v' w' ?_ h2
    show w'.ownsRow base t sz v' (xs ++ [y]).length ((xs ++ [y]).flatMap cs)
    rw [List.length_append, List.flatMap_append]; simpa using h1
section
variable {α β : Type} {t sz t2 sz2 : Nat} {cs : α → List Value} {cs2 : β → List Value} {base : Nat} {w w' : World} {v v2 : Value} {xs : List α} {ys : List β}
theorem OwnL.drew (h : OwnL t sz cs base w v xs) : OwnL t sz cs base w.drew v xs := h
theorem OwnL.at (h : OwnL t sz cs base w v xs) : ∀ g, v.ownBlock = some g → base ≤ g := fun g e => (World.ownsRow.lt h g e).1
theorem OwnL.back (h : OwnL t sz cs base w v xs) (hb : ∀ g, v.ownBlock = some g → w'.heap[g]? = w.heap[g]?) : OwnL t sz cs base w' v xs := by
  refine ⟨h.1, ?_⟩
  rcases h.2 with h | ⟨g, cap, cur, rfl, h2, h3, h4⟩
  · exact .inl h
  · exact .inr ⟨g, cap, cur, rfl, h2, by rw [hb g rfl]; exact h3, h4⟩
theorem OwnL.has (h : OwnL t sz cs base w v xs) (g : Nat) (hg : v.ownBlock = some g) : ∃ cur, w.heap[g]? = some (.cells cur t (0, 0)) := by
  rcases h.2 with ⟨rfl, _⟩ | ⟨g', cap, cur, rfl, h2, h3, _⟩
  · cases hg
  · obtain rfl : g' = g := Option.some.inj hg
    exact ⟨cur, h3⟩
theorem OwnL.other (h : OwnL t sz cs base w v xs) (h2 : OwnL t2 sz2 cs2 base w v2 ys) (ht : t ≠ t2) (hg : w.grownBy w' v2.ownBlock) : OwnL t sz cs base w' v xs :=
  h.back fun g e => by
    obtain ⟨cur, hc⟩ := h.has g e
    refine hg.block g (Array.getElem?_eq_some_iff.1 hc).1 fun e2 => ?_
    obtain ⟨cur2, hc2⟩ := h2.has g e2.symm
    rw [hc] at hc2
    simp at hc2
    exact ht hc2.2
theorem OwnL.lt (h : OwnL t sz cs base w v xs) (g : Nat) (hg : v.ownBlock = some g) : g < w.heap.size := by
  obtain ⟨cur, hc⟩ := h.has g hg
  exact (Array.getElem?_eq_some_iff.1 hc).1
end

theorem i64of_w (x : Nat) : IntKind.i64.wrap (x : Int) = i64of x := by rw [IntKind.wrap_i64, i64of, wrap64]
def rIntD (s : List Nat × Bool) : Int × (List Nat × Bool) := (i64of (numD 8 s).1, (numD 8 s).2)
def rPaneD (s : List Nat × Bool) : Pn × (List Nat × Bool) :=
  (⟨i64of (numD 8 s).1, i64of (numD 8 (numD 8 s).2).1, i64of (numD 8 (numD 8 (numD 8 s).2).2).1, i64of (numD 8 (numD 8 (numD 8 (numD 8 s).2).2).2).1⟩, (numD 8 (numD 8 (numD 8 (numD 8 s).2).2).2).2)
def rOutD (s : List Nat × Bool) : Ot × (List Nat × Bool) := (⟨((numD 2 s).1 : Nat), (rFrameD (numD 2 s).2).1⟩, (rFrameD (numD 2 s).2).2)
/-- What the document reads of a part: the part, how many panes and captured frames it was told, what is left. -/
structure SnD where
  s : Sn
  np : Nat
  nc : Nat
  st : List Nat × Bool
def rSnapD (l : List Nat) : SnD :=
  let p0 := numD 2 (l, false)
  let p1 := numD 2 p0.2
  let p2 := numD 8 p1.2
  let p3 := numD 2 p2.2
  let q3 := rL rIntD p3.1 p3.2
  let p4 := numD 2 q3.2
  let q4 := rL rPaneD p4.1 p4.2
  let p5 := numD 2 q4.2
  let q5 := rL rOutD p5.1 p5.2
  ⟨⟨(p0.1 : Nat), (p1.1 : Nat), i64of p2.1, q3.1, q4.1, q5.1⟩, p4.1, p5.1, q5.2⟩
def SnD.ok (d : SnD) : Bool := done d.st && (decide (d.np ≤ 4096) && decide (d.nc ≤ 4096))
def dSn (d : SnD) : Sn := if d.ok then d.s else Sn.nil
def dEr (d : SnD) : Int := if d.ok then 0 else 10

/-- In the midst of the document's OpenSnap. -/
structure SR (w W : World) (M : Nat) (cs : Array Value) (s : List Nat × Bool) : Prop where
  rd : RdSD (w.heap.size + 1) W s
  bm : BoxT 48 W M cs
  ba : BoxT 48 W w.heap.size #[.int .i64 0, .int .i64 0, .int .i64 0, .slice none 0 0, .slice none 0 0, .slice none 0 0]
  bel : Below w.heap.size w W
  lt : w.heap.size + 1 < M
section
variable {w W W' : World} {M : Nat} {cs : Array Value} {s s' : List Nat × Bool}
theorem SR.call (h : SR w W M cs s) (hr : RdSD (w.heap.size + 1) W' s') (hg : W.grownBy W' (some (w.heap.size + 1))) : SR w W' M cs s' := by
  have := h.lt
  have hz := h.bel.size
  exact ⟨hr, h.bm.grown hg (by omega), h.ba.grown hg (by omega), h.bel.trans (Below.of_grown hg (by omega) hz), h.lt⟩
theorem SR.below (h : SR w W M cs s) (hb : Below (M + 1) W W') : SR w W' M cs s := by
  have := h.lt
  have hm := h.bm.lt
  refine ⟨h.rd.keep fun i hi => hb.block i (by omega), ?_, ?_, h.bel.trans (hb.mono (by omega)), h.lt⟩
  · have := h.bm; unfold BoxT at *; rw [hb.block M (by omega)]; exact this
  · have := h.ba; unfold BoxT at *; rw [hb.block w.heap.size (by omega)]; exact this
theorem SR.set (h : SR w W M cs s) (j : Nat) (u : Value) : SR w (W.setCell ⟨M, j, none⟩ u) M (cs.setIfInBounds j u) s := by
  have := h.lt
  exact ⟨h.rd.set _ _ _ (by omega), h.bm.set j u, h.ba.other _ _ (by omega), h.bel.trans ((Below.refl _ _).setCell (by show _ ≤ M; omega) _), h.lt⟩
theorem SR.alloc (h : SR w W M cs s) (o : Obj) : SR w (W.alloc o) M cs s := h.below (below_more (Below.refl _ _) h.bm.lt o)
theorem SR.drew (h : SR w W M cs s) : SR w W.drew M cs s := h.below ((Below.refl _ _).drew)
end
theorem OwnL.setAt {α : Type} {t sz : Nat} {cs : α → List Value} {base : Nat} {w : World} {v : Value} {xs : List α} (h : OwnL t sz cs base w v xs) {k : Nat} (hk : ∀ g, v.ownBlock = some g → g < k) (j : Nat) (u : Value) : OwnL t sz cs base (w.setCell ⟨k, j, none⟩ u) v xs :=
  h.back fun g e => Below.heap_setCell w ⟨k, j, none⟩ u g (by have := hk g e; show g ≠ k; omega)
/-- In the midst of a pane. -/
structure PR2 (w W : World) (M : Nat) (cs : Array Value) (s : List Nat × Bool) (kP : Nat) (pc : Array Value) (vm : Value) (ms : List Int) (vk : Value) (acc : List Pn) : Prop where
  sr : SR w W M cs s
  pb : BoxT 100 W kP pc
  om : OwnL 2 1 ics (M + 1) W vm ms
  op : OwnL 100 4 Pn.cs (M + 1) W vk acc
  hk : ∀ g, vk.ownBlock = some g → g < kP
  hM : M < kP
section
variable {w W W' : World} {M kP : Nat} {cs pc : Array Value} {s s' : List Nat × Bool} {vm vk : Value} {ms : List Int} {acc : List Pn}
theorem PR2.start (h : SR w W M cs s) (hm : OwnL 2 1 ics (M + 1) W vm ms) (hp : OwnL 100 4 Pn.cs (M + 1) W vk acc) (pc : Array Value) : PR2 w (W.alloc (.cells pc 100)) M cs s W.heap.size pc vm ms vk acc :=
  ⟨h.alloc _, BoxT.new _ _ _, hm.alloc _, hp.alloc _, fun g e => hp.lt g e, h.bm.lt⟩
theorem PR2.call (h : PR2 w W M cs s kP pc vm ms vk acc) (hr : RdSD (w.heap.size + 1) W' s') (hg : W.grownBy W' (some (w.heap.size + 1))) : PR2 w W' M cs s' kP pc vm ms vk acc := by
  have h1 := h.sr.lt
  have h2 := h.hM
  exact ⟨h.sr.call hr hg, h.pb.grown hg (by omega), h.om.grown hg (by omega), h.op.grown hg (by omega), h.hk, h.hM⟩
theorem PR2.set (h : PR2 w W M cs s kP pc vm ms vk acc) (j : Nat) (u : Value) : PR2 w (W.setCell ⟨kP, j, none⟩ u) M cs s kP (pc.setIfInBounds j u) vm ms vk acc := by
  have h2 := h.hM
  exact ⟨h.sr.below ((Below.refl _ _).setCell (by show M + 1 ≤ kP; omega) _), h.pb.set j u, h.om.setBox h.pb (by decide) j u, h.op.setAt h.hk j u, h.hk, h.hM⟩
end
/-- In the midst of a captured frame. -/
structure PR3 (w W : World) (M : Nat) (cs : Array Value) (s : List Nat × Bool) (kP : Nat) (pc : Array Value) (vm : Value) (ms : List Int) (vp : Value) (ps : List Pn) (vk : Value) (acc : List Ot) : Prop where
  sr : SR w W M cs s
  pb : BoxT 94 W kP pc
  om : OwnL 2 1 ics (M + 1) W vm ms
  op : OwnL 100 4 Pn.cs (M + 1) W vp ps
  oc : OwnL 94 8 Ot.cs (M + 1) W vk acc
  hk : ∀ g, vk.ownBlock = some g → g < kP
  hM : M < kP
section
variable {w W W' : World} {M kP : Nat} {cs pc : Array Value} {s s' : List Nat × Bool} {vm vp vk : Value} {ms : List Int} {ps : List Pn} {acc : List Ot}
theorem PR3.start (h : SR w W M cs s) (hm : OwnL 2 1 ics (M + 1) W vm ms) (hp : OwnL 100 4 Pn.cs (M + 1) W vp ps) (hc : OwnL 94 8 Ot.cs (M + 1) W vk acc) (pc : Array Value) : PR3 w (W.alloc (.cells pc 94)) M cs s W.heap.size pc vm ms vp ps vk acc :=
  ⟨h.alloc _, BoxT.new _ _ _, hm.alloc _, hp.alloc _, hc.alloc _, fun g e => hc.lt g e, h.bm.lt⟩
theorem PR3.call (h : PR3 w W M cs s kP pc vm ms vp ps vk acc) (hr : RdSD (w.heap.size + 1) W' s') (hg : W.grownBy W' (some (w.heap.size + 1))) : PR3 w W' M cs s' kP pc vm ms vp ps vk acc := by
  have h1 := h.sr.lt
  have h2 := h.hM
  exact ⟨h.sr.call hr hg, h.pb.grown hg (by omega), h.om.grown hg (by omega), h.op.grown hg (by omega), h.oc.grown hg (by omega), h.hk, h.hM⟩
theorem PR3.set (h : PR3 w W M cs s kP pc vm ms vp ps vk acc) (j : Nat) (u : Value) : PR3 w (W.setCell ⟨kP, j, none⟩ u) M cs s kP (pc.setIfInBounds j u) vm ms vp ps vk acc := by
  have h2 := h.hM
  exact ⟨h.sr.below ((Below.refl _ _).setCell (by show M + 1 ≤ kP; omega) _), h.pb.set j u, h.om.setBox h.pb (by decide) j u, h.op.setBox h.pb (by decide) j u, h.oc.setAt h.hk j u, h.hk, h.hM⟩
end
theorem new4 (W : World) (n : Nat) (hn : n = W.heap.size) (x : Pn) (j : Nat) (u : Value) (hu : (Pn.cs x)[j]? = some u) : (W.alloc (.cells #[.int .i64 x.ke, .int .i64 x.fr, .int .i64 x.to, .int .i64 x.ac] 100)).cell? ((⟨n, 0, none⟩ : Addr).add j) = some u := by
  subst hn
  match j, hu with
  | 0, hu | 1, hu | 2, hu | 3, hu => simp [Pn.cs] at hu; subst hu; simp [Addr.add]
theorem new8 (W : World) (n : Nat) (hn : n = W.heap.size) (x : Ot) (j : Nat) (u : Value) (hu : (Ot.cs x)[j]? = some u) : (W.alloc (.cells #[.int .i64 x.ch, .int .i64 x.f.kd, .int .i64 x.f.ke, .int .i64 x.f.ti, .int .i64 x.f.va, .int .i64 x.f.ma, .int .u64 x.f.n, .bool x.f.ov] 94)).cell? ((⟨n, 0, none⟩ : Addr).add j) = some u := by
  subst hn
  match j, hu with
  | 0, hu | 1, hu | 2, hu | 3, hu | 4, hu | 5, hu | 6, hu | 7, hu => simp [Ot.cs] at hu; subst hu; simp [Addr.add]
end Go.Proofs.YtaajjejgjnlbgaaDoor
