/-
  Texts of the vault, in build order: VOpenT.
-/
import Derived.Test.YtbfhcbihgleddaaGreatDoorM37
import Derived.Test.YtbfhcbihgleddaaGreatDoorM40
import Derived.Carry
/-
  Lists of lists of parts that came in, opened.
-/
namespace Go.Proofs.YtbfhcbihgleddaaGreatDoor
open Go.ChangeShapes Go.WideShapes Go.ChangeAt Go.WideMaps Go.WideElems Go.RowKit Go.ChangeMaps Go.Deep

section
variable {H : Type} {enc : TypeId × Value → H} {W : World} {base b0 : Nat} {held : Bool} {fuel : Nat}
/-- One part, as it lies in a row. -/
theorem one_snap {ce : List Value} {y : DataW H × List MemPlace} (h : DataW.trod enc Tryz.prog W base (fun _ => true) held fuel 27 ce = some y)
    (hsz : ∀ n ∈ DataW.weights Tryz.prog 27 y.1, n ≤ reachBytes) : ∃ x : SnV, ce = SnV.cs x ∧ SnSeg W.heap.size W (.slice x.am x.s.marks.length x.cm) (.slice x.ap x.s.panes.length x.cp) (.slice x.ac x.s.outs.length x.cc) x.s ∧ x.s.ok := by
  have hf := h
  obtain ⟨xs, m, rfl, hx, hl, hxl, hf⟩ := DataW.trod_struct Tryz.underlying27 hf
  rw [Tryz.cells27] at hl
  obtain ⟨c0, c1, c2, c3, c4, c5, hcs⟩ := list6 ce hl
  rw [hcs] at hf
  have f0 : DataW.trod enc Tryz.prog W base (fun _ => true) held m 3 (List.take (Tryz.prog.cellsOf 3) (List.drop 0 [c0, c1, c2, c3, c4, c5])) = xs[(0 : Nat)]? := hf 0 _ rfl
  have f1 : DataW.trod enc Tryz.prog W base (fun _ => true) held m 3 (List.take (Tryz.prog.cellsOf 3) (List.drop 1 [c0, c1, c2, c3, c4, c5])) = xs[(1 : Nat)]? := hf 1 _ rfl
  have f2 : DataW.trod enc Tryz.prog W base (fun _ => true) held m 2 (List.take (Tryz.prog.cellsOf 2) (List.drop 2 [c0, c1, c2, c3, c4, c5])) = xs[(2 : Nat)]? := hf 2 _ rfl
  have f3 : DataW.trod enc Tryz.prog W base (fun _ => true) held m 23 (List.take (Tryz.prog.cellsOf 23) (List.drop 3 [c0, c1, c2, c3, c4, c5])) = xs[(3 : Nat)]? := hf 3 _ rfl
  have f4 : DataW.trod enc Tryz.prog W base (fun _ => true) held m 24 (List.take (Tryz.prog.cellsOf 24) (List.drop 4 [c0, c1, c2, c3, c4, c5])) = xs[(4 : Nat)]? := hf 4 _ rfl
  have f5 : DataW.trod enc Tryz.prog W base (fun _ => true) held m 25 (List.take (Tryz.prog.cellsOf 25) (List.drop 5 [c0, c1, c2, c3, c4, c5])) = xs[(5 : Nat)]? := hf 5 _ rfl
  have hxl : xs.length = 6 := hxl
  obtain ⟨y0, y1, y2, y3, y4, y5, rfl⟩ := list6 xs hxl
  simp only [Tryz.cells2, Tryz.cells3, Tryz.cells23, Tryz.cells24, Tryz.cells25, List.drop_zero, List.drop_succ_cons, List.take_succ_cons, List.take_zero, List.getElem?_cons_zero, List.getElem?_cons_succ] at f0 f1 f2 f3 f4 f5
  obtain ⟨ta, e0, _, _⟩ := DataW.trod_int Tryz.underlying3 f0
  obtain ⟨off, e1, _, _⟩ := DataW.trod_int Tryz.underlying3 f1
  obtain ⟨mark, e2, _, w2⟩ := DataW.trod_int Tryz.underlying2 f2
  simp only [List.cons.injEq, and_true] at e0 e1 e2
  subst e0 e1 e2
  subst hx
  have hd := hsz
  simp only [List.map_cons, List.map_nil] at hd
  subst hcs
  have hw : ∀ (j : Nat) (t : TypeId) (y : DataW H), [3, 3, 2, 23, 24, 25][j]? = some t → [y0.1, y1.1, y2.1, y3.1, y4.1, y5.1][j]? = some y → ∀ k ∈ DataW.weights Tryz.prog t y, k ≤ reachBytes := fun j t y hj hy k hk => hd k (by
    simp only [DataW.weights, Tryz.underlying27]
    exact DataW.weights_mem_each (j := j) (t := t) hj hy k hk)
  obtain ⟨am, cm, ms, e3, hm, om, _⟩ := open_lseg (0 : Int) (cs := ics) (ok := I64) Tryz.underlying23 Tryz.cells2 (by decide) (by rw [Tryz.bytes2]; decide) (fun _ _ _ h _ => one_int h) f3 (hw 3 23 _ rfl rfl)
  obtain ⟨ap, cp, ps, e4, hp, op, _⟩ := open_lseg (⟨0, 0, 0, 0⟩ : Pn) (cs := Pn.cs) (ok := Pn.ok) Tryz.underlying24 Tryz.cells145 (by decide) (by rw [Tryz.bytes145]; decide) (fun _ _ _ h _ => one_pane h) f4 (hw 4 24 _ rfl rfl)
  obtain ⟨ac, cc, os, e5, hc, oc, _⟩ := open_lseg (⟨0, 0, 0, 0, 0, 0, 0, false⟩ : Ot) (cs := Ot.cs) (ok := Ot.ok) Tryz.underlying25 Tryz.cells151 (by decide) (by rw [Tryz.bytes151]; decide) (fun _ _ _ h _ => one_out h) f5 (hw 5 25 _ rfl rfl)
  simp only [List.cons.injEq, and_true] at e3 e4 e5
  subst e3 e4 e5
  exact ⟨⟨⟨ta, off, mark, ms, ps, os⟩, am, cm, ap, cp, ac, cc⟩, rfl, ⟨hm, hp, hc⟩, ⟨wf_i64 w2, om, op, oc⟩⟩
theorem Tryz.cells27' : Tryz.prog.cellsOf 27 = 6 := by kernel_rfl
theorem Tryz.bytes27 : Tryz.prog.bytesOf 27 = 96 := by kernel_rfl
theorem Tryz.cells30' : Tryz.prog.cellsOf 30 = 1 := by kernel_rfl
theorem Tryz.bytes30 : Tryz.prog.bytesOf 30 = 24 := by kernel_rfl
/-- One list of parts. -/
theorem one_parts {ce : List Value} {y : DataW H × List MemPlace} (h : DataW.trod enc Tryz.prog W base (fun _ => true) held fuel 30 ce = some y)
    (hsz : ∀ n ∈ DataW.weights Tryz.prog 30 y.1, n ≤ reachBytes) : ∃ t : TnV, ce = TnV.cs t ∧ SnsIn W.heap.size W (.slice t.a t.l.length t.c) t.l ∧ ∀ x ∈ t.l, x.s.ok := by
  obtain ⟨ao, cap, xs, rfl, h1, h2, _⟩ := open_lseg (⟨⟨0, 0, 0, [], [], []⟩, none, 0, none, 0, none, 0⟩ : SnV) (cs := SnV.cs)
    (ok := fun x => SnSeg W.heap.size W (.slice x.am x.s.marks.length x.cm) (.slice x.ap x.s.panes.length x.cp) (.slice x.ac x.s.outs.length x.cc) x.s ∧ x.s.ok)
    Tryz.underlying30 Tryz.cells27' (by decide) (by rw [Tryz.bytes27]; decide) (fun _ _ _ h hw => one_snap h hw) h hsz
  exact ⟨⟨ao, cap, xs⟩, rfl, ⟨h1, fun x hx => (h2 x hx).1, fun x hx o ho => ((h2 x hx).2.outs o ho).2.2.2.2.1⟩, fun x hx => (h2 x hx).2⟩
/-- A list of lists of parts. -/
theorem open_torn {vs : List Value} {x : DataW H × List MemPlace} (h : DataW.trod enc Tryz.prog W base (fun _ => true) held fuel 68 vs = some x) (hw : ∀ k ∈ DataW.weights Tryz.prog 68 x.1, k ≤ reachBytes) :
    ∃ (ao : Option Addr) (cap : Nat) (tl : List TnV), vs = [.slice ao tl.length cap] ∧ LSeg 1 TnV.cs W.heap.size W (.slice ao tl.length cap) tl ∧ ∀ t ∈ tl, SnsIn W.heap.size W (.slice t.a t.l.length t.c) t.l ∧ ∀ x ∈ t.l, x.s.ok := by
  obtain ⟨ao, cap, xs, rfl, h1, h2, _⟩ := open_lseg (⟨none, 0, []⟩ : TnV) (cs := TnV.cs) (ok := fun t => SnsIn W.heap.size W (.slice t.a t.l.length t.c) t.l ∧ ∀ x ∈ t.l, x.s.ok)
    Tryz.underlying68 Tryz.cells30' (by decide) (by rw [Tryz.bytes30]; decide) (fun _ _ _ h hw => one_parts h hw) h hw
  exact ⟨ao, cap, xs, rfl, h1, h2⟩
end
section
variable {H : Type} {enc : TypeId × Value → H} {P : Program} {w : World} {base : Nat} {spare : Nat → Bool} {held : Bool}
theorem trodAll_five {t t1 t2 t3 t4 : TypeId} {args : Array Value} {ds : List (DataW H)} {ps : List MemPlace} (h : DataW.TrodAll enc P w base spare held [t, t1, t2, t3, t4] args.toList ds ps) :
    ∃ v v1 v2 v3 v4 d d1 d2 d3 d4 p p1 p2 p3 p4, args = #[v, v1, v2, v3, v4] ∧ ds = [d, d1, d2, d3, d4] ∧ ps = p ++ (p1 ++ (p2 ++ (p3 ++ p4))) ∧ DataW.Trod enc P w base spare held t v d p ∧ DataW.Trod enc P w base spare held t1 v1 d1 p1 ∧
      DataW.Trod enc P w base spare held t2 v2 d2 p2 ∧ DataW.Trod enc P w base spare held t3 v3 d3 p3 ∧ DataW.Trod enc P w base spare held t4 v4 d4 p4 := by
  obtain ⟨v, vs, d, ds0, p, q, hargs, rfl, rfl, hd, hrest⟩ := trodAll_cons h
  obtain ⟨v1, vs1, d1, ds1, p1, q1, rfl, rfl, rfl, hd1, hrest1⟩ := trodAll_cons hrest
  obtain ⟨v2, vs2, d2, ds2, p2, q2, rfl, rfl, rfl, hd2, hrest2⟩ := trodAll_cons hrest1
  obtain ⟨v3, vs3, d3, ds3, p3, q3, rfl, rfl, rfl, hd3, hrest3⟩ := trodAll_cons hrest2
  obtain ⟨v4, vs4, d4, ds4, p4, q4, rfl, rfl, rfl, hd4, hrest4⟩ := trodAll_cons hrest3
  obtain ⟨rfl, rfl, rfl⟩ := trodAll_nil hrest4
  exact ⟨v, v1, v2, v3, v4, d, d1, d2, d3, d4, p, p1, p2, p3, p4, by cases args; simp_all, rfl, by simp, hd, hd1, hd2, hd3, hd4⟩
theorem trodAll_mk5 {t t1 t2 t3 t4 : TypeId} {v v1 v2 v3 v4 : Value} {d d1 d2 d3 d4 : DataW H} {p p1 p2 p3 p4 : List MemPlace} (h : DataW.Trod enc P w base spare held t v d p) (h1 : DataW.Trod enc P w base spare held t1 v1 d1 p1)
    (h2 : DataW.Trod enc P w base spare held t2 v2 d2 p2) (h3 : DataW.Trod enc P w base spare held t3 v3 d3 p3) (h4 : DataW.Trod enc P w base spare held t4 v4 d4 p4) :
    DataW.TrodAll enc P w base spare held [t, t1, t2, t3, t4] [v, v1, v2, v3, v4] [d, d1, d2, d3, d4] (p ++ (p1 ++ (p2 ++ (p3 ++ p4)))) := ⟨p, p1 ++ (p2 ++ (p3 ++ p4)), h, trodAll_mk4 h1 h2 h3 h4, rfl⟩
end
end Go.Proofs.YtbfhcbihgleddaaGreatDoor
