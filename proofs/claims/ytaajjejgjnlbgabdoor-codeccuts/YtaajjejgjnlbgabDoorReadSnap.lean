/-
  Readings for the rows over package codec: a part opened.
-/
import Derived.Test.YtaajjejgjnlbgabDoorReads
import Derived.Test.YtaajjejgjnlbgabDoorMathSnap
import Derived.Deep.Slices
namespace Go.Proofs.YtaajjejgjnlbgabDoor
open Go.ChangeShapes Go.WideShapes Go.ChangeAt Go.WideMaps Go.WideElems Go.RowKit Go.Deep

theorem Tryd.cells26 : Tryd.prog.cellsOf 26 = 6 := by kernel_rfl
theorem Tryd.cells22 : Tryd.prog.cellsOf 22 = 1 := by kernel_rfl
theorem Tryd.cells23 : Tryd.prog.cellsOf 23 = 1 := by kernel_rfl
theorem Tryd.cells24 : Tryd.prog.cellsOf 24 = 1 := by kernel_rfl
theorem Tryd.cells88 : Tryd.prog.cellsOf 88 = 4 := by kernel_rfl
theorem Tryd.cells60 : Tryd.prog.cellsOf 60 = 8 := by kernel_rfl
theorem Tryd.cells86 : Tryd.prog.cellsOf 86 = 2 := by kernel_rfl
theorem Tryd.bytes2 : Tryd.prog.bytesOf 2 = 8 := by kernel_rfl
theorem Tryd.bytes88 : Tryd.prog.bytesOf 88 = 32 := by kernel_rfl
theorem Tryd.bytes60 : Tryd.prog.bytesOf 60 = 64 := by kernel_rfl
theorem list6 {α : Type} (l : List α) (h : l.length = 6) : ∃ a b c d e f, l = [a, b, c, d, e, f] := by
  match l, h with
  | [a, b, c, d, e, f], _ => exact ⟨a, b, c, d, e, f, rfl⟩
theorem list8 {α : Type} (l : List α) (h : l.length = 8) : ∃ a b c d e f g i, l = [a, b, c, d, e, f, g, i] := by
  match l, h with
  | [a, b, c, d, e, f, g, i], _ => exact ⟨a, b, c, d, e, f, g, i, rfl⟩

section
variable {H : Type} {enc : TypeId × Value → H} {W : World} {base b0 : Nat} {held : Bool} {fuel : Nat}

/-- A slice whose elements open to things of one kind. -/
theorem open_lseg {α : Type} (dflt : α) {t e sz : Nat} {cs : α → List Value} {ok : α → Prop} (ht : Tryd.prog.underlying t = some (.slice e)) (hc : Tryd.prog.cellsOf e = sz) (hs0 : 0 < sz) (hby : 1 ≤ Tryd.prog.bytesOf e)
    (hone : ∀ (m : Nat) (ce : List Value) (y : DataW H × List MemPlace), DataW.trod enc Tryd.prog W base (fun _ => true) held m e ce = some y → ∃ x : α, ce = cs x ∧ ok x)
    {vs : List Value} {x : DataW H × List MemPlace} (h : DataW.trod enc Tryd.prog W base (fun _ => true) held fuel t vs = some x) (hw : ∀ k ∈ DataW.weights Tryd.prog t x.1, k ≤ reachBytes) :
    ∃ (v : Value) (xs : List α), vs = [v] ∧ LSeg sz cs W.heap.size W v xs ∧ ∀ y ∈ xs, ok y := by
  rcases open_slice ht h with ⟨rfl, _⟩ | ⟨a, len, cap, m, n, D, Pl, rfl, hb, hl, hm, hmm, rfl, hx⟩
  · exact ⟨_, [], rfl, ⟨none, 0, rfl, by simp, .inl rfl⟩, by simp⟩
  simp only [if_true] at hmm
  have each : ∀ i, i < len → ∃ y : α, (∀ (j : Nat) (u : Value), (cs y)[j]? = some u → W.cell? (a.add (i * sz + j)) = some u) ∧ ok y ∧ (cs y).length = sz := by
    intro i hi
    obtain ⟨ce, h1, h2⟩ := hx i (by omega)
    rw [hc] at h1
    obtain ⟨_, hlen, hcell⟩ := World.cells?_some h1
    obtain ⟨y, rfl, hy⟩ := hone n ce _ h2
    refine ⟨y, fun j u hu => ?_, hy, hlen⟩
    have hj : j < sz := by rw [← hlen]; exact (List.getElem?_eq_some_iff.1 hu).1
    have := hcell j hj
    rw [add_add] at this
    rw [this, hu]
  have _i : Inhabited α := ⟨dflt⟩
  obtain ⟨Y, hY⟩ := choose_lt each
  have hmem := hw _ (by simp only [DataW.weights, ht]; exact List.mem_cons_self ..)
  simp only [List.length_map, List.length_range, reachBytes] at hmem
  have hlen : len ≤ 140737488355328 := by
    have h2 : (len + (m - len)) * 1 ≤ (len + (m - len)) * Tryd.prog.bytesOf e := Nat.mul_le_mul_left _ hby
    omega
  refine ⟨_, (List.range len).map Y, rfl, ⟨some a, cap, by simp, by simpa using hlen, ?_⟩, fun y hy => ?_⟩
  · by_cases h0 : len = 0
    · exact .inl (by simp [h0])
    · obtain ⟨b, off, spot⟩ := a
      obtain ⟨u0, hu0⟩ : ∃ u, (cs (Y 0))[0]? = some u := ⟨_, List.getElem?_eq_getElem (by rw [(hY 0 (by omega)).2.2]; exact hs0)⟩
      have hc0 := (hY 0 (by omega)).1 0 u0 hu0
      have hspot : spot = none := by simpa [Addr.add] using World.cell?_spot hc0
      subst hspot
      refine .inr ⟨b, off, rfl, ?_, fun i y hy j u hu => ?_⟩
      · have := World.block_lt_of_cell? W _ hc0
        simpa [add_plain2] using this
      · have hil : i < len := by
          have := (List.getElem?_eq_some_iff.1 hy).1
          simpa using this
        have hyi : y = Y i := by
          rw [List.getElem?_map, List.getElem?_range hil] at hy
          simpa using hy.symm
        subst hyi
        have := (hY i hil).1 j u hu
        rw [add_plain2] at this
        rw [Nat.add_assoc]; exact this
  · obtain ⟨i, hi, rfl⟩ := List.mem_map.1 hy
    exact (hY i (by simpa using hi)).2.1
theorem one_int {m : Nat} {ce : List Value} {y : DataW H × List MemPlace} (h : DataW.trod enc Tryd.prog W base (fun _ => true) held m 2 ce = some y) : ∃ x : Int, ce = ics x ∧ I64 x := by
  obtain ⟨n, e, _, w⟩ := DataW.trod_int Tryd.underlying2 h
  exact ⟨n, e, wf_i64 w⟩
theorem one_pane {m : Nat} {ce : List Value} {y : DataW H × List MemPlace} (h : DataW.trod enc Tryd.prog W base (fun _ => true) held m 88 ce = some y) : ∃ x : Pn, ce = Pn.cs x ∧ x.ok := by
  obtain ⟨xs, k, rfl, hx, hl, hxl, hf⟩ := DataW.trod_struct Tryd.underlying88 h
  rw [Tryd.cells88] at hl
  obtain ⟨c0, c1, c2, c3, rfl⟩ := list4 ce hl
  have f0 : DataW.trod enc Tryd.prog W base (fun _ => true) held k 2 (List.take (Tryd.prog.cellsOf 2) (List.drop 0 [c0, c1, c2, c3])) = xs[(0 : Nat)]? := hf 0 _ rfl
  have f1 : DataW.trod enc Tryd.prog W base (fun _ => true) held k 86 (List.take (Tryd.prog.cellsOf 86) (List.drop 1 [c0, c1, c2, c3])) = xs[(1 : Nat)]? := hf 1 _ rfl
  have f2 : DataW.trod enc Tryd.prog W base (fun _ => true) held k 2 (List.take (Tryd.prog.cellsOf 2) (List.drop 3 [c0, c1, c2, c3])) = xs[(2 : Nat)]? := hf 2 _ rfl
  have hxl : xs.length = 3 := hxl
  rw [List.getElem?_eq_getElem (by omega)] at f0 f1 f2
  simp only [Tryd.cells2, Tryd.cells86, List.drop_zero, List.drop_succ_cons, List.take_succ_cons, List.take_zero] at f0 f1 f2
  obtain ⟨ke, e0, _, w0⟩ := DataW.trod_int Tryd.underlying2 f0
  obtain ⟨ac, e2, _, w2⟩ := DataW.trod_int Tryd.underlying2 f2
  obtain ⟨ys, k', _, _, _, hyl, hg⟩ := DataW.trod_struct Tryd.underlying86 f1
  have g0 : DataW.trod enc Tryd.prog W base (fun _ => true) held k' 2 (List.take (Tryd.prog.cellsOf 2) (List.drop 0 [c1, c2])) = ys[(0 : Nat)]? := hg 0 _ rfl
  have g1 : DataW.trod enc Tryd.prog W base (fun _ => true) held k' 2 (List.take (Tryd.prog.cellsOf 2) (List.drop 1 [c1, c2])) = ys[(1 : Nat)]? := hg 1 _ rfl
  have hyl : ys.length = 2 := hyl
  rw [List.getElem?_eq_getElem (by omega)] at g0 g1
  simp only [Tryd.cells2, List.drop_zero, List.drop_succ_cons, List.take_succ_cons, List.take_zero] at g0 g1
  obtain ⟨fr, r0, _, v0⟩ := DataW.trod_int Tryd.underlying2 g0
  obtain ⟨to, r1, _, v1⟩ := DataW.trod_int Tryd.underlying2 g1
  simp only [List.cons.injEq, and_true] at e0 e2 r0 r1
  subst e0 e2 r0 r1
  exact ⟨⟨ke, fr, to, ac⟩, rfl, wf_i64 w0, wf_i64 v0, wf_i64 v1, wf_i64 w2⟩
theorem one_out {m : Nat} {ce : List Value} {y : DataW H × List MemPlace} (h : DataW.trod enc Tryd.prog W base (fun _ => true) held m 60 ce = some y) : ∃ x : Ot, ce = Ot.cs x ∧ x.ok := by
  obtain ⟨xs, k, rfl, hx, hl, hxl, hf⟩ := DataW.trod_struct Tryd.underlying60 h
  rw [Tryd.cells60] at hl
  obtain ⟨c0, c1, c2, c3, c4, c5, c6, c7, rfl⟩ := list8 ce hl
  have f0 : DataW.trod enc Tryd.prog W base (fun _ => true) held k 3 (List.take (Tryd.prog.cellsOf 3) (List.drop 0 [c0, c1, c2, c3, c4, c5, c6, c7])) = xs[(0 : Nat)]? := hf 0 _ rfl
  have f1 : DataW.trod enc Tryd.prog W base (fun _ => true) held k 49 (List.take (Tryd.prog.cellsOf 49) (List.drop 1 [c0, c1, c2, c3, c4, c5, c6, c7])) = xs[(1 : Nat)]? := hf 1 _ rfl
  have hxl : xs.length = 2 := hxl
  rw [List.getElem?_eq_getElem (by omega)] at f0 f1
  simp only [Tryd.cells3, Tryd.cells49, List.drop_zero, List.drop_succ_cons, List.take_succ_cons, List.take_zero] at f0 f1
  obtain ⟨ch, e0, _, _⟩ := DataW.trod_int Tryd.underlying3 f0
  obtain ⟨kd, ke, ti, va, ma, n, ov, hce, _, h1, h2, h3, h4, h5⟩ := frame_cells f1
  simp only [List.cons.injEq, and_true] at e0 hce
  obtain ⟨rfl, rfl, rfl, rfl, rfl, rfl, rfl⟩ := hce
  subst e0
  exact ⟨⟨ch, kd, ke, ti, va, ma, n, ov⟩, rfl, h1, h2, h3, h4, h5⟩

set_option maxRecDepth 100000 in
theorem open_snap {v : Value} {d : DataW H} {p : List MemPlace} (hv : Value.okWide Tryd.prog W .any b0 26 v) (h : DataW.Trod enc Tryd.prog W base (fun _ => true) held 26 v d p)
    (hsz : ∀ n ∈ d.weights Tryd.prog 26, n ≤ reachBytes) : ∃ (vm vp vc : Value) (s : Sn), v = .agg #[.int .i64 s.task, .int .i64 s.off, .int .i64 s.mark, vm, vp, vc] ∧ SnSeg W.heap.size W vm vp vc s ∧ s.ok := by
  obtain ⟨cs, rfl, hcsz⟩ := okWide_struct Tryd.underlying26 hv
  obtain ⟨fuel, hf⟩ := h
  have hf : DataW.trod enc Tryd.prog W base (fun _ => true) held fuel 26 cs.toList = some (d, p) := by simpa [Value.cells] using hf
  obtain ⟨xs, m, rfl, hx, hl, hxl, hf⟩ := DataW.trod_struct Tryd.underlying26 hf
  rw [Tryd.cells26] at hl
  obtain ⟨c0, c1, c2, c3, c4, c5, hcs⟩ := list6 cs.toList hl
  rw [hcs] at hf
  have f0 : DataW.trod enc Tryd.prog W base (fun _ => true) held m 3 (List.take (Tryd.prog.cellsOf 3) (List.drop 0 [c0, c1, c2, c3, c4, c5])) = xs[(0 : Nat)]? := hf 0 _ rfl
  have f1 : DataW.trod enc Tryd.prog W base (fun _ => true) held m 3 (List.take (Tryd.prog.cellsOf 3) (List.drop 1 [c0, c1, c2, c3, c4, c5])) = xs[(1 : Nat)]? := hf 1 _ rfl
  have f2 : DataW.trod enc Tryd.prog W base (fun _ => true) held m 2 (List.take (Tryd.prog.cellsOf 2) (List.drop 2 [c0, c1, c2, c3, c4, c5])) = xs[(2 : Nat)]? := hf 2 _ rfl
  have f3 : DataW.trod enc Tryd.prog W base (fun _ => true) held m 22 (List.take (Tryd.prog.cellsOf 22) (List.drop 3 [c0, c1, c2, c3, c4, c5])) = xs[(3 : Nat)]? := hf 3 _ rfl
  have f4 : DataW.trod enc Tryd.prog W base (fun _ => true) held m 23 (List.take (Tryd.prog.cellsOf 23) (List.drop 4 [c0, c1, c2, c3, c4, c5])) = xs[(4 : Nat)]? := hf 4 _ rfl
  have f5 : DataW.trod enc Tryd.prog W base (fun _ => true) held m 24 (List.take (Tryd.prog.cellsOf 24) (List.drop 5 [c0, c1, c2, c3, c4, c5])) = xs[(5 : Nat)]? := hf 5 _ rfl
  have hxl : xs.length = 6 := hxl
  obtain ⟨y0, y1, y2, y3, y4, y5, rfl⟩ := list6 xs hxl
  simp only [Tryd.cells2, Tryd.cells3, Tryd.cells22, Tryd.cells23, Tryd.cells24, List.drop_zero, List.drop_succ_cons, List.take_succ_cons, List.take_zero, List.getElem?_cons_zero, List.getElem?_cons_succ] at f0 f1 f2 f3 f4 f5
  obtain ⟨ta, e0, _, _⟩ := DataW.trod_int Tryd.underlying3 f0
  obtain ⟨off, e1, _, _⟩ := DataW.trod_int Tryd.underlying3 f1
  obtain ⟨mark, e2, _, w2⟩ := DataW.trod_int Tryd.underlying2 f2
  simp only [List.cons.injEq, and_true] at e0 e1 e2
  subst e0 e1 e2
  simp only [Prod.mk.injEq] at hx
  have hd := hx.1
  simp only [List.map_cons, List.map_nil] at hd
  obtain ⟨l⟩ := cs
  simp only at hcs
  subst hcs
  have hw : ∀ (j : Nat) (t : TypeId) (y : DataW H), [3, 3, 2, 22, 23, 24][j]? = some t → [y0.1, y1.1, y2.1, y3.1, y4.1, y5.1][j]? = some y → ∀ k ∈ DataW.weights Tryd.prog t y, k ≤ reachBytes := fun j t y hj hy k hk => hsz k (by
    rw [hd]
    simp only [DataW.weights, Tryd.underlying26]
    exact DataW.weights_mem_each (j := j) (t := t) hj hy k hk)
  obtain ⟨vm, ms, e3, hm, om⟩ := open_lseg (0 : Int) (cs := ics) (ok := I64) Tryd.underlying22 Tryd.cells2 (by decide) (by rw [Tryd.bytes2]; decide) (fun _ _ _ h => one_int h) f3 (hw 3 22 _ rfl rfl)
  obtain ⟨vp, ps, e4, hp, op⟩ := open_lseg (⟨0, 0, 0, 0⟩ : Pn) (cs := Pn.cs) (ok := Pn.ok) Tryd.underlying23 Tryd.cells88 (by decide) (by rw [Tryd.bytes88]; decide) (fun _ _ _ h => one_pane h) f4 (hw 4 23 _ rfl rfl)
  obtain ⟨vc, os, e5, hc, oc⟩ := open_lseg (⟨0, 0, 0, 0, 0, 0, 0, false⟩ : Ot) (cs := Ot.cs) (ok := Ot.ok) Tryd.underlying24 Tryd.cells60 (by decide) (by rw [Tryd.bytes60]; decide) (fun _ _ _ h => one_out h) f5 (hw 5 24 _ rfl rfl)
  simp only [List.cons.injEq, and_true] at e3 e4 e5
  subst e3 e4 e5
  exact ⟨_, _, _, ⟨ta, off, mark, ms, ps, os⟩, rfl, ⟨hm, hp, hc⟩, ⟨wf_i64 w2, om, op, oc⟩⟩
end
end Go.Proofs.YtaajjejgjnlbgabDoor
