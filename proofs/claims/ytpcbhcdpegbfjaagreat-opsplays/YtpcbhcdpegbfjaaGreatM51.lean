/-
  Texts in build order: ZJOpen.
-/
import Derived.Test.YtpcbhcdpegbfjaaGreatRows
import Derived.Test.YtpcbhcdpegbfjaaGreatM22
import Derived.ProofKit
import Derived.OpenShut
import Derived.SizedLaws
import Derived.Deep.Slices
/-
 Readings: a job and logs that came in, opened.
-/
namespace Go.Proofs.YtpcbhcdpegbfjaaGreat.J
set_option maxHeartbeats 16000000
set_option maxRecDepth 100000
open Go.ChangeShapes Go.WideShapes Go.ChangeAt Go.WideMaps Go.WideElems Go.RowKit Go.Deep
theorem Tryz.laidOut : laidOutB Tryz.prog = true := by kernel_rfl
theorem Tryz.cells2 : Tryz.prog.cellsOf 2 = 1 := by kernel_rfl
theorem Tryz.cells3 : Tryz.prog.cellsOf 3 = 1 := by kernel_rfl
theorem Tryz.cells22 : Tryz.prog.cellsOf 22 = 1 := by kernel_rfl
theorem Tryz.cells60 : Tryz.prog.cellsOf 60 = 1 := by kernel_rfl
theorem Tryz.cells62 : Tryz.prog.cellsOf 62 = 1 := by kernel_rfl
theorem Tryz.cells23 : Tryz.prog.cellsOf 23 = 1 := by kernel_rfl
theorem Tryz.cells25 : Tryz.prog.cellsOf 25 = 3 := by kernel_rfl
theorem Tryz.cells27 : Tryz.prog.cellsOf 27 = 3 := by kernel_rfl
theorem Tryz.cells29 : Tryz.prog.cellsOf 29 = 10 := by kernel_rfl
theorem Tryz.bytes25 : Tryz.prog.bytesOf 25 = 40 := by kernel_rfl
theorem Tryz.bytes3 : Tryz.prog.bytesOf 3 = 8 := by kernel_rfl
theorem Tryz.bytes29 : Tryz.prog.bytesOf 29 = 112 := by kernel_rfl
theorem list3 {α : Type} (l : List α) (h : l.length = 3) : ∃ a b c, l = [a, b, c] := by
 match l, h with
 | [a, b, c], _ => exact ⟨a, b, c, rfl⟩
theorem list6 {α : Type} (l : List α) (h : l.length = 6) : ∃ a b c d e f, l = [a, b, c, d, e, f] := by
 match l, h with
 | [a, b, c, d, e, f], _ => exact ⟨a, b, c, d, e, f, rfl⟩
theorem list5 {α : Type} (l : List α) (h : l.length = 5) : ∃ a b c d e, l = [a, b, c, d, e] := by
 match l, h with
 | [a, b, c, d, e], _ => exact ⟨a, b, c, d, e, rfl⟩
theorem list10 {α : Type} (l : List α) (h : l.length = 10) : ∃ a b c d e f g i j k, l = [a, b, c, d, e, f, g, i, j, k] := by
 match l, h with
 | [a, b, c, d, e, f, g, i, j, k], _ => exact ⟨a, b, c, d, e, f, g, i, j, k, rfl⟩
theorem wf_i64 {n : Int} (h : (Lit.int .i64 n).wf = true) : -9223372036854775808 ≤ n ∧ n ≤ 9223372036854775807 := by
 have h1 : IntKind.i64.min = -9223372036854775808 := rfl
 have h2 : IntKind.i64.max = 9223372036854775807 := rfl
 simp only [Lit.wf, Bool.and_eq_true, decide_eq_true_eq] at h
 omega
theorem add_plain (b off k : Nat) : (⟨b, off, none⟩ : Addr).add k = ⟨b, off + k, none⟩ := by
 unfold Addr.add
 split
 ·rename_i h; subst h; rfl
 ·rfl
theorem weights_all {H : Type} {P : Program} {e : TypeId} {ds : List (DataW H)} {d : DataW H} (h : d ∈ ds) : ∀ n ∈ d.weights P e, n ∈ DataW.weightsAll P e ds := by
 induction ds with
 | nil => cases h
 | cons a r ih =>
  intro n hn
  simp only [DataW.weightsAll]
  rcases List.mem_cons.1 h with rfl | h
  ·exact List.mem_append_left _ hn
  ·exact List.mem_append_right _ (ih h n hn)
section
variable {H : Type} {enc : TypeId × Value → H} {W : World} {base b0 : Nat} {held : Bool} {fuel : Nat}
theorem open_lseg {α : Type} (dflt : α) {t e sz : Nat} {cs : α → List Value} {ok : α → Prop} (ht : Tryz.prog.underlying t = some (.slice e)) (hc : Tryz.prog.cellsOf e = sz) (hs0 : 0 < sz) (hby : 1 ≤ Tryz.prog.bytesOf e)
  (hone : ∀ (m : Nat) (ce : List Value) (y : DataW H × List MemPlace), DataW.trod enc Tryz.prog W base (fun _ => true) held m e ce = some y → (∀ k ∈ DataW.weights Tryz.prog e y.1, k ≤ reachBytes) → ∃ x : α, ce = cs x ∧ ok x)
  {vs : List Value} {x : DataW H × List MemPlace} (h : DataW.trod enc Tryz.prog W base (fun _ => true) held fuel t vs = some x) (hw : ∀ k ∈ DataW.weights Tryz.prog t x.1, k ≤ reachBytes) :
  ∃ (ao : Option Addr) (cap : Nat) (xs : List α), vs = [.slice ao xs.length cap] ∧ LSeg sz cs W.heap.size W (.slice ao xs.length cap) xs ∧ (∀ y ∈ xs, ok y) ∧ xs.length ≤ cap ∧ cap ≤ maxLen ∧ xs.length * Tryz.prog.bytesOf e ≤ 140737488355328 := by
 rcases open_slice ht h with ⟨rfl, _⟩ | ⟨a, len, cap, m, n, D, Pl, rfl, hb, hl, hm, hmm, rfl, hx⟩
 ·exact ⟨none, 0, [], rfl, ⟨none, 0, rfl, by simp, .inl rfl⟩, by simp, by simp, by decide, by simp⟩
 simp only [if_true] at hmm
 have each : ∀ i, i < len → ∃ y : α, (∀ (j : Nat) (u : Value), (cs y)[j]? = some u → W.cell? (a.add (i * sz + j)) = some u) ∧ ok y ∧ (cs y).length = sz := by
  intro i hi
  obtain ⟨ce, h1, h2⟩ := hx i (by omega)
  rw [hc] at h1
  obtain ⟨_, hlen, hcell⟩ := World.cells?_some h1
  obtain ⟨y, rfl, hy⟩ := hone n ce _ h2 (fun k hk => hw k (by
   simp only [DataW.weights, ht]
   refine List.mem_cons_of_mem _ (List.mem_append_left _ (weights_all (d := D i) (List.mem_map.2 ⟨i, List.mem_range.2 hi, rfl⟩) k hk))))
  refine ⟨y, fun j u hu => ?_, hy, hlen⟩
  have hj : j < sz := by rw [← hlen]; exact (List.getElem?_eq_some_iff.1 hu).1
  have := hcell j hj
  rw [add_add] at this
  rw [this, hu]
 have _i : Inhabited α := ⟨dflt⟩
 obtain ⟨Y, hY⟩ := choose_lt each
 have hmem := hw _ (by simp only [DataW.weights, ht]; exact List.mem_cons_self ..)
 simp only [List.length_map, List.length_range, reachBytes] at hmem
 have hlb : len * Tryz.prog.bytesOf e ≤ 140737488355328 := by
  have h2 : len * Tryz.prog.bytesOf e ≤ (len + (m - len)) * Tryz.prog.bytesOf e := Nat.mul_le_mul_right _ (by omega)
  omega
 have hlen : len ≤ 140737488355328 := by
  have h2 : len * 1 ≤ len * Tryz.prog.bytesOf e := Nat.mul_le_mul_left _ hby
  omega
 refine ⟨some a, cap, (List.range len).map Y, by simp, ⟨some a, cap, by simp, by simpa using hlen, ?_⟩, fun y hy => ?_, by simpa using hl, hm, by simpa using hlb⟩
 ·by_cases h0 : len = 0
  ·exact .inl (by simp [h0])
  ·obtain ⟨b, off, spot⟩ := a
   obtain ⟨u0, hu0⟩ : ∃ u, (cs (Y 0))[0]? = some u := ⟨_, List.getElem?_eq_getElem (by rw [(hY 0 (by omega)).2.2]; exact hs0)⟩
   have hc0 := (hY 0 (by omega)).1 0 u0 hu0
   have hspot : spot = none := by simpa [Addr.add] using World.cell?_spot hc0
   subst hspot
   refine .inr ⟨b, off, rfl, ?_, fun i y hy j u hu => ?_⟩
   ·have := World.block_lt_of_cell? W _ hc0
    simpa [add_plain2] using this
   ·have hil : i < len := by
     have := (List.getElem?_eq_some_iff.1 hy).1
     simpa using this
    have hyi : y = Y i := by
     rw [List.getElem?_map, List.getElem?_range hil] at hy
     simpa using hy.symm
    subst hyi
    have := (hY i hil).1 j u hu
    rw [add_plain2] at this
    rw [Nat.add_assoc]; exact this
 ·obtain ⟨i, hi, rfl⟩ := List.mem_map.1 hy
  exact (hY i (by simpa using hi)).2.1
def Ex.cells (e : Ex) : List Value := [.int .i64 e.op, .int .i64 e.n, .slice e.a e.l.length e.c]
theorem one_expr : ∀ (k : Nat) {fuel : Nat} {ce : List Value} {y : DataW H × List MemPlace}, SizeOf.sizeOf y.1 < k → DataW.trod enc Tryz.prog W base (fun _ => true) held fuel 25 ce = some y →
  (∀ n ∈ DataW.weights Tryz.prog 25 y.1, n ≤ reachBytes) → ∃ e : Ex, ce = e.cells ∧ In W e := by
 intro k
 induction k with
 | zero => intro fuel ce y h; omega
 | succ k ih =>
  intro fuel ce y hk hf hsz
  obtain ⟨xs, m, rfl, hx, hl, hxl, hf⟩ := DataW.trod_struct Tryz.underlying25 hf
  rw [Tryz.cells25] at hl
  obtain ⟨c0, c1, c2, rfl⟩ := list3 ce hl
  have f0 : DataW.trod enc Tryz.prog W base (fun _ => true) held m 3 (List.take (Tryz.prog.cellsOf 3) (List.drop 0 [c0, c1, c2])) = xs[(0 : Nat)]? := hf 0 _ rfl
  have f1 : DataW.trod enc Tryz.prog W base (fun _ => true) held m 2 (List.take (Tryz.prog.cellsOf 2) (List.drop 1 [c0, c1, c2])) = xs[(1 : Nat)]? := hf 1 _ rfl
  have f2 : DataW.trod enc Tryz.prog W base (fun _ => true) held m 23 (List.take (Tryz.prog.cellsOf 23) (List.drop 2 [c0, c1, c2])) = xs[(2 : Nat)]? := hf 2 _ rfl
  have hxl : xs.length = 3 := hxl
  obtain ⟨y0, y1, y2, rfl⟩ := list3 xs hxl
  simp only [Tryz.cells2, Tryz.cells3, Tryz.cells23, List.drop_zero, List.drop_succ_cons, List.take_succ_cons, List.take_zero, List.getElem?_cons_zero, List.getElem?_cons_succ] at f0 f1 f2
  obtain ⟨op, e0, _, w0⟩ := DataW.trod_int Tryz.underlying3 f0
  obtain ⟨n, e1, _, w1⟩ := DataW.trod_int Tryz.underlying2 f1
  simp only [List.cons.injEq, and_true] at e0 e1
  subst e0 e1
  subst hx
  simp only [List.map_cons, List.map_nil] at hk hsz
  have hw : ∀ k ∈ DataW.weights Tryz.prog 23 y2.1, k ≤ reachBytes := fun k hk => hsz k (by
   simp only [DataW.weights, Tryz.underlying25]
   exact DataW.weights_mem_each (j := 2) (t := 23) rfl rfl k hk)
  have hk2 : SizeOf.sizeOf y2.1 < k := by
   simp only [DataW.agg.sizeOf_spec, List.cons.sizeOf_spec, List.nil.sizeOf_spec] at hk
   omega
  obtain ⟨b1, b2⟩ := wf_i64 w0
  obtain ⟨b3, b4⟩ := wf_i64 w1
  rcases open_slice Tryz.underlying23 f2 with ⟨hc, _⟩ | ⟨a, len, cap, mm, nn, D, Pl, hc, hb, hle, hm, hmm, hy2, hxx⟩
  ·simp only [List.cons.injEq, and_true] at hc
   subst hc
   exact ⟨⟨op, n, none, 0, []⟩, rfl, In.mk ⟨b1, b2, b3, b4, by simp, by simp, fun i x hx => by simp at hx⟩ (fun x hx => by simp at hx)⟩
  ·simp only [List.cons.injEq, and_true] at hc
   subst hc
   simp only [if_true] at hmm
   have hd : y2.1 = .slice ((List.range len).map D) ((List.range (mm - len)).map fun j => D (len + j)) := by rw [hy2]
   rw [hd] at hw hk2
   have each : ∀ i, i < len → ∃ x : Ex, (∀ (j : Nat) (u : Value), x.cells[j]? = some u → W.cell? (a.add (i * 3 + j)) = some u) ∧ In W x := by
    intro i hi
    obtain ⟨cx, h1, h2⟩ := hxx i (by omega)
    rw [Tryz.cells25] at h1
    obtain ⟨_, hlen, hcell⟩ := World.cells?_some h1
    have hmem : D i ∈ (List.range len).map D := List.mem_map.2 ⟨i, List.mem_range.2 hi, rfl⟩
    obtain ⟨x, rfl, hy⟩ := ih (y := (D i, Pl i)) (by
      have h3 := List.sizeOf_lt_of_mem hmem
      simp only [DataW.slice.sizeOf_spec] at hk2
      simp only
      omega) h2 (fun k hk => hw k (by
     simp only [DataW.weights, Tryz.underlying23]
     exact List.mem_cons_of_mem _ (List.mem_append_left _ (weights_all hmem k hk))))
    refine ⟨x, fun j u hu => ?_, hy⟩
    have hj : j < 3 := by
     have := (List.getElem?_eq_some_iff.1 hu).1
     simpa [Ex.cells] using this
    have := hcell j hj
    rw [add_add] at this
    rw [this, hu]
   have _i : Inhabited Ex := ⟨⟨0, 0, none, 0, []⟩⟩
   obtain ⟨Y, hY⟩ := choose_lt each
   have hmem := hw _ (by simp only [DataW.weights, Tryz.underlying23]; exact List.mem_cons_self ..)
   simp only [List.length_map, List.length_range, reachBytes, Tryz.bytes25] at hmem
   refine ⟨⟨op, n, some a, cap, (List.range len).map Y⟩, by simp [Ex.cells], In.mk ⟨b1, b2, b3, b4, by simp; omega, by simpa using hle, fun i x hx => ?_⟩ (fun x hx => ?_)⟩
   ·have hil : i < len := by
     have := (List.getElem?_eq_some_iff.1 hx).1
     simpa using this
    have hyi : x = Y i := by
     simp only at hx
     rw [List.getElem?_map, List.getElem?_range hil] at hx
     simpa using hx.symm
    subst hyi
    obtain ⟨b, off, spot⟩ := a
    have q0 := (hY i hil).1 0 _ rfl
    have q1 := (hY i hil).1 1 _ rfl
    have q2 := (hY i hil).1 2 _ rfl
    have hspot : spot = none := by
     have g0 := (hY 0 (by omega)).1 0 _ rfl
     simpa [Addr.add] using World.cell?_spot g0
    subst hspot
    rw [add_plain] at q0 q1 q2
    exact ⟨b, off, rfl, q0, q1, q2⟩
   ·obtain ⟨i, hi, rfl⟩ := List.mem_map.1 hx
    exact (hY i (by simpa using hi)).2
theorem one_int {m : Nat} {ce : List Value} {y : DataW H × List MemPlace} (h : DataW.trod enc Tryz.prog W base (fun _ => true) held m 3 ce = some y) : ∃ x : Int, ce = ic x ∧ True := by
 obtain ⟨n, e, _, w⟩ := DataW.trod_int Tryz.underlying3 h
 exact ⟨n, e, trivial⟩
def NdOk (W : World) (n : Nd) : Prop := In W n.e ∧ LSeg 1 ic W.heap.size W (.slice n.ia n.ins.length n.ic) n.ins
theorem one_node {m : Nat} {ce : List Value} {y : DataW H × List MemPlace} (h : DataW.trod enc Tryz.prog W base (fun _ => true) held m 29 ce = some y) (hsz : ∀ n ∈ DataW.weights Tryz.prog 29 y.1, n ≤ reachBytes) : ∃ n : Nd, ce = n.cs ∧ NdOk W n := by
 obtain ⟨xs, k, rfl, hx, hl, hxl, hf⟩ := DataW.trod_struct Tryz.underlying29 h
 rw [Tryz.cells29] at hl
 obtain ⟨c0, c1, c2, c3, c4, c5, c6, c7, c8, c9, rfl⟩ := list10 ce hl
 have f0 : DataW.trod enc Tryz.prog W base (fun _ => true) held k 3 (List.take (Tryz.prog.cellsOf 3) (List.drop 0 [c0, c1, c2, c3, c4, c5, c6, c7, c8, c9])) = xs[(0 : Nat)]? := hf 0 _ rfl
 have f1 : DataW.trod enc Tryz.prog W base (fun _ => true) held k 22 (List.take (Tryz.prog.cellsOf 22) (List.drop 1 [c0, c1, c2, c3, c4, c5, c6, c7, c8, c9])) = xs[(1 : Nat)]? := hf 1 _ rfl
 have f2 : DataW.trod enc Tryz.prog W base (fun _ => true) held k 3 (List.take (Tryz.prog.cellsOf 3) (List.drop 2 [c0, c1, c2, c3, c4, c5, c6, c7, c8, c9])) = xs[(2 : Nat)]? := hf 2 _ rfl
 have f3 : DataW.trod enc Tryz.prog W base (fun _ => true) held k 25 (List.take (Tryz.prog.cellsOf 25) (List.drop 3 [c0, c1, c2, c3, c4, c5, c6, c7, c8, c9])) = xs[(3 : Nat)]? := hf 3 _ rfl
 have f4 : DataW.trod enc Tryz.prog W base (fun _ => true) held k 3 (List.take (Tryz.prog.cellsOf 3) (List.drop 6 [c0, c1, c2, c3, c4, c5, c6, c7, c8, c9])) = xs[(4 : Nat)]? := hf 4 _ rfl
 have f5 : DataW.trod enc Tryz.prog W base (fun _ => true) held k 27 (List.take (Tryz.prog.cellsOf 27) (List.drop 7 [c0, c1, c2, c3, c4, c5, c6, c7, c8, c9])) = xs[(5 : Nat)]? := hf 5 _ rfl
 have hxl : xs.length = 6 := hxl
 obtain ⟨y0, y1, y2, y3, y4, y5, rfl⟩ := list6 xs hxl
 simp only [Tryz.cells3, Tryz.cells22, Tryz.cells25, Tryz.cells27, List.drop_zero, List.drop_succ_cons, List.take_succ_cons, List.take_zero, List.getElem?_cons_zero, List.getElem?_cons_succ] at f0 f1 f2 f3 f4 f5
 obtain ⟨kd, e0, _, _⟩ := DataW.trod_int Tryz.underlying3 f0
 obtain ⟨pa, e2, _, _⟩ := DataW.trod_int Tryz.underlying3 f2
 obtain ⟨ag, e4, _, _⟩ := DataW.trod_int Tryz.underlying3 f4
 simp only [List.cons.injEq, and_true] at e0 e2 e4
 subst e0 e2 e4
 subst hx
 simp only [List.map_cons, List.map_nil] at hsz
 have hw1 : ∀ k ∈ DataW.weights Tryz.prog 22 y1.1, k ≤ reachBytes := fun k hk => hsz k (by
  simp only [DataW.weights, Tryz.underlying29]
  exact DataW.weights_mem_each (j := 1) (t := 22) rfl rfl k hk)
 have hw3 : ∀ k ∈ DataW.weights Tryz.prog 25 y3.1, k ≤ reachBytes := fun k hk => hsz k (by
  simp only [DataW.weights, Tryz.underlying29]
  exact DataW.weights_mem_each (j := 3) (t := 25) rfl rfl k hk)
 obtain ⟨ao, cap, is, ei, hi, _, _, _, _⟩ := open_lseg (0 : Int) (cs := ic) (ok := fun _ => True) Tryz.underlying22 Tryz.cells3 (by decide) (by rw [Tryz.bytes3]; decide) (fun _ _ _ h _ => one_int h) f1 hw1
 simp only [List.cons.injEq, and_true] at ei
 subst ei
 obtain ⟨ex, ee, hex⟩ := one_expr (SizeOf.sizeOf y3.1 + 1) (Nat.lt_succ_self _) f3 hw3
 obtain ⟨zs, k', _, _, _, hzl, hg⟩ := DataW.trod_struct Tryz.underlying27 f5
 have g0 : DataW.trod enc Tryz.prog W base (fun _ => true) held k' 3 (List.take (Tryz.prog.cellsOf 3) (List.drop 0 [c7, c8, c9])) = zs[(0 : Nat)]? := hg 0 _ rfl
 have g1 : DataW.trod enc Tryz.prog W base (fun _ => true) held k' 2 (List.take (Tryz.prog.cellsOf 2) (List.drop 1 [c7, c8, c9])) = zs[(1 : Nat)]? := hg 1 _ rfl
 have g2 : DataW.trod enc Tryz.prog W base (fun _ => true) held k' 2 (List.take (Tryz.prog.cellsOf 2) (List.drop 2 [c7, c8, c9])) = zs[(2 : Nat)]? := hg 2 _ rfl
 have hzl : zs.length = 3 := hzl
 obtain ⟨z0, z1, z2, rfl⟩ := list3 zs hzl
 simp only [Tryz.cells3, Tryz.cells2, List.drop_zero, List.drop_succ_cons, List.take_succ_cons, List.take_zero, List.getElem?_cons_zero, List.getElem?_cons_succ] at g0 g1 g2
 obtain ⟨wk, e7, _, _⟩ := DataW.trod_int Tryz.underlying3 g0
 obtain ⟨ws, e8, _, _⟩ := DataW.trod_int Tryz.underlying2 g1
 obtain ⟨wl, e9, _, _⟩ := DataW.trod_int Tryz.underlying2 g2
 simp only [List.cons.injEq, and_true] at e7 e8 e9
 subst e7 e8 e9
 unfold Ex.cells at ee
 simp only [List.cons.injEq, and_true] at ee
 obtain ⟨rfl, rfl, rfl⟩ := ee
 exact ⟨⟨kd, ao, cap, is, pa, ex, ag, wk, ws, wl⟩, rfl, hex, hi⟩
end
end Go.Proofs.YtpcbhcdpegbfjaaGreat.J
