/-
  Texts in build order: SOpenA.
-/
import Derived.Test.YtpcbhcdpegbfjaaGreatRows
import Derived.Test.YtpcbhcdpegbfjaaGreatM12
import Derived.ProofKit
import Derived.OpenShut
import Derived.SizedLaws
import Derived.Deep.Slices
/-
 Readings: windows, records, panes, numbers, opened.
-/
namespace Go.Proofs.YtpcbhcdpegbfjaaGreat
set_option maxHeartbeats 16000000
set_option maxRecDepth 100000
open Go.ChangeShapes Go.WideShapes Go.ChangeAt Go.WideMaps Go.WideElems Go.RowKit Go.Deep
theorem Tryz.own : ownKnob Tryz.prog.godebug = none := by kernel_rfl
theorem Tryz.bytesI : Tryz.prog.bytesOf 2 = 8 := by kernel_rfl
theorem Tryz.cellsN : Tryz.prog.cellsOf 3 = 1 := by kernel_rfl
theorem Tryz.cellsW : Tryz.prog.cellsOf 27 = 3 := by kernel_rfl
theorem Tryz.cellsR : Tryz.prog.cellsOf 38 = 3 := by kernel_rfl
theorem Tryz.bytesR : Tryz.prog.bytesOf 38 = 24 := by kernel_rfl
theorem Tryz.cellsS : Tryz.prog.cellsOf 72 = 2 := by kernel_rfl
theorem Tryz.cellsP : Tryz.prog.cellsOf 79 = 4 := by kernel_rfl
theorem Tryz.bytesP : Tryz.prog.bytesOf 79 = 32 := by kernel_rfl
theorem list3 {α : Type} (l : List α) (h : l.length = 3) : ∃ a b c, l = [a, b, c] := by
 match l, h with
 | [a, b, c], _ => exact ⟨a, b, c, rfl⟩
theorem weights_all {H : Type} {P : Program} {e : TypeId} {ds : List (DataW H)} {d : DataW H} (h : d ∈ ds) : ∀ n ∈ d.weights P e, n ∈ DataW.weightsAll P e ds := by
 induction ds with
 | nil => cases h
 | cons a r ih =>
  intro n hn
  simp only [DataW.weightsAll]
  rcases List.mem_cons.1 h with rfl | h
  ·exact List.mem_append_left _ hn
  ·exact List.mem_append_right _ (ih h n hn)
section
variable {H : Type} {enc : TypeId × Value → H} {W : World} {base b0 : Nat} {held : Bool} {fuel : Nat}
theorem open_lseg {α : Type} (dflt : α) {t e sz : Nat} {cs : α → List Value} {ok : α → Prop} (ht : Tryz.prog.underlying t = some (.slice e)) (hc : Tryz.prog.cellsOf e = sz) (hs0 : 0 < sz) (hby : 1 ≤ Tryz.prog.bytesOf e)
  (hone : ∀ (m : Nat) (ce : List Value) (y : DataW H × List MemPlace), DataW.trod enc Tryz.prog W base (fun _ => true) held m e ce = some y → (∀ k ∈ DataW.weights Tryz.prog e y.1, k ≤ reachBytes) → ∃ x : α, ce = cs x ∧ ok x)
  {vs : List Value} {x : DataW H × List MemPlace} (h : DataW.trod enc Tryz.prog W base (fun _ => true) held fuel t vs = some x) (hw : ∀ k ∈ DataW.weights Tryz.prog t x.1, k ≤ reachBytes) :
  ∃ (ao : Option Addr) (cap : Nat) (xs : List α), vs = [.slice ao xs.length cap] ∧ LSeg sz cs W.heap.size W (.slice ao xs.length cap) xs ∧ (∀ y ∈ xs, ok y) ∧ xs.length ≤ cap ∧ cap ≤ maxLen ∧ xs.length * Tryz.prog.bytesOf e ≤ 140737488355328 := by
 rcases open_slice ht h with ⟨rfl, _⟩ | ⟨a, len, cap, m, n, D, Pl, rfl, hb, hl, hm, hmm, rfl, hx⟩
 ·exact ⟨none, 0, [], rfl, ⟨none, 0, rfl, by simp, .inl rfl⟩, by simp, by simp, by decide, by simp⟩
 simp only [if_true] at hmm
 have each : ∀ i, i < len → ∃ y : α, (∀ (j : Nat) (u : Value), (cs y)[j]? = some u → W.cell? (a.add (i * sz + j)) = some u) ∧ ok y ∧ (cs y).length = sz := by
  intro i hi
  obtain ⟨ce, h1, h2⟩ := hx i (by omega)
  rw [hc] at h1
  obtain ⟨_, hlen, hcell⟩ := World.cells?_some h1
  obtain ⟨y, rfl, hy⟩ := hone n ce _ h2 (fun k hk => hw k (by
   simp only [DataW.weights, ht]
   refine List.mem_cons_of_mem _ (List.mem_append_left _ (weights_all (d := D i) (List.mem_map.2 ⟨i, List.mem_range.2 hi, rfl⟩) k hk))))
  refine ⟨y, fun j u hu => ?_, hy, hlen⟩
  have hj : j < sz := by rw [← hlen]; exact (List.getElem?_eq_some_iff.1 hu).1
  have := hcell j hj
  rw [add_add] at this
  rw [this, hu]
 have _i : Inhabited α := ⟨dflt⟩
 obtain ⟨Y, hY⟩ := choose_lt each
 have hmem := hw _ (by simp only [DataW.weights, ht]; exact List.mem_cons_self ..)
 simp only [List.length_map, List.length_range, reachBytes] at hmem
 have hlb : len * Tryz.prog.bytesOf e ≤ 140737488355328 := by
  have h2 : len * Tryz.prog.bytesOf e ≤ (len + (m - len)) * Tryz.prog.bytesOf e := Nat.mul_le_mul_right _ (by omega)
  omega
 have hlen : len ≤ 140737488355328 := by
  have h2 : len * 1 ≤ len * Tryz.prog.bytesOf e := Nat.mul_le_mul_left _ hby
  omega
 refine ⟨some a, cap, (List.range len).map Y, by simp, ⟨some a, cap, by simp, by simpa using hlen, ?_⟩, fun y hy => ?_, by simpa using hl, hm, by simpa using hlb⟩
 ·by_cases h0 : len = 0
  ·exact .inl (by simp [h0])
  ·obtain ⟨b, off, spot⟩ := a
   obtain ⟨u0, hu0⟩ : ∃ u, (cs (Y 0))[0]? = some u := ⟨_, List.getElem?_eq_getElem (by rw [(hY 0 (by omega)).2.2]; exact hs0)⟩
   have hc0 := (hY 0 (by omega)).1 0 u0 hu0
   have hspot : spot = none := by simpa [Addr.add] using World.cell?_spot hc0
   subst hspot
   refine .inr ⟨b, off, rfl, ?_, fun i y hy j u hu => ?_⟩
   ·have := World.block_lt_of_cell? W _ hc0
    simpa [add_plain2] using this
   ·have hil : i < len := by
     have := (List.getElem?_eq_some_iff.1 hy).1
     simpa using this
    have hyi : y = Y i := by
     rw [List.getElem?_map, List.getElem?_range hil] at hy
     simpa using hy.symm
    subst hyi
    have := (hY i hil).1 j u hu
    rw [add_plain2] at this
    rw [Nat.add_assoc]; exact this
 ·obtain ⟨i, hi, rfl⟩ := List.mem_map.1 hy
  exact (hY i (by simpa using hi)).2.1
def RcIn (r : Rc) : Prop := In64 r.k ∧ In64 r.t ∧ In64 r.v
theorem one_rec {m : Nat} {ce : List Value} {y : DataW H × List MemPlace} (h : DataW.trod enc Tryz.prog W base (fun _ => true) held m 38 ce = some y) : ∃ r : Rc, ce = r.cs ∧ RcIn r := by
 obtain ⟨xs, k, rfl, hx, hl, hxl, hf⟩ := DataW.trod_struct Tryz.underlying38 h
 rw [Tryz.cellsR] at hl
 obtain ⟨c0, c1, c2, rfl⟩ := list3 ce hl
 have f0 : DataW.trod enc Tryz.prog W base (fun _ => true) held k 2 (List.take (Tryz.prog.cellsOf 2) (List.drop 0 [c0, c1, c2])) = xs[(0 : Nat)]? := hf 0 _ rfl
 have f1 : DataW.trod enc Tryz.prog W base (fun _ => true) held k 2 (List.take (Tryz.prog.cellsOf 2) (List.drop 1 [c0, c1, c2])) = xs[(1 : Nat)]? := hf 1 _ rfl
 have f2 : DataW.trod enc Tryz.prog W base (fun _ => true) held k 2 (List.take (Tryz.prog.cellsOf 2) (List.drop 2 [c0, c1, c2])) = xs[(2 : Nat)]? := hf 2 _ rfl
 have hxl : xs.length = 3 := hxl
 obtain ⟨y0, y1, y2, rfl⟩ := list3 xs hxl
 simp only [Tryz.cellsI, List.drop_zero, List.drop_succ_cons, List.take_succ_cons, List.take_zero, List.getElem?_cons_zero, List.getElem?_cons_succ] at f0 f1 f2
 obtain ⟨a, e0, _, w0⟩ := DataW.trod_int Tryz.underlying2 f0
 obtain ⟨b, e1, _, w1⟩ := DataW.trod_int Tryz.underlying2 f1
 obtain ⟨c, e2, _, w2⟩ := DataW.trod_int Tryz.underlying2 f2
 simp only [List.cons.injEq, and_true] at e0 e1 e2
 subst e0 e1 e2
 exact ⟨⟨a, b, c⟩, rfl, in64_of_wf w0, in64_of_wf w1, in64_of_wf w2⟩
theorem one_int {m : Nat} {ce : List Value} {y : DataW H × List MemPlace} (h : DataW.trod enc Tryz.prog W base (fun _ => true) held m 2 ce = some y) : ∃ x : Int, ce = i64cs x ∧ In64 x := by
 obtain ⟨n, e, _, w⟩ := DataW.trod_int Tryz.underlying2 h
 exact ⟨n, e, in64_of_wf w⟩
end
end Go.Proofs.YtpcbhcdpegbfjaaGreat
