/-
  Readings: a script of steps, a list of bytes, opened.
-/
import Derived.Test.YteafnohponbbeaaRows
import Derived.Test.YteafnohponbbeaaKHelp
import Derived.ProofKit
import Derived.OpenShut
import Derived.SizedLaws
import Derived.Deep.Slices
namespace Go.Proofs.Yteafnohponbbeaa
open Go.ChangeShapes Go.WideShapes Go.ChangeAt Go.WideMaps Go.WideElems Go.RowKit Go.Deep

theorem Try.own : ownKnob Try.prog.godebug = none := by kernel_rfl
theorem Try.laidOut : laidOutB Try.prog = true := by kernel_rfl
theorem Try.cells2 : Try.prog.cellsOf 2 = 1 := by kernel_rfl
theorem Try.cells3 : Try.prog.cellsOf 3 = 1 := by kernel_rfl
theorem Try.cells5 : Try.prog.cellsOf 5 = 1 := by kernel_rfl
theorem Try.cells29 : Try.prog.cellsOf 29 = 1 := by kernel_rfl
theorem Try.cells32 : Try.prog.cellsOf 32 = 1 := by kernel_rfl
theorem Try.cells39 : Try.prog.cellsOf 39 = 3 := by kernel_rfl
theorem Try.cells34 : Try.prog.cellsOf 34 = 4 := by kernel_rfl
theorem Try.bytes5 : Try.prog.bytesOf 5 = 1 := by kernel_rfl
theorem Try.bytes39 : Try.prog.bytesOf 39 = 24 := by kernel_rfl
theorem Try.bytes34 : Try.prog.bytesOf 34 = 48 := by kernel_rfl
def u8cs (x : Nat) : List Value := [.int .u8 (x : Int)]
theorem u8cs_len (x : Nat) : (u8cs x).length = 1 := rfl
theorem list3 {α : Type} (l : List α) (h : l.length = 3) : ∃ c0 c1 c2, l = [c0, c1, c2] := by
  match l, h with
  | [c0, c1, c2], _ => exact ⟨c0, c1, c2, rfl⟩
theorem list4 {α : Type} (l : List α) (h : l.length = 4) : ∃ c0 c1 c2 c3, l = [c0, c1, c2, c3] := by
  match l, h with
  | [c0, c1, c2, c3], _ => exact ⟨c0, c1, c2, c3, rfl⟩
theorem in64_wf {x : Int} (w : (Lit.int .i64 x).wf = true) : In64 x := by
  simp only [Lit.wf, Bool.and_eq_true, decide_eq_true_eq] at w
  have h1 : IntKind.i64.min = -9223372036854775808 := rfl
  have h2 : IntKind.i64.max = 9223372036854775807 := rfl
  unfold In64
  omega
theorem weights_all {H : Type} {P : Program} {e : TypeId} {ds : List (DataW H)} {d : DataW H} (h : d ∈ ds) : ∀ n ∈ d.weights P e, n ∈ DataW.weightsAll P e ds := by
  induction ds with
  | nil => cases h
  | cons a r ih =>
    intro n hn
    simp only [DataW.weightsAll]
    rcases List.mem_cons.1 h with rfl | h
    · exact List.mem_append_left _ hn
    · exact List.mem_append_right _ (ih h n hn)
section
variable {H : Type} {enc : TypeId × Value → H} {W : World} {base b0 : Nat} {held : Bool} {fuel : Nat}
/-- A slice whose elements open to things of one kind. -/
theorem open_lseg {α : Type} (dflt : α) {t e sz : Nat} {cs : α → List Value} {ok : α → Prop} (ht : Try.prog.underlying t = some (.slice e)) (hc : Try.prog.cellsOf e = sz) (hs0 : 0 < sz) (hby : 1 ≤ Try.prog.bytesOf e)
    (hone : ∀ (m : Nat) (ce : List Value) (y : DataW H × List MemPlace), DataW.trod enc Try.prog W base (fun _ => true) held m e ce = some y → (∀ k ∈ DataW.weights Try.prog e y.1, k ≤ reachBytes) → ∃ x : α, ce = cs x ∧ ok x)
    {vs : List Value} {x : DataW H × List MemPlace} (h : DataW.trod enc Try.prog W base (fun _ => true) held fuel t vs = some x) (hw : ∀ k ∈ DataW.weights Try.prog t x.1, k ≤ reachBytes) :
    ∃ (ao : Option Addr) (cap : Nat) (xs : List α), vs = [.slice ao xs.length cap] ∧ LSeg sz cs W.heap.size W (.slice ao xs.length cap) xs ∧ (∀ y ∈ xs, ok y) ∧ xs.length ≤ cap ∧ cap ≤ maxLen ∧ xs.length * Try.prog.bytesOf e ≤ 140737488355328 := by
  rcases open_slice ht h with ⟨rfl, _⟩ | ⟨a, len, cap, m, n, D, Pl, rfl, hb, hl, hm, hmm, rfl, hx⟩
  · exact ⟨none, 0, [], rfl, ⟨none, 0, rfl, by simp, .inl rfl⟩, by simp, by simp, by decide, by simp⟩
  simp only [if_true] at hmm
  have each : ∀ i, i < len → ∃ y : α, (∀ (j : Nat) (u : Value), (cs y)[j]? = some u → W.cell? (a.add (i * sz + j)) = some u) ∧ ok y ∧ (cs y).length = sz := by
    intro i hi
    obtain ⟨ce, h1, h2⟩ := hx i (by omega)
    rw [hc] at h1
    obtain ⟨_, hlen, hcell⟩ := World.cells?_some h1
    obtain ⟨y, rfl, hy⟩ := hone n ce _ h2 (fun k hk => hw k (by
      simp only [DataW.weights, ht]
      refine List.mem_cons_of_mem _ (List.mem_append_left _ (weights_all (d := D i) (List.mem_map.2 ⟨i, List.mem_range.2 hi, rfl⟩) k hk))))
    refine ⟨y, fun j u hu => ?_, hy, hlen⟩
    have hj : j < sz := by rw [← hlen]; exact (List.getElem?_eq_some_iff.1 hu).1
    have := hcell j hj
    rw [add_add] at this
    rw [this, hu]
  have _i : Inhabited α := ⟨dflt⟩
  obtain ⟨Y, hY⟩ := choose_lt each
  have hmem := hw _ (by simp only [DataW.weights, ht]; exact List.mem_cons_self ..)
  simp only [List.length_map, List.length_range, reachBytes] at hmem
  have hlb : len * Try.prog.bytesOf e ≤ 140737488355328 := by
    have h2 : len * Try.prog.bytesOf e ≤ (len + (m - len)) * Try.prog.bytesOf e := Nat.mul_le_mul_right _ (by omega)
    omega
  have hlen : len ≤ 140737488355328 := by
    have h2 : len * 1 ≤ len * Try.prog.bytesOf e := Nat.mul_le_mul_left _ hby
    omega
  refine ⟨some a, cap, (List.range len).map Y, by simp, ⟨some a, cap, by simp, by simpa using hlen, ?_⟩, fun y hy => ?_, by simpa using hl, hm, by simpa using hlb⟩
  · by_cases h0 : len = 0
    · exact .inl (by simp [h0])
    · obtain ⟨b, off, spot⟩ := a
      obtain ⟨u0, hu0⟩ : ∃ u, (cs (Y 0))[0]? = some u := ⟨_, List.getElem?_eq_getElem (by rw [(hY 0 (by omega)).2.2]; exact hs0)⟩
      have hc0 := (hY 0 (by omega)).1 0 u0 hu0
      have hspot : spot = none := by simpa [Addr.add] using World.cell?_spot hc0
      subst hspot
      refine .inr ⟨b, off, rfl, ?_, fun i y hy j u hu => ?_⟩
      · have := World.block_lt_of_cell? W _ hc0
        simpa [add_plain2] using this
      · have hil : i < len := by
          have := (List.getElem?_eq_some_iff.1 hy).1
          simpa using this
        have hyi : y = Y i := by
          rw [List.getElem?_map, List.getElem?_range hil] at hy
          simpa using hy.symm
        subst hyi
        have := (hY i hil).1 j u hu
        rw [add_plain2] at this
        rw [Nat.add_assoc]; exact this
  · obtain ⟨i, hi, rfl⟩ := List.mem_map.1 hy
    exact (hY i (by simpa using hi)).2.1
set_option maxRecDepth 100000 in
theorem one_rc {m : Nat} {ce : List Value} {y : DataW H × List MemPlace} (h : DataW.trod enc Try.prog W base (fun _ => true) held m 39 ce = some y) : ∃ x : Rc, ce = x.cs ∧ True := by
  obtain ⟨xs, k, rfl, hx, hl, hxl, hf⟩ := DataW.trod_struct Try.underlying39 h
  rw [Try.cells39] at hl
  obtain ⟨c0, c1, c2, rfl⟩ := list3 ce hl
  have f0 : DataW.trod enc Try.prog W base (fun _ => true) held k 2 (List.take (Try.prog.cellsOf 2) (List.drop 0 [c0, c1, c2])) = xs[(0 : Nat)]? := hf 0 _ rfl
  have f1 : DataW.trod enc Try.prog W base (fun _ => true) held k 2 (List.take (Try.prog.cellsOf 2) (List.drop 1 [c0, c1, c2])) = xs[(1 : Nat)]? := hf 1 _ rfl
  have f2 : DataW.trod enc Try.prog W base (fun _ => true) held k 2 (List.take (Try.prog.cellsOf 2) (List.drop 2 [c0, c1, c2])) = xs[(2 : Nat)]? := hf 2 _ rfl
  have hxl : xs.length = 3 := hxl
  obtain ⟨y0, y1, y2, rfl⟩ := list3 xs hxl
  simp only [Try.cells2, List.drop_zero, List.drop_succ_cons, List.take_succ_cons, List.take_zero, List.getElem?_cons_zero, List.getElem?_cons_succ] at f0 f1 f2
  obtain ⟨a, e0, _, w0⟩ := DataW.trod_int Try.underlying2 f0
  obtain ⟨b, e1, _, w1⟩ := DataW.trod_int Try.underlying2 f1
  obtain ⟨c, e2, _, w2⟩ := DataW.trod_int Try.underlying2 f2
  simp only [List.cons.injEq, and_true] at e0 e1 e2
  subst e0 e1 e2
  exact ⟨⟨a, b, c⟩, rfl, trivial⟩
set_option maxRecDepth 100000 in
theorem one_step {m : Nat} {ce : List Value} {y : DataW H × List MemPlace} (h : DataW.trod enc Try.prog W base (fun _ => true) held m 34 ce = some y) (hw : ∀ k ∈ DataW.weights Try.prog 34 y.1, k ≤ reachBytes) : ∃ x : Stp, ce = Stp.cs x ∧ StOk W.heap.size W x := by
  obtain ⟨xs, k, rfl, hx, hl, hxl, hf⟩ := DataW.trod_struct Try.underlying34 h
  subst hx
  rw [Try.cells34] at hl
  obtain ⟨c0, c1, c2, c3, rfl⟩ := list4 ce hl
  have f0 : DataW.trod enc Try.prog W base (fun _ => true) held k 3 (List.take (Try.prog.cellsOf 3) (List.drop 0 [c0, c1, c2, c3])) = xs[(0 : Nat)]? := hf 0 _ rfl
  have f1 : DataW.trod enc Try.prog W base (fun _ => true) held k 3 (List.take (Try.prog.cellsOf 3) (List.drop 1 [c0, c1, c2, c3])) = xs[(1 : Nat)]? := hf 1 _ rfl
  have f2 : DataW.trod enc Try.prog W base (fun _ => true) held k 32 (List.take (Try.prog.cellsOf 32) (List.drop 2 [c0, c1, c2, c3])) = xs[(2 : Nat)]? := hf 2 _ rfl
  have f3 : DataW.trod enc Try.prog W base (fun _ => true) held k 29 (List.take (Try.prog.cellsOf 29) (List.drop 3 [c0, c1, c2, c3])) = xs[(3 : Nat)]? := hf 3 _ rfl
  have hxl : xs.length = 4 := hxl
  obtain ⟨y0, y1, y2, y3, rfl⟩ := list4 xs hxl
  simp only [Try.cells3, Try.cells32, Try.cells29, List.drop_zero, List.drop_succ_cons, List.take_succ_cons, List.take_zero, List.getElem?_cons_zero, List.getElem?_cons_succ] at f0 f1 f2 f3
  obtain ⟨a, e0, _, _⟩ := DataW.trod_int Try.underlying3 f0
  obtain ⟨b, e1, _, w1⟩ := DataW.trod_int Try.underlying3 f1
  obtain ⟨n, e2, _, w2⟩ := DataW.trod_int Try.underlying32 f2
  obtain ⟨ao, cap, ms, e3, h3, _⟩ := open_lseg (⟨0, 0, 0⟩ : Rc) (cs := Rc.cs) (ok := fun _ => True) Try.underlying29 Try.cells39 (by decide) (by rw [Try.bytes39]; decide) (fun _ _ _ h _ => one_rc h) f3 (fun n hn => hw n (by
    simp only [DataW.weights, Try.underlying34, List.map_cons, List.map_nil]
    exact DataW.weights_mem_each (j := 3) (t := 29) (d := y3.1) rfl rfl n hn))
  have hn : 0 ≤ n := by
    simp only [Lit.wf, Bool.and_eq_true, decide_eq_true_eq] at w2
    have h1 : IntKind.u64.min = 0 := rfl
    omega
  simp only [List.cons.injEq, and_true] at e0 e1 e2 e3
  subst e0 e1 e2 e3
  exact ⟨⟨a, b, n.toNat, ao, cap, ms⟩, by unfold Stp.cs Stp.v; rw [Int.toNat_of_nonneg hn], h3, in64_wf w1⟩
set_option maxRecDepth 100000 in
theorem open_steps {v : Value} {d : DataW H} {p : List MemPlace} (hv : Value.okWide Try.prog W .any b0 22 v) (h : DataW.Trod enc Try.prog W base (fun _ => true) held 22 v d p)
    (hsz : ∀ n ∈ d.weights Try.prog 22, n ≤ reachBytes) : ∃ xs : List Stp, StsIn W.heap.size W v xs := by
  obtain ⟨a0, len, cap, rfl⟩ := okWide_slice Try.underlying22 hv
  obtain ⟨fuel, hf⟩ := h
  obtain ⟨ao, cap, xs, e, h1, h2, h3, h4, h5⟩ := open_lseg (⟨0, 0, 0, none, 0, []⟩ : Stp) (cs := Stp.cs) (ok := fun x => StOk W.heap.size W x) Try.underlying22 Try.cells34 (by decide) (by rw [Try.bytes34]; decide) (fun _ _ _ h hw => one_step h hw) hf hsz
  simp [Value.cells] at e
  obtain ⟨rfl, rfl, rfl⟩ := e
  exact ⟨xs, h1, h2⟩
theorem one_u8 {m : Nat} {ce : List Value} {y : DataW H × List MemPlace} (h : DataW.trod enc Try.prog W base (fun _ => true) held m 5 ce = some y) : ∃ x : Nat, ce = u8cs x ∧ x < 256 := by
  obtain ⟨n, e, _, w⟩ := DataW.trod_int Try.underlying5 h
  simp only [Lit.wf, Bool.and_eq_true, decide_eq_true_eq] at w
  have h1 : 0 ≤ n ∧ n < 256 := by
    have h1 : IntKind.u8.min = 0 := rfl
    have h2 : IntKind.u8.max = 255 := rfl
    omega
  exact ⟨n.toNat, by rw [e]; unfold u8cs; rw [Int.toNat_of_nonneg (by omega)], by omega⟩
theorem open_u8s {v : Value} {d : DataW H} {p : List MemPlace} (hv : Value.okWide Try.prog W .any b0 52 v) (h : DataW.Trod enc Try.prog W base (fun _ => true) held 52 v d p)
    (hsz : ∀ n ∈ d.weights Try.prog 52, n ≤ reachBytes) : ∃ (ao : Option Addr) (cap : Nat) (xs : List Nat), v = .slice ao xs.length cap ∧ LSeg 1 u8cs W.heap.size W v xs ∧ ∀ x ∈ xs, x < 256 := by
  obtain ⟨a0, len, cap, rfl⟩ := okWide_slice Try.underlying52 hv
  obtain ⟨fuel, hf⟩ := h
  obtain ⟨ao, cap, xs, e, h1, h2, h3, h4, h5⟩ := open_lseg (0 : Nat) (cs := u8cs) (ok := fun x => x < 256) Try.underlying52 Try.cells5 (by decide) (by rw [Try.bytes5]; decide) (fun _ _ _ h _ => one_u8 h) hf hsz
  simp [Value.cells] at e
  obtain ⟨rfl, rfl, rfl⟩ := e
  exact ⟨_, _, xs, rfl, h1, h2⟩
end
end Go.Proofs.Yteafnohponbbeaa
