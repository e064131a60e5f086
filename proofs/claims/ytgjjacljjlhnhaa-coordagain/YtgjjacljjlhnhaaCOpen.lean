/-
  Readings: messages, steps, bytes, opened.
-/
import Derived.Test.YtgjjacljjlhnhaaRows
import Derived.Test.YtgjjacljjlhnhaaCReady
import Derived.ProofKit
import Derived.OpenShut
import Derived.SizedLaws
import Derived.Deep.Slices
namespace Go.Proofs.Ytgjjacljjlhnhaa
open Go.ChangeShapes Go.WideShapes Go.ChangeAt Go.WideMaps Go.WideElems Go.RowKit Go.Deep

theorem Try.own : ownKnob Try.prog.godebug = none := by kernel_rfl
theorem Try.laidOut : laidOutB Try.prog = true := by kernel_rfl
theorem Try.cells3 : Try.prog.cellsOf 3 = 1 := by kernel_rfl
theorem Try.cells4 : Try.prog.cellsOf 4 = 1 := by kernel_rfl
theorem Try.cells5 : Try.prog.cellsOf 5 = 1 := by kernel_rfl
theorem Try.cells30 : Try.prog.cellsOf 30 = 1 := by kernel_rfl
theorem Try.cells32 : Try.prog.cellsOf 32 = 4 := by kernel_rfl
theorem Try.cells46 : Try.prog.cellsOf 46 = 10 := by kernel_rfl
theorem Try.bytes5 : Try.prog.bytesOf 5 = 1 := by kernel_rfl
theorem Try.bytes32 : Try.prog.bytesOf 32 = 32 := by kernel_rfl
theorem Try.bytes46 : Try.prog.bytesOf 46 = 72 := by kernel_rfl
def u8cs (x : Nat) : List Value := [.int .u8 (x : Int)]
theorem list7 {α : Type} (l : List α) (h : l.length = 7) : ∃ c0 c1 c2 c3 c4 c5 c6, l = [c0, c1, c2, c3, c4, c5, c6] := by
  match l, h with
  | [c0, c1, c2, c3, c4, c5, c6], _ => exact ⟨c0, c1, c2, c3, c4, c5, c6, rfl⟩
theorem list10 {α : Type} (l : List α) (h : l.length = 10) : ∃ c0 c1 c2 c3 c4 c5 c6 c7 c8 c9, l = [c0, c1, c2, c3, c4, c5, c6, c7, c8, c9] := by
  match l, h with
  | [c0, c1, c2, c3, c4, c5, c6, c7, c8, c9], _ => exact ⟨c0, c1, c2, c3, c4, c5, c6, c7, c8, c9, rfl⟩
/-- A step of a script. -/
structure Stp where
  wh : Int
  m : Ct
  n : Nat
  fr : Nat
  la : Nat
  ok : Bool
  ow : Bool
def Stp.cs (x : Stp) : List Value := [.int .i64 x.wh, .int .i64 x.m.kind, .int .u64 (x.m.ep : Int), .int .u64 (x.m.n : Int), .int .i64 x.m.task, .int .u64 (x.n : Int), .int .u64 (x.fr : Int), .int .u64 (x.la : Int), .bool x.ok, .bool x.ow]
theorem Stp.cs_len (x : Stp) : x.cs.length = 10 := rfl
theorem u64_nat {n : Int} (w : (Lit.int .u64 n).wf = true) : ∃ k : Nat, n = (k : Int) ∧ k < 18446744073709551616 := by
  simp only [Lit.wf, Bool.and_eq_true, decide_eq_true_eq] at w
  have h1 : IntKind.u64.min = 0 := rfl
  have h2 : IntKind.u64.max = 18446744073709551615 := rfl
  exact ⟨n.toNat, by omega, by omega⟩
theorem list4 {α : Type} (l : List α) (h : l.length = 4) : ∃ c0 c1 c2 c3, l = [c0, c1, c2, c3] := by
  match l, h with
  | [c0, c1, c2, c3], _ => exact ⟨c0, c1, c2, c3, rfl⟩
theorem in64_wf {x : Int} (w : (Lit.int .i64 x).wf = true) : In64 x := by
  simp only [Lit.wf, Bool.and_eq_true, decide_eq_true_eq] at w
  have h1 : IntKind.i64.min = -9223372036854775808 := rfl
  have h2 : IntKind.i64.max = 9223372036854775807 := rfl
  unfold In64
  omega
theorem weights_all {H : Type} {P : Program} {e : TypeId} {ds : List (DataW H)} {d : DataW H} (h : d ∈ ds) : ∀ n ∈ d.weights P e, n ∈ DataW.weightsAll P e ds := by
  induction ds with
  | nil => cases h
  | cons a r ih =>
    intro n hn
    simp only [DataW.weightsAll]
    rcases List.mem_cons.1 h with rfl | h
    · exact List.mem_append_left _ hn
    · exact List.mem_append_right _ (ih h n hn)
section
variable {H : Type} {enc : TypeId × Value → H} {W : World} {base b0 : Nat} {held : Bool} {fuel : Nat}
/-- A slice whose elements open to things of one kind. -/
theorem open_lseg {α : Type} (dflt : α) {t e sz : Nat} {cs : α → List Value} {ok : α → Prop} (ht : Try.prog.underlying t = some (.slice e)) (hc : Try.prog.cellsOf e = sz) (hs0 : 0 < sz) (hby : 1 ≤ Try.prog.bytesOf e)
    (hone : ∀ (m : Nat) (ce : List Value) (y : DataW H × List MemPlace), DataW.trod enc Try.prog W base (fun _ => true) held m e ce = some y → (∀ k ∈ DataW.weights Try.prog e y.1, k ≤ reachBytes) → ∃ x : α, ce = cs x ∧ ok x)
    {vs : List Value} {x : DataW H × List MemPlace} (h : DataW.trod enc Try.prog W base (fun _ => true) held fuel t vs = some x) (hw : ∀ k ∈ DataW.weights Try.prog t x.1, k ≤ reachBytes) :
    ∃ (ao : Option Addr) (cap : Nat) (xs : List α), vs = [.slice ao xs.length cap] ∧ LSeg sz cs W.heap.size W (.slice ao xs.length cap) xs ∧ (∀ y ∈ xs, ok y) ∧ xs.length ≤ cap ∧ cap ≤ maxLen ∧ xs.length * Try.prog.bytesOf e ≤ 140737488355328 := by
  rcases open_slice ht h with ⟨rfl, _⟩ | ⟨a, len, cap, m, n, D, Pl, rfl, hb, hl, hm, hmm, rfl, hx⟩
  · exact ⟨none, 0, [], rfl, ⟨none, 0, rfl, by simp, .inl rfl⟩, by simp, by simp, by decide, by simp⟩
  simp only [if_true] at hmm
  have each : ∀ i, i < len → ∃ y : α, (∀ (j : Nat) (u : Value), (cs y)[j]? = some u → W.cell? (a.add (i * sz + j)) = some u) ∧ ok y ∧ (cs y).length = sz := by
    intro i hi
    obtain ⟨ce, h1, h2⟩ := hx i (by omega)
    rw [hc] at h1
    obtain ⟨_, hlen, hcell⟩ := World.cells?_some h1
    obtain ⟨y, rfl, hy⟩ := hone n ce _ h2 (fun k hk => hw k (by
      simp only [DataW.weights, ht]
      refine List.mem_cons_of_mem _ (List.mem_append_left _ (weights_all (d := D i) (List.mem_map.2 ⟨i, List.mem_range.2 hi, rfl⟩) k hk))))
    refine ⟨y, fun j u hu => ?_, hy, hlen⟩
    have hj : j < sz := by rw [← hlen]; exact (List.getElem?_eq_some_iff.1 hu).1
    have := hcell j hj
    rw [add_add] at this
    rw [this, hu]
  have _i : Inhabited α := ⟨dflt⟩
  obtain ⟨Y, hY⟩ := choose_lt each
  have hmem := hw _ (by simp only [DataW.weights, ht]; exact List.mem_cons_self ..)
  simp only [List.length_map, List.length_range, reachBytes] at hmem
  have hlb : len * Try.prog.bytesOf e ≤ 140737488355328 := by
    have h2 : len * Try.prog.bytesOf e ≤ (len + (m - len)) * Try.prog.bytesOf e := Nat.mul_le_mul_right _ (by omega)
    omega
  have hlen : len ≤ 140737488355328 := by
    have h2 : len * 1 ≤ len * Try.prog.bytesOf e := Nat.mul_le_mul_left _ hby
    omega
  refine ⟨some a, cap, (List.range len).map Y, by simp, ⟨some a, cap, by simp, by simpa using hlen, ?_⟩, fun y hy => ?_, by simpa using hl, hm, by simpa using hlb⟩
  · by_cases h0 : len = 0
    · exact .inl (by simp [h0])
    · obtain ⟨b, off, spot⟩ := a
      obtain ⟨u0, hu0⟩ : ∃ u, (cs (Y 0))[0]? = some u := ⟨_, List.getElem?_eq_getElem (by rw [(hY 0 (by omega)).2.2]; exact hs0)⟩
      have hc0 := (hY 0 (by omega)).1 0 u0 hu0
      have hspot : spot = none := by simpa [Addr.add] using World.cell?_spot hc0
      subst hspot
      refine .inr ⟨b, off, rfl, ?_, fun i y hy j u hu => ?_⟩
      · have := World.block_lt_of_cell? W _ hc0
        simpa [add_plain2] using this
      · have hil : i < len := by
          have := (List.getElem?_eq_some_iff.1 hy).1
          simpa using this
        have hyi : y = Y i := by
          rw [List.getElem?_map, List.getElem?_range hil] at hy
          simpa using hy.symm
        subst hyi
        have := (hY i hil).1 j u hu
        rw [add_plain2] at this
        rw [Nat.add_assoc]; exact this
  · obtain ⟨i, hi, rfl⟩ := List.mem_map.1 hy
    exact (hY i (by simpa using hi)).2.1
set_option maxRecDepth 100000 in
theorem one_ctl {m : Nat} {ce : List Value} {y : DataW H × List MemPlace} (h : DataW.trod enc Try.prog W base (fun _ => true) held m 32 ce = some y) : ∃ x : Ct, ce = Ct.cs x ∧ In64 x.task := by
  obtain ⟨xs, k, rfl, hx, hl, hxl, hf⟩ := DataW.trod_struct Try.underlying32 h
  rw [Try.cells32] at hl
  obtain ⟨c0, c1, c2, c3, rfl⟩ := list4 ce hl
  have f0 : DataW.trod enc Try.prog W base (fun _ => true) held k 3 (List.take (Try.prog.cellsOf 3) (List.drop 0 [c0, c1, c2, c3])) = xs[(0 : Nat)]? := hf 0 _ rfl
  have f1 : DataW.trod enc Try.prog W base (fun _ => true) held k 30 (List.take (Try.prog.cellsOf 30) (List.drop 1 [c0, c1, c2, c3])) = xs[(1 : Nat)]? := hf 1 _ rfl
  have f2 : DataW.trod enc Try.prog W base (fun _ => true) held k 30 (List.take (Try.prog.cellsOf 30) (List.drop 2 [c0, c1, c2, c3])) = xs[(2 : Nat)]? := hf 2 _ rfl
  have f3 : DataW.trod enc Try.prog W base (fun _ => true) held k 3 (List.take (Try.prog.cellsOf 3) (List.drop 3 [c0, c1, c2, c3])) = xs[(3 : Nat)]? := hf 3 _ rfl
  have hxl : xs.length = 4 := hxl
  obtain ⟨y0, y1, y2, y3, rfl⟩ := list4 xs hxl
  simp only [Try.cells3, Try.cells30, List.drop_zero, List.drop_succ_cons, List.take_succ_cons, List.take_zero, List.getElem?_cons_zero, List.getElem?_cons_succ] at f0 f1 f2 f3
  obtain ⟨a, e0, _, _⟩ := DataW.trod_int Try.underlying3 f0
  obtain ⟨b, e1, _, w1⟩ := DataW.trod_int Try.underlying30 f1
  obtain ⟨c, e2, _, w2⟩ := DataW.trod_int Try.underlying30 f2
  obtain ⟨d, e3, _, w3⟩ := DataW.trod_int Try.underlying3 f3
  obtain ⟨b, rfl, _⟩ := u64_nat w1
  obtain ⟨c, rfl, _⟩ := u64_nat w2
  simp only [List.cons.injEq, and_true] at e0 e1 e2 e3
  subst e0 e1 e2 e3
  exact ⟨⟨a, b, c, d⟩, rfl, in64_wf w3⟩
set_option maxRecDepth 100000 in
theorem open_ctls {v : Value} {d : DataW H} {p : List MemPlace} (hv : Value.okWide Try.prog W .any b0 29 v) (h : DataW.Trod enc Try.prog W base (fun _ => true) held 29 v d p)
    (hsz : ∀ n ∈ d.weights Try.prog 29, n ≤ reachBytes) : ∃ (ao : Option Addr) (cap : Nat) (xs : List Ct), v = .slice ao xs.length cap ∧ LSeg 4 Ct.cs W.heap.size W v xs ∧ ∀ x ∈ xs, In64 x.task := by
  obtain ⟨a0, len, cap, rfl⟩ := okWide_slice Try.underlying29 hv
  obtain ⟨fuel, hf⟩ := h
  obtain ⟨ao, cap, xs, e, h1, h2, h3, h4, h5⟩ := open_lseg (⟨0, 0, 0, 0⟩ : Ct) (cs := Ct.cs) (ok := fun x => In64 x.task) Try.underlying29 Try.cells32 (by decide) (by rw [Try.bytes32]; decide) (fun _ _ _ h _ => one_ctl h) hf hsz
  simp [Value.cells] at e
  obtain ⟨rfl, rfl, rfl⟩ := e
  exact ⟨_, _, xs, rfl, h1, h2⟩
set_option maxRecDepth 100000 in
theorem one_stp {m : Nat} {ce : List Value} {y : DataW H × List MemPlace} (h : DataW.trod enc Try.prog W base (fun _ => true) held m 46 ce = some y) : ∃ x : Stp, ce = Stp.cs x ∧ True := by
  obtain ⟨xs, k, rfl, hx, hl, hxl, hf⟩ := DataW.trod_struct Try.underlying46 h
  rw [Try.cells46] at hl
  obtain ⟨c0, c1, c2, c3, c4, c5, c6, c7, c8, c9, rfl⟩ := list10 ce hl
  have f0 : DataW.trod enc Try.prog W base (fun _ => true) held k 3 (List.take (Try.prog.cellsOf 3) (List.drop 0 [c0, c1, c2, c3, c4, c5, c6, c7, c8, c9])) = xs[(0 : Nat)]? := hf 0 _ rfl
  have f1 : DataW.trod enc Try.prog W base (fun _ => true) held k 32 (List.take (Try.prog.cellsOf 32) (List.drop 1 [c0, c1, c2, c3, c4, c5, c6, c7, c8, c9])) = xs[(1 : Nat)]? := hf 1 _ rfl
  have f2 : DataW.trod enc Try.prog W base (fun _ => true) held k 30 (List.take (Try.prog.cellsOf 30) (List.drop 5 [c0, c1, c2, c3, c4, c5, c6, c7, c8, c9])) = xs[(2 : Nat)]? := hf 2 _ rfl
  have f3 : DataW.trod enc Try.prog W base (fun _ => true) held k 30 (List.take (Try.prog.cellsOf 30) (List.drop 6 [c0, c1, c2, c3, c4, c5, c6, c7, c8, c9])) = xs[(3 : Nat)]? := hf 3 _ rfl
  have f4 : DataW.trod enc Try.prog W base (fun _ => true) held k 30 (List.take (Try.prog.cellsOf 30) (List.drop 7 [c0, c1, c2, c3, c4, c5, c6, c7, c8, c9])) = xs[(4 : Nat)]? := hf 4 _ rfl
  have f5 : DataW.trod enc Try.prog W base (fun _ => true) held k 4 (List.take (Try.prog.cellsOf 4) (List.drop 8 [c0, c1, c2, c3, c4, c5, c6, c7, c8, c9])) = xs[(5 : Nat)]? := hf 5 _ rfl
  have f6 : DataW.trod enc Try.prog W base (fun _ => true) held k 4 (List.take (Try.prog.cellsOf 4) (List.drop 9 [c0, c1, c2, c3, c4, c5, c6, c7, c8, c9])) = xs[(6 : Nat)]? := hf 6 _ rfl
  have hxl : xs.length = 7 := hxl
  obtain ⟨y0, y1, y2, y3, y4, y5, y6, rfl⟩ := list7 xs hxl
  simp only [Try.cells3, Try.cells4, Try.cells30, Try.cells32, List.drop_zero, List.drop_succ_cons, List.take_succ_cons, List.take_zero, List.getElem?_cons_zero, List.getElem?_cons_succ] at f0 f1 f2 f3 f4 f5 f6
  obtain ⟨a, e0, _, _⟩ := DataW.trod_int Try.underlying3 f0
  obtain ⟨mm, e1, _⟩ := one_ctl f1
  obtain ⟨b, e2, _, w2⟩ := DataW.trod_int Try.underlying30 f2
  obtain ⟨c, e3, _, w3⟩ := DataW.trod_int Try.underlying30 f3
  obtain ⟨d, e4, _, w4⟩ := DataW.trod_int Try.underlying30 f4
  obtain ⟨p, e5, _⟩ := DataW.trod_bool Try.underlying4 f5
  obtain ⟨q, e6, _⟩ := DataW.trod_bool Try.underlying4 f6
  obtain ⟨b, rfl, _⟩ := u64_nat w2
  obtain ⟨c, rfl, _⟩ := u64_nat w3
  obtain ⟨d, rfl, _⟩ := u64_nat w4
  unfold Ct.cs at e1
  simp only [List.cons.injEq, and_true] at e0 e1 e2 e3 e4 e5 e6
  obtain ⟨e10, e11, e12, e13⟩ := e1
  subst e0 e10 e11 e12 e13 e2 e3 e4 e5 e6
  exact ⟨⟨a, mm, b, c, d, p, q⟩, rfl, trivial⟩
set_option maxRecDepth 100000 in
theorem open_stps {v : Value} {d : DataW H} {p : List MemPlace} (hv : Value.okWide Try.prog W .any b0 44 v) (h : DataW.Trod enc Try.prog W base (fun _ => true) held 44 v d p)
    (hsz : ∀ n ∈ d.weights Try.prog 44, n ≤ reachBytes) : ∃ (ao : Option Addr) (cap : Nat) (xs : List Stp), v = .slice ao xs.length cap ∧ LSeg 10 Stp.cs W.heap.size W v xs := by
  obtain ⟨a0, len, cap, rfl⟩ := okWide_slice Try.underlying44 hv
  obtain ⟨fuel, hf⟩ := h
  obtain ⟨ao, cap, xs, e, h1, h2, h3, h4, h5⟩ := open_lseg (⟨0, ⟨0, 0, 0, 0⟩, 0, 0, 0, false, false⟩ : Stp) (cs := Stp.cs) (ok := fun _ => True) Try.underlying44 Try.cells46 (by decide) (by rw [Try.bytes46]; decide) (fun _ _ _ h _ => one_stp h) hf hsz
  simp [Value.cells] at e
  obtain ⟨rfl, rfl, rfl⟩ := e
  exact ⟨_, _, xs, rfl, h1⟩
theorem one_u8 {m : Nat} {ce : List Value} {y : DataW H × List MemPlace} (h : DataW.trod enc Try.prog W base (fun _ => true) held m 5 ce = some y) : ∃ x : Nat, ce = u8cs x ∧ x < 256 := by
  obtain ⟨n, e, _, w⟩ := DataW.trod_int Try.underlying5 h
  simp only [Lit.wf, Bool.and_eq_true, decide_eq_true_eq] at w
  have h1 : 0 ≤ n ∧ n < 256 := by
    have h1 : IntKind.u8.min = 0 := rfl
    have h2 : IntKind.u8.max = 255 := rfl
    omega
  exact ⟨n.toNat, by rw [e]; unfold u8cs; rw [Int.toNat_of_nonneg (by omega)], by omega⟩
theorem open_u8s {v : Value} {d : DataW H} {p : List MemPlace} (hv : Value.okWide Try.prog W .any b0 22 v) (h : DataW.Trod enc Try.prog W base (fun _ => true) held 22 v d p)
    (hsz : ∀ n ∈ d.weights Try.prog 22, n ≤ reachBytes) : ∃ (ao : Option Addr) (cap : Nat) (xs : List Nat), v = .slice ao xs.length cap ∧ LSeg 1 u8cs W.heap.size W v xs ∧ ∀ x ∈ xs, x < 256 := by
  obtain ⟨a0, len, cap, rfl⟩ := okWide_slice Try.underlying22 hv
  obtain ⟨fuel, hf⟩ := h
  obtain ⟨ao, cap, xs, e, h1, h2, h3, h4, h5⟩ := open_lseg (0 : Nat) (cs := u8cs) (ok := fun x => x < 256) Try.underlying22 Try.cells5 (by decide) (by rw [Try.bytes5]; decide) (fun _ _ _ h _ => one_u8 h) hf hsz
  simp [Value.cells] at e
  obtain ⟨rfl, rfl, rfl⟩ := e
  exact ⟨_, _, xs, rfl, h1, h2⟩
end

end Go.Proofs.Ytgjjacljjlhnhaa
