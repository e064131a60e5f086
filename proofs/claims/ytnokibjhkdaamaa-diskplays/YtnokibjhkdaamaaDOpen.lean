/-
  Readings: a script of steps, bytes, numbers, opened.
-/
import Derived.Test.YtnokibjhkdaamaaRows
import Derived.Test.YtnokibjhkdaamaaDArgs
import Derived.ProofKit
import Derived.OpenShut
import Derived.SizedLaws
import Derived.Deep.Slices
namespace Go.Proofs.Ytnokibjhkdaamaa
open Go.ChangeShapes Go.WideShapes Go.ChangeAt Go.WideMaps Go.WideElems Go.RowKit Go.Deep

theorem Try.own : ownKnob Try.prog.godebug = none := by kernel_rfl
theorem Try.laidOut : laidOutB Try.prog = true := by kernel_rfl
theorem Try.cells3 : Try.prog.cellsOf 3 = 1 := by kernel_rfl
theorem Try.cells5 : Try.prog.cellsOf 5 = 1 := by kernel_rfl
theorem Try.cells9 : Try.prog.cellsOf 9 = 1 := by kernel_rfl
theorem Try.cells35 : Try.prog.cellsOf 35 = 1 := by kernel_rfl
theorem Try.cells36 : Try.prog.cellsOf 36 = 1 := by kernel_rfl
theorem Try.cells38 : Try.prog.cellsOf 38 = 6 := by kernel_rfl
theorem Try.bytes3 : Try.prog.bytesOf 3 = 8 := by kernel_rfl
theorem Try.bytes5 : Try.prog.bytesOf 5 = 1 := by kernel_rfl
theorem Try.bytes38 : Try.prog.bytesOf 38 = 96 := by kernel_rfl
theorem list6 {α : Type} (l : List α) (h : l.length = 6) : ∃ a b c d e f, l = [a, b, c, d, e, f] := by
  match l, h with
  | [a, b, c, d, e, f], _ => exact ⟨a, b, c, d, e, f, rfl⟩
theorem weights_all {H : Type} {P : Program} {e : TypeId} {ds : List (DataW H)} {d : DataW H} (h : d ∈ ds) : ∀ n ∈ d.weights P e, n ∈ DataW.weightsAll P e ds := by
  induction ds with
  | nil => cases h
  | cons a r ih =>
    intro n hn
    simp only [DataW.weightsAll]
    rcases List.mem_cons.1 h with rfl | h
    · exact List.mem_append_left _ hn
    · exact List.mem_append_right _ (ih h n hn)

section
variable {H : Type} {enc : TypeId × Value → H} {W : World} {base b0 : Nat} {held : Bool} {fuel : Nat}

/-- A slice whose elements open to things of one kind. -/
theorem open_lseg {α : Type} (dflt : α) {t e sz : Nat} {cs : α → List Value} {ok : α → Prop} (ht : Try.prog.underlying t = some (.slice e)) (hc : Try.prog.cellsOf e = sz) (hs0 : 0 < sz) (hby : 1 ≤ Try.prog.bytesOf e)
    (hone : ∀ (m : Nat) (ce : List Value) (y : DataW H × List MemPlace), DataW.trod enc Try.prog W base (fun _ => true) held m e ce = some y → (∀ k ∈ DataW.weights Try.prog e y.1, k ≤ reachBytes) → ∃ x : α, ce = cs x ∧ ok x)
    {vs : List Value} {x : DataW H × List MemPlace} (h : DataW.trod enc Try.prog W base (fun _ => true) held fuel t vs = some x) (hw : ∀ k ∈ DataW.weights Try.prog t x.1, k ≤ reachBytes) :
    ∃ (ao : Option Addr) (cap : Nat) (xs : List α), vs = [.slice ao xs.length cap] ∧ LSeg sz cs W.heap.size W (.slice ao xs.length cap) xs ∧ (∀ y ∈ xs, ok y) ∧ xs.length ≤ cap ∧ cap ≤ maxLen ∧ xs.length * Try.prog.bytesOf e ≤ 140737488355328 := by
  rcases open_slice ht h with ⟨rfl, _⟩ | ⟨a, len, cap, m, n, D, Pl, rfl, hb, hl, hm, hmm, rfl, hx⟩
  · exact ⟨none, 0, [], rfl, ⟨none, 0, rfl, by simp, .inl rfl⟩, by simp, by simp, by decide, by simp⟩
  simp only [if_true] at hmm
  have each : ∀ i, i < len → ∃ y : α, (∀ (j : Nat) (u : Value), (cs y)[j]? = some u → W.cell? (a.add (i * sz + j)) = some u) ∧ ok y ∧ (cs y).length = sz := by
    intro i hi
    obtain ⟨ce, h1, h2⟩ := hx i (by omega)
    rw [hc] at h1
    obtain ⟨_, hlen, hcell⟩ := World.cells?_some h1
    obtain ⟨y, rfl, hy⟩ := hone n ce _ h2 (fun k hk => hw k (by
      simp only [DataW.weights, ht]
      refine List.mem_cons_of_mem _ (List.mem_append_left _ (weights_all (d := D i) (List.mem_map.2 ⟨i, List.mem_range.2 hi, rfl⟩) k hk))))
    refine ⟨y, fun j u hu => ?_, hy, hlen⟩
    have hj : j < sz := by rw [← hlen]; exact (List.getElem?_eq_some_iff.1 hu).1
    have := hcell j hj
    rw [add_add] at this
    rw [this, hu]
  have _i : Inhabited α := ⟨dflt⟩
  obtain ⟨Y, hY⟩ := choose_lt each
  have hmem := hw _ (by simp only [DataW.weights, ht]; exact List.mem_cons_self ..)
  simp only [List.length_map, List.length_range, reachBytes] at hmem
  have hlb : len * Try.prog.bytesOf e ≤ 140737488355328 := by
    have h2 : len * Try.prog.bytesOf e ≤ (len + (m - len)) * Try.prog.bytesOf e := Nat.mul_le_mul_right _ (by omega)
    omega
  have hlen : len ≤ 140737488355328 := by
    have h2 : len * 1 ≤ len * Try.prog.bytesOf e := Nat.mul_le_mul_left _ hby
    omega
  refine ⟨some a, cap, (List.range len).map Y, by simp, ⟨some a, cap, by simp, by simpa using hlen, ?_⟩, fun y hy => ?_, by simpa using hl, hm, by simpa using hlb⟩
  · by_cases h0 : len = 0
    · exact .inl (by simp [h0])
    · obtain ⟨b, off, spot⟩ := a
      obtain ⟨u0, hu0⟩ : ∃ u, (cs (Y 0))[0]? = some u := ⟨_, List.getElem?_eq_getElem (by rw [(hY 0 (by omega)).2.2]; exact hs0)⟩
      have hc0 := (hY 0 (by omega)).1 0 u0 hu0
      have hspot : spot = none := by simpa [Addr.add] using World.cell?_spot hc0
      subst hspot
      refine .inr ⟨b, off, rfl, ?_, fun i y hy j u hu => ?_⟩
      · have := World.block_lt_of_cell? W _ hc0
        simpa [add_plain2] using this
      · have hil : i < len := by
          have := (List.getElem?_eq_some_iff.1 hy).1
          simpa using this
        have hyi : y = Y i := by
          rw [List.getElem?_map, List.getElem?_range hil] at hy
          simpa using hy.symm
        subst hyi
        have := (hY i hil).1 j u hu
        rw [add_plain2] at this
        rw [Nat.add_assoc]; exact this
  · obtain ⟨i, hi, rfl⟩ := List.mem_map.1 hy
    exact (hY i (by simpa using hi)).2.1

def i64cs (x : Int) : List Value := [Value.int .i64 x]
theorem one_int {m : Nat} {ce : List Value} {y : DataW H × List MemPlace} (h : DataW.trod enc Try.prog W base (fun _ => true) held m 3 ce = some y) : ∃ x : Int, ce = i64cs x ∧ (Lit.int .i64 x).wf = true := by
  obtain ⟨n, e, _, w⟩ := DataW.trod_int Try.underlying3 h
  exact ⟨n, e, w⟩
theorem one_byte {m : Nat} {ce : List Value} {y : DataW H × List MemPlace} (h : DataW.trod enc Try.prog W base (fun _ => true) held m 5 ce = some y) : ∃ x : Nat, ce = [Value.int .u8 (x : Nat)] ∧ x < 256 := by
  obtain ⟨n, e, _, w⟩ := DataW.trod_int Try.underlying5 h
  have h1 : IntKind.u8.min = 0 := rfl
  have h2 : IntKind.u8.max = 255 := rfl
  simp only [Lit.wf, Bool.and_eq_true, decide_eq_true_eq] at w
  exact ⟨n.toNat, by rw [e, Int.toNat_of_nonneg (by omega)], by omega⟩
theorem open_bytes {vs : List Value} {x : DataW H × List MemPlace} (h : DataW.trod enc Try.prog W base (fun _ => true) held fuel 35 vs = some x) (hw : ∀ k ∈ DataW.weights Try.prog 35 x.1, k ≤ reachBytes) :
    ∃ (ao : Option Addr) (cap : Nat) (l : List Nat), vs = [.slice ao l.length cap] ∧ SegB W.heap.size W (.slice ao l.length cap) l ∧ Byts l ∧ l.length ≤ 140737488355328 := by
  obtain ⟨ao, cap, xs, rfl, h1, h2, h3, h4, h5⟩ := open_lseg (0 : Nat) (cs := fun x : Nat => [Value.int .u8 (x : Nat)]) (ok := fun x => x < 256) Try.underlying35 Try.cells5 (by decide) (by rw [Try.bytes5]; decide) (fun _ _ _ h _ => one_byte h) h hw
  rw [Try.bytes5, Nat.mul_one] at h5
  refine ⟨ao, cap, xs, rfl, ?_, fun i x hx => h2 x (List.mem_of_getElem? hx), h5⟩
  obtain ⟨ao', cap', e, g2, g4⟩ := h1
  cases e
  refine ⟨_, _, rfl, h3, h4, g2, ?_⟩
  rcases g4 with g4 | ⟨b, off, g5, g6, g7⟩
  · exact .inl g4
  · refine .inr ⟨b, off, g5, g6, fun i x hx => ?_⟩
    have := g7 i x hx 0 _ rfl
    rw [Nat.mul_one, Nat.add_zero] at this
    exact this
theorem open_nums {vs : List Value} {x : DataW H × List MemPlace} (h : DataW.trod enc Try.prog W base (fun _ => true) held fuel 36 vs = some x) (hw : ∀ k ∈ DataW.weights Try.prog 36 x.1, k ≤ reachBytes) :
    ∃ (ao : Option Addr) (cap : Nat) (l : List Int), vs = [.slice ao l.length cap] ∧ LSeg 1 (fun x : Int => [Value.int .i64 x]) W.heap.size W (.slice ao l.length cap) l ∧ l.length ≤ 140737488355328 := by
  obtain ⟨ao, cap, xs, rfl, h1, h2, h3, h4, h5⟩ := open_lseg (0 : Int) (cs := i64cs) (ok := fun x => (Lit.int .i64 x).wf = true) Try.underlying36 Try.cells3 (by decide) (by rw [Try.bytes3]; decide) (fun _ _ _ h _ => one_int h) h hw
  rw [Try.bytes3] at h5
  exact ⟨ao, cap, xs, rfl, h1, by omega⟩
theorem one_step {m : Nat} {ce : List Value} {y : DataW H × List MemPlace} (h : DataW.trod enc Try.prog W base (fun _ => true) held m 38 ce = some y) (hw : ∀ k ∈ DataW.weights Try.prog 38 y.1, k ≤ reachBytes) :
    ∃ x : Stp, ce = Stp.cs x ∧ (StpOk W.heap.size W x ∧ x.wt ≤ 1125899906842624) := by
  obtain ⟨xs, k, rfl, hx, hl, hxl, hf⟩ := DataW.trod_struct Try.underlying38 h
  rw [Try.cells38] at hl
  obtain ⟨c0, c1, c2, c3, c4, c5, rfl⟩ := list6 ce hl
  have f0 : DataW.trod enc Try.prog W base (fun _ => true) held k 3 (List.take (Try.prog.cellsOf 3) (List.drop 0 [c0, c1, c2, c3, c4, c5])) = xs[(0 : Nat)]? := hf 0 _ rfl
  have f1 : DataW.trod enc Try.prog W base (fun _ => true) held k 3 (List.take (Try.prog.cellsOf 3) (List.drop 1 [c0, c1, c2, c3, c4, c5])) = xs[(1 : Nat)]? := hf 1 _ rfl
  have f2 : DataW.trod enc Try.prog W base (fun _ => true) held k 9 (List.take (Try.prog.cellsOf 9) (List.drop 2 [c0, c1, c2, c3, c4, c5])) = xs[(2 : Nat)]? := hf 2 _ rfl
  have f3 : DataW.trod enc Try.prog W base (fun _ => true) held k 9 (List.take (Try.prog.cellsOf 9) (List.drop 3 [c0, c1, c2, c3, c4, c5])) = xs[(3 : Nat)]? := hf 3 _ rfl
  have f4 : DataW.trod enc Try.prog W base (fun _ => true) held k 35 (List.take (Try.prog.cellsOf 35) (List.drop 4 [c0, c1, c2, c3, c4, c5])) = xs[(4 : Nat)]? := hf 4 _ rfl
  have f5 : DataW.trod enc Try.prog W base (fun _ => true) held k 36 (List.take (Try.prog.cellsOf 36) (List.drop 5 [c0, c1, c2, c3, c4, c5])) = xs[(5 : Nat)]? := hf 5 _ rfl
  have hxl : xs.length = 6 := hxl
  obtain ⟨y0, y1, y2, y3, y4, y5, rfl⟩ := list6 xs hxl
  simp only [Try.cells3, Try.cells9, Try.cells35, Try.cells36, List.drop_zero, List.drop_succ_cons, List.take_succ_cons, List.take_zero, List.getElem?_cons_zero, List.getElem?_cons_succ] at f0 f1 f2 f3 f4 f5
  obtain ⟨wh, e0, _, w0⟩ := DataW.trod_int Try.underlying3 f0
  obtain ⟨n, e1, _, w1⟩ := DataW.trod_int Try.underlying3 f1
  obtain ⟨s, e2, d2, w2⟩ := DataW.trod_string Try.underlying9 f2
  obtain ⟨t, e3, d3, w3⟩ := DataW.trod_string Try.underlying9 f3
  simp only [List.cons.injEq, and_true] at e0 e1 e2 e3
  subst e0 e1 e2 e3
  simp only [List.map_cons, List.map_nil] at hx
  have hd : y.1 = .agg [y0.1, y1.1, y2.1, y3.1, y4.1, y5.1] := by rw [hx]
  have hw : ∀ (j : Nat) (t : TypeId) (z : DataW H), [3, 3, 9, 9, 35, 36][j]? = some t → [y0.1, y1.1, y2.1, y3.1, y4.1, y5.1][j]? = some z → ∀ k ∈ DataW.weights Try.prog t z, k ≤ reachBytes := fun j t z hj hz k hk => hw k (by
    rw [hd]
    simp only [DataW.weights, Try.underlying38]
    exact DataW.weights_mem_each (j := j) (t := t) hj hz k hk)
  obtain ⟨ba, bc, bl, e4, b1, b2, b3⟩ := open_bytes f4 (hw 4 35 _ rfl rfl)
  obtain ⟨ka, kc, kl, e5, k1, k2⟩ := open_nums f5 (hw 5 36 _ rfl rfl)
  simp only [List.cons.injEq, and_true] at e4 e5
  subst e4 e5
  have s1 := hw 2 9 _ rfl rfl s.size (by rw [d2]; simp [DataW.weights])
  have t1 := hw 3 9 _ rfl rfl t.size (by rw [d3]; simp [DataW.weights])
  unfold reachBytes at s1 t1
  refine ⟨⟨wh, n, s, t, ba, bl, bc, ka, kl, kc⟩, rfl, ⟨b1, b2, k1, by show s.size ≤ _; omega, by show t.size ≤ _; omega, w1⟩, ?_⟩
  show bl.length + s.size + t.size + kl.length ≤ _
  omega
set_option maxRecDepth 100000 in
theorem open_script {v : Value} {d : DataW H} {p : List MemPlace} (hv : Value.okWide Try.prog W .any b0 22 v) (h : DataW.Trod enc Try.prog W base (fun _ => true) held 22 v d p)
    (hsz : ∀ n ∈ d.weights Try.prog 22, n ≤ reachBytes) : ∃ (ao : Option Addr) (cap : Nat) (xs : List Stp), v = .slice ao xs.length cap ∧ Scr W v xs := by
  obtain ⟨a0, len, cap, rfl⟩ := okWide_slice Try.underlying22 hv
  obtain ⟨fuel, hf⟩ := h
  obtain ⟨ao, cap, xs, e, h1, h2, h3, h4, h5⟩ := open_lseg (⟨0, 0, ⟨#[]⟩, ⟨#[]⟩, none, [], 0, none, [], 0⟩ : Stp) (cs := Stp.cs) (ok := fun x => StpOk W.heap.size W x ∧ x.wt ≤ 1125899906842624) Try.underlying22 Try.cells38 (by decide) (by rw [Try.bytes38]; decide) (fun _ _ _ h hw => one_step h hw) hf hsz
  simp [Value.cells] at e
  obtain ⟨rfl, rfl, rfl⟩ := e
  exact ⟨_, _, xs, rfl, ⟨h1, fun p hp => (h2 p hp).1, fun p hp => (h2 p hp).2⟩⟩
end
end Go.Proofs.Ytnokibjhkdaamaa
