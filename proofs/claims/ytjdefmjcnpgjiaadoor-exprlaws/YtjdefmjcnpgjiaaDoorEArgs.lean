/-
  Expressions and records that came in, opened.
-/
import Derived.Test.YtjdefmjcnpgjiaaDoorEOpen
namespace Go.Proofs.YtjdefmjcnpgjiaaDoor
open Go.ChangeShapes Go.WideShapes Go.ChangeAt Go.WideMaps Go.WideElems Go.RowKit Go.Deep

theorem Tryd.cells24 : Tryd.prog.cellsOf 24 = 3 := by kernel_rfl
theorem Tryd.cells26 : Tryd.prog.cellsOf 26 = 3 := by kernel_rfl
theorem Tryd.cells22 : Tryd.prog.cellsOf 22 = 1 := by kernel_rfl
theorem Tryd.cells2 : Tryd.prog.cellsOf 2 = 1 := by kernel_rfl
theorem Tryd.cells3 : Tryd.prog.cellsOf 3 = 1 := by kernel_rfl
theorem Tryd.bytes24 : Tryd.prog.bytesOf 24 = 40 := by kernel_rfl
theorem list3 {α : Type} (l : List α) (h : l.length = 3) : ∃ a b c, l = [a, b, c] := by
  match l, h with
  | [a, b, c], _ => exact ⟨a, b, c, rfl⟩
theorem weights_all {H : Type} {P : Program} {e : TypeId} {ds : List (DataW H)} {d : DataW H} (h : d ∈ ds) : ∀ n ∈ d.weights P e, n ∈ DataW.weightsAll P e ds := by
  induction ds with
  | nil => cases h
  | cons a r ih =>
    intro n hn
    simp only [DataW.weightsAll]
    rcases List.mem_cons.1 h with rfl | h
    · exact List.mem_append_left _ hn
    · exact List.mem_append_right _ (ih h n hn)
theorem wf_i64 {n : Int} (h : (Lit.int .i64 n).wf = true) : -9223372036854775808 ≤ n ∧ n ≤ 9223372036854775807 := by
  have h1 : IntKind.i64.min = -9223372036854775808 := rfl
  have h2 : IntKind.i64.max = 9223372036854775807 := rfl
  simp only [Lit.wf, Bool.and_eq_true, decide_eq_true_eq] at h
  omega
theorem add_plain (b off k : Nat) : (⟨b, off, none⟩ : Addr).add k = ⟨b, off + k, none⟩ := by
  unfold Addr.add
  split
  · rename_i h; subst h; rfl
  · rfl

section
variable {H : Type} {enc : TypeId × Value → H} {W : World} {base b0 : Nat} {held : Bool}
def Ex.cells (e : Ex) : List Value := [.int .i64 e.op, .int .i64 e.n, .slice e.a e.l.length e.c]
/-- An expression, as it lies in a row. -/
theorem one_expr : ∀ (k : Nat) {fuel : Nat} {ce : List Value} {y : DataW H × List MemPlace}, SizeOf.sizeOf y.1 < k → DataW.trod enc Tryd.prog W base (fun _ => true) held fuel 24 ce = some y →
    (∀ n ∈ DataW.weights Tryd.prog 24 y.1, n ≤ reachBytes) → ∃ e : Ex, ce = e.cells ∧ In W e := by
  intro k
  induction k with
  | zero => intro fuel ce y h; omega
  | succ k ih =>
    intro fuel ce y hk hf hsz
    obtain ⟨xs, m, rfl, hx, hl, hxl, hf⟩ := DataW.trod_struct Tryd.underlying24 hf
    rw [Tryd.cells24] at hl
    obtain ⟨c0, c1, c2, rfl⟩ := list3 ce hl
    have f0 : DataW.trod enc Tryd.prog W base (fun _ => true) held m 3 (List.take (Tryd.prog.cellsOf 3) (List.drop 0 [c0, c1, c2])) = xs[(0 : Nat)]? := hf 0 _ rfl
    have f1 : DataW.trod enc Tryd.prog W base (fun _ => true) held m 2 (List.take (Tryd.prog.cellsOf 2) (List.drop 1 [c0, c1, c2])) = xs[(1 : Nat)]? := hf 1 _ rfl
    have f2 : DataW.trod enc Tryd.prog W base (fun _ => true) held m 22 (List.take (Tryd.prog.cellsOf 22) (List.drop 2 [c0, c1, c2])) = xs[(2 : Nat)]? := hf 2 _ rfl
    have hxl : xs.length = 3 := hxl
    obtain ⟨y0, y1, y2, rfl⟩ := list3 xs hxl
    simp only [Tryd.cells2, Tryd.cells3, Tryd.cells22, List.drop_zero, List.drop_succ_cons, List.take_succ_cons, List.take_zero, List.getElem?_cons_zero, List.getElem?_cons_succ] at f0 f1 f2
    obtain ⟨op, e0, _, w0⟩ := DataW.trod_int Tryd.underlying3 f0
    obtain ⟨n, e1, _, w1⟩ := DataW.trod_int Tryd.underlying2 f1
    simp only [List.cons.injEq, and_true] at e0 e1
    subst e0 e1
    subst hx
    simp only [List.map_cons, List.map_nil] at hk hsz
    have hw : ∀ k ∈ DataW.weights Tryd.prog 22 y2.1, k ≤ reachBytes := fun k hk => hsz k (by
      simp only [DataW.weights, Tryd.underlying24]
      exact DataW.weights_mem_each (j := 2) (t := 22) rfl rfl k hk)
    have hk2 : SizeOf.sizeOf y2.1 < k := by
      simp only [DataW.agg.sizeOf_spec, List.cons.sizeOf_spec, List.nil.sizeOf_spec] at hk
      omega
    obtain ⟨b1, b2⟩ := wf_i64 w0
    obtain ⟨b3, b4⟩ := wf_i64 w1
    rcases open_slice Tryd.underlying22 f2 with ⟨hc, _⟩ | ⟨a, len, cap, mm, nn, D, Pl, hc, hb, hle, hm, hmm, hy2, hxx⟩
    · simp only [List.cons.injEq, and_true] at hc
      subst hc
      exact ⟨⟨op, n, none, 0, []⟩, rfl, In.mk ⟨b1, b2, b3, b4, by simp, by simp, fun i x hx => by simp at hx⟩ (fun x hx => by simp at hx)⟩
    · simp only [List.cons.injEq, and_true] at hc
      subst hc
      simp only [if_true] at hmm
      have hd : y2.1 = .slice ((List.range len).map D) ((List.range (mm - len)).map fun j => D (len + j)) := by rw [hy2]
      rw [hd] at hw hk2
      have each : ∀ i, i < len → ∃ x : Ex, (∀ (j : Nat) (u : Value), x.cells[j]? = some u → W.cell? (a.add (i * 3 + j)) = some u) ∧ In W x := by
        intro i hi
        obtain ⟨cx, h1, h2⟩ := hxx i (by omega)
        rw [Tryd.cells24] at h1
        obtain ⟨_, hlen, hcell⟩ := World.cells?_some h1
        have hmem : D i ∈ (List.range len).map D := List.mem_map.2 ⟨i, List.mem_range.2 hi, rfl⟩
        obtain ⟨x, rfl, hy⟩ := ih (y := (D i, Pl i)) (by
            have h3 := List.sizeOf_lt_of_mem hmem
            simp only [DataW.slice.sizeOf_spec] at hk2
            simp only
            omega) h2 (fun k hk => hw k (by
          simp only [DataW.weights, Tryd.underlying22]
          exact List.mem_cons_of_mem _ (List.mem_append_left _ (weights_all hmem k hk))))
        refine ⟨x, fun j u hu => ?_, hy⟩
        have hj : j < 3 := by
          have := (List.getElem?_eq_some_iff.1 hu).1
          simpa [Ex.cells] using this
        have := hcell j hj
        rw [add_add] at this
        rw [this, hu]
      have _i : Inhabited Ex := ⟨⟨0, 0, none, 0, []⟩⟩
      obtain ⟨Y, hY⟩ := choose_lt each
      have hmem := hw _ (by simp only [DataW.weights, Tryd.underlying22]; exact List.mem_cons_self ..)
      simp only [List.length_map, List.length_range, reachBytes, Tryd.bytes24] at hmem
      refine ⟨⟨op, n, some a, cap, (List.range len).map Y⟩, by simp [Ex.cells], In.mk ⟨b1, b2, b3, b4, by simp; omega, by simpa using hle, fun i x hx => ?_⟩ (fun x hx => ?_)⟩
      · have hil : i < len := by
          have := (List.getElem?_eq_some_iff.1 hx).1
          simpa using this
        have hyi : x = Y i := by
          simp only at hx
          rw [List.getElem?_map, List.getElem?_range hil] at hx
          simpa using hx.symm
        subst hyi
        obtain ⟨b, off, spot⟩ := a
        have q0 := (hY i hil).1 0 _ rfl
        have q1 := (hY i hil).1 1 _ rfl
        have q2 := (hY i hil).1 2 _ rfl
        have hspot : spot = none := by
          have g0 := (hY 0 (by omega)).1 0 _ rfl
          simpa [Addr.add] using World.cell?_spot g0
        subst hspot
        rw [add_plain] at q0 q1 q2
        exact ⟨b, off, rfl, q0, q1, q2⟩
      · obtain ⟨i, hi, rfl⟩ := List.mem_map.1 hx
        exact (hY i (by simpa using hi)).2
theorem open_expr {v : Value} {d : DataW H} {p : List MemPlace} (hv : Value.okWide Tryd.prog W .any b0 24 v) (h : DataW.Trod enc Tryd.prog W base (fun _ => true) held 24 v d p)
    (hsz : ∀ n ∈ d.weights Tryd.prog 24, n ≤ reachBytes) : ∃ e : Ex, v = e.val ∧ In W e := by
  obtain ⟨cs, rfl, hcsz⟩ := okWide_struct Tryd.underlying24 hv
  obtain ⟨fuel, hf⟩ := h
  have hf : DataW.trod enc Tryd.prog W base (fun _ => true) held fuel 24 cs.toList = some (d, p) := by simpa [Value.cells] using hf
  obtain ⟨e, he, hin⟩ := one_expr (SizeOf.sizeOf d + 1) (Nat.lt_succ_self _) hf hsz
  obtain ⟨l⟩ := cs
  simp only at he
  subst he
  exact ⟨e, rfl, hin⟩
theorem open_rec {v : Value} {d : DataW H} {p : List MemPlace} (hv : Value.okWide Tryd.prog W .any b0 26 v) (h : DataW.Trod enc Tryd.prog W base (fun _ => true) held 26 v d p) : ∃ r : Rc, v = r.val ∧ r.ok := by
  obtain ⟨cs, rfl, hcsz⟩ := okWide_struct Tryd.underlying26 hv
  obtain ⟨fuel, hf⟩ := h
  have hf : DataW.trod enc Tryd.prog W base (fun _ => true) held fuel 26 cs.toList = some (d, p) := by simpa [Value.cells] using hf
  obtain ⟨xs, m, rfl, hx, hl, hxl, hf⟩ := DataW.trod_struct Tryd.underlying26 hf
  rw [Tryd.cells26] at hl
  obtain ⟨c0, c1, c2, hcs⟩ := list3 cs.toList hl
  rw [hcs] at hf
  have f0 : DataW.trod enc Tryd.prog W base (fun _ => true) held m 2 (List.take (Tryd.prog.cellsOf 2) (List.drop 0 [c0, c1, c2])) = xs[(0 : Nat)]? := hf 0 _ rfl
  have f1 : DataW.trod enc Tryd.prog W base (fun _ => true) held m 2 (List.take (Tryd.prog.cellsOf 2) (List.drop 1 [c0, c1, c2])) = xs[(1 : Nat)]? := hf 1 _ rfl
  have f2 : DataW.trod enc Tryd.prog W base (fun _ => true) held m 2 (List.take (Tryd.prog.cellsOf 2) (List.drop 2 [c0, c1, c2])) = xs[(2 : Nat)]? := hf 2 _ rfl
  have hxl : xs.length = 3 := hxl
  obtain ⟨y0, y1, y2, rfl⟩ := list3 xs hxl
  simp only [Tryd.cells2, List.drop_zero, List.drop_succ_cons, List.take_succ_cons, List.take_zero, List.getElem?_cons_zero, List.getElem?_cons_succ] at f0 f1 f2
  obtain ⟨n0, e0, _, w0⟩ := DataW.trod_int Tryd.underlying2 f0
  obtain ⟨n1, e1, _, w1⟩ := DataW.trod_int Tryd.underlying2 f1
  obtain ⟨n2, e2, _, w2⟩ := DataW.trod_int Tryd.underlying2 f2
  simp only [List.cons.injEq, and_true] at e0 e1 e2
  subst e0 e1 e2
  obtain ⟨l⟩ := cs
  simp only at hcs
  subst hcs
  exact ⟨⟨n0, n1, n2⟩, rfl, (wf_i64 w0).1, (wf_i64 w0).2, (wf_i64 w1).1, (wf_i64 w1).2, (wf_i64 w2).1, (wf_i64 w2).2⟩
end
end Go.Proofs.YtjdefmjcnpgjiaaDoor
