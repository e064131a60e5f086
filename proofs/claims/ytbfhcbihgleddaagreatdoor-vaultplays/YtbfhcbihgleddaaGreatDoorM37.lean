/-
  Texts of the vault, in build order: VOpenA.
-/
import Derived.Test.YtbfhcbihgleddaaGreatDoorRows
import Derived.Test.YtbfhcbihgleddaaGreatDoorM36
import Derived.ProofKit
import Derived.LaidMore
import Derived.OpenShut
import Derived.Stop.Joined
import Derived.SizedLaws
import Derived.Deep.Slices
/-
  Readings for the rows over package vault: the table's cells out of the row's condition; bytes, a part, opened.
-/
namespace Go.Proofs.YtbfhcbihgleddaaGreatDoor
open Go.ChangeShapes Go.WideShapes Go.ChangeAt Go.WideMaps Go.WideElems Go.RowKit Go.Deep

theorem Tryz.own : ownKnob Tryz.prog.godebug = none := by kernel_rfl
theorem Tryz.laidOut : laidOutB Tryz.prog = true := by kernel_rfl
theorem gNib : Tryz.prog.globalNamed "leat/codec.nibbles" = some 0 := by kernel_rfl
theorem tNib : (Tryz.prog.globals[0]?).map (·.type) = some 185 := by kernel_rfl
theorem Tryz.cells5 : Tryz.prog.cellsOf 5 = 1 := by kernel_rfl
theorem Tryz.cells156 : Tryz.prog.cellsOf 156 = 1 := by kernel_rfl
theorem Tryz.cells149 : Tryz.prog.cellsOf 149 = 7 := by kernel_rfl
theorem Tryz.cells147 : Tryz.prog.cellsOf 147 = 3 := by kernel_rfl
theorem Tryz.cells2 : Tryz.prog.cellsOf 2 = 1 := by kernel_rfl
theorem Tryz.cells3 : Tryz.prog.cellsOf 3 = 1 := by kernel_rfl
theorem Tryz.cells4 : Tryz.prog.cellsOf 4 = 1 := by kernel_rfl
theorem Tryz.cells41 : Tryz.prog.cellsOf 41 = 1 := by kernel_rfl
theorem Tryz.cells27 : Tryz.prog.cellsOf 27 = 6 := by kernel_rfl
theorem Tryz.cells23 : Tryz.prog.cellsOf 23 = 1 := by kernel_rfl
theorem Tryz.cells24 : Tryz.prog.cellsOf 24 = 1 := by kernel_rfl
theorem Tryz.cells25 : Tryz.prog.cellsOf 25 = 1 := by kernel_rfl
theorem Tryz.cells145 : Tryz.prog.cellsOf 145 = 4 := by kernel_rfl
theorem Tryz.cells151 : Tryz.prog.cellsOf 151 = 8 := by kernel_rfl
theorem Tryz.cells143 : Tryz.prog.cellsOf 143 = 2 := by kernel_rfl
theorem Tryz.cells22 : Tryz.prog.cellsOf 22 = 1 := by kernel_rfl
theorem Tryz.bytes2 : Tryz.prog.bytesOf 2 = 8 := by kernel_rfl
theorem Tryz.bytes145 : Tryz.prog.bytesOf 145 = 32 := by kernel_rfl
theorem Tryz.bytes151 : Tryz.prog.bytesOf 151 = 64 := by kernel_rfl
theorem Tryz.bytes5 : Tryz.prog.bytesOf 5 = 1 := by kernel_rfl
abbrev laid4 : List (String × DataW Unit) := [("math/bits.deBruijn32tab", Rows.laid_math_bits_deBruijn32tab), ("math/bits.deBruijn64tab", Rows.laid_math_bits_deBruijn64tab), ("internal/strconv.uint64pow10", Rows.laid_internal_strconv_uint64pow10), ("leat/codec.nibbles", Rows.laid_leat_codec_nibbles)]

theorem door_met (os : Os) (args : Array Value) : laidMetH Tryz.prog laid4 ((World.doorLaid Tryz.prog 400 os).forCall (fun _ _ => 0) ⟨#[], args, []⟩).memory :=
  laidMetH_of_parts3 (fuel := 8) (laidMet_of_run' 8 (by kernel_rfl) (by kernel_rfl)) (by kernel_rfl) (by kernel_rfl)

theorem list6 {α : Type} (l : List α) (h : l.length = 6) : ∃ a b c d e f, l = [a, b, c, d, e, f] := by
  match l, h with
  | [a, b, c, d, e, f], _ => exact ⟨a, b, c, d, e, f, rfl⟩
theorem list8 {α : Type} (l : List α) (h : l.length = 8) : ∃ a b c d e f g i, l = [a, b, c, d, e, f, g, i] := by
  match l, h with
  | [a, b, c, d, e, f, g, i], _ => exact ⟨a, b, c, d, e, f, g, i, rfl⟩

theorem weights_all {H : Type} {P : Program} {e : TypeId} {ds : List (DataW H)} {d : DataW H} (h : d ∈ ds) : ∀ n ∈ d.weights P e, n ∈ DataW.weightsAll P e ds := by
  induction ds with
  | nil => cases h
  | cons a r ih =>
    intro n hn
    simp only [DataW.weightsAll]
    rcases List.mem_cons.1 h with rfl | h
    · exact List.mem_append_left _ hn
    · exact List.mem_append_right _ (ih h n hn)

theorem nibD (j : Nat) (hj : j < 16) : ∃ l, (Rows.laid_leat_codec_nibbles : DataW Unit) = .agg l ∧ l[j]? = some (.lit (.int .u32 (nib j : Nat))) := by
  refine ⟨_, rfl, ?_⟩
  match j, hj with
  | 0, _ | 1, _ | 2, _ | 3, _ | 4, _ | 5, _ | 6, _ | 7, _ | 8, _ | 9, _ | 10, _ | 11, _ | 12, _ | 13, _ | 14, _ | 15, _ => rfl
  | n + 16, h => exact absurd h (by omega)

/-- The condition on the table gives its cells. -/
theorem glob_of_laid {W : World} (h : laidMetH Tryz.prog laid4 W) : Glob W := by
  rw [MakeChecks.laidMetH_plain _ _ _ (by kernel_rfl)] at h
  obtain ⟨ps, ⟨_, _, _, _, _, _, _, _, _, _, ⟨_, _, _, _, _, _, _, _, _, _, ⟨_, _, _, _, _, _, _, _, _, _, ⟨g0, t0, cs0, f0, p0, q0, hg0, ht0, hv0, hd0, _, _⟩, _⟩, _⟩, _⟩, _, _⟩ := h
  obtain rfl := Option.some.inj (gNib.symm.trans hg0)
  obtain rfl := Option.some.inj (tNib.symm.trans ht0)
  obtain ⟨xs, m1, rfl, hx1, hlen, hn3, hel⟩ := DataW.trod_array Tryz.underlying185 hd0
  simp only [Prod.mk.injEq] at hx1
  have hcell : ∀ j : Nat, j < 16 → W.cell? ⟨0, j, none⟩ = some (.int .u32 (nib j : Nat)) := by
    intro j hj
    have hj0 := hel j hj
    rw [Tryz.cells156, Nat.mul_one] at hj0
    have hjx : j < xs.length := by omega
    rw [List.getElem?_eq_getElem hjx] at hj0
    obtain ⟨k, e1, e2, _⟩ := DataW.trod_int Tryz.underlying156 hj0
    obtain ⟨l, hl, hlj⟩ := nibD j hj
    rw [hl] at hx1
    have hmap := hx1.1
    simp only [DataW.agg.injEq] at hmap
    rw [hmap, List.getElem?_map, List.getElem?_eq_getElem hjx] at hlj
    simp only [Option.map_some, Option.some.injEq] at hlj
    rw [e2] at hlj
    simp only [DataW.lit.injEq, Lit.int.injEq, true_and] at hlj
    subst hlj
    have hv := World.var?_cell hg0 hv0 j
    rw [hv]
    have : cs0.toList[j]? = some (.int .u32 (nib j : Nat)) := by
      have h2 : ((cs0.toList.drop j).take 1)[0]? = some (.int .u32 (nib j : Nat)) := by rw [e1]; rfl
      rw [List.getElem?_take, if_pos (by omega), List.getElem?_drop] at h2
      simpa using h2
    simpa using this
  exact ⟨World.block_lt_of_cell? W ⟨0, 0, none⟩ (hcell 0 (by omega)), hcell⟩

theorem list7 {α : Type} (l : List α) (h : l.length = 7) : ∃ a b c d e f g, l = [a, b, c, d, e, f, g] := by
  match l, h with
  | [a, b, c, d, e, f, g], _ => exact ⟨a, b, c, d, e, f, g, rfl⟩
theorem list4 {α : Type} (l : List α) (h : l.length = 4) : ∃ a b c d, l = [a, b, c, d] := by
  match l, h with
  | [a, b, c, d], _ => exact ⟨a, b, c, d, rfl⟩
theorem wf_i64 {n : Int} (h : (Lit.int .i64 n).wf = true) : I64 n := by
  have h1 : IntKind.i64.min = -9223372036854775808 := rfl
  have h2 : IntKind.i64.max = 9223372036854775807 := rfl
  simp only [Lit.wf, Bool.and_eq_true, decide_eq_true_eq] at h
  unfold I64; omega
theorem wf_u64 {n : Int} (h : (Lit.int .u64 n).wf = true) : U64 n := by
  have h1 : IntKind.u64.min = 0 := rfl
  have h2 : IntKind.u64.max = 18446744073709551615 := rfl
  simp only [Lit.wf, Bool.and_eq_true, decide_eq_true_eq] at h
  unfold U64; omega

section
variable {H : Type} {enc : TypeId × Value → H} {W : World} {base b0 : Nat} {spare : Nat → Bool} {held : Bool} {fuel : Nat}

/-- Seven cells that read as a frame. -/
theorem frame_cells {cs : List Value} {x : DataW H × List MemPlace} (h : DataW.trod enc Tryz.prog W base spare held fuel 149 cs = some x) :
    ∃ (kd ke ti va ma n : Int) (ov : Bool), cs = [.int .i64 kd, .int .i64 ke, .int .i64 ti, .int .i64 va, .int .i64 ma, .int .u64 n, .bool ov] ∧ I64 kd ∧ I64 ke ∧ I64 ti ∧ I64 va ∧ I64 ma ∧ U64 n := by
  obtain ⟨xs, m, rfl, hx, hl, hxl, hf⟩ := DataW.trod_struct Tryz.underlying149 h
  rw [Tryz.cells149] at hl
  obtain ⟨c0, c1, c2, c3, c4, c5, c6, rfl⟩ := list7 cs hl
  have f0 : DataW.trod enc Tryz.prog W base spare held m 3 (List.take (Tryz.prog.cellsOf 3) (List.drop 0 [c0, c1, c2, c3, c4, c5, c6])) = xs[(0 : Nat)]? := hf 0 _ rfl
  have f1 : DataW.trod enc Tryz.prog W base spare held m 147 (List.take (Tryz.prog.cellsOf 147) (List.drop 1 [c0, c1, c2, c3, c4, c5, c6])) = xs[(1 : Nat)]? := hf 1 _ rfl
  have f2 : DataW.trod enc Tryz.prog W base spare held m 2 (List.take (Tryz.prog.cellsOf 2) (List.drop 4 [c0, c1, c2, c3, c4, c5, c6])) = xs[(2 : Nat)]? := hf 2 _ rfl
  have f3 : DataW.trod enc Tryz.prog W base spare held m 41 (List.take (Tryz.prog.cellsOf 41) (List.drop 5 [c0, c1, c2, c3, c4, c5, c6])) = xs[(3 : Nat)]? := hf 3 _ rfl
  have f4 : DataW.trod enc Tryz.prog W base spare held m 4 (List.take (Tryz.prog.cellsOf 4) (List.drop 6 [c0, c1, c2, c3, c4, c5, c6])) = xs[(4 : Nat)]? := hf 4 _ rfl
  have hxl : xs.length = 5 := hxl
  rw [List.getElem?_eq_getElem (by omega)] at f0 f1 f2 f3 f4
  simp only [Tryz.cells2, Tryz.cells3, Tryz.cells4, Tryz.cells41, Tryz.cells147, List.drop_zero, List.drop_succ_cons, List.take_succ_cons, List.take_zero] at f0 f1 f2 f3 f4
  obtain ⟨kd, e0, _, w0⟩ := DataW.trod_int Tryz.underlying3 f0
  obtain ⟨ma, e2, _, w2⟩ := DataW.trod_int Tryz.underlying2 f2
  obtain ⟨n, e3, _, w3⟩ := DataW.trod_int Tryz.underlying41 f3
  obtain ⟨ov, e4, _⟩ := DataW.trod_bool Tryz.underlying4 f4
  obtain ⟨ys, m', _, hy, hl', hyl, hg⟩ := DataW.trod_struct Tryz.underlying147 f1
  have g0 : DataW.trod enc Tryz.prog W base spare held m' 2 (List.take (Tryz.prog.cellsOf 2) (List.drop 0 [c1, c2, c3])) = ys[(0 : Nat)]? := hg 0 _ rfl
  have g1 : DataW.trod enc Tryz.prog W base spare held m' 2 (List.take (Tryz.prog.cellsOf 2) (List.drop 1 [c1, c2, c3])) = ys[(1 : Nat)]? := hg 1 _ rfl
  have g2 : DataW.trod enc Tryz.prog W base spare held m' 2 (List.take (Tryz.prog.cellsOf 2) (List.drop 2 [c1, c2, c3])) = ys[(2 : Nat)]? := hg 2 _ rfl
  have hyl : ys.length = 3 := hyl
  rw [List.getElem?_eq_getElem (by omega)] at g0 g1 g2
  simp only [Tryz.cells2, List.drop_zero, List.drop_succ_cons, List.take_succ_cons, List.take_zero] at g0 g1 g2
  obtain ⟨ke, r0, _, v0⟩ := DataW.trod_int Tryz.underlying2 g0
  obtain ⟨ti, r1, _, v1⟩ := DataW.trod_int Tryz.underlying2 g1
  obtain ⟨va, r2, _, v2⟩ := DataW.trod_int Tryz.underlying2 g2
  simp only [List.cons.injEq, and_true] at e0 e2 e3 e4 r0 r1 r2
  subst e0 e2 e3 e4 r0 r1 r2
  exact ⟨kd, ke, ti, va, ma, n, ov, rfl, wf_i64 w0, wf_i64 v0, wf_i64 v1, wf_i64 v2, wf_i64 w2, wf_u64 w3⟩

end

section
variable {H : Type} {enc : TypeId × Value → H} {W : World} {base b0 : Nat} {held : Bool} {fuel : Nat}

/-- A slice whose elements open to things of one kind. -/
theorem open_lseg {α : Type} (dflt : α) {t e sz : Nat} {cs : α → List Value} {ok : α → Prop} (ht : Tryz.prog.underlying t = some (.slice e)) (hc : Tryz.prog.cellsOf e = sz) (hs0 : 0 < sz) (hby : 1 ≤ Tryz.prog.bytesOf e)
    (hone : ∀ (m : Nat) (ce : List Value) (y : DataW H × List MemPlace), DataW.trod enc Tryz.prog W base (fun _ => true) held m e ce = some y → (∀ k ∈ DataW.weights Tryz.prog e y.1, k ≤ reachBytes) → ∃ x : α, ce = cs x ∧ ok x)
    {vs : List Value} {x : DataW H × List MemPlace} (h : DataW.trod enc Tryz.prog W base (fun _ => true) held fuel t vs = some x) (hw : ∀ k ∈ DataW.weights Tryz.prog t x.1, k ≤ reachBytes) :
    ∃ (ao : Option Addr) (cap : Nat) (xs : List α), vs = [.slice ao xs.length cap] ∧ LSeg sz cs W.heap.size W (.slice ao xs.length cap) xs ∧ (∀ y ∈ xs, ok y) ∧ xs.length ≤ cap ∧ cap ≤ maxLen ∧ xs.length * Tryz.prog.bytesOf e ≤ 140737488355328 := by
  rcases open_slice ht h with ⟨rfl, _⟩ | ⟨a, len, cap, m, n, D, Pl, rfl, hb, hl, hm, hmm, rfl, hx⟩
  · exact ⟨none, 0, [], rfl, ⟨none, 0, rfl, by simp, .inl rfl⟩, by simp, by simp, by decide, by simp⟩
  simp only [if_true] at hmm
  have each : ∀ i, i < len → ∃ y : α, (∀ (j : Nat) (u : Value), (cs y)[j]? = some u → W.cell? (a.add (i * sz + j)) = some u) ∧ ok y ∧ (cs y).length = sz := by
    intro i hi
    obtain ⟨ce, h1, h2⟩ := hx i (by omega)
    rw [hc] at h1
    obtain ⟨_, hlen, hcell⟩ := World.cells?_some h1
    obtain ⟨y, rfl, hy⟩ := hone n ce _ h2 (fun k hk => hw k (by
      simp only [DataW.weights, ht]
      refine List.mem_cons_of_mem _ (List.mem_append_left _ (weights_all (d := D i) (List.mem_map.2 ⟨i, List.mem_range.2 hi, rfl⟩) k hk))))
    refine ⟨y, fun j u hu => ?_, hy, hlen⟩
    have hj : j < sz := by rw [← hlen]; exact (List.getElem?_eq_some_iff.1 hu).1
    have := hcell j hj
    rw [add_add] at this
    rw [this, hu]
  have _i : Inhabited α := ⟨dflt⟩
  obtain ⟨Y, hY⟩ := choose_lt each
  have hmem := hw _ (by simp only [DataW.weights, ht]; exact List.mem_cons_self ..)
  simp only [List.length_map, List.length_range, reachBytes] at hmem
  have hlb : len * Tryz.prog.bytesOf e ≤ 140737488355328 := by
    have h2 : len * Tryz.prog.bytesOf e ≤ (len + (m - len)) * Tryz.prog.bytesOf e := Nat.mul_le_mul_right _ (by omega)
    omega
  have hlen : len ≤ 140737488355328 := by
    have h2 : len * 1 ≤ len * Tryz.prog.bytesOf e := Nat.mul_le_mul_left _ hby
    omega
  refine ⟨some a, cap, (List.range len).map Y, by simp, ⟨some a, cap, by simp, by simpa using hlen, ?_⟩, fun y hy => ?_, by simpa using hl, hm, by simpa using hlb⟩
  · by_cases h0 : len = 0
    · exact .inl (by simp [h0])
    · obtain ⟨b, off, spot⟩ := a
      obtain ⟨u0, hu0⟩ : ∃ u, (cs (Y 0))[0]? = some u := ⟨_, List.getElem?_eq_getElem (by rw [(hY 0 (by omega)).2.2]; exact hs0)⟩
      have hc0 := (hY 0 (by omega)).1 0 u0 hu0
      have hspot : spot = none := by simpa [Addr.add] using World.cell?_spot hc0
      subst hspot
      refine .inr ⟨b, off, rfl, ?_, fun i y hy j u hu => ?_⟩
      · have := World.block_lt_of_cell? W _ hc0
        simpa [add_plain2] using this
      · have hil : i < len := by
          have := (List.getElem?_eq_some_iff.1 hy).1
          simpa using this
        have hyi : y = Y i := by
          rw [List.getElem?_map, List.getElem?_range hil] at hy
          simpa using hy.symm
        subst hyi
        have := (hY i hil).1 j u hu
        rw [add_plain2] at this
        rw [Nat.add_assoc]; exact this
  · obtain ⟨i, hi, rfl⟩ := List.mem_map.1 hy
    exact (hY i (by simpa using hi)).2.1

theorem one_byte {m : Nat} {ce : List Value} {y : DataW H × List MemPlace} (h : DataW.trod enc Tryz.prog W base (fun _ => true) held m 5 ce = some y) : ∃ x : Nat, ce = [Value.int .u8 (x : Nat)] ∧ x < 256 := by
  obtain ⟨n, e, _, w⟩ := DataW.trod_int Tryz.underlying5 h
  have h1 : IntKind.u8.min = 0 := rfl
  have h2 : IntKind.u8.max = 255 := rfl
  simp only [Lit.wf, Bool.and_eq_true, decide_eq_true_eq] at w
  exact ⟨n.toNat, by rw [e, Int.toNat_of_nonneg (by omega)], by omega⟩
theorem open_bytes {vs : List Value} {x : DataW H × List MemPlace} (h : DataW.trod enc Tryz.prog W base (fun _ => true) held fuel 22 vs = some x) (hw : ∀ k ∈ DataW.weights Tryz.prog 22 x.1, k ≤ reachBytes) :
    ∃ (ao : Option Addr) (cap : Nat) (l : List Nat), vs = [.slice ao l.length cap] ∧ Seg W (.slice ao l.length cap) l ∧ Byts l ∧ l.length ≤ 140737488355328 := by
  obtain ⟨ao, cap, xs, rfl, h1, h2, h3, h4, h5⟩ := open_lseg (0 : Nat) (cs := fun x : Nat => [Value.int .u8 (x : Nat)]) (ok := fun x => x < 256) Tryz.underlying22 Tryz.cells5 (by decide) (by rw [Tryz.bytes5]; decide) (fun _ _ _ h _ => one_byte h) h hw
  rw [Tryz.bytes5, Nat.mul_one] at h5
  refine ⟨ao, cap, xs, rfl, ?_, fun i x hx => h2 x (List.mem_of_getElem? hx), h5⟩
  obtain ⟨ao', cap', e, g2, g4⟩ := h1
  cases e
  refine ⟨_, _, rfl, h3, h4, g2, ?_⟩
  rcases g4 with g4 | ⟨b, off, g5, g6, g7⟩
  · exact .inl g4
  · refine .inr ⟨b, off, g5, g6, fun i x hx => ?_⟩
    have := g7 i x hx 0 _ rfl
    rw [Nat.mul_one, Nat.add_zero] at this
    exact this
theorem one_int {m : Nat} {ce : List Value} {y : DataW H × List MemPlace} (h : DataW.trod enc Tryz.prog W base (fun _ => true) held m 2 ce = some y) : ∃ x : Int, ce = ics x ∧ I64 x := by
  obtain ⟨n, e, _, w⟩ := DataW.trod_int Tryz.underlying2 h
  exact ⟨n, e, wf_i64 w⟩
theorem one_pane {m : Nat} {ce : List Value} {y : DataW H × List MemPlace} (h : DataW.trod enc Tryz.prog W base (fun _ => true) held m 145 ce = some y) : ∃ x : Pn, ce = Pn.cs x ∧ x.ok := by
  obtain ⟨xs, k, rfl, hx, hl, hxl, hf⟩ := DataW.trod_struct Tryz.underlying145 h
  rw [Tryz.cells145] at hl
  obtain ⟨c0, c1, c2, c3, rfl⟩ := list4 ce hl
  have f0 : DataW.trod enc Tryz.prog W base (fun _ => true) held k 2 (List.take (Tryz.prog.cellsOf 2) (List.drop 0 [c0, c1, c2, c3])) = xs[(0 : Nat)]? := hf 0 _ rfl
  have f1 : DataW.trod enc Tryz.prog W base (fun _ => true) held k 143 (List.take (Tryz.prog.cellsOf 143) (List.drop 1 [c0, c1, c2, c3])) = xs[(1 : Nat)]? := hf 1 _ rfl
  have f2 : DataW.trod enc Tryz.prog W base (fun _ => true) held k 2 (List.take (Tryz.prog.cellsOf 2) (List.drop 3 [c0, c1, c2, c3])) = xs[(2 : Nat)]? := hf 2 _ rfl
  have hxl : xs.length = 3 := hxl
  rw [List.getElem?_eq_getElem (by omega)] at f0 f1 f2
  simp only [Tryz.cells2, Tryz.cells143, List.drop_zero, List.drop_succ_cons, List.take_succ_cons, List.take_zero] at f0 f1 f2
  obtain ⟨ke, e0, _, w0⟩ := DataW.trod_int Tryz.underlying2 f0
  obtain ⟨ac, e2, _, w2⟩ := DataW.trod_int Tryz.underlying2 f2
  obtain ⟨ys, k', _, _, _, hyl, hg⟩ := DataW.trod_struct Tryz.underlying143 f1
  have g0 : DataW.trod enc Tryz.prog W base (fun _ => true) held k' 2 (List.take (Tryz.prog.cellsOf 2) (List.drop 0 [c1, c2])) = ys[(0 : Nat)]? := hg 0 _ rfl
  have g1 : DataW.trod enc Tryz.prog W base (fun _ => true) held k' 2 (List.take (Tryz.prog.cellsOf 2) (List.drop 1 [c1, c2])) = ys[(1 : Nat)]? := hg 1 _ rfl
  have hyl : ys.length = 2 := hyl
  rw [List.getElem?_eq_getElem (by omega)] at g0 g1
  simp only [Tryz.cells2, List.drop_zero, List.drop_succ_cons, List.take_succ_cons, List.take_zero] at g0 g1
  obtain ⟨fr, r0, _, v0⟩ := DataW.trod_int Tryz.underlying2 g0
  obtain ⟨to, r1, _, v1⟩ := DataW.trod_int Tryz.underlying2 g1
  simp only [List.cons.injEq, and_true] at e0 e2 r0 r1
  subst e0 e2 r0 r1
  exact ⟨⟨ke, fr, to, ac⟩, rfl, wf_i64 w0, wf_i64 v0, wf_i64 v1, wf_i64 w2⟩
theorem one_out {m : Nat} {ce : List Value} {y : DataW H × List MemPlace} (h : DataW.trod enc Tryz.prog W base (fun _ => true) held m 151 ce = some y) : ∃ x : Ot, ce = Ot.cs x ∧ x.ok := by
  obtain ⟨xs, k, rfl, hx, hl, hxl, hf⟩ := DataW.trod_struct Tryz.underlying151 h
  rw [Tryz.cells151] at hl
  obtain ⟨c0, c1, c2, c3, c4, c5, c6, c7, rfl⟩ := list8 ce hl
  have f0 : DataW.trod enc Tryz.prog W base (fun _ => true) held k 3 (List.take (Tryz.prog.cellsOf 3) (List.drop 0 [c0, c1, c2, c3, c4, c5, c6, c7])) = xs[(0 : Nat)]? := hf 0 _ rfl
  have f1 : DataW.trod enc Tryz.prog W base (fun _ => true) held k 149 (List.take (Tryz.prog.cellsOf 149) (List.drop 1 [c0, c1, c2, c3, c4, c5, c6, c7])) = xs[(1 : Nat)]? := hf 1 _ rfl
  have hxl : xs.length = 2 := hxl
  rw [List.getElem?_eq_getElem (by omega)] at f0 f1
  simp only [Tryz.cells3, Tryz.cells149, List.drop_zero, List.drop_succ_cons, List.take_succ_cons, List.take_zero] at f0 f1
  obtain ⟨ch, e0, _, _⟩ := DataW.trod_int Tryz.underlying3 f0
  obtain ⟨kd, ke, ti, va, ma, n, ov, hce, _, h1, h2, h3, h4, h5⟩ := frame_cells f1
  simp only [List.cons.injEq, and_true] at e0 hce
  obtain ⟨rfl, rfl, rfl, rfl, rfl, rfl, rfl⟩ := hce
  subst e0
  exact ⟨⟨ch, kd, ke, ti, va, ma, n, ov⟩, rfl, h1, h2, h3, h4, h5⟩

set_option maxRecDepth 100000 in
theorem open_snap {v : Value} {d : DataW H} {p : List MemPlace} (hv : Value.okWide Tryz.prog W .any b0 27 v) (h : DataW.Trod enc Tryz.prog W base (fun _ => true) held 27 v d p)
    (hsz : ∀ n ∈ d.weights Tryz.prog 27, n ≤ reachBytes) : ∃ x : SnV, v = .agg #[.int .i64 x.s.task, .int .i64 x.s.off, .int .i64 x.s.mark, .slice x.am x.s.marks.length x.cm, .slice x.ap x.s.panes.length x.cp, .slice x.ac x.s.outs.length x.cc] ∧ SnSeg W.heap.size W (.slice x.am x.s.marks.length x.cm) (.slice x.ap x.s.panes.length x.cp) (.slice x.ac x.s.outs.length x.cc) x.s ∧ x.s.ok := by
  obtain ⟨cs, rfl, hcsz⟩ := okWide_struct Tryz.underlying27 hv
  obtain ⟨fuel, hf⟩ := h
  have hf : DataW.trod enc Tryz.prog W base (fun _ => true) held fuel 27 cs.toList = some (d, p) := by simpa [Value.cells] using hf
  obtain ⟨xs, m, rfl, hx, hl, hxl, hf⟩ := DataW.trod_struct Tryz.underlying27 hf
  rw [Tryz.cells27] at hl
  obtain ⟨c0, c1, c2, c3, c4, c5, hcs⟩ := list6 cs.toList hl
  rw [hcs] at hf
  have f0 : DataW.trod enc Tryz.prog W base (fun _ => true) held m 3 (List.take (Tryz.prog.cellsOf 3) (List.drop 0 [c0, c1, c2, c3, c4, c5])) = xs[(0 : Nat)]? := hf 0 _ rfl
  have f1 : DataW.trod enc Tryz.prog W base (fun _ => true) held m 3 (List.take (Tryz.prog.cellsOf 3) (List.drop 1 [c0, c1, c2, c3, c4, c5])) = xs[(1 : Nat)]? := hf 1 _ rfl
  have f2 : DataW.trod enc Tryz.prog W base (fun _ => true) held m 2 (List.take (Tryz.prog.cellsOf 2) (List.drop 2 [c0, c1, c2, c3, c4, c5])) = xs[(2 : Nat)]? := hf 2 _ rfl
  have f3 : DataW.trod enc Tryz.prog W base (fun _ => true) held m 23 (List.take (Tryz.prog.cellsOf 23) (List.drop 3 [c0, c1, c2, c3, c4, c5])) = xs[(3 : Nat)]? := hf 3 _ rfl
  have f4 : DataW.trod enc Tryz.prog W base (fun _ => true) held m 24 (List.take (Tryz.prog.cellsOf 24) (List.drop 4 [c0, c1, c2, c3, c4, c5])) = xs[(4 : Nat)]? := hf 4 _ rfl
  have f5 : DataW.trod enc Tryz.prog W base (fun _ => true) held m 25 (List.take (Tryz.prog.cellsOf 25) (List.drop 5 [c0, c1, c2, c3, c4, c5])) = xs[(5 : Nat)]? := hf 5 _ rfl
  have hxl : xs.length = 6 := hxl
  obtain ⟨y0, y1, y2, y3, y4, y5, rfl⟩ := list6 xs hxl
  simp only [Tryz.cells2, Tryz.cells3, Tryz.cells23, Tryz.cells24, Tryz.cells25, List.drop_zero, List.drop_succ_cons, List.take_succ_cons, List.take_zero, List.getElem?_cons_zero, List.getElem?_cons_succ] at f0 f1 f2 f3 f4 f5
  obtain ⟨ta, e0, _, _⟩ := DataW.trod_int Tryz.underlying3 f0
  obtain ⟨off, e1, _, _⟩ := DataW.trod_int Tryz.underlying3 f1
  obtain ⟨mark, e2, _, w2⟩ := DataW.trod_int Tryz.underlying2 f2
  simp only [List.cons.injEq, and_true] at e0 e1 e2
  subst e0 e1 e2
  simp only [Prod.mk.injEq] at hx
  have hd := hx.1
  simp only [List.map_cons, List.map_nil] at hd
  obtain ⟨l⟩ := cs
  simp only at hcs
  subst hcs
  have hw : ∀ (j : Nat) (t : TypeId) (y : DataW H), [3, 3, 2, 23, 24, 25][j]? = some t → [y0.1, y1.1, y2.1, y3.1, y4.1, y5.1][j]? = some y → ∀ k ∈ DataW.weights Tryz.prog t y, k ≤ reachBytes := fun j t y hj hy k hk => hsz k (by
    rw [hd]
    simp only [DataW.weights, Tryz.underlying27]
    exact DataW.weights_mem_each (j := j) (t := t) hj hy k hk)
  obtain ⟨am, cm, ms, e3, hm, om, _⟩ := open_lseg (0 : Int) (cs := ics) (ok := I64) Tryz.underlying23 Tryz.cells2 (by decide) (by rw [Tryz.bytes2]; decide) (fun _ _ _ h _ => one_int h) f3 (hw 3 23 _ rfl rfl)
  obtain ⟨ap, cp, ps, e4, hp, op, _⟩ := open_lseg (⟨0, 0, 0, 0⟩ : Pn) (cs := Pn.cs) (ok := Pn.ok) Tryz.underlying24 Tryz.cells145 (by decide) (by rw [Tryz.bytes145]; decide) (fun _ _ _ h _ => one_pane h) f4 (hw 4 24 _ rfl rfl)
  obtain ⟨ac, cc, os, e5, hc, oc, _⟩ := open_lseg (⟨0, 0, 0, 0, 0, 0, 0, false⟩ : Ot) (cs := Ot.cs) (ok := Ot.ok) Tryz.underlying25 Tryz.cells151 (by decide) (by rw [Tryz.bytes151]; decide) (fun _ _ _ h _ => one_out h) f5 (hw 5 25 _ rfl rfl)
  simp only [List.cons.injEq, and_true] at e3 e4 e5
  subst e3 e4 e5
  exact ⟨⟨⟨ta, off, mark, ms, ps, os⟩, am, cm, ap, cp, ac, cc⟩, rfl, ⟨hm, hp, hc⟩, ⟨wf_i64 w2, om, op, oc⟩⟩
end
end Go.Proofs.YtbfhcbihgleddaaGreatDoor
