/-
  Readings for the rows over package codec: the table's cells out of the row's condition; a frame and a control message opened.
-/
import Derived.Test.YtaajjejgjnlbgaaDoorRows
import Derived.Test.YtaajjejgjnlbgaaDoorMath
import Derived.ProofKit
import Derived.LaidMore
import Derived.OpenShut
import Derived.Stop.Joined
import Derived.SizedLaws
namespace Go.Proofs.YtaajjejgjnlbgaaDoor
open Go.ChangeShapes Go.WideShapes Go.ChangeAt Go.WideMaps Go.WideElems Go.RowKit

theorem Tryd.own : ownKnob Tryd.prog.godebug = none := by kernel_rfl
theorem Tryd.laidOut : laidOutB Tryd.prog = true := by kernel_rfl
theorem gNib : Tryd.prog.globalNamed "leat/codec.nibbles" = some 0 := by kernel_rfl
theorem tNib : (Tryd.prog.globals[0]?).map (·.type) = some 120 := by kernel_rfl
theorem Tryd.cells5 : Tryd.prog.cellsOf 5 = 1 := by kernel_rfl
theorem Tryd.bytes5 : Tryd.prog.bytesOf 5 = 1 := by kernel_rfl
theorem Tryd.cells78 : Tryd.prog.cellsOf 78 = 1 := by kernel_rfl
theorem Tryd.cells26 : Tryd.prog.cellsOf 26 = 7 := by kernel_rfl
theorem Tryd.cells23 : Tryd.prog.cellsOf 23 = 3 := by kernel_rfl
theorem Tryd.cells28 : Tryd.prog.cellsOf 28 = 4 := by kernel_rfl
theorem Tryd.cells2 : Tryd.prog.cellsOf 2 = 1 := by kernel_rfl
theorem Tryd.cells3 : Tryd.prog.cellsOf 3 = 1 := by kernel_rfl
theorem Tryd.cells4 : Tryd.prog.cellsOf 4 = 1 := by kernel_rfl
theorem Tryd.cells24 : Tryd.prog.cellsOf 24 = 1 := by kernel_rfl
abbrev laid1 : List (String × DataW Unit) := [("leat/codec.nibbles", Rows.laid_leat_codec_nibbles)]

theorem door_met (os : Os) (args : Array Value) : laidMetH Tryd.prog laid1 ((World.doorLaid Tryd.prog 400 os).forCall (fun _ _ => 0) ⟨#[], args, []⟩).memory :=
  laidMetH_of_parts3 (fuel := 8) (laidMet_of_run' 8 (by kernel_rfl) (by kernel_rfl)) (by kernel_rfl) (by kernel_rfl)

theorem nibD (j : Nat) (hj : j < 16) : ∃ l, (Rows.laid_leat_codec_nibbles : DataW Unit) = .agg l ∧ l[j]? = some (.lit (.int .u32 (nib j : Nat))) := by
  refine ⟨_, rfl, ?_⟩
  match j, hj with
  | 0, _ | 1, _ | 2, _ | 3, _ | 4, _ | 5, _ | 6, _ | 7, _ | 8, _ | 9, _ | 10, _ | 11, _ | 12, _ | 13, _ | 14, _ | 15, _ => rfl
  | n + 16, h => exact absurd h (by omega)

/-- The condition on the table gives its cells. -/
theorem glob_of_laid {W : World} (h : laidMetH Tryd.prog laid1 W) : Glob W := by
  rw [MakeChecks.laidMetH_plain _ _ _ (by kernel_rfl)] at h
  obtain ⟨ps, ⟨g0, t0, cs0, f0, p0, q0, hg0, ht0, hv0, hd0, _, _⟩, _, _⟩ := h
  obtain rfl := Option.some.inj (gNib.symm.trans hg0)
  obtain rfl := Option.some.inj (tNib.symm.trans ht0)
  obtain ⟨xs, m1, rfl, hx1, hlen, hn3, hel⟩ := DataW.trod_array Tryd.underlying120 hd0
  simp only [Prod.mk.injEq] at hx1
  have hcell : ∀ j : Nat, j < 16 → W.cell? ⟨0, j, none⟩ = some (.int .u32 (nib j : Nat)) := by
    intro j hj
    have hj0 := hel j hj
    rw [Tryd.cells78, Nat.mul_one] at hj0
    have hjx : j < xs.length := by omega
    rw [List.getElem?_eq_getElem hjx] at hj0
    obtain ⟨k, e1, e2, _⟩ := DataW.trod_int Tryd.underlying78 hj0
    obtain ⟨l, hl, hlj⟩ := nibD j hj
    rw [hl] at hx1
    have hmap := hx1.1
    simp only [DataW.agg.injEq] at hmap
    rw [hmap, List.getElem?_map, List.getElem?_eq_getElem hjx] at hlj
    simp only [Option.map_some, Option.some.injEq] at hlj
    rw [e2] at hlj
    simp only [DataW.lit.injEq, Lit.int.injEq, true_and] at hlj
    subst hlj
    have hv := World.var?_cell hg0 hv0 j
    rw [hv]
    have : cs0.toList[j]? = some (.int .u32 (nib j : Nat)) := by
      have h2 : ((cs0.toList.drop j).take 1)[0]? = some (.int .u32 (nib j : Nat)) := by rw [e1]; rfl
      rw [List.getElem?_take, if_pos (by omega), List.getElem?_drop] at h2
      simpa using h2
    simpa using this
  exact ⟨World.block_lt_of_cell? W ⟨0, 0, none⟩ (hcell 0 (by omega)), hcell⟩

theorem list7 {α : Type} (l : List α) (h : l.length = 7) : ∃ a b c d e f g, l = [a, b, c, d, e, f, g] := by
  match l, h with
  | [a, b, c, d, e, f, g], _ => exact ⟨a, b, c, d, e, f, g, rfl⟩
theorem list4 {α : Type} (l : List α) (h : l.length = 4) : ∃ a b c d, l = [a, b, c, d] := by
  match l, h with
  | [a, b, c, d], _ => exact ⟨a, b, c, d, rfl⟩
theorem wf_i64 {n : Int} (h : (Lit.int .i64 n).wf = true) : I64 n := by
  have h1 : IntKind.i64.min = -9223372036854775808 := rfl
  have h2 : IntKind.i64.max = 9223372036854775807 := rfl
  simp only [Lit.wf, Bool.and_eq_true, decide_eq_true_eq] at h
  unfold I64; omega
theorem wf_u64 {n : Int} (h : (Lit.int .u64 n).wf = true) : U64 n := by
  have h1 : IntKind.u64.min = 0 := rfl
  have h2 : IntKind.u64.max = 18446744073709551615 := rfl
  simp only [Lit.wf, Bool.and_eq_true, decide_eq_true_eq] at h
  unfold U64; omega

section
variable {H : Type} {enc : TypeId × Value → H} {W : World} {base b0 : Nat} {spare : Nat → Bool} {held : Bool} {fuel : Nat}

/-- Seven cells that read as a frame. -/
theorem frame_cells {cs : List Value} {x : DataW H × List MemPlace} (h : DataW.trod enc Tryd.prog W base spare held fuel 26 cs = some x) :
    ∃ (kd ke ti va ma n : Int) (ov : Bool), cs = [.int .i64 kd, .int .i64 ke, .int .i64 ti, .int .i64 va, .int .i64 ma, .int .u64 n, .bool ov] ∧ I64 kd ∧ I64 ke ∧ I64 ti ∧ I64 va ∧ I64 ma ∧ U64 n := by
  obtain ⟨xs, m, rfl, hx, hl, hxl, hf⟩ := DataW.trod_struct Tryd.underlying26 h
  rw [Tryd.cells26] at hl
  obtain ⟨c0, c1, c2, c3, c4, c5, c6, rfl⟩ := list7 cs hl
  have f0 : DataW.trod enc Tryd.prog W base spare held m 3 (List.take (Tryd.prog.cellsOf 3) (List.drop 0 [c0, c1, c2, c3, c4, c5, c6])) = xs[(0 : Nat)]? := hf 0 _ rfl
  have f1 : DataW.trod enc Tryd.prog W base spare held m 23 (List.take (Tryd.prog.cellsOf 23) (List.drop 1 [c0, c1, c2, c3, c4, c5, c6])) = xs[(1 : Nat)]? := hf 1 _ rfl
  have f2 : DataW.trod enc Tryd.prog W base spare held m 2 (List.take (Tryd.prog.cellsOf 2) (List.drop 4 [c0, c1, c2, c3, c4, c5, c6])) = xs[(2 : Nat)]? := hf 2 _ rfl
  have f3 : DataW.trod enc Tryd.prog W base spare held m 24 (List.take (Tryd.prog.cellsOf 24) (List.drop 5 [c0, c1, c2, c3, c4, c5, c6])) = xs[(3 : Nat)]? := hf 3 _ rfl
  have f4 : DataW.trod enc Tryd.prog W base spare held m 4 (List.take (Tryd.prog.cellsOf 4) (List.drop 6 [c0, c1, c2, c3, c4, c5, c6])) = xs[(4 : Nat)]? := hf 4 _ rfl
  have hxl : xs.length = 5 := hxl
  rw [List.getElem?_eq_getElem (by omega)] at f0 f1 f2 f3 f4
  simp only [Tryd.cells2, Tryd.cells3, Tryd.cells4, Tryd.cells24, Tryd.cells23, List.drop_zero, List.drop_succ_cons, List.take_succ_cons, List.take_zero] at f0 f1 f2 f3 f4
  obtain ⟨kd, e0, _, w0⟩ := DataW.trod_int Tryd.underlying3 f0
  obtain ⟨ma, e2, _, w2⟩ := DataW.trod_int Tryd.underlying2 f2
  obtain ⟨n, e3, _, w3⟩ := DataW.trod_int Tryd.underlying24 f3
  obtain ⟨ov, e4, _⟩ := DataW.trod_bool Tryd.underlying4 f4
  obtain ⟨ys, m', _, hy, hl', hyl, hg⟩ := DataW.trod_struct Tryd.underlying23 f1
  have g0 : DataW.trod enc Tryd.prog W base spare held m' 2 (List.take (Tryd.prog.cellsOf 2) (List.drop 0 [c1, c2, c3])) = ys[(0 : Nat)]? := hg 0 _ rfl
  have g1 : DataW.trod enc Tryd.prog W base spare held m' 2 (List.take (Tryd.prog.cellsOf 2) (List.drop 1 [c1, c2, c3])) = ys[(1 : Nat)]? := hg 1 _ rfl
  have g2 : DataW.trod enc Tryd.prog W base spare held m' 2 (List.take (Tryd.prog.cellsOf 2) (List.drop 2 [c1, c2, c3])) = ys[(2 : Nat)]? := hg 2 _ rfl
  have hyl : ys.length = 3 := hyl
  rw [List.getElem?_eq_getElem (by omega)] at g0 g1 g2
  simp only [Tryd.cells2, List.drop_zero, List.drop_succ_cons, List.take_succ_cons, List.take_zero] at g0 g1 g2
  obtain ⟨ke, r0, _, v0⟩ := DataW.trod_int Tryd.underlying2 g0
  obtain ⟨ti, r1, _, v1⟩ := DataW.trod_int Tryd.underlying2 g1
  obtain ⟨va, r2, _, v2⟩ := DataW.trod_int Tryd.underlying2 g2
  simp only [List.cons.injEq, and_true] at e0 e2 e3 e4 r0 r1 r2
  subst e0 e2 e3 e4 r0 r1 r2
  exact ⟨kd, ke, ti, va, ma, n, ov, rfl, wf_i64 w0, wf_i64 v0, wf_i64 v1, wf_i64 v2, wf_i64 w2, wf_u64 w3⟩

set_option maxRecDepth 100000 in
theorem open_frame {v : Value} {d : DataW H} {p : List MemPlace} (hv : Value.okWide Tryd.prog W .any b0 26 v) (h : DataW.Trod enc Tryd.prog W base spare held 26 v d p) :
    ∃ (kd ke ti va ma n : Int) (ov : Bool), v = .agg #[.int .i64 kd, .int .i64 ke, .int .i64 ti, .int .i64 va, .int .i64 ma, .int .u64 n, .bool ov] ∧ I64 kd ∧ I64 ke ∧ I64 ti ∧ I64 va ∧ I64 ma ∧ U64 n := by
  obtain ⟨cs, rfl, hsz⟩ := okWide_struct Tryd.underlying26 hv
  obtain ⟨fuel, hf⟩ := h
  obtain ⟨kd, ke, ti, va, ma, n, ov, hc, hb⟩ := frame_cells (by simpa [Value.cells] using hf)
  obtain ⟨l⟩ := cs
  simp only at hc
  subst hc
  exact ⟨kd, ke, ti, va, ma, n, ov, rfl, hb⟩

set_option maxRecDepth 100000 in
theorem open_ctl {v : Value} {d : DataW H} {p : List MemPlace} (hv : Value.okWide Tryd.prog W .any b0 28 v) (h : DataW.Trod enc Tryd.prog W base spare held 28 v d p) :
    ∃ (kd ep n tk : Int), v = .agg #[.int .i64 kd, .int .u64 ep, .int .u64 n, .int .i64 tk] ∧ I64 kd ∧ U64 ep ∧ U64 n ∧ I64 tk := by
  obtain ⟨cs, rfl, hsz⟩ := okWide_struct Tryd.underlying28 hv
  obtain ⟨fuel, hf⟩ := h
  have hf : DataW.trod enc Tryd.prog W base spare held fuel 28 cs.toList = some (d, p) := by simpa [Value.cells] using hf
  obtain ⟨xs, m, rfl, hx, hl, hxl, hf⟩ := DataW.trod_struct Tryd.underlying28 hf
  rw [Tryd.cells28] at hl
  obtain ⟨c0, c1, c2, c3, hcs⟩ := list4 cs.toList hl
  rw [hcs] at hf
  have f0 : DataW.trod enc Tryd.prog W base spare held m 3 (List.take (Tryd.prog.cellsOf 3) (List.drop 0 [c0, c1, c2, c3])) = xs[(0 : Nat)]? := hf 0 _ rfl
  have f1 : DataW.trod enc Tryd.prog W base spare held m 24 (List.take (Tryd.prog.cellsOf 24) (List.drop 1 [c0, c1, c2, c3])) = xs[(1 : Nat)]? := hf 1 _ rfl
  have f2 : DataW.trod enc Tryd.prog W base spare held m 24 (List.take (Tryd.prog.cellsOf 24) (List.drop 2 [c0, c1, c2, c3])) = xs[(2 : Nat)]? := hf 2 _ rfl
  have f3 : DataW.trod enc Tryd.prog W base spare held m 3 (List.take (Tryd.prog.cellsOf 3) (List.drop 3 [c0, c1, c2, c3])) = xs[(3 : Nat)]? := hf 3 _ rfl
  have hxl : xs.length = 4 := hxl
  rw [List.getElem?_eq_getElem (by omega)] at f0 f1 f2 f3
  simp only [Tryd.cells3, Tryd.cells24, List.drop_zero, List.drop_succ_cons, List.take_succ_cons, List.take_zero] at f0 f1 f2 f3
  obtain ⟨kd, e0, _, w0⟩ := DataW.trod_int Tryd.underlying3 f0
  obtain ⟨ep, e1, _, w1⟩ := DataW.trod_int Tryd.underlying24 f1
  obtain ⟨n, e2, _, w2⟩ := DataW.trod_int Tryd.underlying24 f2
  obtain ⟨tk, e3, _, w3⟩ := DataW.trod_int Tryd.underlying3 f3
  simp only [List.cons.injEq, and_true] at e0 e1 e2 e3
  subst e0 e1 e2 e3
  obtain ⟨l⟩ := cs
  simp only at hcs
  subst hcs
  exact ⟨kd, ep, n, tk, rfl, wf_i64 w0, wf_u64 w1, wf_u64 w2, wf_i64 w3⟩

set_option maxRecDepth 100000 in
/-- A slice of bytes among the arguments. -/
theorem open_bytes {v : Value} {d : DataW H} {p : List MemPlace} (hv : Value.okWide Tryd.prog W .any b0 30 v) (h : DataW.Trod enc Tryd.prog W base (fun _ => true) held 30 v d p)
    (hsz : ∀ (elems spare : List (DataW H)), d = .slice elems spare → (elems.length + spare.length) * Tryd.prog.bytesOf 5 ≤ reachBytes) : ∃ l : List Nat, Seg W v l ∧ Byts l := by
  obtain ⟨a0, len, cap, rfl⟩ := okWide_slice Tryd.underlying30 hv
  obtain ⟨fuel, hf⟩ := h
  rcases open_ints Tryd.underlying30 Tryd.underlying5 Tryd.cells5 hf with ⟨hcs, hx⟩ | ⟨a, len', cap', zs, hcs, _, hl, hm, hz, hx, hcell, hwz⟩
  · simp [Value.cells] at hcs
    obtain ⟨rfl, rfl, rfl⟩ := hcs
    exact ⟨[], Seg.nil W, Byts.nil⟩
  · simp [Value.cells] at hcs
    obtain ⟨rfl, rfl, rfl⟩ := hcs
    simp only [Prod.mk.injEq] at hx
    simp only [if_true] at hz
    have hs := hsz _ _ hx.1
    rw [Tryd.bytes5] at hs
    simp only [lits, List.length_map, List.length_take, List.length_drop, reachBytes] at hs
    have hbd : ∀ z ∈ zs, 0 ≤ z ∧ z < 256 := by
      intro z hz
      have := hwz z hz
      have h1 : IntKind.u8.min = 0 := rfl
      have h2 : IntKind.u8.max = 255 := rfl
      simp only [Lit.wf, Bool.and_eq_true, decide_eq_true_eq] at this
      omega
    refine ⟨(zs.take len).map Int.toNat, ⟨some a, cap, by simp [List.length_take]; omega, by simp [List.length_take]; omega, hm, by simp [List.length_take]; omega, ?_⟩, ?_⟩
    · by_cases h0 : len = 0
      · exact .inl (by simp [h0])
      · obtain ⟨b, off, spot⟩ := a
        have hspot : spot = none := by simpa [Addr.add] using World.cell?_spot (hcell 0 (by omega))
        subst hspot
        refine .inr ⟨b, off, rfl, ?_, fun i x hx => ?_⟩
        · have := World.block_lt_of_cell? W _ (hcell 0 (by omega))
          simpa [add_plain2] using this
        · rw [List.getElem?_map, List.getElem?_take] at hx
          split at hx
          · rename_i hi
            have hc := hcell i (by omega)
            rw [add_plain2] at hc
            rw [hc]
            have hzi : zs[i]? = some zs[i] := List.getElem?_eq_getElem (by omega)
            rw [hzi] at hx
            simp only [Option.map_some, Option.some.injEq] at hx
            have := (hbd zs[i] (List.getElem_mem _)).1
            rw [List.getD_eq_getElem?_getD, hzi, Option.getD_some, ← hx, Int.toNat_of_nonneg this]
          · cases hx
    · intro i x hx
      rw [List.getElem?_map] at hx
      obtain ⟨z, hz', rfl⟩ := Option.map_eq_some_iff.1 hx
      have := hbd z (List.mem_of_mem_take (List.mem_of_getElem? hz'))
      omega
end
end Go.Proofs.YtaajjejgjnlbgaaDoor
