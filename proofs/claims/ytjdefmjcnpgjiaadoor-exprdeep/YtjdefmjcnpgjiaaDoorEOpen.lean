/-
  Readings for the rows over package expr: the tables out of the row's condition.
-/
import Derived.Test.YtjdefmjcnpgjiaaDoorRows
import Derived.Test.YtjdefmjcnpgjiaaDoorETextW
import Derived.ProofKit
import Derived.LaidMore
import Derived.OpenShut
import Derived.Stop.Joined
import Derived.SizedLaws
import Derived.Deep.Slices
namespace Go.Proofs.YtjdefmjcnpgjiaaDoor
open Go.ChangeShapes Go.WideShapes Go.ChangeAt Go.WideMaps Go.WideElems Go.RowKit Go.Deep

theorem Tryd.own : ownKnob Tryd.prog.godebug = none := by kernel_rfl
theorem Tryd.laidOut : laidOutB Tryd.prog = true := by kernel_rfl
theorem gWds : Tryd.prog.globalNamed "leat/expr.words" = some 0 := by kernel_rfl
theorem tWds : (Tryd.prog.globals[0]?).map (·.type) = some 56 := by kernel_rfl
theorem gPow : Tryd.prog.globalNamed "internal/strconv.uint64pow10" = some 1 := by kernel_rfl
theorem tPow : (Tryd.prog.globals[1]?).map (·.type) = some 78 := by kernel_rfl
theorem Tryd.cells9 : Tryd.prog.cellsOf 9 = 1 := by kernel_rfl
theorem Tryd.cells59 : Tryd.prog.cellsOf 59 = 1 := by kernel_rfl
theorem Tryd.cells78 : Tryd.prog.cellsOf 78 = 20 := by kernel_rfl
abbrev laid4 : List (String × DataW Unit) := [("math/bits.deBruijn32tab", Rows.laid_math_bits_deBruijn32tab), ("math/bits.deBruijn64tab", Rows.laid_math_bits_deBruijn64tab), ("internal/strconv.uint64pow10", Rows.laid_internal_strconv_uint64pow10), ("leat/expr.words", Rows.laid_leat_expr_words)]
theorem door_met (os : Os) (args : Array Value) : laidMetH Tryd.prog laid4 ((World.doorLaid Tryd.prog 400 os).forCall (fun _ _ => 0) ⟨#[], args, []⟩).memory :=
  laidMetH_of_parts3 (fuel := 8) (laidMet_of_run' 8 (by kernel_rfl) (by kernel_rfl)) (by kernel_rfl) (by kernel_rfl)
theorem wrdD (j : Nat) (h1 : 1 ≤ j) (h2 : j ≤ 14) : ∃ l, (Rows.laid_leat_expr_words : DataW Unit) = .agg l ∧ l[j]? = some (.lit (.string (wrd j))) := by
  refine ⟨_, rfl, ?_⟩
  match j, h1, h2 with
  | 1, _, _ | 2, _, _ | 3, _, _ | 4, _, _ | 5, _, _ | 6, _, _ | 7, _, _ | 8, _, _ | 9, _, _ | 10, _, _ | 11, _, _ | 12, _, _ | 13, _, _ | 14, _, _ => rfl
  | n + 15, _, h => exact absurd h (by omega)
theorem powD : (Rows.laid_internal_strconv_uint64pow10 : DataW Unit) = Lib.tabData .u64 Lib.pow10Tab := by rfl
/-- The condition on the tables gives what texts are made with. -/
theorem glob_of_laid {W : World} (h : laidMetH Tryd.prog laid4 W) : Glob W := by
  rw [MakeChecks.laidMetH_plain _ _ _ (by kernel_rfl)] at h
  obtain ⟨ps, ⟨_, _, _, _, _, _, _, _, _, _, ⟨_, _, _, _, _, _, _, _, _, _, ⟨g2, t2, cs2, f2, p2, q2, hg2, ht2, hv2, hd2, ⟨g0, t0, cs0, f0, p0, q0, hg0, ht0, hv0, hd0, _, _⟩, _⟩, _⟩, _⟩, _, _⟩ := h
  have htab : Lib.TabIs Tryd.prog W "internal/strconv.uint64pow10" .u64 Lib.pow10Tab := by
    obtain rfl := Option.some.inj (gPow.symm.trans hg2)
    obtain rfl := Option.some.inj (tPow.symm.trans ht2)
    rw [powD] at hd2
    unfold Lib.TabIs
    rw [hv2, ← Lib.cells_of_tab Tryd.underlying78 Tryd.underlying59 Tryd.cells59 Tryd.cells78 hd2]
  refine ⟨?_, htab⟩
  clear htab hd2 hv2
  obtain rfl := Option.some.inj (gWds.symm.trans hg0)
  obtain rfl := Option.some.inj (tWds.symm.trans ht0)
  obtain ⟨xs, m1, rfl, hx1, hlen, hn3, hel⟩ := DataW.trod_array Tryd.underlying56 hd0
  simp only [Prod.mk.injEq] at hx1
  intro j h1 h2
  have hj0 := hel j (by omega)
  rw [Tryd.cells9, Nat.mul_one] at hj0
  have hjx : j < xs.length := by omega
  rw [List.getElem?_eq_getElem hjx] at hj0
  obtain ⟨k, e1, e2, _⟩ := DataW.trod_string Tryd.underlying9 hj0
  obtain ⟨l, hl, hlj⟩ := wrdD j h1 h2
  rw [hl] at hx1
  have hmap := hx1.1
  simp only [DataW.agg.injEq] at hmap
  rw [hmap, List.getElem?_map, List.getElem?_eq_getElem hjx] at hlj
  simp only [Option.map_some, Option.some.injEq] at hlj
  rw [e2] at hlj
  simp only [DataW.lit.injEq, Lit.string.injEq] at hlj
  have hk : k = ⟨(wrd j).toArray⟩ := by
    rw [← hlj]
  subst hk
  have hv := World.var?_cell hg0 hv0 j
  rw [hv]
  have : cs0.toList[j]? = some (.string ⟨(wrd j).toArray⟩) := by
    have h2 : ((cs0.toList.drop j).take 1)[0]? = some (.string ⟨(wrd j).toArray⟩) := by rw [e1]; rfl
    rw [List.getElem?_take, if_pos (by omega), List.getElem?_drop] at h2
    simpa using h2
  simpa using this
end Go.Proofs.YtjdefmjcnpgjiaaDoor
