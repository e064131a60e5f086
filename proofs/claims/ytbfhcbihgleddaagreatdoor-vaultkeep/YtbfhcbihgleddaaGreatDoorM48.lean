/-
  Texts of the vault, in build order: VLight.
-/
import Derived.Test.YtbfhcbihgleddaaGreatDoorM44
/-
  The law's light, of one step with one part.
-/
namespace Go.Proofs.YtbfhcbihgleddaaGreatDoor
open Go.RowKit

set_option maxHeartbeats 4000000 in
set_option maxRecDepth 100000 in
theorem light1 {w : World} {G1 G2 m pn cn cm cp cc : Nat} {am ap ac : Option Addr} {a b c : Value} (h2 : BoxT 33 w G2 #[.int .i64 0, .int .i64 0, .slice (some ⟨G1, 0, none⟩) 1 1, .slice none 0 0, .slice none 0 0]) (h1 : BoxT 27 w G1 #[a, b, c, .slice am m cm, .slice ap pn cp, .slice ac cn cc])
    (lm : m ≤ 140737488355328) (lp : pn ≤ 140737488355328) (lc : cn ≤ 140737488355328) :
    Calls Tryz.prog 10 #[.slice (some ⟨G2, 0, none⟩) 1 1] w fun e w' => e = .returned (.bool (decide (10 + m + 4 * pn + 4 * cn ≤ 20000))) ∧ Below w.heap.size w w' := by
  obtain ⟨t, ht⟩ : ∃ t, 10 + m + 4 * pn + 4 * cn = t := ⟨_, rfl⟩
  have ht2 : (10 : Int) + (m : Int) + 4 * (pn : Int) + 4 * (cn : Int) = (t : Int) := by omega
  rw [ht]
  have hw1 : IntKind.i64.wrap (10 + (m : Int)) = 10 + (m : Int) := by rw [IntKind.wrap_i64]; omega
  have hw2 : IntKind.i64.wrap (4 * (pn : Int)) = 4 * (pn : Int) := by rw [IntKind.wrap_i64]; omega
  have hw3 : IntKind.i64.wrap (4 * (cn : Int)) = 4 * (cn : Int) := by rw [IntKind.wrap_i64]; omega
  have hw4 : IntKind.i64.wrap (10 + (m : Int) + 4 * (pn : Int)) = 10 + (m : Int) + 4 * (pn : Int) := by rw [IntKind.wrap_i64]; omega
  have hw5 : IntKind.i64.wrap (10 + (m : Int) + 4 * (pn : Int) + 4 * (cn : Int)) = (t : Int) := by rw [IntKind.wrap_i64]; omega
  have H1 := hide h1
  have H2 := hide h2
  clear h1 h2 ht
  go_enter Tryz.func10, Tryz.ntmps10
  go_wp2_with fail
  go_loopw [3, 4] (fun nv iv wr => ((nv = .int .i64 0 ∧ iv = .int .i64 0) ∨ (nv = .int .i64 (t : Int) ∧ iv = .int .i64 1)) ∧ Hid (Below w.heap.size w wr)) (fun _ iv _ => 1 - (intOf iv).toNat)
  case atStart => exact ⟨.inl ⟨rfl, rfl⟩, Below.refl _ _⟩
  case round =>
    obtain ⟨hc, HB⟩ := hrel
    have X1 := H1.out.belowT HB.out
    have X2 := H2.out.belowT HB.out
    obtain ⟨f0, f1, f2, f3, f4, f5⟩ := X1.cells6
    have d2 : wr.cell? ⟨G2, 2, none⟩ = some (.slice (some ⟨G1, 0, none⟩) 1 1) := (X2.cellAt 2).trans rfl
    have d3 : wr.cell? ⟨G2, 3, none⟩ = some (.slice none 0 0) := (X2.cellAt 3).trans rfl
    have d4 : wr.cell? ⟨G2, 4, none⟩ = some (.slice none 0 0) := (X2.cellAt 4).trans rfl
    rcases hc with ⟨rfl, rfl⟩ | ⟨rfl, rfl⟩
    · go_wp2_with fail
      go_quiet (fail)
      have HB2 := hide (below_drewN' HB.out nq)
      generalize wr.drewN nq = wa at *
      clear f0 f1 f2 f3 f4 f5 d2 d3 d4 X1 X2
      go_wp2_with fail
      go_loopw [3, 5] (fun nv kv wz => ((nv = .int .i64 0 ∧ kv = .int .i64 0) ∨ (nv = .int .i64 (t : Int) ∧ kv = .int .i64 1)) ∧ Hid (Below w.heap.size w wz)) (fun _ kv _ => 1 - (intOf kv).toNat)
      case atStart => exact ⟨.inl ⟨rfl, rfl⟩, HB2.out⟩
      case round =>
        obtain ⟨hc, HZ⟩ := hrel
        have X1 := H1.out.belowT HZ.out
        have X2 := H2.out.belowT HZ.out
        obtain ⟨f0, f1, f2, f3, f4, f5⟩ := X1.cells6
        have d2 : wr.cell? ⟨G2, 2, none⟩ = some (.slice (some ⟨G1, 0, none⟩) 1 1) := (X2.cellAt 2).trans rfl
        clear X1 X2
        rcases hc with ⟨rfl, rfl⟩ | ⟨rfl, rfl⟩
        · go_wp2_with fail
          go_quiet (fail)
          have HZ2 := hide (below_drewN' HZ.out nq)
          go_wp2
          go_roundw
          case rel => exact ⟨.inr ⟨by first | rfl | (rw [ht2]), rfl⟩, HZ2.out⟩
          case measure => simp [intOf]
        · go_wp2
          go_roundw
          case rel => exact ⟨.inr ⟨rfl, rfl⟩, HZ.out⟩
          case measure => simp [intOf]
    · by_cases ht3 : t ≤ 20000
      · have h20 : (t : Int) ≤ 20000 := by omega
        go_wp2
        go_ret
        exact ⟨by simp [ht3], HB.out⟩
      · have h20 : ¬ ((t : Int) ≤ 20000) := by omega
        go_wp2
        go_ret
        exact ⟨by simp, HB.out⟩
end Go.Proofs.YtbfhcbihgleddaaGreatDoor
