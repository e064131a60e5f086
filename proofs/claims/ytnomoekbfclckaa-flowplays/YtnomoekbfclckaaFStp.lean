/-
  Helps of the laws: steps of scripts, Ints.
-/
import Derived.Test.YtnomoekbfclckaaFHelp
namespace Go.Proofs.Ytnomoekbfclckaa
open Go.RowKit

/-- A step of a script. -/
structure Stp where
  wh : Int
  x : Int
  ep : Int
  sq : Int
def Stp.cs (p : Stp) : List Value := [.int .i64 p.wh, .int .i64 p.x, .int .u64 p.ep, .int .u64 p.sq]
theorem LSeg.stp {B : Nat} {w : World} {xs : List Stp} {ao : Option Addr} {cap : Nat} (h : LSeg 4 Stp.cs B w (.slice ao xs.length cap) xs) {i : Nat} {p : Stp} (hp : xs[i]? = some p) :
    ∃ b off, ao = some ⟨b, off, none⟩ ∧ b < B ∧ w.cell? ⟨b, off + i * 4, none⟩ = some (.int .i64 p.wh) ∧ w.cell? ⟨b, off + i * 4 + 1, none⟩ = some (.int .i64 p.x) ∧ w.cell? ⟨b, off + i * 4 + 2, none⟩ = some (.int .u64 p.ep) ∧ w.cell? ⟨b, off + i * 4 + 3, none⟩ = some (.int .u64 p.sq) := by
  obtain ⟨ao', cap', e, h2, h4⟩ := h
  cases e
  rcases h4 with h4 | ⟨b, off, h5, h6, h7⟩
  · subst h4; simp at hp
  · exact ⟨b, off, h5, h6, h7 i p hp 0 _ rfl, h7 i p hp 1 _ rfl, h7 i p hp 2 _ rfl, h7 i p hp 3 _ rfl⟩
set_option maxHeartbeats 1000000 in
set_option maxRecDepth 100000 in
/-- Ints of equal lists. -/
theorem Ints_any {w : World} {va vb : Value} {xs : List Int} (ha : LSeg 1 i64cs w.heap.size w va xs) (hb : LSeg 1 i64cs w.heap.size w vb xs) :
    Calls Try.prog 26 #[va, vb] w fun e w' => e = .returned (.bool true) ∧ Below w.heap.size w w' := by
  obtain ⟨aa, ca, rfl, la, ha⟩ := ha
  obtain ⟨ab, cb, rfl, lb, hb⟩ := hb
  have HA := hide ha
  have HB := hide hb
  clear ha hb
  generalize hlx : xs.length = n at *
  have HX := hide hlx
  clear hlx
  go_enter Try.func26, Try.ntmps26
  go_wp2_with fail
  go_loopw [5] (fun iv wr => ∃ i : Nat, i ≤ n ∧ iv = .int .i64 i ∧ Hid (Below w.heap.size w wr)) (fun iv _ => n - (intOf iv).toNat)
  case atStart => exact ⟨0, Nat.zero_le _, rfl, Below.refl _ _⟩
  case round =>
    obtain ⟨i, hi, rfl, HI⟩ := hrel
    by_cases hlt : i < n
    · obtain ⟨x, hx⟩ : ∃ x, xs[i]? = some x := ⟨_, List.getElem?_eq_getElem (by rw [HX.out]; exact hlt)⟩
      rcases HA.out with h | ⟨b1, o1, rfl, l1, h1⟩
      · rw [h] at hx; cases hx
      rcases HB.out with h | ⟨b2, o2, rfl, l2, h2⟩
      · rw [h] at hx; cases hx
      have c1 := (HI.out.cell (p := ⟨b1, o1 + i, none⟩) l1).trans (by simpa using h1 i x hx 0 _ rfl)
      have c2 := (HI.out.cell (p := ⟨b2, o2 + i, none⟩) l2).trans (by simpa using h2 i x hx 0 _ rfl)
      clear h1 h2 HA HB
      go_wp2
      go_region
      all_goals
        go_wp2
        go_roundw
        case rel => exact ⟨i + 1, by omega, by go_num, HI.out.drew⟩
        case measure => simp [intOf]; omega
    · obtain rfl : i = n := by omega
      go_wp2
      go_ret
      exact ⟨rfl, HI.out⟩
end Go.Proofs.Ytnomoekbfclckaa
