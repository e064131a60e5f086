/-
  Walks: Spoil: it writes over bytes of a new block, and over nothing else.
-/
import Derived.Test.YtnokibjhkdaamaaDRefCopy
namespace Go.Proofs.Ytnokibjhkdaamaa
open Go.RowKit Go.Maps Go.Shelf

/-- Bytes that may be written over, in a block behind the base. -/
def Soft (base : Nat) (w : World) (v : Value) : Prop := ∃ ao n c, v = .slice ao n c ∧ n ≤ 140737488355328 ∧ (n = 0 ∨ ∃ g off, ao = some ⟨g, off, none⟩ ∧ base ≤ g ∧ ∀ j, j < n → (∃ x, w.cell? ⟨g, off + j, none⟩ = some (.int .u8 x)) ∧ w.frozen? ⟨g, off + j, none⟩ = false)
structure Soft1 (w : World) (g off n : Nat) : Prop where
  cell : ∀ j, j < n → ∃ x, w.cell? ⟨g, off + j, none⟩ = some (.int .u8 x)
  free : ∀ j, j < n → w.frozen? ⟨g, off + j, none⟩ = false
theorem Soft1.set {w : World} {g off n : Nat} (h : Soft1 w g off n) (i : Nat) (x : Int) : Soft1 (w.setCell ⟨g, off + i, none⟩ (.int .u8 x)) g off n := by
  refine ⟨fun j hj => ?_, fun j hj => by rw [World.frozen?_setCell]; exact h.free j hj⟩
  obtain ⟨y, hy⟩ := h.cell j hj
  by_cases e : i = j
  · subst e; exact ⟨x, World.cell?_setCell_same _ _ _ hy⟩
  · refine ⟨y, ?_⟩
    have e2 : (⟨g, off + i, none⟩ : Addr) ≠ ⟨g, off + j, none⟩ := fun h => e (by have := congrArg Addr.off h; simp at this; exact this)
    exact (World.cell?_setCell_other _ _ _ _ e2).trans hy

set_option maxHeartbeats 1000000 in
set_option maxRecDepth 100000 in
theorem Spoil_p {base : Nat} {w : World} {v : Value} (h : Soft base w v) :
    Calls Try.prog 20 #[v] w fun e w' => e = .returned (.tuple #[]) ∧ Below base w w' := by
  obtain ⟨ao, n, c, rfl, hn, h0⟩ := h
  rcases h0 with rfl | ⟨g, off, rfl, hg, hc⟩
  · go_enter Try.func20, Try.ntmps20
    go_wp2_with fail
    go_loopw [2] (fun iv wr => iv = .int .i64 0 ∧ wr = w) (fun iv _ => 0)
    case atStart => exact ⟨rfl, rfl⟩
    case round =>
      obtain ⟨rfl, rfl⟩ := hrel
      go_wp2
      go_end0
      exact ⟨rfl, Below.refl _ _⟩
  · have HS : Hid (Soft1 w g off n) := ⟨fun j hj => (hc j hj).1, fun j hj => (hc j hj).2⟩
    clear hc
    go_enter Try.func20, Try.ntmps20
    go_wp2_with fail
    go_loopw [2] (fun iv wr => ∃ i : Nat, i ≤ n ∧ iv = .int .i64 i ∧ Hid (Soft1 wr g off n ∧ Below base w wr)) (fun iv _ => n - (intOf iv).toNat)
    case atStart => exact ⟨0, Nat.zero_le _, rfl, HS.out, Below.refl _ _⟩
    case round =>
      obtain ⟨i, hi, rfl, HI⟩ := hrel
      by_cases hlt : i < n
      · obtain ⟨x, hx⟩ := HI.out.1.cell i hlt
        have hf := HI.out.1.free i hlt
        have HT := fun y => hide (And.intro (HI.out.1.set i y) (HI.out.2.setCell (p := ⟨g, off + i, none⟩) hg (.int .u8 y)))
        go_wp2
        go_roundw
        case rel => exact ⟨i + 1, by omega, by go_num, (HT _).out⟩
        case measure => simp [intOf]; omega
      · obtain rfl : i = n := by omega
        go_wp2
        go_end0
        exact ⟨rfl, HI.out.2⟩
end Go.Proofs.Ytnokibjhkdaamaa
