import Derived.Test.YtaajjejgjnlbgabDoorRef
namespace Go.Proofs.YtaajjejgjnlbgabDoor
open Go.RowKit

theorem Own.shape {base : Nat} {w : World} {v : Value} {l : List Nat} (h : Own base w v l) (hl : l ≠ []) : ∃ g cap, v = .slice (some ⟨g, 0, none⟩) l.length cap ∧ base ≤ g ∧ g < w.heap.size ∧ l.length ≤ cap ∧ cap ≤ maxLen := by
  rcases h.2 with ⟨_, h0⟩ | ⟨g, cap, cur, h1, h2, h3, h4, h5, _⟩
  · exact absurd (List.length_eq_zero_iff.1 h0) hl
  · exact ⟨g, cap, h1, h2, (Array.getElem?_eq_some_iff.1 h3).1, h4, h5⟩
theorem Own.cellAt {base : Nat} {w : World} {g cap : Nat} {l : List Nat} (h : Own base w (.slice (some ⟨g, 0, none⟩) l.length cap) l) (j : Nat) (hj : j < l.length) : w.cell? ⟨g, j, none⟩ = some (.int .u8 (l[j] : Nat)) := by
  rw [World.ownsRow.cellAt h j (by omega)]
  simp [bs, List.getElem?_eq_getElem hj]
theorem Own.free {base : Nat} {w : World} {g cap : Nat} {l : List Nat} (h : Own base w (.slice (some ⟨g, 0, none⟩) l.length cap) l) (j : Nat) : w.frozen? ⟨g, j, none⟩ = false := World.ownsRow.frozenAt h j
theorem Own.stored {base : Nat} {w : World} {g cap : Nat} {l : List Nat} (h : Own base w (.slice (some ⟨g, 0, none⟩) l.length cap) l) (j x : Nat) :
    Own base (w.setCell ⟨g, j, none⟩ (.int .u8 (x : Int))) (.slice (some ⟨g, 0, none⟩) l.length cap) (l.set j x) ∧ Kept base w (w.setCell ⟨g, j, none⟩ (.int .u8 (x : Int))) := by
  obtain ⟨h1, h2⟩ := World.ownsRow.stored h j (.int .u8 (x : Int))
  refine ⟨?_, Kept.of_grown h h2⟩
  show World.ownsRow _ _ _ _ _ (l.set j x).length (bs (l.set j x))
  simp only [List.length_set, bs, List.map_set] at *
  exact h1

theorem set9 (l : List Nat) (x y : Nat) (h : l.length = 9) : (l ++ [x]).set 9 y = l ++ [y] := by
  rw [List.set_append_right _ _ (by omega), h]; rfl

end Go.Proofs.YtaajjejgjnlbgabDoor
