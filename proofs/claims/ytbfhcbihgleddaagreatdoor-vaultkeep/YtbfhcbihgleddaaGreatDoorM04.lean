/-
  Texts of the vault, in build order: Ctl.
-/
import Derived.Test.YtbfhcbihgleddaaGreatDoorM03
namespace Go.Proofs.YtbfhcbihgleddaaGreatDoor
open Go.RowKit

theorem refFrame_any (kd ke ti va ma n : Int) (ov : Bool) (w : World) (hn : 0 ≤ n) :
    Calls Tryz.prog 105 #[.agg #[.int .i64 kd, .int .i64 ke, .int .i64 ti, .int .i64 va, .int .i64 ma, .int .u64 n, .bool ov]] w (RefPost w (fits kd ke ti va ma n ov) (frb kd ke ti va ma n ov)) := by
  by_cases h1 : kd = 1
  · subst h1; exact refFrame_1 ke ti va ma n ov w
  by_cases h2 : kd = 2
  · subst h2; exact refFrame_2 ke ti va ma n ov w
  by_cases h3 : kd = 3
  · subst h3; exact refFrame_3 ke ti va ma n ov w hn
  · exact refFrame_0 kd ke ti va ma n ov w h1 h2 h3

/-- Block k is a box of type t. -/
def BoxT (t : TypeId) (w : World) (k : Nat) (cs : Array Value) : Prop := w.heap[k]? = some (.cells cs t (0, 0))
theorem BoxT.cells4 {t : TypeId} {w : World} {k : Nat} {c0 c1 c2 c3 : Value} (h : BoxT t w k #[c0, c1, c2, c3]) :
    w.cell? ⟨k, 0, none⟩ = some c0 ∧ w.cell? ⟨k, 1, none⟩ = some c1 ∧ w.cell? ⟨k, 2, none⟩ = some c2 ∧ w.cell? ⟨k, 3, none⟩ = some c3 := by
  unfold BoxT at h
  simp [World.cell?, h]
theorem BoxT.new (t : TypeId) (w : World) (cs : Array Value) : BoxT t (w.alloc (.cells cs t)) w.heap.size cs := heap_alloc_new w _
theorem BoxT.new_at {t : TypeId} {w : World} {cs : Array Value} {k : Nat} (h : k = w.heap.size) : BoxT t (w.alloc (.cells cs t)) k cs := by subst h; exact BoxT.new t w cs
theorem BoxT.alloc {t : TypeId} {w : World} {k : Nat} {cs : Array Value} (h : BoxT t w k cs) (o : Obj) : BoxT t (w.alloc o) k cs := by
  unfold BoxT at *
  rw [Below.heap_alloc w o k (Array.getElem?_eq_some_iff.1 h).1]; exact h
theorem BoxT.kept {t : TypeId} {base : Nat} {w w' : World} {k : Nat} {cs : Array Value} (h : BoxT t w k cs) (hk : Kept base w w') (ht : t ≠ 5) : BoxT t w' k cs := Kept.box hk h ht
theorem BoxT.drew {t : TypeId} {w : World} {k : Nat} {cs : Array Value} (h : BoxT t w k cs) : BoxT t w.drew k cs := h
theorem BoxT.lt {t : TypeId} {w : World} {k : Nat} {cs : Array Value} (h : BoxT t w k cs) : k < w.heap.size := (Array.getElem?_eq_some_iff.1 h).1

def cfits (kd tk : Int) : Bool := decide (1 ≤ kd ∧ kd ≤ 6 ∧ 0 ≤ tk ∧ tk ≤ 65535)
def ctb (kd ep n tk : Int) : List Nat := kd.toNat :: (be 8 ep.toNat ++ (be 8 n.toNat ++ be 2 tk.toNat))

theorem short_any (n : Int) (w : World) : Calls Tryz.prog 96 #[.int .i64 n] w fun e w' => e = .returned (.bool (decide (0 ≤ n ∧ n ≤ 65535))) ∧ w' = w := by
  by_cases h1 : 0 ≤ n <;> by_cases h2 : n ≤ 65535
  all_goals
    go_enter Tryz.func96, Tryz.ntmps96
    go_wp2
    go_ret
    exact ⟨ret_bool (by simp [h1, h2]), rfl⟩

end Go.Proofs.YtbfhcbihgleddaaGreatDoor
