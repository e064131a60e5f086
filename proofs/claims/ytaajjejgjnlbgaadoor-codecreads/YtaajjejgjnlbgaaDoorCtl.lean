import Derived.Test.YtaajjejgjnlbgaaDoorRef3
namespace Go.Proofs.YtaajjejgjnlbgaaDoor
open Go.RowKit

theorem refFrame_any (kd ke ti va ma n : Int) (ov : Bool) (w : World) (hn : 0 ≤ n) :
    Calls Tryd.prog 11 #[.agg #[.int .i64 kd, .int .i64 ke, .int .i64 ti, .int .i64 va, .int .i64 ma, .int .u64 n, .bool ov]] w (RefPost w (fits kd ke ti va ma n ov) (frb kd ke ti va ma n ov)) := by
  by_cases h1 : kd = 1
  · subst h1; exact refFrame_1 ke ti va ma n ov w
  by_cases h2 : kd = 2
  · subst h2; exact refFrame_2 ke ti va ma n ov w
  by_cases h3 : kd = 3
  · subst h3; exact refFrame_3 ke ti va ma n ov w hn
  · exact refFrame_0 kd ke ti va ma n ov w h1 h2 h3

/-- Block k is a box of type t. -/
def BoxT (t : TypeId) (w : World) (k : Nat) (cs : Array Value) : Prop := w.heap[k]? = some (.cells cs t (0, 0))
theorem BoxT.cells4 {t : TypeId} {w : World} {k : Nat} {c0 c1 c2 c3 : Value} (h : BoxT t w k #[c0, c1, c2, c3]) :
    w.cell? ⟨k, 0, none⟩ = some c0 ∧ w.cell? ⟨k, 1, none⟩ = some c1 ∧ w.cell? ⟨k, 2, none⟩ = some c2 ∧ w.cell? ⟨k, 3, none⟩ = some c3 := by
  unfold BoxT at h
  simp [World.cell?, h]
theorem BoxT.new (t : TypeId) (w : World) (cs : Array Value) : BoxT t (w.alloc (.cells cs t)) w.heap.size cs := heap_alloc_new w _
theorem BoxT.new_at {t : TypeId} {w : World} {cs : Array Value} {k : Nat} (h : k = w.heap.size) : BoxT t (w.alloc (.cells cs t)) k cs := by subst h; exact BoxT.new t w cs
theorem BoxT.alloc {t : TypeId} {w : World} {k : Nat} {cs : Array Value} (h : BoxT t w k cs) (o : Obj) : BoxT t (w.alloc o) k cs := by
  unfold BoxT at *
  rw [Below.heap_alloc w o k (Array.getElem?_eq_some_iff.1 h).1]; exact h
theorem BoxT.kept {t : TypeId} {base : Nat} {w w' : World} {k : Nat} {cs : Array Value} (h : BoxT t w k cs) (hk : Kept base w w') (ht : t ≠ 5) : BoxT t w' k cs := Kept.box hk h ht
theorem BoxT.drew {t : TypeId} {w : World} {k : Nat} {cs : Array Value} (h : BoxT t w k cs) : BoxT t w.drew k cs := h
theorem BoxT.lt {t : TypeId} {w : World} {k : Nat} {cs : Array Value} (h : BoxT t w k cs) : k < w.heap.size := (Array.getElem?_eq_some_iff.1 h).1

def cfits (kd tk : Int) : Bool := decide (1 ≤ kd ∧ kd ≤ 6 ∧ 0 ≤ tk ∧ tk ≤ 65535)
def ctb (kd ep n tk : Int) : List Nat := kd.toNat :: (be 8 ep.toNat ++ (be 8 n.toNat ++ be 2 tk.toNat))

theorem controlKind_any (kd : Int) (w : World) : Calls Tryd.prog 42 #[.int .i64 kd] w fun e w' => e = .returned (.bool (decide (1 ≤ kd ∧ kd ≤ 6))) ∧ w' = w := by
  by_cases h1 : 1 ≤ kd <;> by_cases h2 : kd ≤ 6
  all_goals
    go_enter Tryd.func42, Tryd.ntmps42
    go_wp2
    go_ret
    exact ⟨ret_bool (by simp [h1, h2]), rfl⟩
theorem short_any (n : Int) (w : World) : Calls Tryd.prog 43 #[.int .i64 n] w fun e w' => e = .returned (.bool (decide (0 ≤ n ∧ n ≤ 65535))) ∧ w' = w := by
  by_cases h1 : 0 ≤ n <;> by_cases h2 : n ≤ 65535
  all_goals
    go_enter Tryd.func43, Tryd.ntmps43
    go_wp2
    go_ret
    exact ⟨ret_bool (by simp [h1, h2]), rfl⟩

set_option maxHeartbeats 1000000 in
set_option maxRecDepth 100000 in
theorem writeControl_any (base : Nat) (v : Value) (l : List Nat) (kd ep n tk : Int) (w : World) (k1 : 1 ≤ kd) (k2 : kd ≤ 6) (h1 : 0 ≤ ep) (h2 : 0 ≤ n) (t1 : 0 ≤ tk) (t2 : tk ≤ 65535) (hl : l.length ≤ 1000000000) (hb : base ≤ w.heap.size) (hown : Own base w v l) :
    Calls Tryd.prog 44 #[v, .agg #[.int .i64 kd, .int .u64 ep, .int .u64 n, .int .i64 tk]] w fun e w' => ∃ v', e = .returned v' ∧ Own base w' v' (l ++ ctb kd ep n tk) ∧ Kept base w w' := by
  obtain ⟨kd, rfl⟩ := Int.eq_ofNat_of_zero_le (show 0 ≤ kd by omega)
  have hw : IntKind.u64.wrap tk = tk := by rw [IntKind.wrap_u64]; omega
  go_enter Tryd.func44, Tryd.ntmps44
  go_wp2_with (first | (at_builtin; refine app_own rfl _ _ rfl base _ _ rfl ((hown.alloc _).alloc _) ⟨w.heap.size + 1, 0, none⟩ 1 [kd] rfl ?c0 ?c1 ?c2 ?_) | fail)
  case c0 => intro j h; have : j = 0 := by simpa using h
             subst this; simp [Addr.add]
  case c1 => simp; omega
  case c2 => simp; omega
  intro v1 w1 ho1 hk1
  have bx1 := ((BoxT.new 28 w _).alloc _).kept hk1 (by decide)
  obtain ⟨c0, c1, c2, c3⟩ := bx1.cells4
  have hz1 := bx1.lt
  have hk := (((Kept.refl base w).alloc _).alloc _).trans hk1
  clear hk1
  go_wp2_with fail
  refine (writeNumber_at base v1 _ _ ep w1 (by omega) (by omega) h1 (by simp; omega) (by omega) ho1).mono ?_
  rintro e w2 ⟨v2, rfl, ho2, hk2⟩
  have bx2 := bx1.kept hk2 (by decide)
  have hk := hk.trans hk2
  have hz2 := bx2.lt
  clear c0 c1 c2 c3 bx1 ho1 hk2
  obtain ⟨c0, c1, c2, c3⟩ := bx2.cells4
  go_wp2_with fail
  refine (writeNumber_at base v2 _ _ n w2 (by omega) (by omega) h2 (by simp [be_length]; omega) (by omega) ho2).mono ?_
  rintro e w3 ⟨v3, rfl, ho3, hk3⟩
  have bx3 := bx2.kept hk3 (by decide)
  have hk := hk.trans hk3
  have hz3 := bx3.lt
  clear c0 c1 c2 c3 bx2 ho2 hk3
  obtain ⟨c0, c1, c2, c3⟩ := bx3.cells4
  go_wp2_with fail
  refine (writeNumber_at base v3 _ _ tk w3 (by omega) (by omega) t1 (by simp [be_length]; omega) (by omega) ho3).mono ?_
  rintro e w4 ⟨v4, rfl, ho4, hk4⟩
  have hk := hk.trans hk4
  clear c0 c1 c2 c3 bx3 ho3 hk4
  go_wp2
  go_ret
  refine ⟨_, rfl, ?_, hk⟩
  simpa [ctb] using ho4
end Go.Proofs.YtaajjejgjnlbgaaDoor
