/-
  Texts of the vault, in build order: Fits, Frame.
-/
import Derived.Test.YtbfhcbihgleddaaGreatDoorM00
import Derived.Laws.StructEq
import Derived.Deep.RegionHeld
namespace Go.Proofs.YtbfhcbihgleddaaGreatDoor
open Go.RowKit
/-- A frame that Frame takes. -/
def fits (kd ke ti va ma n : Int) (ov : Bool) : Bool :=
  if kd = 1 then decide (ma = 0 ∧ n = 0 ∧ ov = false) else if kd = 2 then decide (ke = 0 ∧ ti = 0 ∧ va = 0 ∧ n = 0 ∧ ov = false) else if kd = 3 then decide (ke = 0 ∧ ti = 0 ∧ va = 0 ∧ ma = 0) else false

theorem ret_bool {a b : Bool} (h : a = b) : Ending.returned (.bool a) = .returned (.bool b) := by rw [h]

set_option maxHeartbeats 1000000 in
set_option maxRecDepth 100000 in
theorem frameFits_any (kd ke ti va ma n : Int) (ov : Bool) (w : World) :
    Calls Tryz.prog 125 #[.agg #[.int .i64 kd, .int .i64 ke, .int .i64 ti, .int .i64 va, .int .i64 ma, .int .u64 n, .bool ov]] w fun e w' => e = .returned (.bool (fits kd ke ti va ma n ov)) ∧ Below w.heap.size w w' := by
  by_cases h1 : kd = 1
  · subst h1
    go_enter Tryz.func125, Tryz.ntmps125
    go_wp2
    all_goals (go_ret; refine ⟨ret_bool (by simp [fits, *]), ?_⟩; exact ((Below.refl _ _).alloc (Nat.le_refl _) _).alloc (by simp) _)
  by_cases h2 : kd = 2
  · subst h2
    go_enter Tryz.func125, Tryz.ntmps125
    go_wp2
    all_goals (go_ret; refine ⟨ret_bool (by simp [fits, *]), ?_⟩; exact ((Below.refl _ _).alloc (Nat.le_refl _) _).alloc (by simp) _)
  by_cases h3 : kd = 3
  · subst h3
    go_enter Tryz.func125, Tryz.ntmps125
    go_wp2
    go_region
    all_goals go_wp2
    all_goals (go_ret; refine ⟨ret_bool (by simp [fits, *]), ?_⟩; exact (((Below.refl _ _).alloc (Nat.le_refl _) _).alloc (by simp) _).drew)
  · have e1 : (kd == 1) = false := by simpa using h1
    have e2 : (kd == 2) = false := by simpa using h2
    have e3 : (kd == 3) = false := by simpa using h3
    go_enter Tryz.func125, Tryz.ntmps125
    go_wp2
    go_ret
    refine ⟨ret_bool (by simp [fits, h1, h2, h3]), ?_⟩
    exact ((Below.refl _ _).alloc (Nat.le_refl _) _).alloc (by simp) _


/-- Block k is a frame's box. -/
def Box (w : World) (k : Nat) (cs : Array Value) : Prop := w.heap[k]? = some (.cells cs 149 (0, 0))
theorem Box.cells {w : World} {k : Nat} {c0 c1 c2 c3 c4 c5 c6 : Value} (h : Box w k #[c0, c1, c2, c3, c4, c5, c6]) :
    w.cell? ⟨k, 0, none⟩ = some c0 ∧ w.cell? ⟨k, 1, none⟩ = some c1 ∧ w.cell? ⟨k, 2, none⟩ = some c2 ∧ w.cell? ⟨k, 3, none⟩ = some c3 ∧ w.cell? ⟨k, 4, none⟩ = some c4 ∧ w.cell? ⟨k, 5, none⟩ = some c5 ∧ w.cell? ⟨k, 6, none⟩ = some c6 := by
  unfold Box at h
  simp [World.cell?, h]
theorem Box.new (w : World) (cs : Array Value) : Box (w.alloc (.cells cs 149)) w.heap.size cs := heap_alloc_new w _
theorem Box.alloc {w : World} {k : Nat} {cs : Array Value} (h : Box w k cs) (o : Obj) : Box (w.alloc o) k cs := by
  unfold Box at *
  rw [Below.heap_alloc w o k (Array.getElem?_eq_some_iff.1 h).1]; exact h
theorem Box.kept {base : Nat} {w w' : World} {k : Nat} {cs : Array Value} (h : Box w k cs) (hk : Kept base w w') : Box w' k cs := Kept.box hk h (by decide)

theorem own_len {l : List Nat} {n : Int} : (l ++ sbe n).length = l.length + 8 := by simp [sbe, be_length]

set_option maxHeartbeats 1000000 in
set_option maxRecDepth 100000 in
theorem writeFrame_1 (base : Nat) (v : Value) (l : List Nat) (ke ti va ma n : Int) (ov : Bool) (w : World) (hl : l.length ≤ 1000000000) (hb : base ≤ w.heap.size) (hown : Own base w v l) :
    Calls Tryz.prog 147 #[v, .agg #[.int .i64 1, .int .i64 ke, .int .i64 ti, .int .i64 va, .int .i64 ma, .int .u64 n, .bool ov]] w fun e w' => ∃ v', e = .returned v' ∧ Own base w' v' (l ++ (1 :: (sbe ke ++ (sbe ti ++ sbe va)))) ∧ Kept base w w' := by
  go_enter Tryz.func147, Tryz.ntmps147
  go_wp2_with (first | (at_builtin; refine app_own rfl _ _ rfl base _ _ rfl ((hown.alloc _).alloc _) ⟨w.heap.size + 1, 0, none⟩ 1 [1] rfl ?c0 ?c1 ?c2 ?_) | fail)
  case c0 => intro j h; have : j = 0 := by simpa using h
             subst this; simp [Addr.add]
  case c1 => simp; omega
  case c2 => simp; omega
  intro v1 w1 ho1 hk1
  have bx1 := ((Box.new w _).alloc _).kept hk1
  obtain ⟨c0, c1, c2, c3, c4, c5, c6⟩ := bx1.cells
  have hz1 := hk1.size
  simp only [World.size_alloc] at hz1
  have hk := (((Kept.refl base w).alloc _).alloc _).trans hk1
  clear hk1
  go_wp2_with fail
  refine (writeSigned_any base v1 _ ke w1 (by simp; omega) (by omega) ho1).mono ?_
  rintro e w2 ⟨v2, rfl, ho2, hk2⟩
  have bx2 := bx1.kept hk2
  have hk := hk.trans hk2
  have hz2 := hk2.size
  clear c0 c1 c2 c3 c4 c5 c6 bx1 ho1 hk2
  obtain ⟨c0, c1, c2, c3, c4, c5, c6⟩ := bx2.cells
  go_wp2_with fail
  refine (writeSigned_any base v2 _ ti w2 (by rw [own_len]; simp; omega) (by omega) ho2).mono ?_
  rintro e w3 ⟨v3, rfl, ho3, hk3⟩
  have bx3 := bx2.kept hk3
  have hk := hk.trans hk3
  have hz3 := hk3.size
  clear c0 c1 c2 c3 c4 c5 c6 bx2 ho2 hk3
  obtain ⟨c0, c1, c2, c3, c4, c5, c6⟩ := bx3.cells
  go_wp2_with fail
  refine (writeSigned_any base v3 _ va w3 (by rw [own_len, own_len]; simp; omega) (by omega) ho3).mono ?_
  rintro e w4 ⟨v4, rfl, ho4, hk4⟩
  have hk := hk.trans hk4
  clear c0 c1 c2 c3 c4 c5 c6 bx3 ho3 hk4
  go_wp2
  go_ret
  refine ⟨_, rfl, ?_, hk⟩
  simpa using ho4
end Go.Proofs.YtbfhcbihgleddaaGreatDoor
namespace Go.Proofs.YtbfhcbihgleddaaGreatDoor
open Go.RowKit
set_option maxHeartbeats 1000000 in
set_option maxRecDepth 100000 in
theorem writeFrame_2 (base : Nat) (v : Value) (l : List Nat) (ke ti va ma n : Int) (ov : Bool) (w : World) (hl : l.length ≤ 1000000000) (hb : base ≤ w.heap.size) (hown : Own base w v l) :
    Calls Tryz.prog 147 #[v, .agg #[.int .i64 2, .int .i64 ke, .int .i64 ti, .int .i64 va, .int .i64 ma, .int .u64 n, .bool ov]] w fun e w' => ∃ v', e = .returned v' ∧ Own base w' v' (l ++ (2 :: sbe ma)) ∧ Kept base w w' := by
  go_enter Tryz.func147, Tryz.ntmps147
  go_wp2_with (first | (at_builtin; refine app_own rfl _ _ rfl base _ _ rfl ((hown.alloc _).alloc _) ⟨w.heap.size + 1, 0, none⟩ 1 [2] rfl ?c0 ?c1 ?c2 ?_) | fail)
  case c0 => intro j h; have : j = 0 := by simpa using h
             subst this; simp [Addr.add]
  case c1 => simp; omega
  case c2 => simp; omega
  intro v1 w1 ho1 hk1
  have bx1 := ((Box.new w _).alloc _).kept hk1
  obtain ⟨c0, c1, c2, c3, c4, c5, c6⟩ := bx1.cells
  have hz1 := hk1.size
  simp only [World.size_alloc] at hz1
  have hk := (((Kept.refl base w).alloc _).alloc _).trans hk1
  clear hk1
  go_wp2_with fail
  refine (writeSigned_any base v1 _ ma w1 (by simp; omega) (by omega) ho1).mono ?_
  rintro e w2 ⟨v2, rfl, ho2, hk2⟩
  have hk := hk.trans hk2
  clear c0 c1 c2 c3 c4 c5 c6 bx1 ho1 hk2
  go_wp2
  go_ret
  refine ⟨_, rfl, ?_, hk⟩
  simpa using ho2

set_option maxHeartbeats 1000000 in
set_option maxRecDepth 100000 in
theorem writeFrame_3 (base : Nat) (v : Value) (l : List Nat) (ke ti va ma n : Int) (ov : Bool) (w : World) (hn : 0 ≤ n) (hl : l.length ≤ 1000000000) (hb : base ≤ w.heap.size) (hown : Own base w v l) :
    Calls Tryz.prog 147 #[v, .agg #[.int .i64 3, .int .i64 ke, .int .i64 ti, .int .i64 va, .int .i64 ma, .int .u64 n, .bool ov]] w fun e w' => ∃ v', e = .returned v' ∧ Own base w' v' (l ++ (3 :: (be 8 n.toNat ++ [ov.toNat]))) ∧ Kept base w w' := by
  go_enter Tryz.func147, Tryz.ntmps147
  go_wp2_with (first | (at_builtin; refine app_own rfl _ _ rfl base _ _ rfl ((hown.alloc _).alloc _) ⟨w.heap.size + 1, 0, none⟩ 1 [3] rfl ?c0 ?c1 ?c2 ?_) | fail)
  case c0 => intro j h; have : j = 0 := by simpa using h
             subst this; simp [Addr.add]
  case c1 => simp; omega
  case c2 => simp; omega
  intro v1 w1 ho1 hk1
  have bx1 := ((Box.new w _).alloc _).kept hk1
  obtain ⟨c0, c1, c2, c3, c4, c5, c6⟩ := bx1.cells
  have hz1 := hk1.size
  simp only [World.size_alloc] at hz1
  have hk := (((Kept.refl base w).alloc _).alloc _).trans hk1
  clear hk1
  go_wp2_with fail
  refine (writeNumber_at base v1 _ _ n w1 (by omega) (by omega) hn (by simp; omega) (by omega) ho1).mono ?_
  rintro e w2 ⟨v2, rfl, ho2, hk2⟩
  have bx2 := bx1.kept hk2
  have hk := hk.trans hk2
  have hz2 := hk2.size
  clear c0 c1 c2 c3 c4 c5 c6 bx1 ho1 hk2
  obtain ⟨c0, c1, c2, c3, c4, c5, c6⟩ := bx2.cells
  go_wp2_with fail
  refine (writeFlag_any base v2 _ ov w2 (by simp [be_length]; omega) (by omega) ho2).mono ?_
  rintro e w3 ⟨v3, rfl, ho3, hk3⟩
  have hk := hk.trans hk3
  clear c0 c1 c2 c3 c4 c5 c6 bx2 ho2 hk3
  go_wp2
  go_ret
  refine ⟨_, rfl, ?_, hk⟩
  simpa using ho3

/-- A frame's bytes. -/
def frb (kd ke ti va ma n : Int) (ov : Bool) : List Nat :=
  if kd = 1 then 1 :: (sbe ke ++ (sbe ti ++ sbe va)) else if kd = 2 then 2 :: sbe ma else 3 :: (be 8 n.toNat ++ [ov.toNat])

theorem fits_kind {kd ke ti va ma n : Int} {ov : Bool} (h : fits kd ke ti va ma n ov = true) : kd = 1 ∨ kd = 2 ∨ kd = 3 := by
  unfold fits at h
  split at h
  · exact .inl ‹_›
  split at h
  · exact .inr (.inl ‹_›)
  split at h
  · exact .inr (.inr ‹_›)
  · cases h

theorem writeFrame_any (base : Nat) (v : Value) (l : List Nat) (kd ke ti va ma n : Int) (ov : Bool) (w : World) (hk : kd = 1 ∨ kd = 2 ∨ kd = 3) (hn : 0 ≤ n) (hl : l.length ≤ 1000000000) (hb : base ≤ w.heap.size) (hown : Own base w v l) :
    Calls Tryz.prog 147 #[v, .agg #[.int .i64 kd, .int .i64 ke, .int .i64 ti, .int .i64 va, .int .i64 ma, .int .u64 n, .bool ov]] w fun e w' => ∃ v', e = .returned v' ∧ Own base w' v' (l ++ frb kd ke ti va ma n ov) ∧ Kept base w w' := by
  rcases hk with rfl | rfl | rfl
  · exact writeFrame_1 base v l ke ti va ma n ov w hl hb hown
  · exact writeFrame_2 base v l ke ti va ma n ov w hl hb hown
  · exact writeFrame_3 base v l ke ti va ma n ov w hn hl hb hown

end Go.Proofs.YtbfhcbihgleddaaGreatDoor
