/-
  Texts of the vault, in build order: Frame.
-/
import Derived.Test.YtbfhcbihgleddaaGreatDoorM00
namespace Go.Proofs.YtbfhcbihgleddaaGreatDoor
open Go.RowKit
set_option maxHeartbeats 1000000 in
set_option maxRecDepth 100000 in
theorem writeFrame_2 (base : Nat) (v : Value) (l : List Nat) (ke ti va ma n : Int) (ov : Bool) (w : World) (hl : l.length ≤ 1000000000) (hb : base ≤ w.heap.size) (hown : Own base w v l) :
    Calls Tryz.prog 147 #[v, .agg #[.int .i64 2, .int .i64 ke, .int .i64 ti, .int .i64 va, .int .i64 ma, .int .u64 n, .bool ov]] w fun e w' => ∃ v', e = .returned v' ∧ Own base w' v' (l ++ (2 :: sbe ma)) ∧ Kept base w w' := by
  go_enter Tryz.func147, Tryz.ntmps147
  go_wp2_with (first | (at_builtin; refine app_own rfl _ _ rfl base _ _ rfl ((hown.alloc _).alloc _) ⟨w.heap.size + 1, 0, none⟩ 1 [2] rfl ?c0 ?c1 ?c2 ?_) | fail)
  case c0 => intro j h; have : j = 0 := by simpa using h
             subst this; simp [Addr.add]
  case c1 => simp; omega
  case c2 => simp; omega
  intro v1 w1 ho1 hk1
  have bx1 := ((Box.new w _).alloc _).kept hk1
  obtain ⟨c0, c1, c2, c3, c4, c5, c6⟩ := bx1.cells
  have hz1 := hk1.size
  simp only [World.size_alloc] at hz1
  have hk := (((Kept.refl base w).alloc _).alloc _).trans hk1
  clear hk1
  go_wp2_with fail
  refine (writeSigned_any base v1 _ ma w1 (by simp; omega) (by omega) ho1).mono ?_
  rintro e w2 ⟨v2, rfl, ho2, hk2⟩
  have hk := hk.trans hk2
  clear c0 c1 c2 c3 c4 c5 c6 bx1 ho1 hk2
  go_wp2
  go_ret
  refine ⟨_, rfl, ?_, hk⟩
  simpa using ho2

set_option maxHeartbeats 1000000 in
set_option maxRecDepth 100000 in
theorem writeFrame_3 (base : Nat) (v : Value) (l : List Nat) (ke ti va ma n : Int) (ov : Bool) (w : World) (hn : 0 ≤ n) (hl : l.length ≤ 1000000000) (hb : base ≤ w.heap.size) (hown : Own base w v l) :
    Calls Tryz.prog 147 #[v, .agg #[.int .i64 3, .int .i64 ke, .int .i64 ti, .int .i64 va, .int .i64 ma, .int .u64 n, .bool ov]] w fun e w' => ∃ v', e = .returned v' ∧ Own base w' v' (l ++ (3 :: (be 8 n.toNat ++ [ov.toNat]))) ∧ Kept base w w' := by
  go_enter Tryz.func147, Tryz.ntmps147
  go_wp2_with (first | (at_builtin; refine app_own rfl _ _ rfl base _ _ rfl ((hown.alloc _).alloc _) ⟨w.heap.size + 1, 0, none⟩ 1 [3] rfl ?c0 ?c1 ?c2 ?_) | fail)
  case c0 => intro j h; have : j = 0 := by simpa using h
             subst this; simp [Addr.add]
  case c1 => simp; omega
  case c2 => simp; omega
  intro v1 w1 ho1 hk1
  have bx1 := ((Box.new w _).alloc _).kept hk1
  obtain ⟨c0, c1, c2, c3, c4, c5, c6⟩ := bx1.cells
  have hz1 := hk1.size
  simp only [World.size_alloc] at hz1
  have hk := (((Kept.refl base w).alloc _).alloc _).trans hk1
  clear hk1
  go_wp2_with fail
  refine (writeNumber_at base v1 _ _ n w1 (by omega) (by omega) hn (by simp; omega) (by omega) ho1).mono ?_
  rintro e w2 ⟨v2, rfl, ho2, hk2⟩
  have bx2 := bx1.kept hk2
  have hk := hk.trans hk2
  have hz2 := hk2.size
  clear c0 c1 c2 c3 c4 c5 c6 bx1 ho1 hk2
  obtain ⟨c0, c1, c2, c3, c4, c5, c6⟩ := bx2.cells
  go_wp2_with fail
  refine (writeFlag_any base v2 _ ov w2 (by simp [be_length]; omega) (by omega) ho2).mono ?_
  rintro e w3 ⟨v3, rfl, ho3, hk3⟩
  have hk := hk.trans hk3
  clear c0 c1 c2 c3 c4 c5 c6 bx2 ho2 hk3
  go_wp2
  go_ret
  refine ⟨_, rfl, ?_, hk⟩
  simpa using ho3

/-- A frame's bytes. -/
def frb (kd ke ti va ma n : Int) (ov : Bool) : List Nat :=
  if kd = 1 then 1 :: (sbe ke ++ (sbe ti ++ sbe va)) else if kd = 2 then 2 :: sbe ma else 3 :: (be 8 n.toNat ++ [ov.toNat])

theorem fits_kind {kd ke ti va ma n : Int} {ov : Bool} (h : fits kd ke ti va ma n ov = true) : kd = 1 ∨ kd = 2 ∨ kd = 3 := by
  unfold fits at h
  split at h
  · exact .inl ‹_›
  split at h
  · exact .inr (.inl ‹_›)
  split at h
  · exact .inr (.inr ‹_›)
  · cases h

theorem writeFrame_any (base : Nat) (v : Value) (l : List Nat) (kd ke ti va ma n : Int) (ov : Bool) (w : World) (hk : kd = 1 ∨ kd = 2 ∨ kd = 3) (hn : 0 ≤ n) (hl : l.length ≤ 1000000000) (hb : base ≤ w.heap.size) (hown : Own base w v l) :
    Calls Tryz.prog 147 #[v, .agg #[.int .i64 kd, .int .i64 ke, .int .i64 ti, .int .i64 va, .int .i64 ma, .int .u64 n, .bool ov]] w fun e w' => ∃ v', e = .returned v' ∧ Own base w' v' (l ++ frb kd ke ti va ma n ov) ∧ Kept base w w' := by
  rcases hk with rfl | rfl | rfl
  · exact writeFrame_1 base v l ke ti va ma n ov w hl hb hown
  · exact writeFrame_2 base v l ke ti va ma n ov w hl hb hown
  · exact writeFrame_3 base v l ke ti va ma n ov w hn hl hb hown

end Go.Proofs.YtbfhcbihgleddaaGreatDoor
