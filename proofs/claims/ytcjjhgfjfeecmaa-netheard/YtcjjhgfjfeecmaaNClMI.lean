/-
  Walks over package net: clouds of messages of whole numbers.
-/
import Derived.Test.YtcjjhgfjfeecmaaNTkMI
import Derived.Test.YtcjjhgfjfeecmaaNHelp
namespace Go.Proofs.Ytcjjhgfjfeecmaa
open Go.RowKit

/-- A cloud at block K: the messages q under way; fp: its blocks. -/
def ClMI (w : World) (fp : List Nat) (K : Nat) (q : List (Int × Int)) : Prop := ∃ cs v ks, Ln 101 RMI w fp K 0 71 cs q v ks
theorem ClMI.back {w w' : World} {fp : List Nat} {K : Nat} {q : List (Int × Int)} (H : ClMI w fp K q) (hs : w.heap.size ≤ w'.heap.size) (hb : ∀ i ∈ fp, w'.heap[i]? = w.heap[i]?) : ClMI w' fp K q := by
  obtain ⟨cs, v, ks, H⟩ := H
  exact ⟨cs, v, ks, H.back rlMI hs hb⟩
theorem ClMI.lt {w : World} {fp : List Nat} {K : Nat} {q : List (Int × Int)} (H : ClMI w fp K q) : ∀ i ∈ fp, i < w.heap.size := by
  obtain ⟨cs, v, ks, H⟩ := H
  exact H.lt
theorem ClMI.below {w w' : World} {fp : List Nat} {K : Nat} {q : List (Int × Int)} (H : ClMI w fp K q) (hb : Below w.heap.size w w') : ClMI w' fp K q :=
  H.back hb.size (fun i hi => hb.block i (H.lt i hi))
set_option maxRecDepth 100000 in
theorem cNewMI (w : World) : Calls Try.prog 15 #[] w fun r w' => r = .returned (.pointer (some ⟨w.heap.size, 0, none⟩)) ∧ ClMI w' [w.heap.size] w.heap.size [] ∧ Below w.heap.size w w' := by
  go_enter Try.func15, Try.ntmps15
  go_wp2
  go_ret
  exact ⟨rfl, ⟨_, .slice none 0 0, [], BoxT.new _ _ _, rfl, rfl, Row.nil _ _ _ _ _, by simp, fun g hg => by simp [Value.ownBlock] at hg, fun i hi => by rw [List.mem_singleton.1 hi]; simp, .inl ⟨rfl, rfl⟩⟩, (Below.refl _ _).alloc (Nat.le_refl _) _⟩
set_option maxRecDepth 100000 in
theorem cLenMI {w : World} {fp : List Nat} {K : Nat} {q : List (Int × Int)} (H : ClMI w fp K q) : Calls Try.prog 19 #[.pointer (some ⟨K, 0, none⟩)] w fun r w' => r = .returned (.int .i64 q.length) ∧ w' = w := by
  obtain ⟨cs, v, ks, H⟩ := H
  have c1 := H.cells.2
  clear H
  go_enter Try.func19, Try.ntmps19
  go_wp2
  go_ret
  exact ⟨rfl, rfl⟩
set_option maxHeartbeats 1000000 in
set_option maxRecDepth 100000 in
theorem cSendMI {w : World} {fp : List Nat} {K : Nat} {q : List (Int × Int)} (H : ClMI w fp K q) (hl : q.length < 512) (x : (Int × Int)) :
    Calls Try.prog 16 #[.pointer (some ⟨K, 0, none⟩), .int .i64 x.1, Value.int .i64 x.2] w fun r w' => r = .returned (.tuple #[]) ∧ ∃ fp', ClMI w' fp' K (q ++ [x]) ∧ TurnedL fp w w' ∧ Grew fp fp' w := by
  obtain ⟨cs, v, ks, H⟩ := H
  have hput := hide (putMI H hl x)
  obtain ⟨x1, x2⟩ := x
  clear H
  go_enter Try.func16, Try.ntmps16
  go_wp2_with (first | (go_at_call 32; refine hput.out.mono ?_; rintro r w1 ⟨rfl, fp1, cs1, v1, ks1, L1, hlk, t1, g1⟩) | fail)
  go_end0
  exact ⟨rfl, fp1, ⟨_, _, _, L1⟩, t1, g1⟩
set_option maxHeartbeats 1000000 in
set_option maxRecDepth 100000 in
theorem cPickNMI {w : World} {fp : List Nat} {K : Nat} (H : ClMI w fp K []) (i how : Int) : Calls Try.prog 17 #[.pointer (some ⟨K, 0, none⟩), .int .i64 i, .int .i64 how] w fun r w' => r = .returned (.tuple #[.int .i64 0, .int .i64 0, .bool false, .int .i64 52]) ∧ w' = w := by
  obtain ⟨cs, v, ks, H⟩ := H
  have c1 := H.cells.2
  simp only [List.length_nil] at c1
  clear H
  go_enter Try.func17, Try.ntmps17
  go_wp2
  exact bodyPost_ret (v := .tuple #[.int .i64 0, .int .i64 0, .bool false, .int .i64 52]) (by simp [results, Try.results17, go_sem]) rfl ⟨rfl, rfl⟩
set_option maxHeartbeats 2000000 in
set_option maxRecDepth 100000 in
theorem cPick1MI {w : World} {fp : List Nat} {K : Nat} {q : List (Int × Int)} {x : (Int × Int)} {j : Nat} (H : ClMI w fp K q) (hl : q.length ≤ 1000) (i : Int) (hj : i % (q.length : Int) = (j : Int)) (hx : q[j]? = some x) :
    Calls Try.prog 17 #[.pointer (some ⟨K, 0, none⟩), .int .i64 i, .int .i64 1] w fun r w' => r = .returned (.tuple #[.int .i64 x.1, Value.int .i64 x.2, .bool true, .int .i64 0]) ∧ Below w.heap.size w w' := by
  obtain ⟨cs, v, ks, H⟩ := H
  have c1 := H.cells.2
  have hjl := (List.getElem?_eq_some_iff.1 hx).1
  have hpk := hide (peekMI H hx (vi := (j : Int)) rfl)
  have hwr := hide (wrapped_any w i (q.length : Int) (by omega) (by omega))
  rw [hj] at hwr
  obtain ⟨x1, x2⟩ := x
  clear H hx hj
  generalize q.length = m at *
  have hm : ¬ ((m : Int) = 0) := by omega
  go_enter Try.func17, Try.ntmps17
  go_wp2_with (first
    | (go_at_call 33; refine hwr.out.mono ?_; rintro r w1 ⟨rfl, rfl⟩)
    | (go_at_call 34; refine hpk.out.mono ?_; rintro r w5 ⟨rfl, b5⟩; have HB := hide (b5.alloc b5.size (.cells #[.int .i64 x1, Value.int .i64 x2] 74)); have g5 := BoxT.new 74 w5 #[.int .i64 x1, Value.int .i64 x2]; obtain ⟨e5, e6⟩ := g5.cells2; clear b5 g5)
    | fail)
  go_quiet (fail)
  go_wp2
  exact bodyPost_ret (v := .tuple #[.int .i64 x1, Value.int .i64 x2, .bool true, .int .i64 0]) (by simp [results, Try.results17, go_sem]) rfl ⟨rfl, below_drewN HB.out nq⟩
set_option maxHeartbeats 2000000 in
set_option maxRecDepth 100000 in
theorem cPickMI {w : World} {fp : List Nat} {K : Nat} {q1 q2 : List (Int × Int)} {x : (Int × Int)} (H : ClMI w fp K (q1 ++ x :: q2)) (hl : q1.length + q2.length < 512) (i how : Int) (hj : i % ((q1 ++ x :: q2).length : Int) = (q1.length : Int)) (hh : how ≠ 1) :
    Calls Try.prog 17 #[.pointer (some ⟨K, 0, none⟩), .int .i64 i, .int .i64 how] w fun r w' => r = .returned (if how = 2 then .tuple #[.int .i64 0, .int .i64 0, .bool false, .int .i64 0] else .tuple #[.int .i64 x.1, Value.int .i64 x.2, .bool true, .int .i64 0]) ∧ ∃ fp', ClMI w' fp' K (q1 ++ q2) ∧ TurnedL fp w w' ∧ Grew fp fp' w := by
  obtain ⟨cs, v, ks, H⟩ := H
  have c1 := H.cells.2
  have htk := hide (takeMI H hl rfl)
  have hwr := hide (wrapped_any w i ((q1 ++ x :: q2).length : Int) (by simp; omega) (by simp; omega))
  rw [hj] at hwr
  obtain ⟨x1, x2⟩ := x
  clear H hj
  have hpos : 0 < (q1 ++ (x1, x2) :: q2).length := by simp; omega
  generalize (q1 ++ (x1, x2) :: q2).length = m at *
  have hm : ¬ ((m : Int) = 0) := by omega
  by_cases h2 : how = 2
  · subst h2
    rw [if_pos rfl]
    clear hh
    go_enter Try.func17, Try.ntmps17
    go_wp2_with (first
      | (go_at_call 33; refine hwr.out.mono ?_; rintro r w1 ⟨rfl, rfl⟩)
      | (go_at_call 35; refine htk.out.mono ?_; rintro r w5 ⟨rfl, fp5, cs5, v5, ks5, L5, lk5, t5, g5⟩; have HB := hide (show ClMI (w5.alloc (.cells #[.int .i64 x1, Value.int .i64 x2] 74)) fp5 K (q1 ++ q2) ∧ TurnedL fp w1 (w5.alloc (.cells #[.int .i64 x1, Value.int .i64 x2] 74)) ∧ Grew fp fp5 w1 from ⟨⟨_, _, _, L5.below rlMI ((Below.refl _ _).alloc (Nat.le_refl _) _)⟩, t5.trans (TurnedL.of_below (fp := fp) ((Below.refl _ _).alloc (Nat.le_refl _) _)) (Grew.refl _ _), g5⟩); clear L5 t5 g5)
      | fail)
    exact bodyPost_ret (v := .tuple #[.int .i64 0, .int .i64 0, .bool false, .int .i64 0]) (by simp [results, Try.results17, go_sem]) rfl ⟨rfl, _, HB.out⟩
  · rw [if_neg h2]
    go_enter Try.func17, Try.ntmps17
    go_wp2_with (first
      | (go_at_call 33; refine hwr.out.mono ?_; rintro r w1 ⟨rfl, rfl⟩)
      | (go_at_call 35; refine htk.out.mono ?_; rintro r w5 ⟨rfl, fp5, cs5, v5, ks5, L5, lk5, t5, g5⟩; have HB := hide (show ClMI (w5.alloc (.cells #[.int .i64 x1, Value.int .i64 x2] 74)) fp5 K (q1 ++ q2) ∧ TurnedL fp w1 (w5.alloc (.cells #[.int .i64 x1, Value.int .i64 x2] 74)) ∧ Grew fp fp5 w1 from ⟨⟨_, _, _, L5.below rlMI ((Below.refl _ _).alloc (Nat.le_refl _) _)⟩, t5.trans (TurnedL.of_below (fp := fp) ((Below.refl _ _).alloc (Nat.le_refl _) _)) (Grew.refl _ _), g5⟩); obtain ⟨e5, e6⟩ := (BoxT.new 74 w5 #[.int .i64 x1, Value.int .i64 x2]).cells2; clear L5 t5 g5)
      | fail)
    go_quiet (fail)
    go_wp2
    have hd : ∀ n, Below (w5.alloc (.cells #[.int .i64 x1, Value.int .i64 x2] 74)).heap.size (w5.alloc (.cells #[.int .i64 x1, Value.int .i64 x2] 74)) ((w5.alloc (.cells #[.int .i64 x1, Value.int .i64 x2] 74)).drewN n) := fun n => below_drewN (Below.refl _ _) n
    exact bodyPost_ret (v := .tuple #[.int .i64 x1, Value.int .i64 x2, .bool true, .int .i64 0]) (by simp [results, Try.results17, go_sem]) rfl ⟨rfl, _, HB.out.1.below (hd nq), HB.out.2.1.trans (TurnedL.of_below (hd nq)) (Grew.refl _ _), HB.out.2.2⟩
end Go.Proofs.Ytcjjhgfjfeecmaa
