/-
  Walks over package net: links of whole numbers.
-/
import Derived.Test.YtnomoekbfclckaaNTkI
namespace Go.Proofs.Ytnomoekbfclckaa
open Go.RowKit

/-- A link at block K: its epoch e, the things q under way; fp: its blocks. -/
def LkI (w : World) (fp : List Nat) (K : Nat) (e : Int) (q : List Int) : Prop := ∃ cs v ks, cs.size = 3 ∧ cs[0]? = some (.int .u64 e) ∧ Ln 59 RI w fp K 1 77 cs q v ks
theorem LkI.back {w w' : World} {fp : List Nat} {K : Nat} {e : Int} {q : List Int} (H : LkI w fp K e q) (hs : w.heap.size ≤ w'.heap.size) (hb : ∀ i ∈ fp, w'.heap[i]? = w.heap[i]?) : LkI w' fp K e q := by
  obtain ⟨cs, v, ks, h1, h2, H⟩ := H
  exact ⟨cs, v, ks, h1, h2, H.back rlI hs hb⟩
theorem LkI.lt {w : World} {fp : List Nat} {K : Nat} {e : Int} {q : List Int} (H : LkI w fp K e q) : ∀ i ∈ fp, i < w.heap.size := by
  obtain ⟨cs, v, ks, h1, h2, H⟩ := H
  exact H.lt
theorem LkI.below {w w' : World} {fp : List Nat} {K : Nat} {e : Int} {q : List Int} (H : LkI w fp K e q) (hb : Below w.heap.size w w') : LkI w' fp K e q :=
  H.back hb.size (fun i hi => hb.block i (H.lt i hi))
theorem LkI.like {w : World} {fp : List Nat} {K : Nat} {e : Int} {q : List Int} {cs cs' : Array Value} {v : Value} {ks : List Nat} (h1 : cs.size = 3) (h2 : cs[0]? = some (.int .u64 e)) (hl : Like 1 cs cs') (H : Ln 59 RI w fp K 1 77 cs' q v ks) : LkI w fp K e q :=
  ⟨cs', v, ks, hl.1.trans h1, (hl.2 0 (by omega) (by omega)).trans h2, H⟩
set_option maxRecDepth 100000 in
theorem lNewI (w : World) (e : Int) : Calls Try.prog 35 #[.int .u64 e] w fun r w' => r = .returned (.pointer (some ⟨w.heap.size, 0, none⟩)) ∧ LkI w' [w.heap.size] w.heap.size e [] ∧ Below w.heap.size w w' := by
  go_enter Try.func35, Try.ntmps35
  go_wp2
  go_ret
  refine ⟨rfl, ⟨_, .slice none 0 0, [], ?_, ?_, BoxT.new _ _ _, rfl, rfl, Row.nil _ _ _ _ _, by simp, fun g hg => by simp [Value.ownBlock] at hg, fun i hi => by rw [List.mem_singleton.1 hi]; simp, .inl ⟨rfl, rfl⟩⟩, (Below.refl _ _).alloc (Nat.le_refl _) _⟩ <;> rfl
set_option maxRecDepth 100000 in
theorem lLenI {w : World} {fp : List Nat} {K : Nat} {e : Int} {q : List Int} (H : LkI w fp K e q) : Calls Try.prog 47 #[.pointer (some ⟨K, 0, none⟩)] w fun r w' => r = .returned (.int .i64 q.length) ∧ w' = w := by
  obtain ⟨cs, v, ks, h1, h2, H⟩ := H
  have c1 := H.cells.2
  clear H
  go_enter Try.func47, Try.ntmps47
  go_wp2
  go_ret
  exact ⟨rfl, rfl⟩
set_option maxHeartbeats 1000000 in
set_option maxRecDepth 100000 in
theorem lSendI {w : World} {fp : List Nat} {K : Nat} {e : Int} {q : List Int} (H : LkI w fp K e q) (hl : q.length < 512) (x : Int) (e' : Int) :
    Calls Try.prog 38 #[.pointer (some ⟨K, 0, none⟩), .int .u64 e', Value.int .i64 x] w fun r w' => r = .returned (.int .i64 (if e' = e then 0 else 51)) ∧ ∃ fp', LkI w' fp' K e (if e' = e then q ++ [x] else q) ∧ TurnedL fp w w' ∧ Grew fp fp' w := by
  obtain ⟨cs, v, ks, h1, h2, H⟩ := H
  have c0 := (H.box.cellAt 0).trans h2
  have hput := hide (putI H hl x)
  have HH := hide H
  clear H
  by_cases he : e' = e
  · subst he
    rw [if_pos rfl, if_pos rfl]
    go_enter Try.func38, Try.ntmps38
    go_wp2_with (first | (go_at_call 56; refine hput.out.mono ?_; rintro r w1 ⟨rfl, fp1, cs1, v1, ks1, L1, hlk, t1, g1⟩) | fail)
    go_ret
    exact ⟨rfl, fp1, LkI.like h1 h2 hlk L1, t1, g1⟩
  · rw [if_neg he, if_neg he]
    go_enter Try.func38, Try.ntmps38
    go_wp2
    go_ret
    exact ⟨rfl, fp, ⟨cs, v, ks, h1, h2, HH.out⟩, TurnedL.refl _ _, Grew.refl _ _⟩
set_option maxHeartbeats 1000000 in
set_option maxRecDepth 100000 in
theorem lDeliverNI {w : World} {fp : List Nat} {K : Nat} {e : Int} (H : LkI w fp K e []) : Calls Try.prog 39 #[.pointer (some ⟨K, 0, none⟩)] w fun r w' => r = .returned (.tuple #[.int .i64 0, .int .i64 52]) ∧ w' = w := by
  obtain ⟨cs, v, ks, h1, h2, H⟩ := H
  have c1 := H.cells.2
  simp only [List.length_nil] at c1
  clear H
  go_enter Try.func39, Try.ntmps39
  go_wp2
  go_ret2
  exact ⟨rfl, rfl⟩
set_option maxHeartbeats 1000000 in
set_option maxRecDepth 100000 in
theorem lDeliverI {w : World} {fp : List Nat} {K : Nat} {e : Int} {x : Int} {q : List Int} (H : LkI w fp K e (x :: q)) (hl : q.length < 512) : Calls Try.prog 39 #[.pointer (some ⟨K, 0, none⟩)] w fun r w' => r = .returned (.tuple #[Value.int .i64 x, .int .i64 0]) ∧ ∃ fp', LkI w' fp' K e q ∧ TurnedL fp w w' ∧ Grew fp fp' w := by
  obtain ⟨cs, v, ks, h1, h2, H⟩ := H
  have c1 := H.cells.2
  have htk := hide (takeI H hl)
  simp only [List.length_cons] at c1
  clear H
  go_enter Try.func39, Try.ntmps39
  go_wp2_with (first | (go_at_call 57; refine htk.out.mono ?_; rintro r w1 ⟨rfl, fp1, cs1, v1, ks1, L1, hlk, t1, g1⟩) | fail)
  go_ret2
  exact ⟨rfl, fp1, LkI.like h1 h2 hlk L1, t1, g1⟩
set_option maxHeartbeats 1000000 in
set_option maxRecDepth 100000 in
theorem lKillI {w : World} {fp : List Nat} {K : Nat} {e : Int} {q : List Int} (H : LkI w fp K e q) (e' : Int) : Calls Try.prog 65 #[.pointer (some ⟨K, 0, none⟩), .int .u64 e'] w fun r w' => r = .returned (.tuple #[]) ∧ ∃ fp', LkI w' fp' K (max e e') [] ∧ TurnedL fp w w' ∧ Grew fp fp' w := by
  obtain ⟨cs, v, ks, h1, h2, H⟩ := H
  have c0 := (H.box.cellAt 0).trans h2
  obtain ⟨c1, c2⟩ := H.cells
  have cf := H.box.free
  have HX := hide H.box
  have hK := H.inK
  clear H
  obtain ⟨s0, s1, s2, rfl⟩ : ∃ s0 s1 s2, cs = #[s0, s1, s2] := by
    obtain ⟨l⟩ := cs
    match l, h1 with
    | [a, b, c], _ => exact ⟨a, b, c, rfl⟩
  have HT : Hid (TurnedL fp w (((w.setCell ⟨K, 1, none⟩ (.slice none 0 0)).setCell ⟨K, 2, none⟩ (.int .i64 0)).setCell ⟨K, 0, none⟩ (.int .u64 (max e e')))) := ((TurnedL.set hK _ _ _).trans (TurnedL.set hK _ _ _) (Grew.refl _ _)).trans (TurnedL.set hK _ _ _) (Grew.refl _ _)
  have HB : Hid (BoxT 77 (((w.setCell ⟨K, 1, none⟩ (.slice none 0 0)).setCell ⟨K, 2, none⟩ (.int .i64 0)).setCell ⟨K, 0, none⟩ (.int .u64 (max e e'))) K #[.int .u64 (max e e'), .slice none 0 0, .int .i64 0]) := by simpa using hide (((HX.out.set 1 (.slice none 0 0)).set 2 (.int .i64 0)).set 0 (.int .u64 (max e e')))
  go_enter Try.func65, Try.ntmps65
  go_wp2
  all_goals
    go_end0
    first
      | (have hm : max e e' = e' := (by omega); rw [hm] at HT HB ⊢; exact ⟨rfl, [K], ⟨_, .slice none 0 0, [], rfl, rfl, HB.out, rfl, rfl, Row.nil _ _ _ _ _, by simp, fun g hg => by simp [Value.ownBlock] at hg, fun i hi => by rw [List.mem_singleton.1 hi]; exact HB.out.lt, .inl ⟨rfl, rfl⟩⟩, HT.out, fun i hi => .inl (by rw [List.mem_singleton.1 hi]; exact hK)⟩)
      | (have hm : max e e' = e := (by omega); rw [hm] at HT HB ⊢; exact ⟨rfl, [K], ⟨_, .slice none 0 0, [], rfl, rfl, HB.out, rfl, rfl, Row.nil _ _ _ _ _, by simp, fun g hg => by simp [Value.ownBlock] at hg, fun i hi => by rw [List.mem_singleton.1 hi]; exact HB.out.lt, .inl ⟨rfl, rfl⟩⟩, HT.out, fun i hi => .inl (by rw [List.mem_singleton.1 hi]; exact hK)⟩)
end Go.Proofs.Ytnomoekbfclckaa
