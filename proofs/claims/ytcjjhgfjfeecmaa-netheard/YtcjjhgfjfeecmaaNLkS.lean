/-
  Walks over package net: links of strings.
-/
import Derived.Test.YtcjjhgfjfeecmaaNTkS
namespace Go.Proofs.Ytcjjhgfjfeecmaa
open Go.RowKit

/-- A link at block K: its epoch e, the things q under way; fp: its blocks. -/
def LkS (w : World) (fp : List Nat) (K : Nat) (e : Int) (q : List ByteArray) : Prop := ∃ cs v ks, cs.size = 3 ∧ cs[0]? = some (.int .u64 e) ∧ Ln 109 RS w fp K 1 80 cs q v ks
theorem LkS.back {w w' : World} {fp : List Nat} {K : Nat} {e : Int} {q : List ByteArray} (H : LkS w fp K e q) (hs : w.heap.size ≤ w'.heap.size) (hb : ∀ i ∈ fp, w'.heap[i]? = w.heap[i]?) : LkS w' fp K e q := by
  obtain ⟨cs, v, ks, h1, h2, H⟩ := H
  exact ⟨cs, v, ks, h1, h2, H.back rlS hs hb⟩
theorem LkS.lt {w : World} {fp : List Nat} {K : Nat} {e : Int} {q : List ByteArray} (H : LkS w fp K e q) : ∀ i ∈ fp, i < w.heap.size := by
  obtain ⟨cs, v, ks, h1, h2, H⟩ := H
  exact H.lt
theorem LkS.below {w w' : World} {fp : List Nat} {K : Nat} {e : Int} {q : List ByteArray} (H : LkS w fp K e q) (hb : Below w.heap.size w w') : LkS w' fp K e q :=
  H.back hb.size (fun i hi => hb.block i (H.lt i hi))
theorem LkS.like {w : World} {fp : List Nat} {K : Nat} {e : Int} {q : List ByteArray} {cs cs' : Array Value} {v : Value} {ks : List Nat} (h1 : cs.size = 3) (h2 : cs[0]? = some (.int .u64 e)) (hl : Like 1 cs cs') (H : Ln 109 RS w fp K 1 80 cs' q v ks) : LkS w fp K e q :=
  ⟨cs', v, ks, hl.1.trans h1, (hl.2 0 (by omega) (by omega)).trans h2, H⟩
set_option maxRecDepth 100000 in
theorem lNewS (w : World) (e : Int) : Calls Try.prog 20 #[.int .u64 e] w fun r w' => r = .returned (.pointer (some ⟨w.heap.size, 0, none⟩)) ∧ LkS w' [w.heap.size] w.heap.size e [] ∧ Below w.heap.size w w' := by
  go_enter Try.func20, Try.ntmps20
  go_wp2
  go_ret
  refine ⟨rfl, ⟨_, .slice none 0 0, [], ?_, ?_, BoxT.new _ _ _, rfl, rfl, Row.nil _ _ _ _ _, by simp, fun g hg => by simp [Value.ownBlock] at hg, fun i hi => by rw [List.mem_singleton.1 hi]; simp, .inl ⟨rfl, rfl⟩⟩, (Below.refl _ _).alloc (Nat.le_refl _) _⟩ <;> rfl
set_option maxRecDepth 100000 in
theorem lEpochS {w : World} {fp : List Nat} {K : Nat} {e : Int} {q : List ByteArray} (H : LkS w fp K e q) : Calls Try.prog 28 #[.pointer (some ⟨K, 0, none⟩)] w fun r w' => r = .returned (.int .u64 e) ∧ w' = w := by
  obtain ⟨cs, v, ks, h1, h2, H⟩ := H
  have c0 := (H.box.cellAt 0).trans h2
  clear H
  go_enter Try.func28, Try.ntmps28
  go_wp2
  go_ret
  exact ⟨rfl, rfl⟩
set_option maxHeartbeats 1000000 in
set_option maxRecDepth 100000 in
theorem lSendS {w : World} {fp : List Nat} {K : Nat} {e : Int} {q : List ByteArray} (H : LkS w fp K e q) (hl : q.length < 512) (x : ByteArray) (e' : Int) :
    Calls Try.prog 22 #[.pointer (some ⟨K, 0, none⟩), .int .u64 e', Value.string x] w fun r w' => r = .returned (.int .i64 (if e' = e then 0 else 51)) ∧ ∃ fp', LkS w' fp' K e (if e' = e then q ++ [x] else q) ∧ TurnedL fp w w' ∧ Grew fp fp' w := by
  obtain ⟨cs, v, ks, h1, h2, H⟩ := H
  have c0 := (H.box.cellAt 0).trans h2
  have hput := hide (putS H hl x)
  have HH := hide H
  clear H
  by_cases he : e' = e
  · subst he
    rw [if_pos rfl, if_pos rfl]
    go_enter Try.func22, Try.ntmps22
    go_wp2_with (first | (go_at_call 36; refine hput.out.mono ?_; rintro r w1 ⟨rfl, fp1, cs1, v1, ks1, L1, hlk, t1, g1⟩) | fail)
    go_ret
    exact ⟨rfl, fp1, LkS.like h1 h2 hlk L1, t1, g1⟩
  · rw [if_neg he, if_neg he]
    go_enter Try.func22, Try.ntmps22
    go_wp2
    go_ret
    exact ⟨rfl, fp, ⟨cs, v, ks, h1, h2, HH.out⟩, TurnedL.refl _ _, Grew.refl _ _⟩
set_option maxHeartbeats 1000000 in
set_option maxRecDepth 100000 in
theorem lDeliverNS {w : World} {fp : List Nat} {K : Nat} {e : Int} (H : LkS w fp K e []) : Calls Try.prog 23 #[.pointer (some ⟨K, 0, none⟩)] w fun r w' => r = .returned (.tuple #[.string ⟨#[]⟩, .int .i64 52]) ∧ w' = w := by
  obtain ⟨cs, v, ks, h1, h2, H⟩ := H
  have c1 := H.cells.2
  simp only [List.length_nil] at c1
  clear H
  go_enter Try.func23, Try.ntmps23
  go_wp2
  go_ret2
  exact ⟨rfl, rfl⟩
set_option maxHeartbeats 1000000 in
set_option maxRecDepth 100000 in
theorem lDeliverS {w : World} {fp : List Nat} {K : Nat} {e : Int} {x : ByteArray} {q : List ByteArray} (H : LkS w fp K e (x :: q)) (hl : q.length < 512) : Calls Try.prog 23 #[.pointer (some ⟨K, 0, none⟩)] w fun r w' => r = .returned (.tuple #[Value.string x, .int .i64 0]) ∧ ∃ fp', LkS w' fp' K e q ∧ TurnedL fp w w' ∧ Grew fp fp' w := by
  obtain ⟨cs, v, ks, h1, h2, H⟩ := H
  have c1 := H.cells.2
  have htk := hide (takeS H hl)
  simp only [List.length_cons] at c1
  clear H
  go_enter Try.func23, Try.ntmps23
  go_wp2_with (first | (go_at_call 37; refine htk.out.mono ?_; rintro r w1 ⟨rfl, fp1, cs1, v1, ks1, L1, hlk, t1, g1⟩) | fail)
  go_ret2
  exact ⟨rfl, fp1, LkS.like h1 h2 hlk L1, t1, g1⟩
set_option maxHeartbeats 1000000 in
set_option maxRecDepth 100000 in
theorem lKillS {w : World} {fp : List Nat} {K : Nat} {e : Int} {q : List ByteArray} (H : LkS w fp K e q) (e' : Int) : Calls Try.prog 24 #[.pointer (some ⟨K, 0, none⟩), .int .u64 e'] w fun r w' => r = .returned (.tuple #[]) ∧ ∃ fp', LkS w' fp' K (max e e') [] ∧ TurnedL fp w w' ∧ Grew fp fp' w := by
  obtain ⟨cs, v, ks, h1, h2, H⟩ := H
  have c0 := (H.box.cellAt 0).trans h2
  obtain ⟨c1, c2⟩ := H.cells
  have cf := H.box.free
  have HX := hide H.box
  have hK := H.inK
  clear H
  obtain ⟨s0, s1, s2, rfl⟩ : ∃ s0 s1 s2, cs = #[s0, s1, s2] := by
    obtain ⟨l⟩ := cs
    match l, h1 with
    | [a, b, c], _ => exact ⟨a, b, c, rfl⟩
  have HT : Hid (TurnedL fp w (((w.setCell ⟨K, 1, none⟩ (.slice none 0 0)).setCell ⟨K, 2, none⟩ (.int .i64 0)).setCell ⟨K, 0, none⟩ (.int .u64 (max e e')))) := ((TurnedL.set hK _ _ _).trans (TurnedL.set hK _ _ _) (Grew.refl _ _)).trans (TurnedL.set hK _ _ _) (Grew.refl _ _)
  have HB : Hid (BoxT 80 (((w.setCell ⟨K, 1, none⟩ (.slice none 0 0)).setCell ⟨K, 2, none⟩ (.int .i64 0)).setCell ⟨K, 0, none⟩ (.int .u64 (max e e'))) K #[.int .u64 (max e e'), .slice none 0 0, .int .i64 0]) := by simpa using hide (((HX.out.set 1 (.slice none 0 0)).set 2 (.int .i64 0)).set 0 (.int .u64 (max e e')))
  go_enter Try.func24, Try.ntmps24
  go_wp2
  all_goals
    go_end0
    first
      | (have hm : max e e' = e' := (by omega); rw [hm] at HT HB ⊢; exact ⟨rfl, [K], ⟨_, .slice none 0 0, [], rfl, rfl, HB.out, rfl, rfl, Row.nil _ _ _ _ _, by simp, fun g hg => by simp [Value.ownBlock] at hg, fun i hi => by rw [List.mem_singleton.1 hi]; exact HB.out.lt, .inl ⟨rfl, rfl⟩⟩, HT.out, fun i hi => .inl (by rw [List.mem_singleton.1 hi]; exact hK)⟩)
      | (have hm : max e e' = e := (by omega); rw [hm] at HT HB ⊢; exact ⟨rfl, [K], ⟨_, .slice none 0 0, [], rfl, rfl, HB.out, rfl, rfl, Row.nil _ _ _ _ _, by simp, fun g hg => by simp [Value.ownBlock] at hg, fun i hi => by rw [List.mem_singleton.1 hi]; exact HB.out.lt, .inl ⟨rfl, rfl⟩⟩, HT.out, fun i hi => .inl (by rw [List.mem_singleton.1 hi]; exact hK)⟩)
end Go.Proofs.Ytcjjhgfjfeecmaa
