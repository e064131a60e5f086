/-
  Walks over package net: links of strings.
-/
import Derived.Test.YtnomoekbfclckaaGreatNTkS
namespace Go.Proofs.YtnomoekbfclckaaGreat
open Go.RowKit

/-- A link at block K: its epoch e, the things q under way; fp: its blocks. -/
def LkS (w : World) (fp : List Nat) (K : Nat) (e : Int) (q : List ByteArray) : Prop := ∃ cs v ks, cs.size = 3 ∧ cs[0]? = some (.int .u64 e) ∧ Ln 48 RS w fp K 1 81 cs q v ks
theorem LkS.back {w w' : World} {fp : List Nat} {K : Nat} {e : Int} {q : List ByteArray} (H : LkS w fp K e q) (hs : w.heap.size ≤ w'.heap.size) (hb : ∀ i ∈ fp, w'.heap[i]? = w.heap[i]?) : LkS w' fp K e q := by
  obtain ⟨cs, v, ks, h1, h2, H⟩ := H
  exact ⟨cs, v, ks, h1, h2, H.back rlS hs hb⟩
theorem LkS.lt {w : World} {fp : List Nat} {K : Nat} {e : Int} {q : List ByteArray} (H : LkS w fp K e q) : ∀ i ∈ fp, i < w.heap.size := by
  obtain ⟨cs, v, ks, h1, h2, H⟩ := H
  exact H.lt
theorem LkS.below {w w' : World} {fp : List Nat} {K : Nat} {e : Int} {q : List ByteArray} (H : LkS w fp K e q) (hb : Below w.heap.size w w') : LkS w' fp K e q :=
  H.back hb.size (fun i hi => hb.block i (H.lt i hi))
theorem LkS.like {w : World} {fp : List Nat} {K : Nat} {e : Int} {q : List ByteArray} {cs cs' : Array Value} {v : Value} {ks : List Nat} (h1 : cs.size = 3) (h2 : cs[0]? = some (.int .u64 e)) (hl : Like 1 cs cs') (H : Ln 48 RS w fp K 1 81 cs' q v ks) : LkS w fp K e q :=
  ⟨cs', v, ks, hl.1.trans h1, (hl.2 0 (by omega) (by omega)).trans h2, H⟩
set_option maxRecDepth 100000 in
theorem lNewS (w : World) (e : Int) : Calls Tryz.prog 22 #[.int .u64 e] w fun r w' => r = .returned (.pointer (some ⟨w.heap.size, 0, none⟩)) ∧ LkS w' [w.heap.size] w.heap.size e [] ∧ Below w.heap.size w w' := by
  go_enter Tryz.func22, Tryz.ntmps22
  go_wp2
  go_ret
  refine ⟨rfl, ⟨_, .slice none 0 0, [], ?_, ?_, BoxT.new _ _ _, rfl, rfl, Row.nil _ _ _ _ _, by simp, fun g hg => by simp [Value.ownBlock] at hg, fun i hi => by rw [List.mem_singleton.1 hi]; simp, .inl ⟨rfl, rfl⟩⟩, (Below.refl _ _).alloc (Nat.le_refl _) _⟩ <;> rfl
set_option maxRecDepth 100000 in
theorem lLenS {w : World} {fp : List Nat} {K : Nat} {e : Int} {q : List ByteArray} (H : LkS w fp K e q) : Calls Tryz.prog 33 #[.pointer (some ⟨K, 0, none⟩)] w fun r w' => r = .returned (.int .i64 q.length) ∧ w' = w := by
  obtain ⟨cs, v, ks, h1, h2, H⟩ := H
  have c1 := H.cells.2
  clear H
  go_enter Tryz.func33, Tryz.ntmps33
  go_wp2
  go_ret
  exact ⟨rfl, rfl⟩
set_option maxHeartbeats 1000000 in
set_option maxRecDepth 100000 in
theorem lSendS {w : World} {fp : List Nat} {K : Nat} {e : Int} {q : List ByteArray} (H : LkS w fp K e q) (hl : q.length < 512) (x : ByteArray) (e' : Int) :
    Calls Tryz.prog 25 #[.pointer (some ⟨K, 0, none⟩), .int .u64 e', Value.string x] w fun r w' => r = .returned (.int .i64 (if e' = e then 0 else 51)) ∧ ∃ fp', LkS w' fp' K e (if e' = e then q ++ [x] else q) ∧ TurnedL fp w w' ∧ Grew fp fp' w := by
  obtain ⟨cs, v, ks, h1, h2, H⟩ := H
  have c0 := (H.box.cellAt 0).trans h2
  have hput := hide (putS H hl x)
  have HH := hide H
  clear H
  by_cases he : e' = e
  · subst he
    rw [if_pos rfl, if_pos rfl]
    go_enter Tryz.func25, Tryz.ntmps25
    go_wp2_with (first | (go_at_call 49; refine hput.out.mono ?_; rintro r w1 ⟨rfl, fp1, cs1, v1, ks1, L1, hlk, t1, g1⟩) | fail)
    go_ret
    exact ⟨rfl, fp1, LkS.like h1 h2 hlk L1, t1, g1⟩
  · rw [if_neg he, if_neg he]
    go_enter Tryz.func25, Tryz.ntmps25
    go_wp2
    go_ret
    exact ⟨rfl, fp, ⟨cs, v, ks, h1, h2, HH.out⟩, TurnedL.refl _ _, Grew.refl _ _⟩
set_option maxHeartbeats 1000000 in
set_option maxRecDepth 100000 in
theorem lDeliverNS {w : World} {fp : List Nat} {K : Nat} {e : Int} (H : LkS w fp K e []) : Calls Tryz.prog 28 #[.pointer (some ⟨K, 0, none⟩)] w fun r w' => r = .returned (.tuple #[.string ⟨#[]⟩, .int .i64 52]) ∧ w' = w := by
  obtain ⟨cs, v, ks, h1, h2, H⟩ := H
  have c1 := H.cells.2
  simp only [List.length_nil] at c1
  clear H
  go_enter Tryz.func28, Tryz.ntmps28
  go_wp2
  go_ret2
  exact ⟨rfl, rfl⟩
set_option maxHeartbeats 1000000 in
set_option maxRecDepth 100000 in
theorem lDeliverS {w : World} {fp : List Nat} {K : Nat} {e : Int} {x : ByteArray} {q : List ByteArray} (H : LkS w fp K e (x :: q)) (hl : q.length < 512) : Calls Tryz.prog 28 #[.pointer (some ⟨K, 0, none⟩)] w fun r w' => r = .returned (.tuple #[Value.string x, .int .i64 0]) ∧ ∃ fp', LkS w' fp' K e q ∧ TurnedL fp w w' ∧ Grew fp fp' w := by
  obtain ⟨cs, v, ks, h1, h2, H⟩ := H
  have c1 := H.cells.2
  have htk := hide (takeS H hl)
  simp only [List.length_cons] at c1
  clear H
  go_enter Tryz.func28, Tryz.ntmps28
  go_wp2_with (first | (go_at_call 53; refine htk.out.mono ?_; rintro r w1 ⟨rfl, fp1, cs1, v1, ks1, L1, hlk, t1, g1⟩) | fail)
  go_ret2
  exact ⟨rfl, fp1, LkS.like h1 h2 hlk L1, t1, g1⟩
end Go.Proofs.YtnomoekbfclckaaGreat
