/-
  Walks over package net: links of numbered strings.
-/
import Derived.Test.YtnomoekbfclckaaGreatNTkMS
namespace Go.Proofs.YtnomoekbfclckaaGreat
open Go.RowKit

/-- A link at block K: its epoch e, the things q under way; fp: its blocks. -/
def LkMS (w : World) (fp : List Nat) (K : Nat) (e : Int) (q : List (Int × ByteArray)) : Prop := ∃ cs v ks, cs.size = 3 ∧ cs[0]? = some (.int .u64 e) ∧ Ln 116 RMS w fp K 1 86 cs q v ks
theorem LkMS.back {w w' : World} {fp : List Nat} {K : Nat} {e : Int} {q : List (Int × ByteArray)} (H : LkMS w fp K e q) (hs : w.heap.size ≤ w'.heap.size) (hb : ∀ i ∈ fp, w'.heap[i]? = w.heap[i]?) : LkMS w' fp K e q := by
  obtain ⟨cs, v, ks, h1, h2, H⟩ := H
  exact ⟨cs, v, ks, h1, h2, H.back rlMS hs hb⟩
theorem LkMS.lt {w : World} {fp : List Nat} {K : Nat} {e : Int} {q : List (Int × ByteArray)} (H : LkMS w fp K e q) : ∀ i ∈ fp, i < w.heap.size := by
  obtain ⟨cs, v, ks, h1, h2, H⟩ := H
  exact H.lt
theorem LkMS.below {w w' : World} {fp : List Nat} {K : Nat} {e : Int} {q : List (Int × ByteArray)} (H : LkMS w fp K e q) (hb : Below w.heap.size w w') : LkMS w' fp K e q :=
  H.back hb.size (fun i hi => hb.block i (H.lt i hi))
theorem LkMS.like {w : World} {fp : List Nat} {K : Nat} {e : Int} {q : List (Int × ByteArray)} {cs cs' : Array Value} {v : Value} {ks : List Nat} (h1 : cs.size = 3) (h2 : cs[0]? = some (.int .u64 e)) (hl : Like 1 cs cs') (H : Ln 116 RMS w fp K 1 86 cs' q v ks) : LkMS w fp K e q :=
  ⟨cs', v, ks, hl.1.trans h1, (hl.2 0 (by omega) (by omega)).trans h2, H⟩
set_option maxRecDepth 100000 in
theorem lNewMS (w : World) (e : Int) : Calls Tryz.prog 23 #[.int .u64 e] w fun r w' => r = .returned (.pointer (some ⟨w.heap.size, 0, none⟩)) ∧ LkMS w' [w.heap.size] w.heap.size e [] ∧ Below w.heap.size w w' := by
  go_enter Tryz.func23, Tryz.ntmps23
  go_wp2
  go_ret
  refine ⟨rfl, ⟨_, .slice none 0 0, [], ?_, ?_, BoxT.new _ _ _, rfl, rfl, Row.nil _ _ _ _ _, by simp, fun g hg => by simp [Value.ownBlock] at hg, fun i hi => by rw [List.mem_singleton.1 hi]; simp, .inl ⟨rfl, rfl⟩⟩, (Below.refl _ _).alloc (Nat.le_refl _) _⟩ <;> rfl
set_option maxRecDepth 100000 in
theorem lEpochMS {w : World} {fp : List Nat} {K : Nat} {e : Int} {q : List (Int × ByteArray)} (H : LkMS w fp K e q) : Calls Tryz.prog 50 #[.pointer (some ⟨K, 0, none⟩)] w fun r w' => r = .returned (.int .u64 e) ∧ w' = w := by
  obtain ⟨cs, v, ks, h1, h2, H⟩ := H
  have c0 := (H.box.cellAt 0).trans h2
  clear H
  go_enter Tryz.func50, Tryz.ntmps50
  go_wp2
  go_ret
  exact ⟨rfl, rfl⟩
set_option maxRecDepth 100000 in
theorem lLenMS {w : World} {fp : List Nat} {K : Nat} {e : Int} {q : List (Int × ByteArray)} (H : LkMS w fp K e q) : Calls Tryz.prog 52 #[.pointer (some ⟨K, 0, none⟩)] w fun r w' => r = .returned (.int .i64 q.length) ∧ w' = w := by
  obtain ⟨cs, v, ks, h1, h2, H⟩ := H
  have c1 := H.cells.2
  clear H
  go_enter Tryz.func52, Tryz.ntmps52
  go_wp2
  go_ret
  exact ⟨rfl, rfl⟩
set_option maxHeartbeats 1000000 in
set_option maxRecDepth 100000 in
theorem lSendMS {w : World} {fp : List Nat} {K : Nat} {e : Int} {q : List (Int × ByteArray)} (H : LkMS w fp K e q) (hl : q.length < 512) (x : (Int × ByteArray)) :
    Calls Tryz.prog 29 #[.pointer (some ⟨K, 0, none⟩), .int .u64 e, .agg #[.int .u64 x.1, Value.string x.2]] w fun r w' => r = .returned (.int .i64 0) ∧ ∃ fp', LkMS w' fp' K e (q ++ [x]) ∧ TurnedL fp w w' ∧ Grew fp fp' w := by
  obtain ⟨cs, v, ks, h1, h2, H⟩ := H
  obtain ⟨x1, x2⟩ := x
  have ba : Below w.heap.size w (w.alloc (.cells #[.int .u64 x1, Value.string x2] 47)) := (Below.refl _ _).alloc (Nat.le_refl _) _
  have g0 : BoxT 47 (w.alloc (.cells #[.int .u64 x1, Value.string x2] 47)) w.heap.size #[.int .u64 x1, Value.string x2] := BoxT.new _ _ _
  replace H := H.below rlMS ba
  have c0 := (H.box.cellAt 0).trans h2
  obtain ⟨x5, x6⟩ := g0.cells2
  have hput := hide (putMS (H.below rlMS (Below.drew (Below.refl _ _))) hl (x1, x2))
  have BA := hide ba
  have hsa := ba.size
  clear H ba g0
  go_enter Tryz.func29, Tryz.ntmps29
  go_wp2_with fail
  generalize w.alloc (.cells #[.int .u64 x1, Value.string x2] 47) = w0 at *
  go_region_law (go_simp; go_at_call 54; refine hput.out.mono ?_; rintro r w1 ⟨rfl, fp1, cs1, v1, ks1, L1, hlk, t1, g1⟩)
  all_goals
    go_wp2
    go_ret
    exact ⟨rfl, fp1, LkMS.like h1 h2 hlk L1, (TurnedL.of_below (BA.out.trans (Below.drew (Below.refl _ _)))).trans t1 (Grew.refl _ _), (Grew.refl fp w).trans g1 hsa⟩
set_option maxHeartbeats 1000000 in
set_option maxRecDepth 100000 in
theorem lDeliverNMS {w : World} {fp : List Nat} {K : Nat} {e : Int} (H : LkMS w fp K e []) : Calls Tryz.prog 30 #[.pointer (some ⟨K, 0, none⟩)] w fun r w' => r = .returned (.tuple #[.agg #[.int .u64 0, .string ⟨#[]⟩], .int .i64 52]) ∧ Below w.heap.size w w' := by
  obtain ⟨cs, v, ks, h1, h2, H⟩ := H
  have ba : Below w.heap.size w (w.alloc (.cells #[.int .u64 0, .string ⟨#[]⟩] 47)) := (Below.refl _ _).alloc (Nat.le_refl _) _
  have c1 := (H.below rlMS ba).cells.2
  simp only [List.length_nil] at c1
  have HB := hide (ba.alloc ba.size (.cells #[.int .u64 0, .string ⟨#[]⟩] 47))
  clear H
  go_enter Tryz.func30, Tryz.ntmps30
  go_wp2
  exact bodyPost_ret (v := .tuple #[.agg #[.int .u64 0, .string ⟨#[]⟩], .int .i64 52]) (by simp [results, Tryz.results30, go_sem]) rfl ⟨rfl, HB.out⟩
set_option maxHeartbeats 1000000 in
set_option maxRecDepth 100000 in
theorem lDeliverMS {w : World} {fp : List Nat} {K : Nat} {e : Int} {x : (Int × ByteArray)} {q : List (Int × ByteArray)} (H : LkMS w fp K e (x :: q)) (hl : q.length < 512) : Calls Tryz.prog 30 #[.pointer (some ⟨K, 0, none⟩)] w fun r w' => r = .returned (.tuple #[.agg #[.int .u64 x.1, Value.string x.2], .int .i64 0]) ∧ ∃ fp', LkMS w' fp' K e q ∧ TurnedL fp w w' ∧ Grew fp fp' w := by
  obtain ⟨cs, v, ks, h1, h2, H⟩ := H
  have ba : Below w.heap.size w (w.alloc (.cells #[.int .u64 0, .string ⟨#[]⟩] 47)) := (Below.refl _ _).alloc (Nat.le_refl _) _
  have g0 : BoxT 47 (w.alloc (.cells #[.int .u64 0, .string ⟨#[]⟩] 47)) w.heap.size #[.int .u64 0, .string ⟨#[]⟩] := BoxT.new _ _ _
  have hX : w.heap.size ∉ fp := fun h => Nat.lt_irrefl _ (H.lt _ h)
  replace H := H.below rlMS ba
  have c1 := H.cells.2
  have htk := hide (takeMS (q1 := []) (q2 := q) (x := x) H (by simpa using hl) (vi := 0) rfl)
  obtain ⟨x1, x2⟩ := x
  simp only [List.length_cons] at c1
  have BA := hide ba
  have G0 := hide g0
  have hsa := ba.size
  clear H ba g0
  go_enter Tryz.func30, Tryz.ntmps30
  go_wp2_with (first | (generalize w.alloc (.cells #[.int .u64 0, .string ⟨#[]⟩] 47) = w0 at *; go_at_call 55; refine htk.out.mono ?_; rintro r w1 ⟨rfl, fp1, cs1, v1, ks1, L1, hlk, t1, g1⟩; have hgl := G0.out.lt; have HG := hide (G0.out.turnedL t1 hX); have gf := HG.out.free; obtain ⟨e7, e8⟩ := HG.out.cells2; have HL := hide (And.intro L1 (And.intro t1 g1)); clear L1 t1 g1) | fail)
  have Z1 := hide (HG.out.pair 0 (.int .u64 x1) (Value.string x2))
  obtain ⟨r0, r1⟩ := BoxT.cells2 (c0 := .int .u64 x1) (c1 := Value.string x2) (by simpa using Z1.out)
  have hX1 : w.heap.size ∉ fp1 := fun h => by
    rcases HL.out.2.2 _ h with h | h
    · exact hX h
    · omega
  have hbel : Below w.heap.size w1 ((w1.setCell ⟨w.heap.size, 0, none⟩ (.int .u64 x1)).setCell ⟨w.heap.size, 1, none⟩ (Value.string x2)) := ((Below.refl w.heap.size _).setCell (p := ⟨w.heap.size, 0, none⟩) (Nat.le_refl _) _).setCell (p := ⟨w.heap.size, 1, none⟩) (Nat.le_refl _) _
  have hn : ∀ j, j ≠ w.heap.size → ((w1.setCell ⟨w.heap.size, 0, none⟩ (.int .u64 x1)).setCell ⟨w.heap.size, 1, none⟩ (Value.string x2)).heap[j]? = w1.heap[j]? := fun j h1 => (Below.heap_setCell _ ⟨w.heap.size, 1, none⟩ _ j h1).trans (Below.heap_setCell _ ⟨w.heap.size, 0, none⟩ _ j h1)
  have L9 := HL.out.1.back rlMS hbel.size (fun i hi => hn i (fun e => hX1 (by rw [← e]; exact hi)))
  have T9 := (TurnedL.of_below BA.out).trans HL.out.2.1 (Grew.refl fp _)
  refine bodyPost_ret (v := .tuple #[.agg #[.int .u64 x1, Value.string x2], .int .i64 0]) (by simp [results, Tryz.results30, go_sem, r0, r1]) rfl ⟨rfl, fp1, LkMS.like h1 h2 hlk L9, ?_, (Grew.refl fp w).trans HL.out.2.2 hsa⟩
  exact ⟨hbel.os.trans T9.os, hbel.tape.trans T9.tape, hbel.output.trans T9.output, Nat.le_trans T9.size hbel.size, fun i hi hf => (hbel.block i hi).trans (T9.block i hi hf)⟩
end Go.Proofs.YtnomoekbfclckaaGreat
