/-
  Walks over package net: links of numbered whole numbers.
-/
import Derived.Test.YtnomoekbfclckaaNTkMI
namespace Go.Proofs.Ytnomoekbfclckaa
open Go.RowKit

/-- A link at block K: its epoch e, the things q under way; fp: its blocks. -/
def LkMI (w : World) (fp : List Nat) (K : Nat) (e : Int) (q : List (Int × Int)) : Prop := ∃ cs v ks, cs.size = 3 ∧ cs[0]? = some (.int .u64 e) ∧ Ln 95 RMI w fp K 1 82 cs q v ks
theorem LkMI.back {w w' : World} {fp : List Nat} {K : Nat} {e : Int} {q : List (Int × Int)} (H : LkMI w fp K e q) (hs : w.heap.size ≤ w'.heap.size) (hb : ∀ i ∈ fp, w'.heap[i]? = w.heap[i]?) : LkMI w' fp K e q := by
  obtain ⟨cs, v, ks, h1, h2, H⟩ := H
  exact ⟨cs, v, ks, h1, h2, H.back rlMI hs hb⟩
theorem LkMI.lt {w : World} {fp : List Nat} {K : Nat} {e : Int} {q : List (Int × Int)} (H : LkMI w fp K e q) : ∀ i ∈ fp, i < w.heap.size := by
  obtain ⟨cs, v, ks, h1, h2, H⟩ := H
  exact H.lt
theorem LkMI.below {w w' : World} {fp : List Nat} {K : Nat} {e : Int} {q : List (Int × Int)} (H : LkMI w fp K e q) (hb : Below w.heap.size w w') : LkMI w' fp K e q :=
  H.back hb.size (fun i hi => hb.block i (H.lt i hi))
theorem LkMI.like {w : World} {fp : List Nat} {K : Nat} {e : Int} {q : List (Int × Int)} {cs cs' : Array Value} {v : Value} {ks : List Nat} (h1 : cs.size = 3) (h2 : cs[0]? = some (.int .u64 e)) (hl : Like 1 cs cs') (H : Ln 95 RMI w fp K 1 82 cs' q v ks) : LkMI w fp K e q :=
  ⟨cs', v, ks, hl.1.trans h1, (hl.2 0 (by omega) (by omega)).trans h2, H⟩
set_option maxRecDepth 100000 in
theorem lNewMI (w : World) (e : Int) : Calls Try.prog 36 #[.int .u64 e] w fun r w' => r = .returned (.pointer (some ⟨w.heap.size, 0, none⟩)) ∧ LkMI w' [w.heap.size] w.heap.size e [] ∧ Below w.heap.size w w' := by
  go_enter Try.func36, Try.ntmps36
  go_wp2
  go_ret
  refine ⟨rfl, ⟨_, .slice none 0 0, [], ?_, ?_, BoxT.new _ _ _, rfl, rfl, Row.nil _ _ _ _ _, by simp, fun g hg => by simp [Value.ownBlock] at hg, fun i hi => by rw [List.mem_singleton.1 hi]; simp, .inl ⟨rfl, rfl⟩⟩, (Below.refl _ _).alloc (Nat.le_refl _) _⟩ <;> rfl
set_option maxRecDepth 100000 in
theorem lEpochMI {w : World} {fp : List Nat} {K : Nat} {e : Int} {q : List (Int × Int)} (H : LkMI w fp K e q) : Calls Try.prog 50 #[.pointer (some ⟨K, 0, none⟩)] w fun r w' => r = .returned (.int .u64 e) ∧ w' = w := by
  obtain ⟨cs, v, ks, h1, h2, H⟩ := H
  have c0 := (H.box.cellAt 0).trans h2
  clear H
  go_enter Try.func50, Try.ntmps50
  go_wp2
  go_ret
  exact ⟨rfl, rfl⟩
set_option maxRecDepth 100000 in
theorem lLenMI {w : World} {fp : List Nat} {K : Nat} {e : Int} {q : List (Int × Int)} (H : LkMI w fp K e q) : Calls Try.prog 48 #[.pointer (some ⟨K, 0, none⟩)] w fun r w' => r = .returned (.int .i64 q.length) ∧ w' = w := by
  obtain ⟨cs, v, ks, h1, h2, H⟩ := H
  have c1 := H.cells.2
  clear H
  go_enter Try.func48, Try.ntmps48
  go_wp2
  go_ret
  exact ⟨rfl, rfl⟩
set_option maxHeartbeats 1000000 in
set_option maxRecDepth 100000 in
theorem lSendMI {w : World} {fp : List Nat} {K : Nat} {e : Int} {q : List (Int × Int)} (H : LkMI w fp K e q) (hl : q.length < 512) (x : (Int × Int)) :
    Calls Try.prog 40 #[.pointer (some ⟨K, 0, none⟩), .int .u64 e, .agg #[.int .u64 x.1, Value.int .i64 x.2]] w fun r w' => r = .returned (.int .i64 0) ∧ ∃ fp', LkMI w' fp' K e (q ++ [x]) ∧ TurnedL fp w w' ∧ Grew fp fp' w := by
  obtain ⟨cs, v, ks, h1, h2, H⟩ := H
  obtain ⟨x1, x2⟩ := x
  have ba : Below w.heap.size w (w.alloc (.cells #[.int .u64 x1, Value.int .i64 x2] 58)) := (Below.refl _ _).alloc (Nat.le_refl _) _
  have g0 : BoxT 58 (w.alloc (.cells #[.int .u64 x1, Value.int .i64 x2] 58)) w.heap.size #[.int .u64 x1, Value.int .i64 x2] := BoxT.new _ _ _
  replace H := H.below rlMI ba
  have c0 := (H.box.cellAt 0).trans h2
  obtain ⟨x5, x6⟩ := g0.cells2
  have hput := hide (putMI (H.below rlMI (Below.drew (Below.refl _ _))) hl (x1, x2))
  have BA := hide ba
  have hsa := ba.size
  clear H ba g0
  go_enter Try.func40, Try.ntmps40
  go_wp2_with fail
  generalize w.alloc (.cells #[.int .u64 x1, Value.int .i64 x2] 58) = w0 at *
  go_region_law (go_simp; go_at_call 58; refine hput.out.mono ?_; rintro r w1 ⟨rfl, fp1, cs1, v1, ks1, L1, hlk, t1, g1⟩)
  all_goals
    go_wp2
    go_ret
    exact ⟨rfl, fp1, LkMI.like h1 h2 hlk L1, (TurnedL.of_below (BA.out.trans (Below.drew (Below.refl _ _)))).trans t1 (Grew.refl _ _), (Grew.refl fp w).trans g1 hsa⟩
set_option maxHeartbeats 1000000 in
set_option maxRecDepth 100000 in
theorem lDeliverNMI {w : World} {fp : List Nat} {K : Nat} {e : Int} (H : LkMI w fp K e []) : Calls Try.prog 41 #[.pointer (some ⟨K, 0, none⟩)] w fun r w' => r = .returned (.tuple #[.agg #[.int .u64 0, .int .i64 0], .int .i64 52]) ∧ Below w.heap.size w w' := by
  obtain ⟨cs, v, ks, h1, h2, H⟩ := H
  have ba : Below w.heap.size w (w.alloc (.cells #[.int .u64 0, .int .i64 0] 58)) := (Below.refl _ _).alloc (Nat.le_refl _) _
  have c1 := (H.below rlMI ba).cells.2
  simp only [List.length_nil] at c1
  have HB := hide (ba.alloc ba.size (.cells #[.int .u64 0, .int .i64 0] 58))
  clear H
  go_enter Try.func41, Try.ntmps41
  go_wp2
  exact bodyPost_ret (v := .tuple #[.agg #[.int .u64 0, .int .i64 0], .int .i64 52]) (by simp [results, Try.results41, go_sem]) rfl ⟨rfl, HB.out⟩
set_option maxHeartbeats 1000000 in
set_option maxRecDepth 100000 in
theorem lDeliverMI {w : World} {fp : List Nat} {K : Nat} {e : Int} {x : (Int × Int)} {q : List (Int × Int)} (H : LkMI w fp K e (x :: q)) (hl : q.length < 512) : Calls Try.prog 41 #[.pointer (some ⟨K, 0, none⟩)] w fun r w' => r = .returned (.tuple #[.agg #[.int .u64 x.1, Value.int .i64 x.2], .int .i64 0]) ∧ ∃ fp', LkMI w' fp' K e q ∧ TurnedL fp w w' ∧ Grew fp fp' w := by
  obtain ⟨cs, v, ks, h1, h2, H⟩ := H
  have ba : Below w.heap.size w (w.alloc (.cells #[.int .u64 0, .int .i64 0] 58)) := (Below.refl _ _).alloc (Nat.le_refl _) _
  have g0 : BoxT 58 (w.alloc (.cells #[.int .u64 0, .int .i64 0] 58)) w.heap.size #[.int .u64 0, .int .i64 0] := BoxT.new _ _ _
  have hX : w.heap.size ∉ fp := fun h => Nat.lt_irrefl _ (H.lt _ h)
  replace H := H.below rlMI ba
  have c1 := H.cells.2
  have htk := hide (takeMI (q1 := []) (q2 := q) (x := x) H (by simpa using hl) (vi := 0) rfl)
  obtain ⟨x1, x2⟩ := x
  simp only [List.length_cons] at c1
  have BA := hide ba
  have G0 := hide g0
  have hsa := ba.size
  clear H ba g0
  go_enter Try.func41, Try.ntmps41
  go_wp2_with (first | (generalize w.alloc (.cells #[.int .u64 0, .int .i64 0] 58) = w0 at *; go_at_call 59; refine htk.out.mono ?_; rintro r w1 ⟨rfl, fp1, cs1, v1, ks1, L1, hlk, t1, g1⟩; have hgl := G0.out.lt; have HG := hide (G0.out.turnedL t1 hX); have gf := HG.out.free; obtain ⟨e7, e8⟩ := HG.out.cells2; have HL := hide (And.intro L1 (And.intro t1 g1)); clear L1 t1 g1) | fail)
  have Z1 := hide (HG.out.pair 0 (.int .u64 x1) (Value.int .i64 x2))
  obtain ⟨r0, r1⟩ := BoxT.cells2 (c0 := .int .u64 x1) (c1 := Value.int .i64 x2) (by simpa using Z1.out)
  have hX1 : w.heap.size ∉ fp1 := fun h => by
    rcases HL.out.2.2 _ h with h | h
    · exact hX h
    · omega
  have hbel : Below w.heap.size w1 ((w1.setCell ⟨w.heap.size, 0, none⟩ (.int .u64 x1)).setCell ⟨w.heap.size, 1, none⟩ (Value.int .i64 x2)) := ((Below.refl w.heap.size _).setCell (p := ⟨w.heap.size, 0, none⟩) (Nat.le_refl _) _).setCell (p := ⟨w.heap.size, 1, none⟩) (Nat.le_refl _) _
  have hn : ∀ j, j ≠ w.heap.size → ((w1.setCell ⟨w.heap.size, 0, none⟩ (.int .u64 x1)).setCell ⟨w.heap.size, 1, none⟩ (Value.int .i64 x2)).heap[j]? = w1.heap[j]? := fun j h1 => (Below.heap_setCell _ ⟨w.heap.size, 1, none⟩ _ j h1).trans (Below.heap_setCell _ ⟨w.heap.size, 0, none⟩ _ j h1)
  have L9 := HL.out.1.back rlMI hbel.size (fun i hi => hn i (fun e => hX1 (by rw [← e]; exact hi)))
  have T9 := (TurnedL.of_below BA.out).trans HL.out.2.1 (Grew.refl fp _)
  refine bodyPost_ret (v := .tuple #[.agg #[.int .u64 x1, Value.int .i64 x2], .int .i64 0]) (by simp [results, Try.results41, go_sem, r0, r1]) rfl ⟨rfl, fp1, LkMI.like h1 h2 hlk L9, ?_, (Grew.refl fp w).trans HL.out.2.2 hsa⟩
  exact ⟨hbel.os.trans T9.os, hbel.tape.trans T9.tape, hbel.output.trans T9.output, Nat.le_trans T9.size hbel.size, fun i hi hf => (hbel.block i hi).trans (T9.block i hi hf)⟩
set_option maxHeartbeats 1000000 in
set_option maxRecDepth 100000 in
theorem lKillMI {w : World} {fp : List Nat} {K : Nat} {e : Int} {q : List (Int × Int)} (H : LkMI w fp K e q) (e' : Int) : Calls Try.prog 66 #[.pointer (some ⟨K, 0, none⟩), .int .u64 e'] w fun r w' => r = .returned (.tuple #[]) ∧ ∃ fp', LkMI w' fp' K (max e e') [] ∧ TurnedL fp w w' ∧ Grew fp fp' w := by
  obtain ⟨cs, v, ks, h1, h2, H⟩ := H
  have c0 := (H.box.cellAt 0).trans h2
  obtain ⟨c1, c2⟩ := H.cells
  have cf := H.box.free
  have HX := hide H.box
  have hK := H.inK
  clear H
  obtain ⟨s0, s1, s2, rfl⟩ : ∃ s0 s1 s2, cs = #[s0, s1, s2] := by
    obtain ⟨l⟩ := cs
    match l, h1 with
    | [a, b, c], _ => exact ⟨a, b, c, rfl⟩
  have HT : Hid (TurnedL fp w (((w.setCell ⟨K, 1, none⟩ (.slice none 0 0)).setCell ⟨K, 2, none⟩ (.int .i64 0)).setCell ⟨K, 0, none⟩ (.int .u64 (max e e')))) := ((TurnedL.set hK _ _ _).trans (TurnedL.set hK _ _ _) (Grew.refl _ _)).trans (TurnedL.set hK _ _ _) (Grew.refl _ _)
  have HB : Hid (BoxT 82 (((w.setCell ⟨K, 1, none⟩ (.slice none 0 0)).setCell ⟨K, 2, none⟩ (.int .i64 0)).setCell ⟨K, 0, none⟩ (.int .u64 (max e e'))) K #[.int .u64 (max e e'), .slice none 0 0, .int .i64 0]) := by simpa using hide (((HX.out.set 1 (.slice none 0 0)).set 2 (.int .i64 0)).set 0 (.int .u64 (max e e')))
  go_enter Try.func66, Try.ntmps66
  go_wp2
  all_goals
    go_end0
    first
      | (have hm : max e e' = e' := (by omega); rw [hm] at HT HB ⊢; exact ⟨rfl, [K], ⟨_, .slice none 0 0, [], rfl, rfl, HB.out, rfl, rfl, Row.nil _ _ _ _ _, by simp, fun g hg => by simp [Value.ownBlock] at hg, fun i hi => by rw [List.mem_singleton.1 hi]; exact HB.out.lt, .inl ⟨rfl, rfl⟩⟩, HT.out, fun i hi => .inl (by rw [List.mem_singleton.1 hi]; exact hK)⟩)
      | (have hm : max e e' = e := (by omega); rw [hm] at HT HB ⊢; exact ⟨rfl, [K], ⟨_, .slice none 0 0, [], rfl, rfl, HB.out, rfl, rfl, Row.nil _ _ _ _ _, by simp, fun g hg => by simp [Value.ownBlock] at hg, fun i hi => by rw [List.mem_singleton.1 hi]; exact HB.out.lt, .inl ⟨rfl, rfl⟩⟩, HT.out, fun i hi => .inl (by rw [List.mem_singleton.1 hi]; exact hK)⟩)
end Go.Proofs.Ytnomoekbfclckaa
