/-
  Walks over package net: lines of numbered whole numbers: take, peek.
-/
import Derived.Test.YtnomoekbfclckaaNDelMI
namespace Go.Proofs.Ytnomoekbfclckaa
open Go.RowKit

set_option maxHeartbeats 2000000 in
set_option maxRecDepth 100000 in
theorem takeMI {w : World} {fp : List Nat} {K o t : Nat} {cs : Array Value} {x : (Int × Int)} {q1 q2 : List (Int × Int)} {v : Value} {ks : List Nat} (H : Ln 95 RMI w fp K o t cs (q1 ++ x :: q2) v ks) (hl : q1.length + q2.length < 512) {vi : Int} (hvi : vi = (q1.length : Int)) :
    Calls Try.prog 59 #[.pointer (some ⟨K, o, none⟩), .int .i64 vi] w fun e w' => e = .returned (.agg #[.int .u64 x.1, Value.int .i64 x.2]) ∧ ∃ fp' cs' v' ks', Ln 95 RMI w' fp' K o t cs' (q1 ++ q2) v' ks' ∧ Like o cs cs' ∧ TurnedL fp w w' ∧ Grew fp fp' w := by
  subst hvi
  obtain ⟨x1, x2⟩ := x
  have ba : Below w.heap.size w (w.alloc (.cells #[.int .u64 0, .int .i64 0] 58)) := (Below.refl _ _).alloc (Nat.le_refl _) _
  have g1 : BoxT 58 (w.alloc (.cells #[.int .u64 0, .int .i64 0] 58)) w.heap.size #[.int .u64 0, .int .i64 0] := BoxT.new _ _ _
  have hX : w.heap.size ∉ fp := fun h => Nat.lt_irrefl _ (H.lt _ h)
  obtain ⟨k, b, rfl, HR⟩ := (H.below rlMI ba).lnR (by simp)
  obtain ⟨g, off, cap, hv, hcell⟩ := HR.row.read pc1 (i := 0) rfl
  simp only [List.length_singleton] at hv
  subst hv
  have d2 := hcell 0 _ rfl
  simp only [Nat.zero_mul, Nat.add_zero] at d2
  have c0 := (HR.box.cellAt _).trans HR.c0
  have hpl := hide (placeMI HR (i := q1.length) (by simp) rfl)
  have htf := hide (takeFromMI HR.ring (by omega) (by omega) rfl)
  have HH := hide HR
  have BA := hide ba
  have G1 := hide g1
  have hsa := ba.size
  have hn1 : ((q1 ++ (x1, x2) :: q2).length : Int) = ((q1 ++ q2).length : Int) + 1 := by simp; omega
  have hqq : (q1 ++ q2).length ≤ 1000 := by simp; omega
  clear H HR hcell ba g1
  go_enter Try.func59, Try.ntmps59
  go_wp2_with (first
    | (generalize w.alloc (.cells #[.int .u64 0, .int .i64 0] 58) = w0 at *; go_at_call 75; refine hpl.out.mono ?_; rintro e w1 ⟨rfl, rfl⟩)
    | (go_at_call 76; refine htf.out.mono ?_; rintro e w5 ⟨rfl, b5, hr5, t5, hb5⟩
       have hgl := G1.out.lt
       have L5 := HH.out.turn rlMI hr5 t5 hb5
       have a5 : Below w5.heap.size w5 (w5.alloc (.cells #[.int .u64 x1, Value.int .i64 x2] 58)) := (Below.refl _ _).alloc (Nat.le_refl _) _
       have hX2 : w5.heap.size ∉ b5 :: fp := fun h => Nat.lt_irrefl _ (L5.1.lt _ h)
       have hX1 : w.heap.size ∉ b5 :: fp := fun h => by
         rcases List.mem_cons.1 h with e | h
         · have := HH.out.lt b HH.out.bf
           have h6 : b ≠ w.heap.size := fun e6 => hX (by rw [← e6]; exact HH.out.bf)
           omega
         · exact hX h
       have HL := hide (And.intro (L5.1.below rlMI a5) (And.intro (L5.2.1.trans (TurnedL.of_below a5) (Grew.refl _ _)) L5.2.2))
       have HG := hide ((G1.out.turnedL L5.2.1 hX).alloc (.cells #[.int .u64 x1, Value.int .i64 x2] 58))
       have HG2 : Hid (BoxT 58 (w5.alloc (.cells #[.int .u64 x1, Value.int .i64 x2] 58)) w5.heap.size #[.int .u64 x1, Value.int .i64 x2]) := BoxT.new _ _ _
       have hlen := hide (LenMI HL.out.1.ring); have f0 := (HL.out.1.box.cellAt _).trans HL.out.1.c0; have f1 := (HL.out.1.box.cellAt _).trans HL.out.1.c1; rw [hn1] at f1; have ff := HL.out.1.box.free; obtain ⟨_, _, _, hv, hcell⟩ := HL.out.1.row.read pc1 (i := 0) rfl; simp only [List.length_singleton] at hv; cases hv; have f2 := hcell 0 _ rfl; simp only [Nat.zero_mul, Nat.add_zero] at f2; have hs5 := t5.size; obtain ⟨e5, e6⟩ := HG2.out.cells2; obtain ⟨e7, e8⟩ := HG.out.cells2; have gf := HG.out.free; have hk1 : K ≠ w.heap.size := (fun e => hX (by rw [← e]; exact HH.out.inK)); have hk2 : K ≠ w5.heap.size := (by have := HH.out.box.lt; omega); have hk3 : w5.heap.size ≠ w.heap.size := (by omega); clear hr5 t5 hcell L5 a5)
    | (generalize w5.alloc (.cells #[.int .u64 x1, Value.int .i64 x2] 58) = w6 at *; go_at_call 77; refine hlen.out.mono ?_; rintro e w6' ⟨rfl, rfl⟩)
    | fail)
  · have hq0 := ‹((q1.length : Int) + (q2.length : Int) == 0) = true›
    have hq : q1 ++ q2 = [] := List.length_eq_zero_iff.1 (by have h9 := eq_of_beq hq0; rw [List.length_append]; omega)
    have HD := hide HL.out.1.dropped
    have HX := HD.out.2.2
    have hgX : g ≠ w.heap.size := fun e => hX1 (by rw [← e]; exact (HL.out.1.own g rfl).1)
    have hgX2 : g ≠ w5.heap.size := fun e => hX2 (by rw [← e]; exact (HL.out.1.own g rfl).1)
    have y0 := (HX.cellAt _).trans HL.out.1.c0
    have y1 := (HX.cellAt _).trans HL.out.1.c1
    have yf := HX.free
    have hq2 : ((q1 ++ (x1, x2) :: q2).length : Int) = 1 := by rw [hn1, hq]; rfl
    rw [hq2] at y1
    have z1 := HG.out.drew.other off (.pointer none) (k' := g) (fun e => hgX e.symm)
    have z2 := HG2.out.drew.other off (.pointer none) (k' := g) (fun e => hgX2 e.symm)
    refine (DeleteMI HL.out.1.row).mono ?_
    rintro e w7 ⟨rfl, hw7⟩
    rw [← hw7] at HD HX y0 y1 yf z1 z2
    have Z1 := hide (((z1.other o (.slice (some ⟨g, off, none⟩) 0 cap) (k' := K) (fun e => hk1 e.symm)).other (o + 1) (.int .i64 0) (k' := K) (fun e => hk1 e.symm)).pair 0 (.int .u64 x1) (Value.int .i64 x2))
    obtain ⟨e7, e8⟩ := z1.cells2
    obtain ⟨e5, e6⟩ := z2.cells2
    have gf := z1.free
    clear f0 f1 f2 ff HX hw7 z1 z2
    go_wp2
    obtain ⟨r0, r1⟩ := BoxT.cells2 (c0 := .int .u64 x1) (c1 := Value.int .i64 x2) (by simpa using Z1.out)
    have hbel : Below w.heap.size (((w7.setCell ⟨K, o, none⟩ (.slice (some ⟨g, off, none⟩) 0 cap)).setCell ⟨K, o + 1, none⟩ (.int .i64 0))) ((((w7.setCell ⟨K, o, none⟩ (.slice (some ⟨g, off, none⟩) 0 cap)).setCell ⟨K, o + 1, none⟩ (.int .i64 0)).setCell ⟨w.heap.size, 0, none⟩ (.int .u64 x1)).setCell ⟨w.heap.size, 1, none⟩ (Value.int .i64 x2)) := ((Below.refl w.heap.size _).setCell (p := ⟨w.heap.size, 0, none⟩) (Nat.le_refl _) _).setCell (p := ⟨w.heap.size, 1, none⟩) (Nat.le_refl _) _
    have hn : ∀ j, j ≠ w.heap.size → ((((w7.setCell ⟨K, o, none⟩ (.slice (some ⟨g, off, none⟩) 0 cap)).setCell ⟨K, o + 1, none⟩ (.int .i64 0)).setCell ⟨w.heap.size, 0, none⟩ (.int .u64 x1)).setCell ⟨w.heap.size, 1, none⟩ (Value.int .i64 x2)).heap[j]? = ((w7.setCell ⟨K, o, none⟩ (.slice (some ⟨g, off, none⟩) 0 cap)).setCell ⟨K, o + 1, none⟩ (.int .i64 0)).heap[j]? := fun j h1 => (Below.heap_setCell _ ⟨w.heap.size, 1, none⟩ _ j h1).trans (Below.heap_setCell _ ⟨w.heap.size, 0, none⟩ _ j h1)
    have L9 := HD.out.1.back rlMI hbel.size (fun i hi => hn i (fun e => hX1 (by rw [← e]; exact hi)))
    have T9 := (TurnedL.of_below BA.out).trans (HL.out.2.1.trans HD.out.2.1 HL.out.2.2) (Grew.refl fp _)
    refine bodyPost_ret (v := .agg #[.int .u64 x1, Value.int .i64 x2]) (by simp [results, Try.results59, go_sem, r0, r1]) rfl ⟨rfl, _, _, _, _, by rw [hq]; exact L9, ((Like.refl _ _).set0 _).set1 _, ?_, (Grew.refl fp w).trans HL.out.2.2 hsa⟩
    exact ⟨hbel.os.trans T9.os, hbel.tape.trans T9.tape, hbel.output.trans T9.output, Nat.le_trans T9.size hbel.size, fun i hi hf => (hbel.block i hi).trans (T9.block i hi hf)⟩
  · rename_i hq0
    have hq : q1 ++ q2 ≠ [] := fun e => by have := congrArg List.length e; simp only [List.length_append, List.length_nil] at this; simp at hq0; omega
    have L6 := HL.out.1.count rlMI ((q1 ++ q2).length : Int)
    rw [show (((q1 ++ q2).length : Nat) : Int) = (q1.length : Int) + (q2.length : Int) from by simp] at L6
    have Z1 := hide ((HG.out.other (o + 1) (.int .i64 ((q1.length : Int) + (q2.length : Int))) (k' := K) (fun e => hk1 e.symm)).pair 0 (.int .u64 x1) (Value.int .i64 x2))
    obtain ⟨r0, r1⟩ := BoxT.cells2 (c0 := .int .u64 x1) (c1 := Value.int .i64 x2) (by simpa using Z1.out)
    have T8 := TurnedL.set HL.out.1.inK w6' (o + 1) (.int .i64 ((q1.length : Int) + (q2.length : Int)))
    generalize w6'.setCell ⟨K, o + 1, none⟩ (.int .i64 ((q1.length : Int) + (q2.length : Int))) = w8 at *
    have hbel : Below w.heap.size w8 ((w8.setCell ⟨w.heap.size, 0, none⟩ (.int .u64 x1)).setCell ⟨w.heap.size, 1, none⟩ (Value.int .i64 x2)) := ((Below.refl w.heap.size _).setCell (p := ⟨w.heap.size, 0, none⟩) (Nat.le_refl _) _).setCell (p := ⟨w.heap.size, 1, none⟩) (Nat.le_refl _) _
    have hn : ∀ j, j ≠ w.heap.size → ((w8.setCell ⟨w.heap.size, 0, none⟩ (.int .u64 x1)).setCell ⟨w.heap.size, 1, none⟩ (Value.int .i64 x2)).heap[j]? = w8.heap[j]? := fun j h1 => (Below.heap_setCell _ ⟨w.heap.size, 1, none⟩ _ j h1).trans (Below.heap_setCell _ ⟨w.heap.size, 0, none⟩ _ j h1)
    have L7 : Ln 95 RMI w8 (b5 :: fp) K o t (cs.setIfInBounds (o + 1) (.int .i64 ((q1.length : Int) + (q2.length : Int)))) (q1 ++ q2) (.slice (some ⟨g, off, none⟩) 1 cap) [k] := by
      refine LnR.ln (b := b5) ?_ hq
      rw [show (((q1 ++ q2).length : Nat) : Int) = (q1.length : Int) + (q2.length : Int) from by simp]
      exact L6
    have L9 := L7.back rlMI hbel.size (fun i hi => hn i (fun e => hX1 (by rw [← e]; exact hi)))
    have T9 := (TurnedL.of_below BA.out).trans (HL.out.2.1.trans T8 HL.out.2.2) (Grew.refl fp _)
    refine bodyPost_ret (v := .agg #[.int .u64 x1, Value.int .i64 x2]) (by simp [results, Try.results59, go_sem, r0, r1]) rfl ⟨rfl, _, _, _, _, L9, (Like.refl _ _).set1 _, ?_, (Grew.refl fp w).trans HL.out.2.2 hsa⟩
    exact ⟨hbel.os.trans T9.os, hbel.tape.trans T9.tape, hbel.output.trans T9.output, Nat.le_trans T9.size hbel.size, fun i hi hf => (hbel.block i hi).trans (T9.block i hi hf)⟩
end Go.Proofs.Ytnomoekbfclckaa
