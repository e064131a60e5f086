/-
  slices.Backward over nothing and takeFrom of the first thing of a ring of whole numbers.
-/
import Derived.Test.YtnomoekbfclckaaNBack
import Derived.Test.YtnomoekbfclckaaRInt2
namespace Go.Proofs.Ytnomoekbfclckaa
open Go.RowKit Go.Shelf
attribute [local go_sem] Oper.semAt_some

theorem Rg.blkI {w : World} {k b mo : Nat} {q : List Int} (H : Rg 85 3 (Value.int .i64) w k b mo q) : b < w.heap.size := by
  obtain ⟨L, h, so, H⟩ := H
  rcases H.pl with ⟨_, _, _, rfl⟩ | ⟨_, _, _, cur, p4, _⟩
  · exact H.box.lt
  · exact p4.lt
theorem Rg.ownI {A B : World} {k b mo : Nat} {q : List Int} {row : Option Nat} (H : Rg 85 3 (Value.int .i64) A k b mo q) (hg : A.grownBy B row) (hr : ∀ r, row = some r → ∃ o : Obj, A.heap[r]? = some o ∧ o.isCells = false) : Rg 85 3 (Value.int .i64) B k b mo q := by
  obtain ⟨L, h, so, H⟩ := H
  refine ⟨L, h, so, H.box.grown1 hg hr, H.le, H.big, ?_⟩
  rcases H.pl with p | ⟨p1, p2, p3, cur, p4, p5⟩
  · exact .inl p
  · exact .inr ⟨p1, p2, p3, cur, p4.grown1 hg hr, p5⟩
set_option maxRecDepth 100000 in
set_option maxHeartbeats 2000000 in
theorem back1I (F : Fence) (n : Nat) (h1 : F.fn 88) (hro : F.round = none) (Bs : Nat) (a : Option Addr) (l : Nat) (J : List (Int × Int) → World → Prop) (W : World) (hBs : BoxT 35 W Bs #[.slice a 0 0]) (h0 : J [] W) :
    CallsIn F n Try.prog 88 #[.func (.yield l) #[] #[], .pointer (some ⟨Bs, 0, none⟩)] W fun e W' => (∃ v, e = .returned v) ∧ J [] W' := by
  have c0 : W.cell? ⟨Bs, 0, none⟩ = some (.slice a 0 0) := by rw [hBs.cellAt]; rfl
  clear hBs
  refine callsIn_of_wp Try.func88 rfl h1 ?_ hro
  simp only [Try.ntmps88, List.size_toArray, List.length_cons, List.length_nil, Nat.reduceAdd, Nat.reduceSub, Array.replicate_succ, Array.replicate_zero, List.push_toArray, List.append_toArray, List.nil_append, List.cons_append]
  gi_wp2
  gi_loopw [3] (fun iv wr => iv = .int .i64 (-1) ∧ wr = W) (fun _ _ => 0)
  case atStart => exact ⟨rfl, rfl⟩
  case round =>
    obtain ⟨rfl, rfl⟩ := hrel
    gi_wp2
    go_end0
    exact ⟨⟨_, rfl⟩, h0⟩
theorem back_stopsI (F : Fence) (n : Nat) (h1 : F.fn 88) (hro : F.round = none) (Bs : Nat) (a : Option Addr) (w : World) (hBs : BoxT 35 w Bs #[.slice a 0 0]) :
    SeqStopsK F n Try.prog 88 #[.pointer (some ⟨Bs, 0, none⟩)] (fun x : Int × Int => #[.int .i64 x.1, Value.int .i64 x.2]) (Kept2 Bs Bs) (fun ys => ys = []) (fun _ => True) 0 w := fun l J Jx W hW _ _ hY h0 => by
  have e1 : BoxT 35 W Bs #[.slice a 0 0] := by have h := hBs.lt; unfold BoxT at *; rw [hW.block _ h]; exact hBs
  exact (back1I F n h1 hro Bs a l J W e1 h0).mono fun e W' ⟨he, hj⟩ => ⟨he, .inl ⟨[], rfl, hj⟩⟩
set_option maxHeartbeats 1000000 in
theorem backI (F : Fence) (n : Nat) (h1 : F.fn 80) (hro : F.round = none) (a : Option Addr) (len cap : Nat) (w : World) :
    CallsIn F n Try.prog 80 #[.slice a len cap] w fun e w' => e = .returned (.func (.func 88) #[] #[.pointer (some ⟨w.heap.size, 0, none⟩)]) ∧ w' = w.alloc (.cells #[.slice a len cap] 35) := by
  refine callsIn_of_wp Try.func80 rfl h1 ?_ hro
  simp only [Try.ntmps80, List.size_toArray, List.length_cons, List.length_nil, Nat.reduceAdd, Nat.reduceSub, Array.replicate_succ, Array.replicate_zero, List.push_toArray, List.append_toArray, List.nil_append, List.cons_append]
  gi_wp2
  go_ret
  exact ⟨rfl, rfl⟩
set_option maxRecDepth 100000 in
set_option maxHeartbeats 4000000 in
theorem takeFromI {w : World} {k b mo : Nat} {x : Int} {q2 : List Int} (H : Rg 85 3 (Value.int .i64) w k b mo (x :: q2)) :
    Calls Try.prog 70 #[.pointer (some ⟨k, 0, none⟩), .int .i64 0] w fun e w' => e = .returned (Value.int .i64 x) ∧ ∃ b', Rg 85 3 (Value.int .i64) w' k b' mo q2 ∧ Turned k b w w' ∧ (b' = b ∨ w.heap.size ≤ b') := by
  have hkw := H.lt
  have hbw := H.blkI
  obtain ⟨cs, hcs, hmk⟩ := makeI (w.alloc (.cells #[.pointer (some ⟨k, 0, none⟩)] 59)) 0 (by omega)
  have ba : Below w.heap.size w ((w.alloc (.cells #[.pointer (some ⟨k, 0, none⟩)] 59)).alloc (.cells cs 3)) := ((Below.refl _ _).alloc (Nat.le_refl _) _).alloc (by simp) _
  have g0 : BoxT 59 ((w.alloc (.cells #[.pointer (some ⟨k, 0, none⟩)] 59)).alloc (.cells cs 3)) w.heap.size #[.pointer (some ⟨k, 0, none⟩)] := (BoxT.new _ _ _).alloc _
  have hsz : (w.alloc (.cells #[.pointer (some ⟨k, 0, none⟩)] 59)).heap.size = w.heap.size + 1 := by simp
  have hCT := hide (TakeI (H.below ba))
  have c0 : ((w.alloc (.cells #[.pointer (some ⟨k, 0, none⟩)] 59)).alloc (.cells cs 3)).cell? ⟨w.heap.size, 0, none⟩ = some (.pointer (some ⟨k, 0, none⟩)) := by rw [g0.cellAt]; rfl
  have BA := hide ba
  clear g0 hcs H ba
  rw [hsz] at hmk
  clear hsz
  simp only [Int.ofNat_zero] at hmk
  refine (callsIn_wide (n := 9)).1 ?_
  refine callsIn_of_wp_marks Try.func70 rfl trivial ?_ rfl
  simp only [Try.ntmps70, List.size_toArray, List.length_cons, List.length_nil, Nat.reduceAdd, Nat.reduceSub, Array.replicate_succ, Array.replicate_zero, List.push_toArray, List.append_toArray, List.nil_append, List.cons_append]
  gi_wp2
  generalize (w.alloc (.cells #[.pointer (some ⟨k, 0, none⟩)] 59)).alloc (.cells cs 3) = w0 at *
  clear hmk
  gi_loopw [15] (fun iv wr => iv = .int .i64 0 ∧ wr = w0) (fun _ _ => 0)
  case atStart => exact ⟨rfl, rfl⟩
  case round =>
    obtain ⟨rfl, rfl⟩ := hrel
    gi_wp2_with (refine ⟨trivial, ?_⟩; gi_at_call 42; refine (callsIn_wide.2 hCT.out).mono ?_; rintro e w2 ⟨rfl, b2, hr2, t2, hb2⟩)
    refine ⟨trivial, ?_⟩
    refine (backI Fence.wide _ trivial rfl _ _ _ _).mono ?_
    rintro e w3 ⟨rfl, rfl⟩
    gi_wp2
    have hsz := t2.size
    have hsb := BA.out.size
    have y2 : BoxT 35 (w2.alloc (.cells #[.slice (some ⟨w.heap.size + 1, 0, none⟩) 0 0] 35)) w2.heap.size #[.slice (some ⟨w.heap.size + 1, 0, none⟩) 0 0] := BoxT.new _ _ _
    have a1 : Below w2.heap.size w2 (w2.alloc (.cells #[.slice (some ⟨w.heap.size + 1, 0, none⟩) 0 0] 35)) := (Below.refl _ _).alloc (Nat.le_refl _) _
    have hr3 := hr2.below a1
    have t3 := ((Turned.below BA.out).trans t2).trans (Turned.below a1)
    have hs3 := a1.size
    have hX := y2.lt
    generalize w2.alloc (.cells #[.slice (some ⟨w.heap.size + 1, 0, none⟩) 0 0] 35) = W0 at *
    generalize w2.heap.size = X at *
    clear hr2 t2 a1
    refine wpIn_rangeFunc_ownG rfl (by omega) (gf := 88) (lb := #[.pointer (some ⟨X, 0, none⟩)]) rfl trivial (enters_of Try.func88 (by kernel_rfl) rfl)
      (back_stopsI Fence.wide _ trivial rfl X _ W0 y2) (fun h k => h.trans k)
      (fun W l o o' hl _ _ _ => ⟨World.putObj_heap_other (by omega), World.putObj_heap_other (by omega)⟩) (Below.refl _ _) (fun _ => rfl)
      (fun _ W => Rg 85 3 (Value.int .i64) W k b2 mo q2 ∧ Turned k b w W)
      (fun _ _ _ => False)
      (fun s A B row h hg hr => ⟨h.1.ownI hg (fun r e => (hr r e).2), hg.os.trans h.2.os, hg.tape.trans h.2.tape, hg.output.trans h.2.output, Nat.le_trans h.2.size hg.size, fun i hi hk hb => (hg.block i (Nat.lt_of_lt_of_le hi h.2.size) (fun e => by have := (hr i e.symm).1; omega)).trans (h.2.block i hi hk hb)⟩)
      (fun _ _ _ _ _ hs _ _ => hs)
      ⟨hr3, t3⟩ ?a1 ?assign ?body ?done ?stop
    case assign =>
      intro l y W K hK
      gi_wp2
      exact hK
    case body =>
      rintro l pre y W _ h
      exact absurd h (Nat.not_lt_zero _)
    case done =>
      rintro D ys W hD _ ⟨hr5, t5⟩ hK
      gi_wp2
      refine ⟨by simp, .inl ⟨_, _, rfl, run_takeDeferred hK, ?_⟩⟩
      exact ⟨_, results_tmp rfl _ _ _, rfl, b2, hr5.ownI (grownBy_putObj' _ D (.deferred none)) (fun r e => by cases e; exact ⟨_, hK, rfl⟩), t5.then (belowK_b (w := w) (Nat.le_refl _) _ D _ (.deferred none) (by omega) hK rfl rfl), by omega⟩
    case stop =>
      rintro D c pre W _ _ h _
      exact h.elim
end Go.Proofs.Ytnomoekbfclckaa
