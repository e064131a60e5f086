/-
  Walks over package net: lines of whole numbers: take of the first.
-/
import Derived.Test.YtnomoekbfclckaaNDelI
namespace Go.Proofs.Ytnomoekbfclckaa
open Go.RowKit

set_option maxHeartbeats 1000000 in
set_option maxRecDepth 100000 in
theorem takeI {w : World} {fp : List Nat} {K o t : Nat} {cs : Array Value} {x : Int} {q : List Int} {v : Value} {ks : List Nat} (H : Ln 59 RI w fp K o t cs (x :: q) v ks) (hl : q.length < 512) :
    Calls Try.prog 57 #[.pointer (some ⟨K, o, none⟩), .int .i64 0] w fun e w' => e = .returned (Value.int .i64 x) ∧ ∃ fp' cs' v' ks', Ln 59 RI w' fp' K o t cs' q v' ks' ∧ Like o cs cs' ∧ TurnedL fp w w' ∧ Grew fp fp' w := by
  obtain ⟨k, b, rfl, HR⟩ := H.lnR (by simp)
  obtain ⟨g, off, cap, hv, hcell⟩ := HR.row.read pc1 (i := 0) rfl
  simp only [List.length_singleton] at hv
  subst hv
  have d2 := hcell 0 _ rfl
  simp only [Nat.zero_mul, Nat.add_zero] at d2
  have c0 := (HR.box.cellAt _).trans HR.c0
  have hpl := hide (placeI HR (i := 0) (by simp) rfl)
  have htf := hide (takeFromI HR.ring)
  have HH := hide HR
  clear H HR hcell
  go_enter Try.func57, Try.ntmps57
  go_wp2_with (first
    | (go_at_call 69; refine hpl.out.mono ?_; rintro e w1 ⟨rfl, rfl⟩)
    | (go_at_call 70; refine htf.out.mono ?_; rintro e w5 ⟨rfl, b5, hr5, t5, hb5⟩; have L5 := hide (HH.out.turn rlI hr5 t5 hb5); have hlen := hide (LenI L5.out.1.ring); have f0 := (L5.out.1.box.cellAt _).trans L5.out.1.c0; have f1 := (L5.out.1.box.cellAt _).trans L5.out.1.c1; have ff := L5.out.1.box.free; obtain ⟨_, _, _, hv, hcell⟩ := L5.out.1.row.read pc1 (i := 0) rfl; simp only [List.length_singleton] at hv; cases hv; have f2 := hcell 0 _ rfl; simp only [Nat.zero_mul, Nat.add_zero] at f2; clear hr5 t5 hcell)
    | (go_at_call 49; refine hlen.out.mono ?_; rintro e w6 ⟨rfl, rfl⟩)
    | fail)
  · rename_i hq0 _ _
    have hq : q = [] := List.length_eq_zero_iff.1 (by have := eq_of_beq hq0; omega)
    subst hq
    have HD := hide L5.out.1.dropped
    have HX := HD.out.2.2
    have e0 := (HX.cellAt _).trans L5.out.1.c0
    have e1 := (HX.cellAt _).trans L5.out.1.c1
    have ef := HX.free
    simp only [List.length_singleton] at e1
    refine (DeleteI L5.out.1.row).mono ?_
    rintro e w7 ⟨rfl, hw7⟩
    rw [← hw7] at HD HX e0 e1 ef
    clear f0 f1 f2 ff HX hw7
    go_wp2
    go_ret
    exact ⟨rfl, _, _, _, _, HD.out.1, ((Like.refl _ _).set0 _).set1 _, L5.out.2.1.trans HD.out.2.1 L5.out.2.2, L5.out.2.2⟩
  · rename_i hq0
    have hq : q ≠ [] := fun e => by subst e; simp at hq0
    go_ret
    have L6 := L5.out.1.count rlI (q.length : Int)
    exact ⟨rfl, _, _, _, _, L6.ln hq, (Like.refl _ _).set1 _, L5.out.2.1.trans (TurnedL.set L5.out.1.inK _ _ _) L5.out.2.2, L5.out.2.2⟩
end Go.Proofs.Ytnomoekbfclckaa
