/-
  The document's channel: its calls.
-/
import Derived.Test.YtnomoekbfclckaaFRef
namespace Go.Proofs.Ytnomoekbfclckaa
open Go.RowKit

section
variable {w w' : World} {fr : List Nat} {R cr : Nat} {S : FS Int} {vB vM vW vQ : Value}
theorem Row.turn {α : Type} {t sz base : Nat} {cs : α → List Value} {w w' : World} {v : Value} {xs : List α} {R : Nat} (h : Row t sz cs base w v xs) (hb : TurnedL [R] w w') (ho : ∀ g, v.ownBlock = some g → g ≠ R) : Row t sz cs base w' v xs :=
  h.back (fun g hg => hb.block g (by obtain ⟨cur, hc⟩ := h.has g hg; exact hc.lt) (fun hm => ho g hg (List.mem_singleton.1 hm)))
theorem Rg6.kB (H : Rg6 w fr R cr S vB vM vW vQ) (hb : TurnedL [R] w w') : Row 3 1 i64cs 0 w' vB S.back := H.rf.rB.turn hb (fun g hg => (H.oB g hg).2)
theorem Rg6.kM (H : Rg6 w fr R cr S vB vM vW vQ) (hb : TurnedL [R] w w') : Row 3 1 i64cs 0 w' vM (S.mov.map Prod.snd) := H.rf.rM.turn hb (fun g hg => (H.oM g hg).2)
theorem Rg6.kW (H : Rg6 w fr R cr S vB vM vW vQ) (hb : TurnedL [R] w w') : Row 3 1 i64cs 0 w' vW S.wait := H.rf.rW.turn hb (fun g hg => (H.oW g hg).2)
theorem Rg6.kQ (H : Rg6 w fr R cr S vB vM vW vQ) (hb : TurnedL [R] w w') : Row 27 1 u64cs 0 w' vQ (S.mov.map Prod.fst) := H.rf.rQ.turn hb (fun g hg => (H.oQ g hg).2)
theorem TurnedL.setR {R : Nat} {w w1 : World} (h : TurnedL [R] w w1) (j : Nat) (u : Value) : TurnedL [R] w (w1.setCell ⟨R, j, none⟩ u) := h.trans (TurnedL.set (List.mem_singleton.2 rfl) _ _ _) (Grew.refl _ _)
theorem OwnL.row0 {α : Type} {t sz B : Nat} {cs : α → List Value} {w w' : World} {v : Value} {xs : List α} {R : Nat} (o : OwnL t sz cs B w v xs) (hR : R < B) (hb : TurnedL [R] w w') : Row t sz cs 0 w' v xs :=
  (Row.of_own (o.mono (Nat.zero_le _))).turn hb (fun g hg => by have := o.at g hg; omega)
set_option maxHeartbeats 1000000 in
set_option maxRecDepth 100000 in
theorem rNew (w : World) (c e : Int) : Calls Try.prog 19 #[.int .i64 c, .int .u64 e] w fun r w' => r = .returned (.pointer (some ⟨w.heap.size, 0, none⟩)) ∧ Re w' [w.heap.size] w.heap.size (min (max c 1) 64).toNat (pNew e) ∧ Below w.heap.size w w' := by
  go_enter Try.func19, Try.ntmps19
  go_wp2_with fail
  all_goals
    go_ret
    refine ⟨rfl, ⟨.slice none 0 0, .slice none 0 0, .slice none 0 0, .slice none 0 0, ⟨⟨?_, Row.nil _ _ _ _ _, Row.nil _ _ _ _ _, Row.nil _ _ _ _ _, Row.nil _ _ _ _ _⟩, List.mem_singleton.2 rfl, fun g hg => (by cases hg), fun g hg => (by cases hg), fun g hg => (by cases hg), fun g hg => (by cases hg), fun i hi => by rw [List.mem_singleton.1 hi]; simp⟩⟩, (Below.refl _ _).alloc (Nat.le_refl _) _⟩
    first
      | rw [show (((min (max c 1) 64).toNat : Nat) : Int) = 64 by omega]
      | rw [show (((min (max c 1) 64).toNat : Nat) : Int) = 1 by omega]
      | rw [show (((min (max c 1) 64).toNat : Nat) : Int) = c by omega]
    exact BoxT.new _ _ _
set_option maxHeartbeats 1000000 in
set_option maxRecDepth 100000 in
theorem rEpoch (H : Re w fr R cr S) : Calls Try.prog 33 #[.pointer (some ⟨R, 0, none⟩)] w fun r w' => r = .returned (.int .u64 S.e) ∧ w' = w := by
  obtain ⟨vB, vM, vW, vQ, H⟩ := H
  obtain ⟨c0, c1, c2, c3, c4, c5, c6, c7, c8⟩ := H.cells
  clear H
  go_enter Try.func33, Try.ntmps33
  go_wp2
  go_ret
  exact ⟨rfl, rfl⟩
set_option maxHeartbeats 1000000 in
set_option maxRecDepth 100000 in
theorem rCredits (H : Re w fr R cr S) (hcr : cr ≤ 64) (hm : S.mov.length ≤ 1000) (hw : S.wait.length ≤ 1000) : Calls Try.prog 31 #[.pointer (some ⟨R, 0, none⟩)] w fun r w' => r = .returned (.int .i64 (pCr cr S)) ∧ Below w.heap.size w w' := by
  obtain ⟨vB, vM, vW, vQ, H⟩ := H
  obtain ⟨c0, c1, c2, c3, c4, c5, c6, c7, c8⟩ := H.cells
  obtain ⟨_, ⟨a2, e2, rfl⟩, ⟨a3, e3, rfl⟩, _⟩ := H.shapes
  clear H
  have hp : pCr cr S = (cr : Int) - S.mov.length - S.wait.length := by unfold pCr; omega
  rw [hp]
  clear hp
  generalize S.mov.length = lm at *
  generalize S.wait.length = lw at *
  have hw1 : IntKind.i64.wrap ((cr : Int) - lm) = (cr : Int) - lm := by rw [IntKind.wrap_i64]; omega
  have hw2 : IntKind.i64.wrap ((cr : Int) - lm - lw) = (cr : Int) - lm - lw := by rw [IntKind.wrap_i64]; omega
  go_enter Try.func31, Try.ntmps31
  go_wp2
  go_quiet (fail)
  go_wp2
  go_ret
  exact ⟨rfl, below_drewN (Below.refl _ _) nq⟩
set_option maxHeartbeats 1000000 in
set_option maxRecDepth 100000 in
theorem rOffer (H : Re w fr R cr S) (hl : S.back.length ≤ 1000) (x : Int) : Calls Try.prog 20 #[.pointer (some ⟨R, 0, none⟩), .int .i64 x] w fun r w' => r = .returned (.tuple #[]) ∧ DidR w w' fr R cr (pOffer S x) := by
  obtain ⟨vB, vM, vW, vQ, H⟩ := H
  obtain ⟨c0, c1, c2, c3, c4, c5, c6, c7, c8⟩ := H.cells
  have hadd := hide (add_any H.rf.rB hl x)
  have HX := hide H
  have hR := H.lt R H.inR
  obtain ⟨⟨a1, e1, rfl⟩, _⟩ := H.shapes
  clear H
  go_enter Try.func20, Try.ntmps20
  go_wp2_with (first | (go_at_call 51; refine hadd.out.mono ?_; rintro r w1 ⟨v1, rfl, o1, b1⟩; have H1 := (HX.out.below b1).rf.box; have z0 := (H1.cellAt 0).trans rfl; have zf := H1.free; have HO := hide (And.intro o1 (And.intro b1 H1)); obtain ⟨a4, e4, hv⟩ := o1.shape; generalize (S.back ++ [x]).length = n4 at hv; subst hv; clear o1 b1 H1) | fail)
  go_end0
  have T1 := (TurnedL.of_below (fp := [R]) HO.out.2.1).setR 0 (.slice a4 n4 e4)
  exact ⟨rfl, HX.out.store (S' := pOffer S x) T1 (by simpa [pOffer] using HO.out.2.2.set 0 (.slice a4 n4 e4)) (HO.out.1.row0 hR ((TurnedL.refl _ _).setR 0 _)) (HX.out.kM T1) (HX.out.kW T1) (HX.out.kQ T1) (fun g hg => .inr (HO.out.1.at g hg)) (fun g hg => .inl hg) (fun g hg => .inl hg) (fun g hg => .inl hg)⟩
set_option maxHeartbeats 1000000 in
set_option maxRecDepth 100000 in
theorem rTakeN (H : Re w fr R cr S) (hx : S.wait = []) : Calls Try.prog 23 #[.pointer (some ⟨R, 0, none⟩)] w fun r w' => r = .returned (.tuple #[.int .i64 0, .bool false]) ∧ w' = w := by
  obtain ⟨vB, vM, vW, vQ, H⟩ := H
  obtain ⟨c0, c1, c2, c3, c4, c5, c6, c7, c8⟩ := H.cells
  obtain ⟨_, _, ⟨a3, e3, rfl⟩, _⟩ := H.shapes
  rw [hx] at c2
  simp only [List.length_nil] at c2
  clear H
  go_enter Try.func23, Try.ntmps23
  go_wp2
  go_ret2
  exact ⟨rfl, rfl⟩
set_option maxHeartbeats 1000000 in
set_option maxRecDepth 100000 in
theorem rTake (H : Re w fr R cr S) {x : Int} {T : List Int} (hx : S.wait = x :: T) (hl : S.wait.length ≤ 1000) : Calls Try.prog 23 #[.pointer (some ⟨R, 0, none⟩)] w fun r w' => r = .returned (.tuple #[.int .i64 x, .bool true]) ∧ DidR w w' fr R cr (pTake S) := by
  obtain ⟨vB, vM, vW, vQ, H⟩ := H
  obtain ⟨c0, c1, c2, c3, c4, c5, c6, c7, c8⟩ := H.cells
  have hf := H.rf.box.free
  have HX := hide H
  have hR := H.lt R H.inR
  have hrW := H.rf.rW
  rw [hx] at hrW
  obtain ⟨a3, e3, rfl⟩ := hrW.shape
  obtain ⟨g, off, rfl, _, t2, t3, t4⟩ := hrW.tail i64cs_len
  obtain ⟨_, _, _, e, hr⟩ := hrW.read i64cs_len (i := 0) rfl
  cases e
  have d0 : w.cell? ⟨g, off, none⟩ = some (.int .i64 x) := by simpa using hr 0 _ rfl
  obtain ⟨_, hc1, hc2, _⟩ := hrW.full
  unfold maxLen at hc2
  have hgR := (H.oW g rfl).2
  simp only [List.length_cons] at c2 hc1 hl HX
  rw [hx] at hl
  simp only [List.length_cons] at hl
  have HT := hide (And.intro t3 t4)
  have hpt : (pTake S).wait = T := by simp [pTake, hx]
  clear H hr hrW t3 t4
  by_cases h1 : e3 = 1
  · subst h1
    have hT : T = [] := (HT.out.2 rfl).2
    have HT1 := hide (HT.out.2 rfl).1
    subst hT
    simp only [List.length_nil, Nat.zero_add] at c2 hc1 HX HT1
    clear HT
    go_enter Try.func23, Try.ntmps23
    go_wp2
    go_ret2
    have T1 := (TurnedL.refl [R] w).setR 2 (.slice (some ⟨g, off, none⟩) 0 0)
    exact ⟨rfl, HX.out.store (S' := pTake S) (vW' := .slice (some ⟨g, off, none⟩) 0 0) T1 (by simpa [pTake] using HX.out.rf.box.set 2 (.slice (some ⟨g, off, none⟩) 0 0)) (HX.out.kB T1) (HX.out.kM T1) (by rw [hpt]; exact HT1.out.turn T1 (fun g' hg' => by cases hg'; exact hgR)) (HX.out.kQ T1) (fun g hg => .inl hg) (fun g hg => .inl hg) (fun g hg => .inl hg) (fun g hg => .inl hg)⟩
  · have HT1 := hide (HT.out.1 h1)
    clear HT
    go_enter Try.func23, Try.ntmps23
    go_wp2
    go_ret2
    have T1 := (TurnedL.refl [R] w).setR 2 (.slice (some ⟨g, off + 1, none⟩) T.length (e3 - 1))
    exact ⟨rfl, HX.out.store (S' := pTake S) (vW' := .slice (some ⟨g, off + 1, none⟩) T.length (e3 - 1)) T1 (by simpa [pTake] using HX.out.rf.box.set 2 (.slice (some ⟨g, off + 1, none⟩) T.length (e3 - 1))) (HX.out.kB T1) (HX.out.kM T1) (by rw [hpt]; exact HT1.out.turn T1 (fun g' hg' => by cases hg'; exact hgR)) (HX.out.kQ T1) (fun g hg => .inl hg) (fun g hg => .inl hg) (fun g hg => .inl hg) (fun g hg => .inl hg)⟩
set_option maxHeartbeats 1000000 in
set_option maxRecDepth 100000 in
theorem rKill (H : Re w fr R cr S) (e' : Int) : Calls Try.prog 29 #[.pointer (some ⟨R, 0, none⟩), .int .u64 e'] w fun r w' => r = .returned (.tuple #[]) ∧ DidR w w' fr R cr (pKill S e') := by
  obtain ⟨vB, vM, vW, vQ, H⟩ := H
  obtain ⟨c0, c1, c2, c3, c4, c5, c6, c7, c8⟩ := H.cells
  have hf := H.rf.box.free
  have HX := hide H
  clear H
  have hmx : (if S.e < e' then e' else S.e) = max S.e e' := by split <;> omega
  have T1 := ((((((((TurnedL.refl [R] w).setR 0 (.slice none 0 0)).setR 1 (.slice none 0 0)).setR 2 (.slice none 0 0)).setR 3 (.slice none 0 0)).setR 7 (.int .u64 1)).setR 4 (.int .u64 1)).setR 5 (.int .u64 (max S.e e')))
  have B1 := ((((((HX.out.rf.box.set 0 (.slice none 0 0)).set 1 (.slice none 0 0)).set 2 (.slice none 0 0)).set 3 (.slice none 0 0)).set 7 (.int .u64 1)).set 4 (.int .u64 1)).set 5 (.int .u64 (max S.e e'))
  have HF := hide (HX.out.store (S' := pKill S e') T1 (by simpa [pKill] using B1) (Row.nil _ _ _ _ _) (Row.nil _ _ _ _ _) (Row.nil _ _ _ _ _) (Row.nil _ _ _ _ _) (fun g hg => by cases hg) (fun g hg => by cases hg) (fun g hg => by cases hg) (fun g hg => by cases hg))
  clear T1 B1 HX
  by_cases he : S.e < e'
  · rw [show max S.e e' = e' by omega] at HF
    go_enter Try.func29, Try.ntmps29
    go_wp2
    go_end0
    exact ⟨rfl, HF.out⟩
  · rw [show max S.e e' = S.e by omega] at HF
    go_enter Try.func29, Try.ntmps29
    go_wp2
    go_end0
    exact ⟨rfl, HF.out⟩
end
end Go.Proofs.Ytnomoekbfclckaa
