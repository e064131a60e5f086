/-
  The document's channel: Drain.
-/
import Derived.Test.YtnomoekbfclckaaFRefO
namespace Go.Proofs.Ytnomoekbfclckaa
open Go.RowKit

theorem grown_below {B : Nat} {w0 w w' : World} {v : Value} (hb : Below B w0 w) (hB : B = w0.heap.size) (hg : w.grownBy w' v.ownBlock) (ho : ∀ g, v.ownBlock = some g → B ≤ g) : Below B w0 w' := by
  subst hB
  exact ⟨hg.os.trans hb.os, hg.tape.trans hb.tape, hg.output.trans hb.output, Nat.le_trans hb.size hg.size, fun i hi => (hg.block i (Nat.lt_of_lt_of_le hi hb.size) (fun e => by have := ho i e.symm; omega)).trans (hb.block i hi)⟩
section
variable {w w' : World} {fr : List Nat} {R cr : Nat} {S : FS Int} {vB vM vW vQ : Value}
set_option maxHeartbeats 8000000 in
set_option maxRecDepth 100000 in
theorem rDrain (H : Re w fr R cr S) (hb : S.back.length ≤ 1000) (hm : S.mov.length ≤ 1000) (hw : S.wait.length ≤ 1000) : Calls Try.prog 27 #[.pointer (some ⟨R, 0, none⟩)] w fun r w' => ∃ v, r = .returned v ∧ OwnL 3 1 i64cs w.heap.size w' v (pAll S) ∧ DidR w w' fr R cr (pDrain S) := by
  obtain ⟨vB, vM, vW, vQ, H⟩ := H
  obtain ⟨c0, c1, c2, c3, c4, c5, c6, c7, c8⟩ := H.cells
  have HX := hide H
  have hR := H.rf.box.lt
  obtain ⟨⟨aB, cB, rfl⟩, ⟨aM, cM, rfl⟩, ⟨aW, cW, rfl⟩, _⟩ := H.shapes
  have hlm : (S.mov.map Prod.snd).length ≤ 1000 := by rw [List.length_map]; exact hm
  clear H
  have B0 := hide ((Below.refl w.heap.size w).drew)
  go_enter Try.func27, Try.ntmps27
  go_wp2_with fail
  go_region_held3 (fun w' => w'.cell? ⟨R, 0, none⟩ = some (.slice aB S.back.length cB) ∧ w'.cell? ⟨R, 1, none⟩ = some (.slice aM S.mov.length cM) ∧ w'.cell? ⟨R, 2, none⟩ = some (.slice aW S.wait.length cW)) (first | go_keep | exact ⟨c0, c1, c2⟩ | exact ⟨z0, z1, z2⟩)
    (first
      | (refine step_lseg rfl _ _ rfl w.heap.size (.slice none 0 0) [] rfl (OwnL.nil _ _ _ _ _) w.drew.heap.size (.slice aW S.wait.length cW) S.wait rfl ((HX.out.rf.rW.below B0.out).lseg (by omega)) (by simp; omega) (Nat.le_refl _) ?_; intro v1 w1 o1 g1 _; rw [List.nil_append] at o1; have B1 := hide (grown_below B0.out rfl g1 (fun g hg => by cases hg)); have O1 := hide o1; have z0 := (B1.out.cell (p := ⟨R, 0, none⟩) hR).trans c0; have z1 := (B1.out.cell (p := ⟨R, 1, none⟩) hR).trans c1; have z2 := (B1.out.cell (p := ⟨R, 2, none⟩) hR).trans c2; obtain ⟨a1, e1, hv1⟩ := o1.shape; subst hv1; clear o1 g1)
      | (refine step_lseg rfl _ _ rfl w.heap.size (.slice a1 S.wait.length e1) S.wait rfl O1.out w1.heap.size (.slice aM S.mov.length cM) (S.mov.map Prod.snd) rfl ((HX.out.rf.rM.below B1.out).lseg (by omega)) (by omega) B1.out.size ?_; intro v2 w2 o2 g2 _; have B2 := hide (grown_below B1.out rfl g2 O1.out.at); have O2 := hide o2; clear z0 z1 z2; have z0 := (B2.out.cell (p := ⟨R, 0, none⟩) hR).trans c0; have z1 := (B2.out.cell (p := ⟨R, 1, none⟩) hR).trans c1; have z2 := (B2.out.cell (p := ⟨R, 2, none⟩) hR).trans c2; obtain ⟨a2, e2, hv2⟩ := o2.shape; generalize hn2 : (S.wait ++ S.mov.map Prod.snd).length = n2 at hv2; have HN2 := hide hn2; subst hv2; clear o2 g2 hn2)
      | (refine step_lseg rfl _ _ rfl w.heap.size (.slice a2 n2 e2) (S.wait ++ S.mov.map Prod.snd) rfl O2.out w2.heap.size (.slice aB S.back.length cB) S.back rfl ((HX.out.rf.rB.below B2.out).lseg (by omega)) (by rw [List.length_append]; omega) B2.out.size ?_; intro v3 w3 o3 g3 _; have B3 := hide (grown_below B2.out rfl g3 O2.out.at); have O3 : Hid (OwnL 3 1 i64cs w.heap.size w3 v3 (pAll S)) := o3; clear z0 z1 z2; have z0 := (B3.out.cell (p := ⟨R, 0, none⟩) hR).trans c0; have z1 := (B3.out.cell (p := ⟨R, 1, none⟩) hR).trans c1; have z2 := (B3.out.cell (p := ⟨R, 2, none⟩) hR).trans c2; obtain ⟨a3, e3, hv3⟩ := o3.shape; generalize (S.wait ++ S.mov.map Prod.snd ++ S.back).length = n3 at hv3; subst hv3; clear o3 g3))
  have H3 := hide (HX.out.below B3.out)
  obtain ⟨y0, y1, y2, y3, y4, y5, y6, y7, y8⟩ := H3.out.cells
  have yf := H3.out.rf.box.free
  clear z0 z1 z2 c0 c1 c2 c3 c4 c5 c6 c7 c8
  have T1 := (((((TurnedL.refl [R] w3).setR 7 (.int .u64 S.s)).setR 0 (.slice none 0 0)).setR 1 (.slice none 0 0)).setR 2 (.slice none 0 0)).setR 3 (.slice none 0 0)
  have X1 := ((((H3.out.rf.box.set 7 (.int .u64 S.s)).set 0 (.slice none 0 0)).set 1 (.slice none 0 0)).set 2 (.slice none 0 0)).set 3 (.slice none 0 0)
  have TA := (TurnedL.of_below (fp := [R]) B3.out).trans T1 (Grew.refl _ _)
  have HF := hide (And.intro (HX.out.store (S' := pDrain S) TA (by simpa [pDrain] using X1) (Row.nil _ _ _ _ _) (Row.nil _ _ _ _ _) (Row.nil _ _ _ _ _) (Row.nil _ _ _ _ _) (fun g hg => by cases hg) (fun g hg => by cases hg) (fun g hg => by cases hg) (fun g hg => by cases hg)) (O3.out.back (fun g hg => T1.block g (by obtain ⟨cur, hc⟩ := (Row.of_own O3.out).has g hg; exact hc.lt) (fun hmm => by have e1 := O3.out.at g hg; have e2 := List.mem_singleton.1 hmm; omega))))
  clear T1 X1 TA
  go_wp2
  go_ret
  exact ⟨_, rfl, HF.out.2, HF.out.1⟩
end
end Go.Proofs.Ytnomoekbfclckaa
