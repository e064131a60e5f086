/-
  The document's channel: Send.
-/
import Derived.Test.YtnomoekbfclckaaFRefO
import Derived.Deep.CutBlock
import Derived.Deep.CutRange
import Derived.Test.YtnomoekbfclckaaFHold
namespace Go.Proofs.Ytnomoekbfclckaa
open Go.RowKit

section
variable {w w' : World} {fr : List Nat} {R cr : Nat} {S : FS Int} {vB vM vW vQ : Value}
set_option maxHeartbeats 40000000 in
set_option maxRecDepth 100000 in
theorem BoxT.below {t g : Nat} {w w' : World} {cs : Array Value} (h : BoxT t w g cs) (hb : Below w.heap.size w w') : BoxT t w' g cs := by
  have := h.lt
  unfold BoxT at *
  rw [hb.block g this]; exact h
set_option maxHeartbeats 40000000 in
set_option maxRecDepth 100000 in
theorem rSend (H : Re w fr R cr S) (hcr : cr ≤ 64) (hb : S.back.length ≤ 1000) (hm : S.mov.length ≤ 1000) (hw : S.wait.length ≤ 1000) (hs0 : 0 ≤ S.s) (hs1 : S.s ≤ 1000000) : Calls Try.prog 21 #[.pointer (some ⟨R, 0, none⟩)] w fun r w' => r = .returned (.bool (pSend cr S).2) ∧ DidR w w' fr R cr (pSend cr S).1 := by
  have hcd := hide (rCredits H hcr hm hw)
  have HC := hide H
  obtain ⟨vB, vM, vW, vQ, H⟩ := H
  obtain ⟨c0, c1, c2, c3, c4, c5, c6, c7, c8⟩ := H.cells
  have HX := hide H
  rcases send_cases cr S with ⟨e, he⟩ | ⟨x, B, e1, e2, e⟩
  · rw [e]
    dsimp only
    obtain ⟨⟨a1, b1, rfl⟩, _⟩ := H.shapes
    by_cases h0 : S.back = []
    · rw [h0] at c0
      simp only [List.length_nil] at c0
      clear H he
      go_enter Try.func21, Try.ntmps21
      go_wp2
      go_ret
      exact ⟨rfl, fr, HC.out, TurnedL.refl _ _, Grew.refl _ _⟩
    · have hc := he.resolve_right h0
      have hl0 : S.back.length ≠ 0 := fun h => h0 (List.length_eq_zero_iff.1 h)
      clear H he
      generalize S.back.length = lb at *
      generalize pCr cr S = z at *
      go_enter Try.func21, Try.ntmps21
      go_wp2_with (first | (go_at_call 31; refine hcd.out.mono ?_; rintro r w1 ⟨rfl, b1⟩; have B1 := hide b1; clear b1) | fail)
      go_ret
      exact ⟨rfl, fr, HC.out.below B1.out, TurnedL.of_below B1.out, Grew.refl _ _⟩
  · rw [e]
    dsimp only
    have hws : IntKind.u64.wrap (S.s + 1) = S.s + 1 := by unfold IntKind.wrap; simp [IntKind.bits]; omega
    have hrB := H.rf.rB
    rw [e1] at hrB
    obtain ⟨_, ⟨aM, cM, rfl⟩, _, ⟨aQ, cQ, rfl⟩⟩ := H.shapes
    obtain ⟨aB, cB, rfl⟩ := hrB.shape
    obtain ⟨g, off, rfl, _, t2, t3, t4⟩ := hrB.tail i64cs_len
    obtain ⟨_, _, _, e0, hr⟩ := hrB.read i64cs_len (i := 0) rfl
    cases e0
    have d0 : w.cell? ⟨g, off, none⟩ = some (.int .i64 x) := by simpa using hr 0 _ rfl
    have hgw : g < w.heap.size := H.lt g (H.oB g rfl).1
    obtain ⟨_, hc1, hc2, _⟩ := hrB.full
    unfold maxLen at hc2
    have hgR := (H.oB g rfl).2
    rw [e1] at hb
    simp only [List.length_cons] at c0 hc1 hb HX
    have HT := hide (And.intro t3 t4)
    have hcp : ¬ (pCr cr S ≤ 0) := by omega
    have hi1 : (1 : Int) ≤ (B.length : Int) + 1 := by omega
    have hne : ((B.length : Int) + 1 == 0) = false := by simp; omega
    have hR := H.lt R H.inR
    clear H hr hrB t3 t4 e2
    generalize pCr cr S = z at *
    go_enter Try.func21, Try.ntmps21
    go_wp2_with (first
      | (go_at_call 31; refine hcd.out.mono ?_; rintro r w1 ⟨rfl, b1⟩
         have B1 := hide b1
         have H1 := hide (HX.out.below b1)
         obtain ⟨y0, y1, y2, y3, y4, y5, y6, y7, y8⟩ := H1.out.cells
         have yf := H1.out.rf.box.free
         have hd0 : w1.cell? ⟨g, off, none⟩ = some (.int .i64 x) := (b1.cell (p := ⟨g, off, none⟩) hgw).trans d0
         have hadd := hide (add_any ((H1.out.rf.rM).below ((Below.refl _ _).drew)) (by rw [List.length_map]; omega) x)
         clear c0 c1 c2 c3 c4 c5 c6 c7 c8 d0 b1)
      | fail)
    have hR1 : R < w1.drew.heap.size := H1.out.rf.box.lt
    have HT1 := hide (And.intro (fun h => (HT.out.1 h).below B1.out) (fun h => (HT.out.2 h).1.below B1.out))
    have HTn := hide (fun h => (HT.out.2 h).2)
    clear HT
    have HBX := hide (H1.out.rf.box.drew)
    go_cut [2] from 14 to 35 (fun rv wx => rv = .bool false ∧ ∃ vB2 vM2, Hid (TurnedL [R] w1 wx ∧ BoxT 48 wx R #[vB2, vM2, vW, .slice aQ S.mov.length cQ, .int .u64 S.s, .int .u64 S.e, .int .i64 cr, .int .u64 S.r, .int .i64 S.mo] ∧ Row 3 1 i64cs 0 wx vB2 B ∧ Row 3 1 i64cs 0 wx vM2 (S.mov.map Prod.snd ++ [x]) ∧ (∀ g', vB2.ownBlock = some g' → g = g') ∧ (∀ g', vM2.ownBlock = some g' → w1.heap.size ≤ g')))
    case first =>
      by_cases h1 : cB = 1
      · have HTx := hide (HT1.out.2 h1)
        subst h1
        have HBL : Hid (B.length = 0) := by show B.length = 0; omega
        have HTx : Hid (Row 3 1 i64cs 0 w1 (.slice (some ⟨g, off, none⟩) 0 0) B) := by have h := HTx.out; rw [HBL.out] at h; exact h
        clear H1
        clear HC HX hcd B1 HT1 HTn y2 y3 y4 y5 y6 y7 y8 e hws hw hs0 hs1 t2 e1 hcr
        have hgw1 : g < w1.drew.heap.size := World.block_lt_of_cell? w1 ⟨g, off, none⟩ hd0
        refine wp_region_M (S := fun w' => w'.cell? ⟨R, 0, none⟩ = some (.slice (some ⟨g, off, none⟩) (B.length + 1) 1) ∧ w'.cell? ⟨R, 1, none⟩ = some (.slice aM S.mov.length cM) ∧ w'.cell? ⟨g, off, none⟩ = some (.int .i64 x)) (late := [1, 13, 14, 15, 17, 18, 19, 20, 21, 22, 23]) (by kernel_rfl) ⟨by simpa using y0, by simpa using y1, by simpa using hd0⟩ (fun hHeld => ?_)
        (try simp only [List.size_toArray, List.length_cons, List.length_nil, Nat.zero_add, Nat.reduceAdd, Array.replicate, List.replicate])
        refine wpAnyM_takeP (i := 1) (oi := ⟨_, _, _, _, _, _⟩) (v := ?_) rfl (by kernel_rfl) (by kernel_rfl) (by kernel_rfl) (by kernel_rfl) (fun _ _ _ h => h) (Or.inl ⟨by rfl, ?_⟩) ?_
        rotate_left
        · (intro w hSw; clear hSw; go_simp; try (with_reducible rfl))
        (try simp only [Act.put, List.setIfInBounds_toArray, List.set_cons_zero, List.set_cons_succ])
        refine wpAnyM_takeP (i := 13) (oi := ⟨_, _, _, _, _, _⟩) (v := ?_) rfl (by kernel_rfl) (by kernel_rfl) (by kernel_rfl) (by kernel_rfl) (fun _ _ _ h => h) (Or.inl ⟨by rfl, ?_⟩) ?_
        rotate_left
        · (intro w hSw; clear hSw; go_simp; try (with_reducible rfl))
        (try simp only [Act.put, List.setIfInBounds_toArray, List.set_cons_zero, List.set_cons_succ])
        refine wpAnyM_takeP (i := 14) (oi := ⟨_, _, _, _, _, _⟩) (v := ?_) rfl (by kernel_rfl) (by kernel_rfl) (by kernel_rfl) (by kernel_rfl) (fun _ _ _ h => h) (Or.inl ⟨by rfl, ?_⟩) ?_
        rotate_left
        · (intro w hSw; clear hSw; go_simp; try (with_reducible rfl))
        (try simp only [Act.put, List.setIfInBounds_toArray, List.set_cons_zero, List.set_cons_succ])
        refine wpAnyM_takeP (i := 15) (oi := ⟨_, _, _, _, _, _⟩) (v := ?_) rfl (by kernel_rfl) (by kernel_rfl) (by kernel_rfl) (by kernel_rfl) (fun _ _ _ h => h) (Or.inl ⟨by rfl, ?_⟩) ?_
        rotate_left
        · (intro w hSw; clear hSw; go_simp; try (with_reducible rfl))
        (try simp only [Act.put, List.setIfInBounds_toArray, List.set_cons_zero, List.set_cons_succ])
        refine wpAnyM_take (i := 16) (oi := ⟨_, _, _, _, _, _⟩) (v := ?_) rfl (by kernel_rfl) (by kernel_rfl) (by kernel_rfl) (by kernel_rfl) (fun _ _ _ h => h) (Or.inl ⟨by rfl, ?_⟩) hHeld ?_
        rotate_left
        · (intro w hSw; (try dsimp only at hSw); go_simp; try (with_reducible rfl))
        (try simp only [Act.put, List.setIfInBounds_toArray, List.set_cons_zero, List.set_cons_succ])
        refine wpAnyM_takeP (i := 17) (oi := ⟨_, _, _, _, _, _⟩) (v := ?_) rfl (by kernel_rfl) (by kernel_rfl) (by kernel_rfl) (by kernel_rfl) (fun _ _ _ h => h) (Or.inl ⟨by rfl, ?_⟩) ?_
        rotate_left
        · (intro w hSw; clear hSw; go_simp; try (with_reducible rfl))
        (try simp only [Act.put, List.setIfInBounds_toArray, List.set_cons_zero, List.set_cons_succ])
        refine wpAnyM_take (i := 0) (oi := ⟨_, _, _, _, _, _⟩) (v := ?_) rfl (by kernel_rfl) (by kernel_rfl) (by kernel_rfl) (by kernel_rfl) (fun _ _ _ h => h) (Or.inl ⟨by rfl, ?_⟩) hHeld ?_
        rotate_left
        · (intro w hSw; (try dsimp only at hSw); go_simp; try (with_reducible rfl))
        (try simp only [Act.put, List.setIfInBounds_toArray, List.set_cons_zero, List.set_cons_succ])
        refine wpAnyM_take (i := 2) (oi := ⟨_, _, _, _, _, _⟩) (v := ?_) rfl (by kernel_rfl) (by kernel_rfl) (by kernel_rfl) (by kernel_rfl) (fun _ _ _ h => h) (Or.inl ⟨by rfl, ?_⟩) hHeld ?_
        rotate_left
        · (intro w hSw; (try dsimp only at hSw); go_simp; try (with_reducible rfl))
        (try simp only [Act.put, List.setIfInBounds_toArray, List.set_cons_zero, List.set_cons_succ])
        refine wpAnyM_take (i := 3) (oi := ⟨_, _, _, _, _, _⟩) (v := ?_) rfl (by kernel_rfl) (by kernel_rfl) (by kernel_rfl) (by kernel_rfl) (fun _ _ _ h => h) (Or.inl ⟨by rfl, ?_⟩) hHeld ?_
        rotate_left
        · (intro w hSw; (try dsimp only at hSw); go_simp; try (with_reducible rfl))
        (try simp only [Act.put, List.setIfInBounds_toArray, List.set_cons_zero, List.set_cons_succ])
        refine wpAnyM_take (i := 4) (oi := ⟨_, _, _, _, _, _⟩) (v := ?_) rfl (by kernel_rfl) (by kernel_rfl) (by kernel_rfl) (by kernel_rfl) (fun _ _ _ h => h) (Or.inl ⟨by rfl, ?_⟩) hHeld ?_
        rotate_left
        · (intro w hSw; (try dsimp only at hSw); go_simp; try (with_reducible rfl))
        (try simp only [Act.put, List.setIfInBounds_toArray, List.set_cons_zero, List.set_cons_succ])
        refine wpAnyM_take (i := 5) (oi := ⟨_, _, _, _, _, _⟩) (v := ?_) rfl (by kernel_rfl) (by kernel_rfl) (by kernel_rfl) (by kernel_rfl) (fun _ _ _ h => h) (Or.inl ⟨by rfl, ?_⟩) hHeld ?_
        rotate_left
        · (intro w hSw; (try dsimp only at hSw); go_simp; try (with_reducible rfl))
        (try simp only [Act.put, List.setIfInBounds_toArray, List.set_cons_zero, List.set_cons_succ])
        refine wpAnyM_take (i := 6) (oi := ⟨_, _, _, _, _, _⟩) (v := ?_) rfl (by kernel_rfl) (by kernel_rfl) (by kernel_rfl) (by kernel_rfl) (fun _ _ _ h => h) (Or.inl ⟨by rfl, ?_⟩) hHeld ?_
        rotate_left
        · (intro w hSw; (try dsimp only at hSw); go_simp; try (with_reducible rfl))
        (try simp only [Act.put, List.setIfInBounds_toArray, List.set_cons_zero, List.set_cons_succ])
        refine wpAnyM_take (i := 7) (oi := ⟨_, _, _, _, _, _⟩) (v := ?_) rfl (by kernel_rfl) (by kernel_rfl) (by kernel_rfl) (by kernel_rfl) (fun _ _ _ h => h) (Or.inl ⟨by rfl, ?_⟩) hHeld ?_
        rotate_left
        · (intro w hSw; (try dsimp only at hSw); go_simp; try (with_reducible rfl))
        (try simp only [Act.put, List.setIfInBounds_toArray, List.set_cons_zero, List.set_cons_succ])
        refine wpAnyM_take (i := 8) (oi := ⟨_, _, _, _, _, _⟩) (v := ?_) rfl (by kernel_rfl) (by kernel_rfl) (by kernel_rfl) (by kernel_rfl) (fun _ _ _ h => h) (Or.inl ⟨by rfl, ?_⟩) hHeld ?_
        rotate_left
        · (intro w hSw; (try dsimp only at hSw); go_simp; try (with_reducible rfl))
        (try simp only [Act.put, List.setIfInBounds_toArray, List.set_cons_zero, List.set_cons_succ])
        refine wpAnyM_take (i := 9) (oi := ⟨_, _, _, _, _, _⟩) (v := ?_) rfl (by kernel_rfl) (by kernel_rfl) (by kernel_rfl) (by kernel_rfl) (fun _ _ _ h => h) (Or.inl ⟨by rfl, ?_⟩) hHeld ?_
        rotate_left
        · (intro w hSw; (try dsimp only at hSw); go_simp; try (with_reducible rfl))
        (try simp only [Act.put, List.setIfInBounds_toArray, List.set_cons_zero, List.set_cons_succ])
        refine wpAnyM_take (i := 10) (oi := ⟨_, _, _, _, _, _⟩) (v := ?_) rfl (by kernel_rfl) (by kernel_rfl) (by kernel_rfl) (by kernel_rfl) (fun _ _ _ h => h) (Or.inl ⟨by rfl, ?_⟩) hHeld ?_
        rotate_left
        · (intro w hSw; (try dsimp only at hSw); go_simp; try (with_reducible rfl))
        (try simp only [Act.put, List.setIfInBounds_toArray, List.set_cons_zero, List.set_cons_succ])
        refine wpAnyM_take (i := 11) (oi := ⟨_, _, _, _, _, _⟩) (v := ?_) rfl (by kernel_rfl) (by kernel_rfl) (by kernel_rfl) (by kernel_rfl) (fun _ _ _ h => h) (Or.inl ⟨by rfl, ?_⟩) hHeld ?_
        rotate_left
        · (intro w hSw; (try dsimp only at hSw); go_simp; try (with_reducible rfl))
        (try simp only [Act.put, List.setIfInBounds_toArray, List.set_cons_zero, List.set_cons_succ])
        refine wpAnyM_one (i := 12) (o := ⟨_, _, _, _, _, _⟩) (by kernel_rfl) rfl (fun K hK => ?_)
        (go_simp; go_at_call 51; refine hadd.out.mono ?_; rintro r w2 ⟨v2, rfl, o2, b2⟩; have z0 := (b2.cell (p := ⟨R, 0, none⟩) hR1).trans y0; have z1 := (b2.cell (p := ⟨R, 1, none⟩) hR1).trans y1; have zf : ∀ j, w2.frozen? ⟨R, j, none⟩ = false := (HBX.out.below b2).free; have HO := hide (And.intro o2 b2); obtain ⟨a4, e4, hv⟩ := o2.shape; generalize (S.mov.map Prod.snd ++ [x]).length = n4 at hv; subst hv; clear o2 b2)
        refine hK.out _ _ ⟨z0, z1, (HO.out.2.cell (p := ⟨g, off, none⟩) hgw1).trans hd0⟩ (fun hHeld => ?_)
        clear hK K hHeld
        (try simp only [List.setIfInBounds_toArray, List.set_cons_zero, List.set_cons_succ])
        refine wpAnyM_last (i := 18) (o := ⟨_, _, _, _, _, _⟩) (by kernel_rfl) (by rfl) rfl (fun K hK => ?_)
        go_simp
        refine hK.out _ _ ?_
        clear hK K
        (try simp only [List.setIfInBounds_toArray, List.set_cons_zero, List.set_cons_succ])
        refine wpAnyM_last (i := 19) (o := ⟨_, _, _, _, _, _⟩) (by kernel_rfl) (by rfl) rfl (fun K hK => ?_)
        go_simp
        refine hK.out _ _ ?_
        clear hK K
        (try simp only [List.setIfInBounds_toArray, List.set_cons_zero, List.set_cons_succ])
        refine wpAnyM_last (i := 20) (o := ⟨_, _, _, _, _, _⟩) (by kernel_rfl) (by rfl) rfl (fun K hK => ?_)
        go_simp
        refine hK.out _ _ ?_
        clear hK K
        (try simp only [List.setIfInBounds_toArray, List.set_cons_zero, List.set_cons_succ])
        refine wpAnyM_last (i := 21) (o := ⟨_, _, _, _, _, _⟩) (by kernel_rfl) (by rfl) rfl (fun K hK => ?_)
        go_simp
        refine hK.out _ _ ?_
        clear hK K
        (try simp only [List.setIfInBounds_toArray, List.set_cons_zero, List.set_cons_succ])
        refine wpAnyM_last (i := 22) (o := ⟨_, _, _, _, _, _⟩) (by kernel_rfl) (by rfl) rfl (fun K hK => ?_)
        go_simp
        refine hK.out _ _ ?_
        clear hK K
        (try simp only [List.setIfInBounds_toArray, List.set_cons_zero, List.set_cons_succ])
        refine wpAnyM_last (i := 23) (o := ⟨_, _, _, _, _, _⟩) (by kernel_rfl) (by rfl) rfl (fun K hK => ?_)
        go_simp
        refine hK.out _ _ ?_
        clear hK K
        (try simp only [List.setIfInBounds_toArray, List.set_cons_zero, List.set_cons_succ])
        refine wpAnyM_done (by kernel_rfl) ?_ _
        go_wp2_with fail
        go_meet
        have hR2 := HBX.out.below HO.out.2
        have T2 := (((TurnedL.of_below (fp := [R]) (((Below.refl w1.heap.size w1).drew).trans HO.out.2)).setR 1 (.slice a4 n4 e4)).setR 0 (.slice (some ⟨g, off, none⟩) 0 0))
        exact ⟨rfl, .slice (some ⟨g, off, none⟩) 0 0, .slice a4 n4 e4, T2, by simpa using (hR2.set 1 (.slice a4 n4 e4)).set 0 (.slice (some ⟨g, off, none⟩) 0 0), HTx.out.turn T2 (fun g' hg' => by cases hg'; exact hgR), HO.out.1.row0 hR1 (((TurnedL.refl [R] w2).setR 1 _).setR 0 _), fun g' hg' => by cases hg'; rfl, fun g' hg' => HO.out.1.at g' hg'⟩
      · have HTx := hide (HT1.out.1 h1)
        clear H1
        clear HC HX hcd B1 HT1 HTn y2 y3 y4 y5 y6 y7 y8 e hws hw hs0 hs1 t2 e1 hcr
        have hgw1 : g < w1.drew.heap.size := World.block_lt_of_cell? w1 ⟨g, off, none⟩ hd0
        refine wp_region_M (S := fun w' => w'.cell? ⟨R, 0, none⟩ = some (.slice (some ⟨g, off, none⟩) (B.length + 1) cB) ∧ w'.cell? ⟨R, 1, none⟩ = some (.slice aM S.mov.length cM) ∧ w'.cell? ⟨g, off, none⟩ = some (.int .i64 x)) (late := [1, 13, 14, 15, 17, 18, 19, 20, 21, 22, 23]) (by kernel_rfl) ⟨by simpa using y0, by simpa using y1, by simpa using hd0⟩ (fun hHeld => ?_)
        (try simp only [List.size_toArray, List.length_cons, List.length_nil, Nat.zero_add, Nat.reduceAdd, Array.replicate, List.replicate])
        refine wpAnyM_takeP (i := 1) (oi := ⟨_, _, _, _, _, _⟩) (v := ?_) rfl (by kernel_rfl) (by kernel_rfl) (by kernel_rfl) (by kernel_rfl) (fun _ _ _ h => h) (Or.inl ⟨by rfl, ?_⟩) ?_
        rotate_left
        · (intro w hSw; clear hSw; go_simp; try (with_reducible rfl))
        (try simp only [Act.put, List.setIfInBounds_toArray, List.set_cons_zero, List.set_cons_succ])
        refine wpAnyM_takeP (i := 13) (oi := ⟨_, _, _, _, _, _⟩) (v := ?_) rfl (by kernel_rfl) (by kernel_rfl) (by kernel_rfl) (by kernel_rfl) (fun _ _ _ h => h) (Or.inl ⟨by rfl, ?_⟩) ?_
        rotate_left
        · (intro w hSw; clear hSw; go_simp; try (with_reducible rfl))
        (try simp only [Act.put, List.setIfInBounds_toArray, List.set_cons_zero, List.set_cons_succ])
        refine wpAnyM_takeP (i := 14) (oi := ⟨_, _, _, _, _, _⟩) (v := ?_) rfl (by kernel_rfl) (by kernel_rfl) (by kernel_rfl) (by kernel_rfl) (fun _ _ _ h => h) (Or.inl ⟨by rfl, ?_⟩) ?_
        rotate_left
        · (intro w hSw; clear hSw; go_simp; try (with_reducible rfl))
        (try simp only [Act.put, List.setIfInBounds_toArray, List.set_cons_zero, List.set_cons_succ])
        refine wpAnyM_takeP (i := 15) (oi := ⟨_, _, _, _, _, _⟩) (v := ?_) rfl (by kernel_rfl) (by kernel_rfl) (by kernel_rfl) (by kernel_rfl) (fun _ _ _ h => h) (Or.inl ⟨by rfl, ?_⟩) ?_
        rotate_left
        · (intro w hSw; clear hSw; go_simp; try (with_reducible rfl))
        (try simp only [Act.put, List.setIfInBounds_toArray, List.set_cons_zero, List.set_cons_succ])
        refine wpAnyM_take (i := 16) (oi := ⟨_, _, _, _, _, _⟩) (v := ?_) rfl (by kernel_rfl) (by kernel_rfl) (by kernel_rfl) (by kernel_rfl) (fun _ _ _ h => h) (Or.inl ⟨by rfl, ?_⟩) hHeld ?_
        rotate_left
        · (intro w hSw; (try dsimp only at hSw); go_simp; try (with_reducible rfl))
        (try simp only [Act.put, List.setIfInBounds_toArray, List.set_cons_zero, List.set_cons_succ])
        refine wpAnyM_takeP (i := 17) (oi := ⟨_, _, _, _, _, _⟩) (v := ?_) rfl (by kernel_rfl) (by kernel_rfl) (by kernel_rfl) (by kernel_rfl) (fun _ _ _ h => h) (Or.inl ⟨by rfl, ?_⟩) ?_
        rotate_left
        · (intro w hSw; clear hSw; go_simp; try (with_reducible rfl))
        (try simp only [Act.put, List.setIfInBounds_toArray, List.set_cons_zero, List.set_cons_succ])
        refine wpAnyM_take (i := 0) (oi := ⟨_, _, _, _, _, _⟩) (v := ?_) rfl (by kernel_rfl) (by kernel_rfl) (by kernel_rfl) (by kernel_rfl) (fun _ _ _ h => h) (Or.inl ⟨by rfl, ?_⟩) hHeld ?_
        rotate_left
        · (intro w hSw; (try dsimp only at hSw); go_simp; try (with_reducible rfl))
        (try simp only [Act.put, List.setIfInBounds_toArray, List.set_cons_zero, List.set_cons_succ])
        refine wpAnyM_take (i := 2) (oi := ⟨_, _, _, _, _, _⟩) (v := ?_) rfl (by kernel_rfl) (by kernel_rfl) (by kernel_rfl) (by kernel_rfl) (fun _ _ _ h => h) (Or.inl ⟨by rfl, ?_⟩) hHeld ?_
        rotate_left
        · (intro w hSw; (try dsimp only at hSw); go_simp; try (with_reducible rfl))
        (try simp only [Act.put, List.setIfInBounds_toArray, List.set_cons_zero, List.set_cons_succ])
        refine wpAnyM_take (i := 3) (oi := ⟨_, _, _, _, _, _⟩) (v := ?_) rfl (by kernel_rfl) (by kernel_rfl) (by kernel_rfl) (by kernel_rfl) (fun _ _ _ h => h) (Or.inl ⟨by rfl, ?_⟩) hHeld ?_
        rotate_left
        · (intro w hSw; (try dsimp only at hSw); go_simp; try (with_reducible rfl))
        (try simp only [Act.put, List.setIfInBounds_toArray, List.set_cons_zero, List.set_cons_succ])
        refine wpAnyM_take (i := 4) (oi := ⟨_, _, _, _, _, _⟩) (v := ?_) rfl (by kernel_rfl) (by kernel_rfl) (by kernel_rfl) (by kernel_rfl) (fun _ _ _ h => h) (Or.inl ⟨by rfl, ?_⟩) hHeld ?_
        rotate_left
        · (intro w hSw; (try dsimp only at hSw); go_simp; try (with_reducible rfl))
        (try simp only [Act.put, List.setIfInBounds_toArray, List.set_cons_zero, List.set_cons_succ])
        refine wpAnyM_take (i := 5) (oi := ⟨_, _, _, _, _, _⟩) (v := ?_) rfl (by kernel_rfl) (by kernel_rfl) (by kernel_rfl) (by kernel_rfl) (fun _ _ _ h => h) (Or.inl ⟨by rfl, ?_⟩) hHeld ?_
        rotate_left
        · (intro w hSw; (try dsimp only at hSw); go_simp; try (with_reducible rfl))
        (try simp only [Act.put, List.setIfInBounds_toArray, List.set_cons_zero, List.set_cons_succ])
        refine wpAnyM_take (i := 6) (oi := ⟨_, _, _, _, _, _⟩) (v := ?_) rfl (by kernel_rfl) (by kernel_rfl) (by kernel_rfl) (by kernel_rfl) (fun _ _ _ h => h) (Or.inl ⟨by rfl, ?_⟩) hHeld ?_
        rotate_left
        · (intro w hSw; (try dsimp only at hSw); go_simp; try (with_reducible rfl))
        (try simp only [Act.put, List.setIfInBounds_toArray, List.set_cons_zero, List.set_cons_succ])
        refine wpAnyM_take (i := 7) (oi := ⟨_, _, _, _, _, _⟩) (v := ?_) rfl (by kernel_rfl) (by kernel_rfl) (by kernel_rfl) (by kernel_rfl) (fun _ _ _ h => h) (Or.inl ⟨by rfl, ?_⟩) hHeld ?_
        rotate_left
        · (intro w hSw; (try dsimp only at hSw); go_simp; try (with_reducible rfl))
        (try simp only [Act.put, List.setIfInBounds_toArray, List.set_cons_zero, List.set_cons_succ])
        refine wpAnyM_take (i := 8) (oi := ⟨_, _, _, _, _, _⟩) (v := ?_) rfl (by kernel_rfl) (by kernel_rfl) (by kernel_rfl) (by kernel_rfl) (fun _ _ _ h => h) (Or.inl ⟨by rfl, ?_⟩) hHeld ?_
        rotate_left
        · (intro w hSw; (try dsimp only at hSw); go_simp; try (with_reducible rfl))
        (try simp only [Act.put, List.setIfInBounds_toArray, List.set_cons_zero, List.set_cons_succ])
        refine wpAnyM_take (i := 9) (oi := ⟨_, _, _, _, _, _⟩) (v := ?_) rfl (by kernel_rfl) (by kernel_rfl) (by kernel_rfl) (by kernel_rfl) (fun _ _ _ h => h) (Or.inl ⟨by rfl, ?_⟩) hHeld ?_
        rotate_left
        · (intro w hSw; (try dsimp only at hSw); go_simp; try (with_reducible rfl))
        (try simp only [Act.put, List.setIfInBounds_toArray, List.set_cons_zero, List.set_cons_succ])
        refine wpAnyM_take (i := 10) (oi := ⟨_, _, _, _, _, _⟩) (v := ?_) rfl (by kernel_rfl) (by kernel_rfl) (by kernel_rfl) (by kernel_rfl) (fun _ _ _ h => h) (Or.inl ⟨by rfl, ?_⟩) hHeld ?_
        rotate_left
        · (intro w hSw; (try dsimp only at hSw); go_simp; try (with_reducible rfl))
        (try simp only [Act.put, List.setIfInBounds_toArray, List.set_cons_zero, List.set_cons_succ])
        refine wpAnyM_take (i := 11) (oi := ⟨_, _, _, _, _, _⟩) (v := ?_) rfl (by kernel_rfl) (by kernel_rfl) (by kernel_rfl) (by kernel_rfl) (fun _ _ _ h => h) (Or.inl ⟨by rfl, ?_⟩) hHeld ?_
        rotate_left
        · (intro w hSw; (try dsimp only at hSw); go_simp; try (with_reducible rfl))
        (try simp only [Act.put, List.setIfInBounds_toArray, List.set_cons_zero, List.set_cons_succ])
        refine wpAnyM_one (i := 12) (o := ⟨_, _, _, _, _, _⟩) (by kernel_rfl) rfl (fun K hK => ?_)
        (go_simp; go_at_call 51; refine hadd.out.mono ?_; rintro r w2 ⟨v2, rfl, o2, b2⟩; have z0 := (b2.cell (p := ⟨R, 0, none⟩) hR1).trans y0; have z1 := (b2.cell (p := ⟨R, 1, none⟩) hR1).trans y1; have zf : ∀ j, w2.frozen? ⟨R, j, none⟩ = false := (HBX.out.below b2).free; have HO := hide (And.intro o2 b2); obtain ⟨a4, e4, hv⟩ := o2.shape; generalize (S.mov.map Prod.snd ++ [x]).length = n4 at hv; subst hv; clear o2 b2)
        refine hK.out _ _ ⟨z0, z1, (HO.out.2.cell (p := ⟨g, off, none⟩) hgw1).trans hd0⟩ (fun hHeld => ?_)
        clear hK K hHeld
        (try simp only [List.setIfInBounds_toArray, List.set_cons_zero, List.set_cons_succ])
        refine wpAnyM_last (i := 18) (o := ⟨_, _, _, _, _, _⟩) (by kernel_rfl) (by rfl) rfl (fun K hK => ?_)
        go_simp
        refine hK.out _ _ ?_
        clear hK K
        (try simp only [List.setIfInBounds_toArray, List.set_cons_zero, List.set_cons_succ])
        refine wpAnyM_last (i := 19) (o := ⟨_, _, _, _, _, _⟩) (by kernel_rfl) (by rfl) rfl (fun K hK => ?_)
        go_simp
        refine hK.out _ _ ?_
        clear hK K
        (try simp only [List.setIfInBounds_toArray, List.set_cons_zero, List.set_cons_succ])
        refine wpAnyM_last (i := 20) (o := ⟨_, _, _, _, _, _⟩) (by kernel_rfl) (by rfl) rfl (fun K hK => ?_)
        go_simp
        refine hK.out _ _ ?_
        clear hK K
        (try simp only [List.setIfInBounds_toArray, List.set_cons_zero, List.set_cons_succ])
        refine wpAnyM_last (i := 21) (o := ⟨_, _, _, _, _, _⟩) (by kernel_rfl) (by rfl) rfl (fun K hK => ?_)
        go_simp
        refine hK.out _ _ ?_
        clear hK K
        (try simp only [List.setIfInBounds_toArray, List.set_cons_zero, List.set_cons_succ])
        refine wpAnyM_last (i := 22) (o := ⟨_, _, _, _, _, _⟩) (by kernel_rfl) (by rfl) rfl (fun K hK => ?_)
        go_simp
        refine hK.out _ _ ?_
        clear hK K
        (try simp only [List.setIfInBounds_toArray, List.set_cons_zero, List.set_cons_succ])
        refine wpAnyM_last (i := 23) (o := ⟨_, _, _, _, _, _⟩) (by kernel_rfl) (by rfl) rfl (fun K hK => ?_)
        go_simp
        refine hK.out _ _ ?_
        clear hK K
        (try simp only [List.setIfInBounds_toArray, List.set_cons_zero, List.set_cons_succ])
        refine wpAnyM_done (by kernel_rfl) ?_ _
        go_wp2_with fail
        go_meet
        have hR2 := HBX.out.below HO.out.2
        have T2 := (((TurnedL.of_below (fp := [R]) (((Below.refl w1.heap.size w1).drew).trans HO.out.2)).setR 1 (.slice a4 n4 e4)).setR 0 (.slice (some ⟨g, off + 1, none⟩) B.length (cB - 1)))
        exact ⟨rfl, .slice (some ⟨g, off + 1, none⟩) B.length (cB - 1), .slice a4 n4 e4, T2, by simpa using (hR2.set 1 (.slice a4 n4 e4)).set 0 (.slice (some ⟨g, off + 1, none⟩) B.length (cB - 1)), HTx.out.turn T2 (fun g' hg' => by cases hg'; exact hgR), HO.out.1.row0 hR1 (((TurnedL.refl [R] w2).setR 1 _).setR 0 _), fun g' hg' => by cases hg'; rfl, fun g' hg' => HO.out.1.at g' hg'⟩
    case rest =>
      obtain ⟨rfl, vB2, vM2, HP⟩ := hcut
      have p3 := (HP.out.2.1.cellAt 3).trans rfl
      have p4 := (HP.out.2.1.cellAt 4).trans rfl
      have pf := HP.out.2.1.free
      have hrQ := (H1.out.rf.rQ).turn HP.out.1 (fun g' hg' => (H1.out.oQ g' hg').2)
      obtain ⟨hq1, hq2, hq3, hq4⟩ := hrQ.full
      rw [List.length_map] at hq1
      unfold maxLen at hq3
      clear y0 y1 y2 y3 y4 y5 y6 y7 y8 hd0 hadd
      have ba : Below wc.heap.size wc (wc.drew.alloc (.cells #[.int .u64 S.s] 27)) := ((Below.refl wc.heap.size wc).drew).alloc (Nat.le_refl _) _
      have gx : BoxT 27 (wc.drew.alloc (.cells #[.int .u64 S.s] 27)) wc.heap.size #[.int .u64 S.s] := BoxT.new _ _ _
      have HG := hide (And.intro (gx.cellAt 0) (And.intro (hq4.below ba) ba))
      have hRl := HP.out.2.1.lt
      have HBc := hide HP.out.2.1
      clear hrQ hq4 ba gx
      go_wp2_with fail
      go_cut [2] from 36 to 59 (fun rv wx => rv = .bool false ∧ ∃ vQ2, Hid (TurnedL [R] wc wx ∧ BoxT 48 wx R #[vB2, vM2, vW, vQ2, .int .u64 S.s, .int .u64 S.e, .int .i64 cr, .int .u64 S.r, .int .i64 S.mo] ∧ Row 27 1 u64cs 0 wx vQ2 (S.mov.map Prod.fst ++ [S.s]) ∧ (∀ g', vQ2.ownBlock = some g' → wc.heap.size ≤ g')))
      case first =>
        clear HP HC HX hcd B1 HT1 HTn H1 HBX e hws hw hs0 hs1 t2 e1 hcr hcp hne hi1 hgR hgw hR hR1 hc1 hc2 hb
        refine wp_region_M (S := fun w' => w'.cell? ⟨R, 3, none⟩ = some (.slice aQ S.mov.length cQ) ∧ w'.cell? ⟨R, 4, none⟩ = some (.int .u64 S.s)) (late := [22, 23, 24]) (by kernel_rfl) ⟨by simpa using p3, by simpa using p4⟩ (fun hHeld => ?_)
        (try simp only [List.size_toArray, List.length_cons, List.length_nil, Nat.zero_add, Nat.reduceAdd, Array.replicate, List.replicate])
        refine wpAnyM_take (i := 0) (oi := ⟨_, _, _, _, _, _⟩) (v := ?_) rfl (by kernel_rfl) (by kernel_rfl) (by kernel_rfl) (by kernel_rfl) (fun _ _ _ h => h) (Or.inl ⟨by rfl, ?_⟩) hHeld ?_
        rotate_left
        · (intro w hSw; (try dsimp only at hSw); go_simp; try (with_reducible rfl))
        (try simp only [Act.put, List.setIfInBounds_toArray, List.set_cons_zero, List.set_cons_succ])
        refine wpAnyM_take (i := 1) (oi := ⟨_, _, _, _, _, _⟩) (v := ?_) rfl (by kernel_rfl) (by kernel_rfl) (by kernel_rfl) (by kernel_rfl) (fun _ _ _ h => h) (Or.inl ⟨by rfl, ?_⟩) hHeld ?_
        rotate_left
        · (intro w hSw; (try dsimp only at hSw); go_simp; try (with_reducible rfl))
        (try simp only [Act.put, List.setIfInBounds_toArray, List.set_cons_zero, List.set_cons_succ])
        refine wpAnyM_take (i := 2) (oi := ⟨_, _, _, _, _, _⟩) (v := ?_) rfl (by kernel_rfl) (by kernel_rfl) (by kernel_rfl) (by kernel_rfl) (fun _ _ _ h => h) (Or.inl ⟨by rfl, ?_⟩) hHeld ?_
        rotate_left
        · (intro w hSw; (try dsimp only at hSw); go_simp; try (with_reducible rfl))
        (try simp only [Act.put, List.setIfInBounds_toArray, List.set_cons_zero, List.set_cons_succ])
        refine wpAnyM_take (i := 3) (oi := ⟨_, _, _, _, _, _⟩) (v := ?_) rfl (by kernel_rfl) (by kernel_rfl) (by kernel_rfl) (by kernel_rfl) (fun _ _ _ h => h) (Or.inl ⟨by rfl, ?_⟩) hHeld ?_
        rotate_left
        · (intro w hSw; (try dsimp only at hSw); go_simp; try (with_reducible rfl))
        (try simp only [Act.put, List.setIfInBounds_toArray, List.set_cons_zero, List.set_cons_succ])
        refine wpAnyM_take (i := 4) (oi := ⟨_, _, _, _, _, _⟩) (v := ?_) rfl (by kernel_rfl) (by kernel_rfl) (by kernel_rfl) (by kernel_rfl) (fun _ _ _ h => h) (Or.inl ⟨by rfl, ?_⟩) hHeld ?_
        rotate_left
        · (intro w hSw; (try dsimp only at hSw); go_simp; try (with_reducible rfl))
        (try simp only [Act.put, List.setIfInBounds_toArray, List.set_cons_zero, List.set_cons_succ])
        refine wpAnyM_take (i := 5) (oi := ⟨_, _, _, _, _, _⟩) (v := ?_) rfl (by kernel_rfl) (by kernel_rfl) (by kernel_rfl) (by kernel_rfl) (fun _ _ _ h => h) (Or.inl ⟨by rfl, ?_⟩) hHeld ?_
        rotate_left
        · (intro w hSw; (try dsimp only at hSw); go_simp; try (with_reducible rfl))
        (try simp only [Act.put, List.setIfInBounds_toArray, List.set_cons_zero, List.set_cons_succ])
        refine wpAnyM_take (i := 6) (oi := ⟨_, _, _, _, _, _⟩) (v := ?_) rfl (by kernel_rfl) (by kernel_rfl) (by kernel_rfl) (by kernel_rfl) (fun _ _ _ h => h) (Or.inl ⟨by rfl, ?_⟩) hHeld ?_
        rotate_left
        · (intro w hSw; (try dsimp only at hSw); go_simp; try (with_reducible rfl))
        (try simp only [Act.put, List.setIfInBounds_toArray, List.set_cons_zero, List.set_cons_succ])
        refine wpAnyM_take (i := 7) (oi := ⟨_, _, _, _, _, _⟩) (v := ?_) rfl (by kernel_rfl) (by kernel_rfl) (by kernel_rfl) (by kernel_rfl) (fun _ _ _ h => h) (Or.inl ⟨by rfl, ?_⟩) hHeld ?_
        rotate_left
        · (intro w hSw; (try dsimp only at hSw); go_simp; try (with_reducible rfl))
        (try simp only [Act.put, List.setIfInBounds_toArray, List.set_cons_zero, List.set_cons_succ])
        refine wpAnyM_take (i := 8) (oi := ⟨_, _, _, _, _, _⟩) (v := ?_) rfl (by kernel_rfl) (by kernel_rfl) (by kernel_rfl) (by kernel_rfl) (fun _ _ _ h => h) (Or.inl ⟨by rfl, ?_⟩) hHeld ?_
        rotate_left
        · (intro w hSw; (try dsimp only at hSw); go_simp; try (with_reducible rfl))
        (try simp only [Act.put, List.setIfInBounds_toArray, List.set_cons_zero, List.set_cons_succ])
        refine wpAnyM_take (i := 9) (oi := ⟨_, _, _, _, _, _⟩) (v := ?_) rfl (by kernel_rfl) (by kernel_rfl) (by kernel_rfl) (by kernel_rfl) (fun _ _ _ h => h) (Or.inl ⟨by rfl, ?_⟩) hHeld ?_
        rotate_left
        · (intro w hSw; (try dsimp only at hSw); go_simp; try (with_reducible rfl))
        (try simp only [Act.put, List.setIfInBounds_toArray, List.set_cons_zero, List.set_cons_succ])
        refine wpAnyM_take (i := 10) (oi := ⟨_, _, _, _, _, _⟩) (v := ?_) rfl (by kernel_rfl) (by kernel_rfl) (by kernel_rfl) (by kernel_rfl) (fun _ _ _ h => h) (Or.inl ⟨by rfl, ?_⟩) hHeld ?_
        rotate_left
        · (intro w hSw; (try dsimp only at hSw); go_simp; try (with_reducible rfl))
        (try simp only [Act.put, List.setIfInBounds_toArray, List.set_cons_zero, List.set_cons_succ])
        refine wpAnyM_take (i := 11) (oi := ⟨_, _, _, _, _, _⟩) (v := ?_) rfl (by kernel_rfl) (by kernel_rfl) (by kernel_rfl) (by kernel_rfl) (fun _ _ _ h => h) (Or.inl ⟨by rfl, ?_⟩) hHeld ?_
        rotate_left
        · (intro w hSw; (try dsimp only at hSw); go_simp; try (with_reducible rfl))
        (try simp only [Act.put, List.setIfInBounds_toArray, List.set_cons_zero, List.set_cons_succ])
        refine wpAnyM_take (i := 12) (oi := ⟨_, _, _, _, _, _⟩) (v := ?_) rfl (by kernel_rfl) (by kernel_rfl) (by kernel_rfl) (by kernel_rfl) (fun _ _ _ h => h) (Or.inl ⟨by rfl, ?_⟩) hHeld ?_
        rotate_left
        · (intro w hSw; (try dsimp only at hSw); go_simp; try (with_reducible rfl))
        (try simp only [Act.put, List.setIfInBounds_toArray, List.set_cons_zero, List.set_cons_succ])
        refine wpAnyM_take (i := 13) (oi := ⟨_, _, _, _, _, _⟩) (v := ?_) rfl (by kernel_rfl) (by kernel_rfl) (by kernel_rfl) (by kernel_rfl) (fun _ _ _ h => h) (Or.inl ⟨by rfl, ?_⟩) hHeld ?_
        rotate_left
        · (intro w hSw; (try dsimp only at hSw); go_simp; try (with_reducible rfl))
        (try simp only [Act.put, List.setIfInBounds_toArray, List.set_cons_zero, List.set_cons_succ])
        refine wpAnyM_take (i := 14) (oi := ⟨_, _, _, _, _, _⟩) (v := ?_) rfl (by kernel_rfl) (by kernel_rfl) (by kernel_rfl) (by kernel_rfl) (fun _ _ _ h => h) (Or.inl ⟨by rfl, ?_⟩) hHeld ?_
        rotate_left
        · (intro w hSw; (try dsimp only at hSw); go_simp; try (with_reducible rfl))
        (try simp only [Act.put, List.setIfInBounds_toArray, List.set_cons_zero, List.set_cons_succ])
        refine wpAnyM_take (i := 15) (oi := ⟨_, _, _, _, _, _⟩) (v := ?_) rfl (by kernel_rfl) (by kernel_rfl) (by kernel_rfl) (by kernel_rfl) (fun _ _ _ h => h) (Or.inl ⟨by rfl, ?_⟩) hHeld ?_
        rotate_left
        · (intro w hSw; (try dsimp only at hSw); go_simp; try (with_reducible rfl))
        (try simp only [Act.put, List.setIfInBounds_toArray, List.set_cons_zero, List.set_cons_succ])
        refine wpAnyM_take (i := 16) (oi := ⟨_, _, _, _, _, _⟩) (v := ?_) rfl (by kernel_rfl) (by kernel_rfl) (by kernel_rfl) (by kernel_rfl) (fun _ _ _ h => h) (Or.inl ⟨by rfl, ?_⟩) hHeld ?_
        rotate_left
        · (intro w hSw; (try dsimp only at hSw); go_simp; try (with_reducible rfl))
        (try simp only [Act.put, List.setIfInBounds_toArray, List.set_cons_zero, List.set_cons_succ])
        refine wpAnyM_take (i := 17) (oi := ⟨_, _, _, _, _, _⟩) (v := ?_) rfl (by kernel_rfl) (by kernel_rfl) (by kernel_rfl) (by kernel_rfl) (fun _ _ _ h => h) (Or.inl ⟨by rfl, ?_⟩) hHeld ?_
        rotate_left
        · (intro w hSw; (try dsimp only at hSw); go_simp; try (with_reducible rfl))
        (try simp only [Act.put, List.setIfInBounds_toArray, List.set_cons_zero, List.set_cons_succ])
        refine wpAnyM_take (i := 18) (oi := ⟨_, _, _, _, _, _⟩) (v := ?_) rfl (by kernel_rfl) (by kernel_rfl) (by kernel_rfl) (by kernel_rfl) (fun _ _ _ h => h) (Or.inl ⟨by rfl, ?_⟩) hHeld ?_
        rotate_left
        · (intro w hSw; (try dsimp only at hSw); go_simp; try (with_reducible rfl))
        (try simp only [Act.put, List.setIfInBounds_toArray, List.set_cons_zero, List.set_cons_succ])
        refine wpAnyM_take (i := 19) (oi := ⟨_, _, _, _, _, _⟩) (v := ?_) rfl (by kernel_rfl) (by kernel_rfl) (by kernel_rfl) (by kernel_rfl) (fun _ _ _ h => h) (Or.inl ⟨by rfl, ?_⟩) hHeld ?_
        rotate_left
        · (intro w hSw; (try dsimp only at hSw); go_simp; try (with_reducible rfl))
        (try simp only [Act.put, List.setIfInBounds_toArray, List.set_cons_zero, List.set_cons_succ])
        refine wpAnyM_one (i := 20) (o := ⟨_, _, _, _, _, _⟩) (by kernel_rfl) rfl (fun K hK => ?_)
        go_simp
        refine hK.out _ _ ⟨?_, ?_⟩ (fun hHeld => ?_)
        · exact (HG.out.2.2.cell (p := ⟨R, 3, none⟩) hRl).trans p3
        · exact (HG.out.2.2.cell (p := ⟨R, 4, none⟩) hRl).trans p4
        clear hK K
        (try simp only [List.setIfInBounds_toArray, List.set_cons_zero, List.set_cons_succ])
        refine wpAnyM_one (i := 21) (o := ⟨_, _, _, _, _, _⟩) (by kernel_rfl) rfl (fun K hK => ?_)
        (refine step_full Try.info27' Try.underlying46 rfl (by decide) (by decide) u64cs_len u64cs_one rfl _ _ rfl 0 aQ (S.mov.map Prod.fst) (by rw [List.length_map]; rfl) (by rw [List.length_map]; exact HG.out.2.1) ⟨wc.heap.size, 0, none⟩ 1 S.s rfl (fun j u hu => by match j, hu with | 0, hu => simp [u64cs] at hu; subst hu; exact HG.out.1.trans rfl) (by rw [List.length_map]; omega) ?_; intro v5 w5 o5 b5; have B5 := hide (HG.out.2.2.trans (b5.mono HG.out.2.2.size)); have q3 : w5.cell? ⟨R, 3, none⟩ = some (.slice aQ S.mov.length cQ) := (B5.out.cell (p := ⟨R, 3, none⟩) hRl).trans p3; have q5 := HBc.out.below B5.out; have qf := q5.free; have HO5 := hide (And.intro o5 q5); obtain ⟨a5, e5, hv5⟩ := o5.shape; generalize (S.mov.map Prod.fst ++ [S.s]).length = n5 at hv5; subst hv5; clear o5 b5 q5)
        refine hK.out _ _ ⟨q3, (B5.out.cell (p := ⟨R, 4, none⟩) hRl).trans p4⟩ (fun hHeld => ?_)
        clear hK K hHeld
        (try simp only [List.setIfInBounds_toArray, List.set_cons_zero, List.set_cons_succ])
        refine wpAnyM_last (i := 22) (o := ⟨_, _, _, _, _, _⟩) (by kernel_rfl) (by rfl) rfl (fun K hK => ?_)
        go_simp
        refine hK.out _ _ ?_
        clear hK K
        (try simp only [List.setIfInBounds_toArray, List.set_cons_zero, List.set_cons_succ])
        refine wpAnyM_last (i := 23) (o := ⟨_, _, _, _, _, _⟩) (by kernel_rfl) (by rfl) rfl (fun K hK => ?_)
        go_simp
        refine hK.out _ _ ?_
        clear hK K
        (try simp only [List.setIfInBounds_toArray, List.set_cons_zero, List.set_cons_succ])
        refine wpAnyM_last (i := 24) (o := ⟨_, _, _, _, _, _⟩) (by kernel_rfl) (by rfl) rfl (fun K hK => ?_)
        go_simp
        refine hK.out _ _ ?_
        clear hK K
        (try simp only [List.setIfInBounds_toArray, List.set_cons_zero, List.set_cons_succ])
        refine wpAnyM_done (by kernel_rfl) ?_ _
        go_wp2_with fail
        go_meet
        have T2 := (TurnedL.of_below (fp := [R]) B5.out).setR 3 (.slice a5 n5 e5)
        have hsb := B5.out.size
        have hg2 : wc.heap.size ≤ (wc.alloc (.cells #[.int .u64 S.s] 27)).drew.heap.size := by simp
        have hg3 : wc.heap.size ≤ (wc.drew.alloc (.cells #[.int .u64 S.s] 27)).heap.size := by simp
        exact ⟨rfl, .slice a5 n5 e5, T2, by simpa using HO5.out.2.set 3 (.slice a5 n5 e5), HO5.out.1.row0 (by omega) ((TurnedL.refl [R] w5).setR 3 _), fun g' hg' => by have := HO5.out.1.at g' hg'; omega⟩
      case rest =>
        obtain ⟨rfl, vQ2, HQ⟩ := hcut
        have p5 := (HQ.out.2.1.cellAt 4).trans rfl
        have pg := HQ.out.2.1.free
        go_wp2
        go_ret
        have sB := B1.out.size
        have sP := HP.out.1.size
        have TQ := HQ.out.1.setR 4 (.int .u64 (S.s + 1))
        have TP := HP.out.1.trans TQ (Grew.refl _ _)
        have TA := (TurnedL.of_below (fp := [R]) B1.out).trans TP (Grew.refl _ _)
        refine ⟨rfl, HX.out.store (S' := { S with back := B, mov := S.mov ++ [(S.s, x)], s := S.s + 1 }) (vB' := vB2) (vM' := vM2) (vW' := vW) (vQ' := vQ2) TA (by simpa using HQ.out.2.1.set 4 (.int .u64 (S.s + 1))) (HP.out.2.2.1.turn TQ (fun g' hg' => by rw [← HP.out.2.2.2.2.1 g' hg']; exact hgR)) ?_ (HX.out.kW TA) ?_ (fun g' hg' => .inl (by rw [← HP.out.2.2.2.2.1 g' hg']; rfl)) (fun g' hg' => .inr (by have := HP.out.2.2.2.2.2 g' hg'; omega)) (fun g' hg' => .inl hg') (fun g' hg' => .inr (by have := HQ.out.2.2.2 g' hg'; omega))⟩
        · rw [List.map_append]
          exact HP.out.2.2.2.1.turn TQ (fun g' hg' => by have := HP.out.2.2.2.2.2 g' hg'; omega)
        · rw [List.map_append]
          exact HQ.out.2.2.1.turn ((TurnedL.refl [R] _).setR 4 _) (fun g' hg' => by have := HQ.out.2.2.2 g' hg'; omega)
end
end Go.Proofs.Ytnomoekbfclckaa
