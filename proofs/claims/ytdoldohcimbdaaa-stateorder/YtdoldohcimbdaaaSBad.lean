/-
  A session without a time: it overlaps nothing.
-/
import Derived.Test.YtdoldohcimbdaaaSLaw
namespace Go.Proofs.Ytdoldohcimbdaaa
open Go.RowKit

set_option maxHeartbeats 4000000 in
set_option maxRecDepth 100000 in
theorem oadd_bad {w : World} {o : Nat} {k f t : Int} (hf : ¬ f < t) :
    Calls Try.prog 69 #[.map (some o), .int .i64 k, .agg #[.int .i64 f, .int .i64 t]] w fun e w' => e = .returned (.tuple #[.agg #[.int .i64 f, .int .i64 t], .slice none 0 0]) ∧ Below w.heap.size w w' := by
  have hge : t ≤ f := by omega
  have HB := hide (below_box2 w (.cells #[.int .i64 f, .int .i64 t] 41) (.cells #[.int .i64 f, .int .i64 t] 41))
  have HX : Hid (BoxT 41 ((w.alloc (.cells #[.int .i64 f, .int .i64 t] 41)).alloc (.cells #[.int .i64 f, .int .i64 t] 41)) (w.heap.size + 1) #[.int .i64 f, .int .i64 t]) := BoxT.new_at (t := 41) (by simp)
  clear hf
  go_enter Try.func69, Try.ntmps69
  go_wp2_with fail
  obtain ⟨q0, q1⟩ := HX.out.cells2
  exact bodyPost_ret (v := .tuple #[.agg #[.int .i64 f, .int .i64 t], .slice none 0 0]) (by simp [results, Try.results69, go_sem, q0, q1]) rfl ⟨rfl, HB.out⟩
/-- What stands behind the first region. -/
structure GB (w wc : World) (KW : Nat) (k f t c : Int) : Prop where
  bl : Below w.heap.size w wc
  bp : BoxT 43 wc w.heap.size #[.int .i64 k, .int .i64 f, .int .i64 t, .int .i64 c]
  br : BoxT 43 wc (w.heap.size + 1) #[.int .i64 0, .int .i64 0, .int .i64 0, .int .i64 0]
  bs : BoxT 41 wc KW #[.int .i64 f, .int .i64 t]
  hK : w.heap.size + 2 ≤ KW
set_option maxHeartbeats 8000000 in
set_option maxRecDepth 100000 in
theorem gathered_bad {w : World} {s m o : Nat} {size slide ag : Int} {fq : Nat → Prop} {M : List Pn} {R : List SRow} {k f t c : Int} (h : StAt w s m o 3 size slide ag fq M R) (hf : ¬ f < t) :
    Calls Try.prog 52 #[.pointer (some ⟨s, 0, none⟩), .agg #[.int .i64 k, .int .i64 f, .int .i64 t, .int .i64 c]] w fun e w' => e = .returned (.agg #[.int .i64 k, .int .i64 f, .int .i64 t, .int .i64 c]) ∧ Below w.heap.size w w' := by
  have hb1 := below_box2 w (.cells #[.int .i64 k, .int .i64 f, .int .i64 t, .int .i64 c] 43) (.cells #[.int .i64 0, .int .i64 0, .int .i64 0, .int .i64 0] 43)
  obtain ⟨W1, hW1⟩ : ∃ W1, W1 = ((w.alloc (.cells #[.int .i64 k, .int .i64 f, .int .i64 t, .int .i64 c] 43)).alloc (.cells #[.int .i64 0, .int .i64 0, .int .i64 0, .int .i64 0] 43)) := ⟨_, rfl⟩
  rw [← hW1] at hb1
  have hst := h.below (fun i hi => hb1.block i (h.flt i hi)) hb1.size
  have HADD := hide (fun w' => oadd_bad (w := w') (o := o) (k := k) hf)
  have hpb : BoxT 43 W1 w.heap.size #[.int .i64 k, .int .i64 f, .int .i64 t, .int .i64 c] := by rw [hW1]; exact BoxT.alloc (t := 43) (BoxT.new _ _ _) _
  have hrb : BoxT 43 W1 (w.heap.size + 1) #[.int .i64 0, .int .i64 0, .int .i64 0, .int .i64 0] := by rw [hW1]; exact BoxT.new_at (t := 43) (by simp)
  have hs1 : W1.heap.size = w.heap.size + 2 := by rw [hW1]; simp
  have HKC : Hid (∀ w', Below W1.heap.size W1 w' → S1 s o w.heap.size k f t w') := fun w' hb => by
    have h1 := BoxT.below (t := 67) hst.box hb
    obtain ⟨x0, x1, x2, _⟩ := (BoxT.below (t := 43) hpb hb).cells4
    exact ⟨by rw [h1.cellAt]; rfl, x0, x1, x2⟩
  have HGB : Hid (∀ w' KW, Below W1.heap.size W1 w' → W1.heap.size ≤ KW → BoxT 41 w' KW #[.int .i64 f, .int .i64 t] → GB w w' KW k f t c) := fun w' KW hb hK hx => ⟨hb1.trans (hb.mono hb1.size), BoxT.below (t := 43) hpb hb, BoxT.below (t := 43) hrb hb, hx, by omega⟩
  clear h hst hb1 hpb hrb hf hs1
  go_enter Try.func52, Try.ntmps52
  go_upto_region 1 with fail
  rw [← hW1]
  clear hW1
  go_cut [5, 6] from 10 to 21 (fun p5 p6 wc => ∃ (KW : Nat), p5 = .pointer (some ⟨KW, 0, none⟩) ∧ p6 = .slice none 0 0 ∧ Hid (GB w wc KW k f t c))
  case first =>
    refine wp_region_M (S := fun w' => S1 s o w.heap.size k f t w') (late := []) (by kernel_rfl) (HKC.out _ (Below.refl _ _).drew) (fun hHeld => ?_)
    (try simp only [List.size_toArray, List.length_cons, List.length_nil, Nat.zero_add, Nat.reduceAdd, Array.replicate, List.replicate])
    refine wpAnyM_take (i := 0) (oi := ⟨_, _, _, _, _, _⟩) (v := ?_) rfl (by kernel_rfl) (by kernel_rfl) (by kernel_rfl) (by kernel_rfl) (fun _ _ _ h => h) (Or.inl ⟨by rfl, ?_⟩) hHeld ?_
    rotate_left
    · (intro w' hSw; unfold S1 at hSw; go_simp; try (with_reducible rfl))
    (try simp only [Act.put, List.setIfInBounds_toArray, List.set_cons_zero, List.set_cons_succ])
    refine wpAnyM_take (i := 1) (oi := ⟨_, _, _, _, _, _⟩) (v := ?_) rfl (by kernel_rfl) (by kernel_rfl) (by kernel_rfl) (by kernel_rfl) (fun _ _ _ h => h) (Or.inl ⟨by rfl, ?_⟩) hHeld ?_
    rotate_left
    · (intro w' hSw; unfold S1 at hSw; go_simp; try (with_reducible rfl))
    (try simp only [Act.put, List.setIfInBounds_toArray, List.set_cons_zero, List.set_cons_succ])
    refine wpAnyM_take (i := 2) (oi := ⟨_, _, _, _, _, _⟩) (v := ?_) rfl (by kernel_rfl) (by kernel_rfl) (by kernel_rfl) (by kernel_rfl) (fun _ _ _ h => h) (Or.inl ⟨by rfl, ?_⟩) hHeld ?_
    rotate_left
    · (intro w' hSw; unfold S1 at hSw; go_simp; try (with_reducible rfl))
    (try simp only [Act.put, List.setIfInBounds_toArray, List.set_cons_zero, List.set_cons_succ])
    refine wpAnyM_take (i := 3) (oi := ⟨_, _, _, _, _, _⟩) (v := ?_) rfl (by kernel_rfl) (by kernel_rfl) (by kernel_rfl) (by kernel_rfl) (fun _ _ _ h => h) (Or.inl ⟨by rfl, ?_⟩) hHeld ?_
    rotate_left
    · (intro w' hSw; unfold S1 at hSw; go_simp; try (with_reducible rfl))
    (try simp only [Act.put, List.setIfInBounds_toArray, List.set_cons_zero, List.set_cons_succ])
    refine wpAnyM_take (i := 4) (oi := ⟨_, _, _, _, _, _⟩) (v := ?_) rfl (by kernel_rfl) (by kernel_rfl) (by kernel_rfl) (by kernel_rfl) (fun _ _ _ h => h) (Or.inl ⟨by rfl, ?_⟩) hHeld ?_
    rotate_left
    · (intro w' hSw; unfold S1 at hSw; go_simp; try (with_reducible rfl))
    (try simp only [Act.put, List.setIfInBounds_toArray, List.set_cons_zero, List.set_cons_succ])
    refine wpAnyM_take (i := 5) (oi := ⟨_, _, _, _, _, _⟩) (v := ?_) rfl (by kernel_rfl) (by kernel_rfl) (by kernel_rfl) (by kernel_rfl) (fun _ _ _ h => h) (Or.inl ⟨by rfl, ?_⟩) hHeld ?_
    rotate_left
    · (intro w' hSw; unfold S1 at hSw; go_simp; try (with_reducible rfl))
    (try simp only [Act.put, List.setIfInBounds_toArray, List.set_cons_zero, List.set_cons_succ])
    refine wpAnyM_take (i := 6) (oi := ⟨_, _, _, _, _, _⟩) (v := ?_) rfl (by kernel_rfl) (by kernel_rfl) (by kernel_rfl) (by kernel_rfl) (fun _ _ _ h => h) (Or.inl ⟨by rfl, ?_⟩) hHeld ?_
    rotate_left
    · (intro w' hSw; unfold S1 at hSw; go_simp; try (with_reducible rfl))
    (try simp only [Act.put, List.setIfInBounds_toArray, List.set_cons_zero, List.set_cons_succ])
    refine wpAnyM_take (i := 7) (oi := ⟨_, _, _, _, _, _⟩) (v := ?_) rfl (by kernel_rfl) (by kernel_rfl) (by kernel_rfl) (by kernel_rfl) (fun _ _ _ h => h) (Or.inl ⟨by rfl, ?_⟩) hHeld ?_
    rotate_left
    · (intro w' hSw; unfold S1 at hSw; go_simp; try (with_reducible rfl))
    (try simp only [Act.put, List.setIfInBounds_toArray, List.set_cons_zero, List.set_cons_succ])
    refine wpAnyM_two (i := 8) (j := 12) (oi := ⟨_, _, _, _, _, _⟩) (oj := ⟨_, _, _, _, _, _⟩) (by kernel_rfl) rfl rfl (fun K hK => ?_) (fun K hK => ?_)
    · go_simp
      go_at_call 69
      refine (HADD.out W1.drew).mono ?_
      rintro e w2 ⟨rfl, b2⟩
      have B2 := hide ((Below.refl W1.heap.size W1).drew.trans (b2.mono (Nat.le_refl _)))
      have HK2 := hide (HKC.out _ B2.out)
      refine hK.out _ _ HK2.out (fun hHeld => ?_)
      clear hK K b2
      (try simp only [List.setIfInBounds_toArray, List.set_cons_zero, List.set_cons_succ])
      refine wpAnyM_take (i := 9) (oi := ⟨_, _, _, _, _, _⟩) (v := ?_) rfl (by kernel_rfl) (by kernel_rfl) (by kernel_rfl) (by kernel_rfl) (fun _ _ _ h => h) (Or.inl ⟨by rfl, ?_⟩) hHeld ?_
      rotate_left
      · (intro w' hSw; unfold S1 at hSw; go_simp; try (with_reducible rfl))
      (try simp only [Act.put, List.setIfInBounds_toArray, List.set_cons_zero, List.set_cons_succ])
      refine wpAnyM_take (i := 10) (oi := ⟨_, _, _, _, _, _⟩) (v := ?_) rfl (by kernel_rfl) (by kernel_rfl) (by kernel_rfl) (by kernel_rfl) (fun _ _ _ h => h) (Or.inl ⟨by rfl, ?_⟩) hHeld ?_
      rotate_left
      · (intro w' hSw; unfold S1 at hSw; go_simp; try (with_reducible rfl))
      (try simp only [Act.put, List.setIfInBounds_toArray, List.set_cons_zero, List.set_cons_succ])
      refine wpAnyM_take (i := 11) (oi := ⟨_, _, _, _, _, _⟩) (v := ?_) rfl (by kernel_rfl) (by kernel_rfl) (by kernel_rfl) (by kernel_rfl) (fun _ _ _ h => h) (Or.inl ⟨by rfl, ?_⟩) hHeld ?_
      rotate_left
      · (intro w' hSw; unfold S1 at hSw; go_simp; try (with_reducible rfl))
      (try simp only [Act.put, List.setIfInBounds_toArray, List.set_cons_zero, List.set_cons_succ])
      refine wpAnyM_one (i := 12) (o := ⟨_, _, _, _, _, _⟩) (by kernel_rfl) rfl (fun K hK => ?_)
      go_simp
      refine hK.out _ _ (HK2.out.alloc _) (fun hHeld => ?_)
      clear hK K
      (try simp only [List.setIfInBounds_toArray, List.set_cons_zero, List.set_cons_succ])
      refine wpAnyM_one (i := 13) (o := ⟨_, _, _, _, _, _⟩) (by kernel_rfl) rfl (fun K hK => ?_)
      go_simp
      refine hK.out _ _ (HK2.out.alloc _) (fun hHeld => ?_)
      clear hK K
      (try simp only [List.setIfInBounds_toArray, List.set_cons_zero, List.set_cons_succ])
      refine wpAnyM_take (i := 14) (oi := ⟨_, _, _, _, _, _⟩) (v := ?_) rfl (by kernel_rfl) (by kernel_rfl) (by kernel_rfl) (by kernel_rfl) (fun _ _ _ h => h) (Or.inl ⟨by rfl, ?_⟩) hHeld ?_
      rotate_left
      · (intro w' hSw; unfold S1 at hSw; go_simp; try (with_reducible rfl))
      (try simp only [Act.put, List.setIfInBounds_toArray, List.set_cons_zero, List.set_cons_succ])
      refine wpAnyM_done (by kernel_rfl) ?_ _
      go_wp2_with fail
      go_meet
      case rel => exact ⟨w2.heap.size, rfl, rfl, HGB.out _ _ (B2.out.trans ((below_box w2 _).mono B2.out.size)) B2.out.size (BoxT.new _ _ _)⟩
    · go_simp
      have HBA : Hid (Below W1.heap.size W1 (W1.alloc (.cells #[.int .i64 0, .int .i64 0] 41)).drew) := (below_box W1 _).drew
      refine hK.out _ _ (HKC.out _ HBA.out) (fun hHeld => ?_)
      clear hK K
      (try simp only [List.setIfInBounds_toArray, List.set_cons_zero, List.set_cons_succ])
      refine wpAnyM_one (i := 8) (o := ⟨_, _, _, _, _, _⟩) (by kernel_rfl) rfl (fun K hK => ?_)
      go_simp
      go_at_call 69
      refine (HADD.out _).mono ?_
      rintro e w2 ⟨rfl, b2⟩
      have B2 := hide (HBA.out.trans (b2.mono HBA.out.size))
      have hbz : BoxT 41 w2 W1.heap.size #[.int .i64 0, .int .i64 0] := BoxT.below (t := 41) (show BoxT 41 (W1.alloc (.cells #[.int .i64 0, .int .i64 0] 41)).drew W1.heap.size #[.int .i64 0, .int .i64 0] from BoxT.new _ _ _) b2
      have HK2 := hide (HKC.out _ B2.out)
      refine hK.out _ _ HK2.out (fun hHeld => ?_)
      clear hK K b2
      (try simp only [List.setIfInBounds_toArray, List.set_cons_zero, List.set_cons_succ])
      refine wpAnyM_take (i := 9) (oi := ⟨_, _, _, _, _, _⟩) (v := ?_) rfl (by kernel_rfl) (by kernel_rfl) (by kernel_rfl) (by kernel_rfl) (fun _ _ _ h => h) (Or.inl ⟨by rfl, ?_⟩) hHeld ?_
      rotate_left
      · (intro w' hSw; unfold S1 at hSw; go_simp; try (with_reducible rfl))
      (try simp only [Act.put, List.setIfInBounds_toArray, List.set_cons_zero, List.set_cons_succ])
      refine wpAnyM_take (i := 10) (oi := ⟨_, _, _, _, _, _⟩) (v := ?_) rfl (by kernel_rfl) (by kernel_rfl) (by kernel_rfl) (by kernel_rfl) (fun _ _ _ h => h) (Or.inl ⟨by rfl, ?_⟩) hHeld ?_
      rotate_left
      · (intro w' hSw; unfold S1 at hSw; go_simp; try (with_reducible rfl))
      (try simp only [Act.put, List.setIfInBounds_toArray, List.set_cons_zero, List.set_cons_succ])
      refine wpAnyM_take (i := 11) (oi := ⟨_, _, _, _, _, _⟩) (v := ?_) rfl (by kernel_rfl) (by kernel_rfl) (by kernel_rfl) (by kernel_rfl) (fun _ _ _ h => h) (Or.inl ⟨by rfl, ?_⟩) hHeld ?_
      rotate_left
      · (intro w' hSw; unfold S1 at hSw; go_simp; try (with_reducible rfl))
      (try simp only [Act.put, List.setIfInBounds_toArray, List.set_cons_zero, List.set_cons_succ])
      obtain ⟨z0, z1⟩ := hbz.cells2
      have zf := fun j => hbz.free j
      have hgz : w2.grownBy ((w2.setCell ⟨W1.heap.size, 0, none⟩ (.int .i64 f)).setCell ⟨W1.heap.size, 1, none⟩ (.int .i64 t)) (some W1.heap.size) := grownBy_trans (grownBy_set _ _ _ _) (grownBy_set _ _ _ _)
      have B3 := hide (B2.out.grown hgz B2.out.size (fun k e => by cases e; exact Nat.le_refl _))
      have X3 : Hid (BoxT 41 ((w2.setCell ⟨W1.heap.size, 0, none⟩ (.int .i64 f)).setCell ⟨W1.heap.size, 1, none⟩ (.int .i64 t)) W1.heap.size #[.int .i64 f, .int .i64 t]) := by
        have h9 := (BoxT.set (t := 41) (BoxT.set (t := 41) hbz 0 (.int .i64 f)) 1 (.int .i64 t))
        show BoxT _ _ _ _
        simpa using h9
      have HK3 := hide (HKC.out _ B3.out)
      clear hgz hbz
      refine wpAnyM_one (i := 13) (o := ⟨_, _, _, _, _, _⟩) (by kernel_rfl) rfl (fun K hK => ?_)
      go_simp
      refine hK.out _ _ HK3.out (fun hHeld => ?_)
      clear hK K
      (try simp only [List.setIfInBounds_toArray, List.set_cons_zero, List.set_cons_succ])
      refine wpAnyM_take (i := 14) (oi := ⟨_, _, _, _, _, _⟩) (v := ?_) rfl (by kernel_rfl) (by kernel_rfl) (by kernel_rfl) (by kernel_rfl) (fun _ _ _ h => h) (Or.inl ⟨by rfl, ?_⟩) hHeld ?_
      rotate_left
      · (intro w' hSw; unfold S1 at hSw; go_simp; try (with_reducible rfl))
      (try simp only [Act.put, List.setIfInBounds_toArray, List.set_cons_zero, List.set_cons_succ])
      refine wpAnyM_done (by kernel_rfl) ?_ _
      go_wp2_with fail
      go_meet
      case rel => exact ⟨W1.heap.size, rfl, rfl, HGB.out _ _ B3.out (Nat.le_refl _) X3.out⟩
  case rest =>
    obtain ⟨KW, rfl, rfl, HG⟩ := hcut
    clear HADD HKC HGB
    go_wp2_with fail
    go_loopg [24] 1 (fun _ iv wr => iv = .int .i64 0 ∧ Hid (GB w wr KW k f t c))
    case atStart => exact ⟨rfl, HG⟩
    case round =>
      clear HG
      obtain ⟨rfl, HG⟩ := hrel
      obtain ⟨s0, s1⟩ := HG.out.bs.cells2
      obtain ⟨p0, p1, p2, p3⟩ := HG.out.bp.cells4
      obtain ⟨r0, r1, r2, r3⟩ := HG.out.br.cells4
      have hfp := fun j => HG.out.bp.free j
      have hfr := fun j => HG.out.br.free j
      have hKW : ¬ KW = w.heap.size := fun e => by have := HG.out.hK; omega
      go_wp2_with fail
      obtain ⟨Wf, hWf⟩ : ∃ Wf, Wf = (((((wr.setCell ⟨w.heap.size, 1, none⟩ (.int .i64 f)).setCell ⟨w.heap.size, 2, none⟩ (.int .i64 t)).setCell ⟨w.heap.size + 1, 0, none⟩ (.int .i64 k)).setCell ⟨w.heap.size + 1, 1, none⟩ (.int .i64 f)).setCell ⟨w.heap.size + 1, 2, none⟩ (.int .i64 t)).setCell ⟨w.heap.size + 1, 3, none⟩ (.int .i64 c) := ⟨_, rfl⟩
      rw [← hWf]
      have hbl : Below w.heap.size w Wf := by
        rw [hWf]
        have e1 : ∀ {W : World} (j : Nat) (u : Value), Below w.heap.size w W → Below w.heap.size w (W.setCell ⟨w.heap.size, j, none⟩ u) := fun j u h => h.grown (grownBy_set _ _ _ _) h.size (fun k e => by cases e; exact Nat.le_refl _)
        have e2 : ∀ {W : World} (j : Nat) (u : Value), Below w.heap.size w W → Below w.heap.size w (W.setCell ⟨w.heap.size + 1, j, none⟩ u) := fun j u h => h.grown (grownBy_set _ _ _ _) h.size (fun k e => by cases e; omega)
        exact e2 _ _ (e2 _ _ (e2 _ _ (e2 _ _ (e1 _ _ (e1 _ _ HG.out.bl)))))
      have hbr : BoxT 43 Wf (w.heap.size + 1) #[.int .i64 k, .int .i64 f, .int .i64 t, .int .i64 c] := by
        rw [hWf]
        have h1 : BoxT 43 ((wr.setCell ⟨w.heap.size, 1, none⟩ (.int .i64 f)).setCell ⟨w.heap.size, 2, none⟩ (.int .i64 t)) (w.heap.size + 1) #[.int .i64 0, .int .i64 0, .int .i64 0, .int .i64 0] := (HG.out.br.other _ _ (by omega)).other _ _ (by omega)
        have := (((h1.set 0 (.int .i64 k)).set 1 (.int .i64 f)).set 2 (.int .i64 t)).set 3 (.int .i64 c)
        simpa using this
      obtain ⟨q0, q1, q2, q3⟩ := hbr.cells4
      exact bodyPost_ret (v := .agg #[.int .i64 k, .int .i64 f, .int .i64 t, .int .i64 c]) (by simp [results, Try.results52, go_sem, q0, q1, q2, q3]) rfl ⟨rfl, hbl⟩
end Go.Proofs.Ytdoldohcimbdaaa
