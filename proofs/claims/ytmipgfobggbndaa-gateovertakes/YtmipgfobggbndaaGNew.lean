/-
  New.
-/
import Derived.Test.YtmipgfobggbndaaGLoad
namespace Go.Proofs.Ytmipgfobggbndaa
open Go.RowKit

def NewP (w : World) (n k : Nat) (W : World) : Prop := ∃ fp, GA W k fp { (Gs.new n) with M := List.replicate n 0 } ∧ Below w.heap.size w W ∧ ∀ i, fp i → w.heap.size ≤ i
theorem NewP.of {w W : World} {n k mb cb : Nat} (h1 : 1 ≤ n) (h2 : n ≤ 64) (hb : Below w.heap.size w W) (hk : BoxT 68 W k #[.slice (some ⟨mb, 0, none⟩) n n, .int .u64 0, .int .u64 0, .bool false, .slice (some ⟨cb, 0, none⟩) n n, .int .i64 0, .slice none 0 0]) (hm : BoxT 2 W mb (i64s (List.replicate n 0))) (hc : BoxT 4 W cb (bls (List.replicate n false))) (lk : w.heap.size ≤ k) (lm : w.heap.size ≤ mb) (lc : w.heap.size ≤ cb) : NewP w n k W := by
  refine ⟨GP k mb cb (.slice none 0 0), ⟨mb, cb, 0, .slice none 0 0, { box := by simpa [Gs.new] using hk, mx := hm, cm := hc, cp := OwnL.nil _ _ _ _ _, len := by simp [Gs.new], pos := by simpa using h1, le := by simpa using h2, mis := fun e => absurd rfl e }, fun _ => Iff.rfl⟩, hb, fun i hi => ?_⟩
  rcases hi with rfl | rfl | rfl | e
  · exact lk
  · exact lm
  · exact lc
  · cases e
set_option maxHeartbeats 2000000 in
set_option maxRecDepth 100000 in
theorem New_mid {w : World} {n : Nat} (h1 : 1 ≤ n) (h2 : n ≤ 64)  : Calls Try.prog 9 #[.int .i64 (n : Int)] w fun e w' => ∃ k fp, e = .returned (.pointer (some ⟨k, 0, none⟩)) ∧ GA w' k fp (Gs.new n) ∧ Below w.heap.size w w' ∧ ∀ i, fp i → w.heap.size ≤ i := by
  have hI := fun w => madeI w n (by omega)
  have hB := fun w => madeB w n (by omega)
  have hq : ¬ (64 : Int) < (n : Int) := by omega
  have hm : ¬ (n : Int) < 1 := by omega
  have hm2 : max (n : Int) 1 = (n : Int) := by omega
  go_enter Try.func9, Try.ntmps9
  go_wp2_with fail
  refine wp_region_M (S := fun w' => True) (late := []) (by kernel_rfl) (trivial) (fun hHeld => ?_)
  (try simp only [List.size_toArray, List.length_cons, List.length_nil, Nat.zero_add, Nat.reduceAdd, Array.replicate, List.replicate])
  refine wpAnyM_take (i := 0) (oi := ⟨_, _, _, _, _, _⟩) (v := ?_) rfl (by kernel_rfl) (by kernel_rfl) (by kernel_rfl) (by kernel_rfl) (fun _ _ _ h => h) (Or.inl ⟨by rfl, ?_⟩) hHeld ?_
  rotate_left
  · (intro w' hSw; (try dsimp only at hSw); go_simp; try (with_reducible rfl))
  (try simp only [Act.put, List.setIfInBounds_toArray, List.set_cons_zero, List.set_cons_succ])
  refine wpAnyM_take (i := 2) (oi := ⟨_, _, _, _, _, _⟩) (v := ?_) rfl (by kernel_rfl) (by kernel_rfl) (by kernel_rfl) (by kernel_rfl) (fun _ _ _ h => h) (Or.inl ⟨by rfl, ?_⟩) hHeld ?_
  rotate_left
  · (intro w' hSw; (try dsimp only at hSw); go_simp; try (with_reducible rfl))
  (try simp only [Act.put, List.setIfInBounds_toArray, List.set_cons_zero, List.set_cons_succ])
  refine wpAnyM_two (i := 1) (j := 3) (oi := ⟨_, _, _, _, _, _⟩) (oj := ⟨_, _, _, _, _, _⟩) (by kernel_rfl) rfl rfl (fun K hK => ?_) (fun K hK => ?_)
  · go_simp
    refine hK.out _ _ trivial (fun hHeld => ?_)
    clear hK K
    (try simp only [List.setIfInBounds_toArray, List.set_cons_zero, List.set_cons_succ])
    refine wpAnyM_one (i := 3) (o := ⟨_, _, _, _, _, _⟩) (by kernel_rfl) rfl (fun K hK => ?_)
    go_simp
    refine hK.out _ _ (trivial) (fun hHeld => ?_)
    clear hK K
    (try simp only [List.setIfInBounds_toArray, List.set_cons_zero, List.set_cons_succ])
    refine wpAnyM_take (i := 4) (oi := ⟨_, _, _, _, _, _⟩) (v := ?_) rfl (by kernel_rfl) (by kernel_rfl) (by kernel_rfl) (by kernel_rfl) (fun _ _ _ h => h) (Or.inl ⟨by rfl, ?_⟩) hHeld ?_
    rotate_left
    · (intro w' hSw; (try dsimp only at hSw); go_simp; try (with_reducible rfl))
    (try simp only [Act.put, List.setIfInBounds_toArray, List.set_cons_zero, List.set_cons_succ])
    refine wpAnyM_one (i := 5) (o := ⟨_, _, _, _, _, _⟩) (by kernel_rfl) rfl (fun K hK => ?_)
    go_simp
    refine hK.out _ _ (trivial) (fun hHeld => ?_)
    clear hK K
    (try simp only [List.setIfInBounds_toArray, List.set_cons_zero, List.set_cons_succ])
    refine wpAnyM_take (i := 6) (oi := ⟨_, _, _, _, _, _⟩) (v := ?_) rfl (by kernel_rfl) (by kernel_rfl) (by kernel_rfl) (by kernel_rfl) (fun _ _ _ h => h) (Or.inl ⟨by rfl, ?_⟩) hHeld ?_
    rotate_left
    · (intro w' hSw; (try dsimp only at hSw); go_simp; try (with_reducible rfl))
    (try simp only [Act.put, List.setIfInBounds_toArray, List.set_cons_zero, List.set_cons_succ])
    refine wpAnyM_done (by kernel_rfl) ?_ _
    go_upto_region 3 with fail
    refine wp_at (NewP w n (w.heap.size + 1 + 1)) (NewP.of h1 h2 (mb := w.heap.size) (cb := w.heap.size + 1) ?_ (BoxT.new_at (by simp)) ?_ ?_ (by omega) (by omega) (by omega)) ?_
    · exact ((((Below.refl _ _).drew).alloc (Nat.le_refl _) _).alloc (by simp) _).alloc (by simp; omega) _
    · exact ((BoxT.new_at (by simp)).alloc _).alloc _
    · exact (BoxT.new_at (by simp)).alloc _
    clear hI hB hq
    intro W A
    obtain ⟨fp, G, b0, lo⟩ := A
    have HL := hide (Load_any G (LSeg.nil' 1 i64cs w.heap.size W) lo b0.size)
    have HB0 := hide b0
    have HLO := hide lo
    have HG := hide G
    clear G b0 lo
    go_wp2_with (go_at_call 11; refine HL.out.mono ?_; rintro e w2 ⟨rfl, fp2, g2, t2⟩)
    go_ret
    refine ⟨w.heap.size + 1 + 1, fp2, rfl, ?_, ?_, ?_⟩
    · have e : ({ (Gs.new n) with M := List.replicate n 0 } : Gs).ld [] = Gs.new n := by unfold Gs.ld Gs.new; simp [ldM_nil]
      rw [← e]
      exact g2
    · exact HB0.out.trans (t2.below HB0.out.size HLO.out)
    · intro i hi
      rcases t2.sub i hi with e | e
      · exact HLO.out i e
      · exact Nat.le_trans HB0.out.size e
  · go_simp
    refine hK.out _ _ trivial (fun hHeld => ?_)
    clear hK K
    (try simp only [List.setIfInBounds_toArray, List.set_cons_zero, List.set_cons_succ])
    refine wpAnyM_one (i := 1) (o := ⟨_, _, _, _, _, _⟩) (by kernel_rfl) rfl (fun K hK => ?_)
    go_simp
    refine hK.out _ _ (trivial) (fun hHeld => ?_)
    clear hK K
    (try simp only [List.setIfInBounds_toArray, List.set_cons_zero, List.set_cons_succ])
    refine wpAnyM_take (i := 4) (oi := ⟨_, _, _, _, _, _⟩) (v := ?_) rfl (by kernel_rfl) (by kernel_rfl) (by kernel_rfl) (by kernel_rfl) (fun _ _ _ h => h) (Or.inl ⟨by rfl, ?_⟩) hHeld ?_
    rotate_left
    · (intro w' hSw; (try dsimp only at hSw); go_simp; try (with_reducible rfl))
    (try simp only [Act.put, List.setIfInBounds_toArray, List.set_cons_zero, List.set_cons_succ])
    refine wpAnyM_one (i := 5) (o := ⟨_, _, _, _, _, _⟩) (by kernel_rfl) rfl (fun K hK => ?_)
    go_simp
    refine hK.out _ _ (trivial) (fun hHeld => ?_)
    clear hK K
    (try simp only [List.setIfInBounds_toArray, List.set_cons_zero, List.set_cons_succ])
    refine wpAnyM_take (i := 6) (oi := ⟨_, _, _, _, _, _⟩) (v := ?_) rfl (by kernel_rfl) (by kernel_rfl) (by kernel_rfl) (by kernel_rfl) (fun _ _ _ h => h) (Or.inl ⟨by rfl, ?_⟩) hHeld ?_
    rotate_left
    · (intro w' hSw; (try dsimp only at hSw); go_simp; try (with_reducible rfl))
    (try simp only [Act.put, List.setIfInBounds_toArray, List.set_cons_zero, List.set_cons_succ])
    refine wpAnyM_done (by kernel_rfl) ?_ _
    go_upto_region 3 with fail
    refine wp_at (NewP w n (w.heap.size + 1 + 1)) (NewP.of h1 h2 (mb := w.heap.size + 1) (cb := w.heap.size) ?_ (BoxT.new_at (by simp)) ?_ ?_ (by omega) (by omega) (by omega)) ?_
    · exact ((((Below.refl _ _).drew).alloc (Nat.le_refl _) _).alloc (by simp) _).alloc (by simp; omega) _
    · exact (BoxT.new_at (by simp)).alloc _
    · exact ((BoxT.new_at (by simp)).alloc _).alloc _
    clear hI hB hq
    intro W A
    obtain ⟨fp, G, b0, lo⟩ := A
    have HL := hide (Load_any G (LSeg.nil' 1 i64cs w.heap.size W) lo b0.size)
    have HB0 := hide b0
    have HLO := hide lo
    have HG := hide G
    clear G b0 lo
    go_wp2_with (go_at_call 11; refine HL.out.mono ?_; rintro e w2 ⟨rfl, fp2, g2, t2⟩)
    go_ret
    refine ⟨w.heap.size + 1 + 1, fp2, rfl, ?_, ?_, ?_⟩
    · have e : ({ (Gs.new n) with M := List.replicate n 0 } : Gs).ld [] = Gs.new n := by unfold Gs.ld Gs.new; simp [ldM_nil]
      rw [← e]
      exact g2
    · exact HB0.out.trans (t2.below HB0.out.size HLO.out)
    · intro i hi
      rcases t2.sub i hi with e | e
      · exact HLO.out i e
      · exact Nat.le_trans HB0.out.size e
set_option maxHeartbeats 2000000 in
set_option maxRecDepth 100000 in
theorem New_low {w : World} (c : Int) {n : Nat} (h1 : 1 ≤ n) (h2 : n ≤ 64) (hm : c < 1) (hn : n = 1) : Calls Try.prog 9 #[.int .i64 c] w fun e w' => ∃ k fp, e = .returned (.pointer (some ⟨k, 0, none⟩)) ∧ GA w' k fp (Gs.new n) ∧ Below w.heap.size w w' ∧ ∀ i, fp i → w.heap.size ≤ i := by
  have hI : ∀ w : World, (Instr.makeSlice 28 (.int .i64 1) (.int .i64 1)).run Try.prog w = .ok (.slice (some ⟨w.heap.size, 0, none⟩) n n) (w.alloc (.cells (i64s (List.replicate n 0)) 2)) := fun w => by subst hn; exact madeI w 1 (by omega)
  have hB : ∀ w : World, (Instr.makeSlice 30 (.int .i64 1) (.int .i64 1)).run Try.prog w = .ok (.slice (some ⟨w.heap.size, 0, none⟩) n n) (w.alloc (.cells (bls (List.replicate n false)) 4)) := fun w => by subst hn; exact madeB w 1 (by omega)
  have hq : max c 1 = 1 := by omega
  clear hn
  go_enter Try.func9, Try.ntmps9
  go_wp2_with fail
  refine wp_region_M (S := fun w' => True) (late := []) (by kernel_rfl) (trivial) (fun hHeld => ?_)
  (try simp only [List.size_toArray, List.length_cons, List.length_nil, Nat.zero_add, Nat.reduceAdd, Array.replicate, List.replicate])
  refine wpAnyM_take (i := 0) (oi := ⟨_, _, _, _, _, _⟩) (v := ?_) rfl (by kernel_rfl) (by kernel_rfl) (by kernel_rfl) (by kernel_rfl) (fun _ _ _ h => h) (Or.inl ⟨by rfl, ?_⟩) hHeld ?_
  rotate_left
  · (intro w' hSw; (try dsimp only at hSw); go_simp; try (with_reducible rfl))
  (try simp only [Act.put, List.setIfInBounds_toArray, List.set_cons_zero, List.set_cons_succ])
  refine wpAnyM_take (i := 2) (oi := ⟨_, _, _, _, _, _⟩) (v := ?_) rfl (by kernel_rfl) (by kernel_rfl) (by kernel_rfl) (by kernel_rfl) (fun _ _ _ h => h) (Or.inl ⟨by rfl, ?_⟩) hHeld ?_
  rotate_left
  · (intro w' hSw; (try dsimp only at hSw); go_simp; try (with_reducible rfl))
  (try simp only [Act.put, List.setIfInBounds_toArray, List.set_cons_zero, List.set_cons_succ])
  refine wpAnyM_two (i := 1) (j := 3) (oi := ⟨_, _, _, _, _, _⟩) (oj := ⟨_, _, _, _, _, _⟩) (by kernel_rfl) rfl rfl (fun K hK => ?_) (fun K hK => ?_)
  · go_simp
    refine hK.out _ _ trivial (fun hHeld => ?_)
    clear hK K
    (try simp only [List.setIfInBounds_toArray, List.set_cons_zero, List.set_cons_succ])
    refine wpAnyM_one (i := 3) (o := ⟨_, _, _, _, _, _⟩) (by kernel_rfl) rfl (fun K hK => ?_)
    go_simp
    refine hK.out _ _ (trivial) (fun hHeld => ?_)
    clear hK K
    (try simp only [List.setIfInBounds_toArray, List.set_cons_zero, List.set_cons_succ])
    refine wpAnyM_take (i := 4) (oi := ⟨_, _, _, _, _, _⟩) (v := ?_) rfl (by kernel_rfl) (by kernel_rfl) (by kernel_rfl) (by kernel_rfl) (fun _ _ _ h => h) (Or.inl ⟨by rfl, ?_⟩) hHeld ?_
    rotate_left
    · (intro w' hSw; (try dsimp only at hSw); go_simp; try (with_reducible rfl))
    (try simp only [Act.put, List.setIfInBounds_toArray, List.set_cons_zero, List.set_cons_succ])
    refine wpAnyM_one (i := 5) (o := ⟨_, _, _, _, _, _⟩) (by kernel_rfl) rfl (fun K hK => ?_)
    go_simp
    refine hK.out _ _ (trivial) (fun hHeld => ?_)
    clear hK K
    (try simp only [List.setIfInBounds_toArray, List.set_cons_zero, List.set_cons_succ])
    refine wpAnyM_take (i := 6) (oi := ⟨_, _, _, _, _, _⟩) (v := ?_) rfl (by kernel_rfl) (by kernel_rfl) (by kernel_rfl) (by kernel_rfl) (fun _ _ _ h => h) (Or.inl ⟨by rfl, ?_⟩) hHeld ?_
    rotate_left
    · (intro w' hSw; (try dsimp only at hSw); go_simp; try (with_reducible rfl))
    (try simp only [Act.put, List.setIfInBounds_toArray, List.set_cons_zero, List.set_cons_succ])
    refine wpAnyM_done (by kernel_rfl) ?_ _
    go_upto_region 3 with fail
    refine wp_at (NewP w n (w.heap.size + 1 + 1)) (NewP.of h1 h2 (mb := w.heap.size) (cb := w.heap.size + 1) ?_ (BoxT.new_at (by simp)) ?_ ?_ (by omega) (by omega) (by omega)) ?_
    · exact ((((Below.refl _ _).drew).alloc (Nat.le_refl _) _).alloc (by simp) _).alloc (by simp; omega) _
    · exact ((BoxT.new_at (by simp)).alloc _).alloc _
    · exact (BoxT.new_at (by simp)).alloc _
    clear hI hB hq
    intro W A
    obtain ⟨fp, G, b0, lo⟩ := A
    have HL := hide (Load_any G (LSeg.nil' 1 i64cs w.heap.size W) lo b0.size)
    have HB0 := hide b0
    have HLO := hide lo
    have HG := hide G
    clear G b0 lo
    go_wp2_with (go_at_call 11; refine HL.out.mono ?_; rintro e w2 ⟨rfl, fp2, g2, t2⟩)
    go_ret
    refine ⟨w.heap.size + 1 + 1, fp2, rfl, ?_, ?_, ?_⟩
    · have e : ({ (Gs.new n) with M := List.replicate n 0 } : Gs).ld [] = Gs.new n := by unfold Gs.ld Gs.new; simp [ldM_nil]
      rw [← e]
      exact g2
    · exact HB0.out.trans (t2.below HB0.out.size HLO.out)
    · intro i hi
      rcases t2.sub i hi with e | e
      · exact HLO.out i e
      · exact Nat.le_trans HB0.out.size e
  · go_simp
    refine hK.out _ _ trivial (fun hHeld => ?_)
    clear hK K
    (try simp only [List.setIfInBounds_toArray, List.set_cons_zero, List.set_cons_succ])
    refine wpAnyM_one (i := 1) (o := ⟨_, _, _, _, _, _⟩) (by kernel_rfl) rfl (fun K hK => ?_)
    go_simp
    refine hK.out _ _ (trivial) (fun hHeld => ?_)
    clear hK K
    (try simp only [List.setIfInBounds_toArray, List.set_cons_zero, List.set_cons_succ])
    refine wpAnyM_take (i := 4) (oi := ⟨_, _, _, _, _, _⟩) (v := ?_) rfl (by kernel_rfl) (by kernel_rfl) (by kernel_rfl) (by kernel_rfl) (fun _ _ _ h => h) (Or.inl ⟨by rfl, ?_⟩) hHeld ?_
    rotate_left
    · (intro w' hSw; (try dsimp only at hSw); go_simp; try (with_reducible rfl))
    (try simp only [Act.put, List.setIfInBounds_toArray, List.set_cons_zero, List.set_cons_succ])
    refine wpAnyM_one (i := 5) (o := ⟨_, _, _, _, _, _⟩) (by kernel_rfl) rfl (fun K hK => ?_)
    go_simp
    refine hK.out _ _ (trivial) (fun hHeld => ?_)
    clear hK K
    (try simp only [List.setIfInBounds_toArray, List.set_cons_zero, List.set_cons_succ])
    refine wpAnyM_take (i := 6) (oi := ⟨_, _, _, _, _, _⟩) (v := ?_) rfl (by kernel_rfl) (by kernel_rfl) (by kernel_rfl) (by kernel_rfl) (fun _ _ _ h => h) (Or.inl ⟨by rfl, ?_⟩) hHeld ?_
    rotate_left
    · (intro w' hSw; (try dsimp only at hSw); go_simp; try (with_reducible rfl))
    (try simp only [Act.put, List.setIfInBounds_toArray, List.set_cons_zero, List.set_cons_succ])
    refine wpAnyM_done (by kernel_rfl) ?_ _
    go_upto_region 3 with fail
    refine wp_at (NewP w n (w.heap.size + 1 + 1)) (NewP.of h1 h2 (mb := w.heap.size + 1) (cb := w.heap.size) ?_ (BoxT.new_at (by simp)) ?_ ?_ (by omega) (by omega) (by omega)) ?_
    · exact ((((Below.refl _ _).drew).alloc (Nat.le_refl _) _).alloc (by simp) _).alloc (by simp; omega) _
    · exact (BoxT.new_at (by simp)).alloc _
    · exact ((BoxT.new_at (by simp)).alloc _).alloc _
    clear hI hB hq
    intro W A
    obtain ⟨fp, G, b0, lo⟩ := A
    have HL := hide (Load_any G (LSeg.nil' 1 i64cs w.heap.size W) lo b0.size)
    have HB0 := hide b0
    have HLO := hide lo
    have HG := hide G
    clear G b0 lo
    go_wp2_with (go_at_call 11; refine HL.out.mono ?_; rintro e w2 ⟨rfl, fp2, g2, t2⟩)
    go_ret
    refine ⟨w.heap.size + 1 + 1, fp2, rfl, ?_, ?_, ?_⟩
    · have e : ({ (Gs.new n) with M := List.replicate n 0 } : Gs).ld [] = Gs.new n := by unfold Gs.ld Gs.new; simp [ldM_nil]
      rw [← e]
      exact g2
    · exact HB0.out.trans (t2.below HB0.out.size HLO.out)
    · intro i hi
      rcases t2.sub i hi with e | e
      · exact HLO.out i e
      · exact Nat.le_trans HB0.out.size e
set_option maxHeartbeats 2000000 in
set_option maxRecDepth 100000 in
theorem New_top {w : World} (c : Int) {n : Nat} (h1 : 1 ≤ n) (h2 : n ≤ 64) (hm : 64 < c) (hn : n = 64) : Calls Try.prog 9 #[.int .i64 c] w fun e w' => ∃ k fp, e = .returned (.pointer (some ⟨k, 0, none⟩)) ∧ GA w' k fp (Gs.new n) ∧ Below w.heap.size w w' ∧ ∀ i, fp i → w.heap.size ≤ i := by
  have hI : ∀ w : World, (Instr.makeSlice 28 (.int .i64 64) (.int .i64 64)).run Try.prog w = .ok (.slice (some ⟨w.heap.size, 0, none⟩) n n) (w.alloc (.cells (i64s (List.replicate n 0)) 2)) := fun w => by subst hn; exact madeI w 64 (by omega)
  have hB : ∀ w : World, (Instr.makeSlice 30 (.int .i64 64) (.int .i64 64)).run Try.prog w = .ok (.slice (some ⟨w.heap.size, 0, none⟩) n n) (w.alloc (.cells (bls (List.replicate n false)) 4)) := fun w => by subst hn; exact madeB w 64 (by omega)
  have hq : max c 1 = c := by omega
  clear hn
  go_enter Try.func9, Try.ntmps9
  go_wp2_with fail
  refine wp_region_M (S := fun w' => True) (late := []) (by kernel_rfl) (trivial) (fun hHeld => ?_)
  (try simp only [List.size_toArray, List.length_cons, List.length_nil, Nat.zero_add, Nat.reduceAdd, Array.replicate, List.replicate])
  refine wpAnyM_take (i := 0) (oi := ⟨_, _, _, _, _, _⟩) (v := ?_) rfl (by kernel_rfl) (by kernel_rfl) (by kernel_rfl) (by kernel_rfl) (fun _ _ _ h => h) (Or.inl ⟨by rfl, ?_⟩) hHeld ?_
  rotate_left
  · (intro w' hSw; (try dsimp only at hSw); go_simp; try (with_reducible rfl))
  (try simp only [Act.put, List.setIfInBounds_toArray, List.set_cons_zero, List.set_cons_succ])
  refine wpAnyM_take (i := 2) (oi := ⟨_, _, _, _, _, _⟩) (v := ?_) rfl (by kernel_rfl) (by kernel_rfl) (by kernel_rfl) (by kernel_rfl) (fun _ _ _ h => h) (Or.inl ⟨by rfl, ?_⟩) hHeld ?_
  rotate_left
  · (intro w' hSw; (try dsimp only at hSw); go_simp; try (with_reducible rfl))
  (try simp only [Act.put, List.setIfInBounds_toArray, List.set_cons_zero, List.set_cons_succ])
  refine wpAnyM_two (i := 1) (j := 3) (oi := ⟨_, _, _, _, _, _⟩) (oj := ⟨_, _, _, _, _, _⟩) (by kernel_rfl) rfl rfl (fun K hK => ?_) (fun K hK => ?_)
  · go_simp
    refine hK.out _ _ trivial (fun hHeld => ?_)
    clear hK K
    (try simp only [List.setIfInBounds_toArray, List.set_cons_zero, List.set_cons_succ])
    refine wpAnyM_one (i := 3) (o := ⟨_, _, _, _, _, _⟩) (by kernel_rfl) rfl (fun K hK => ?_)
    go_simp
    refine hK.out _ _ (trivial) (fun hHeld => ?_)
    clear hK K
    (try simp only [List.setIfInBounds_toArray, List.set_cons_zero, List.set_cons_succ])
    refine wpAnyM_take (i := 4) (oi := ⟨_, _, _, _, _, _⟩) (v := ?_) rfl (by kernel_rfl) (by kernel_rfl) (by kernel_rfl) (by kernel_rfl) (fun _ _ _ h => h) (Or.inl ⟨by rfl, ?_⟩) hHeld ?_
    rotate_left
    · (intro w' hSw; (try dsimp only at hSw); go_simp; try (with_reducible rfl))
    (try simp only [Act.put, List.setIfInBounds_toArray, List.set_cons_zero, List.set_cons_succ])
    refine wpAnyM_one (i := 5) (o := ⟨_, _, _, _, _, _⟩) (by kernel_rfl) rfl (fun K hK => ?_)
    go_simp
    refine hK.out _ _ (trivial) (fun hHeld => ?_)
    clear hK K
    (try simp only [List.setIfInBounds_toArray, List.set_cons_zero, List.set_cons_succ])
    refine wpAnyM_take (i := 6) (oi := ⟨_, _, _, _, _, _⟩) (v := ?_) rfl (by kernel_rfl) (by kernel_rfl) (by kernel_rfl) (by kernel_rfl) (fun _ _ _ h => h) (Or.inl ⟨by rfl, ?_⟩) hHeld ?_
    rotate_left
    · (intro w' hSw; (try dsimp only at hSw); go_simp; try (with_reducible rfl))
    (try simp only [Act.put, List.setIfInBounds_toArray, List.set_cons_zero, List.set_cons_succ])
    refine wpAnyM_done (by kernel_rfl) ?_ _
    go_upto_region 3 with fail
    refine wp_at (NewP w n (w.heap.size + 1 + 1)) (NewP.of h1 h2 (mb := w.heap.size) (cb := w.heap.size + 1) ?_ (BoxT.new_at (by simp)) ?_ ?_ (by omega) (by omega) (by omega)) ?_
    · exact ((((Below.refl _ _).drew).alloc (Nat.le_refl _) _).alloc (by simp) _).alloc (by simp; omega) _
    · exact ((BoxT.new_at (by simp)).alloc _).alloc _
    · exact (BoxT.new_at (by simp)).alloc _
    clear hI hB hq
    intro W A
    obtain ⟨fp, G, b0, lo⟩ := A
    have HL := hide (Load_any G (LSeg.nil' 1 i64cs w.heap.size W) lo b0.size)
    have HB0 := hide b0
    have HLO := hide lo
    have HG := hide G
    clear G b0 lo
    go_wp2_with (go_at_call 11; refine HL.out.mono ?_; rintro e w2 ⟨rfl, fp2, g2, t2⟩)
    go_ret
    refine ⟨w.heap.size + 1 + 1, fp2, rfl, ?_, ?_, ?_⟩
    · have e : ({ (Gs.new n) with M := List.replicate n 0 } : Gs).ld [] = Gs.new n := by unfold Gs.ld Gs.new; simp [ldM_nil]
      rw [← e]
      exact g2
    · exact HB0.out.trans (t2.below HB0.out.size HLO.out)
    · intro i hi
      rcases t2.sub i hi with e | e
      · exact HLO.out i e
      · exact Nat.le_trans HB0.out.size e
  · go_simp
    refine hK.out _ _ trivial (fun hHeld => ?_)
    clear hK K
    (try simp only [List.setIfInBounds_toArray, List.set_cons_zero, List.set_cons_succ])
    refine wpAnyM_one (i := 1) (o := ⟨_, _, _, _, _, _⟩) (by kernel_rfl) rfl (fun K hK => ?_)
    go_simp
    refine hK.out _ _ (trivial) (fun hHeld => ?_)
    clear hK K
    (try simp only [List.setIfInBounds_toArray, List.set_cons_zero, List.set_cons_succ])
    refine wpAnyM_take (i := 4) (oi := ⟨_, _, _, _, _, _⟩) (v := ?_) rfl (by kernel_rfl) (by kernel_rfl) (by kernel_rfl) (by kernel_rfl) (fun _ _ _ h => h) (Or.inl ⟨by rfl, ?_⟩) hHeld ?_
    rotate_left
    · (intro w' hSw; (try dsimp only at hSw); go_simp; try (with_reducible rfl))
    (try simp only [Act.put, List.setIfInBounds_toArray, List.set_cons_zero, List.set_cons_succ])
    refine wpAnyM_one (i := 5) (o := ⟨_, _, _, _, _, _⟩) (by kernel_rfl) rfl (fun K hK => ?_)
    go_simp
    refine hK.out _ _ (trivial) (fun hHeld => ?_)
    clear hK K
    (try simp only [List.setIfInBounds_toArray, List.set_cons_zero, List.set_cons_succ])
    refine wpAnyM_take (i := 6) (oi := ⟨_, _, _, _, _, _⟩) (v := ?_) rfl (by kernel_rfl) (by kernel_rfl) (by kernel_rfl) (by kernel_rfl) (fun _ _ _ h => h) (Or.inl ⟨by rfl, ?_⟩) hHeld ?_
    rotate_left
    · (intro w' hSw; (try dsimp only at hSw); go_simp; try (with_reducible rfl))
    (try simp only [Act.put, List.setIfInBounds_toArray, List.set_cons_zero, List.set_cons_succ])
    refine wpAnyM_done (by kernel_rfl) ?_ _
    go_upto_region 3 with fail
    refine wp_at (NewP w n (w.heap.size + 1 + 1)) (NewP.of h1 h2 (mb := w.heap.size + 1) (cb := w.heap.size) ?_ (BoxT.new_at (by simp)) ?_ ?_ (by omega) (by omega) (by omega)) ?_
    · exact ((((Below.refl _ _).drew).alloc (Nat.le_refl _) _).alloc (by simp) _).alloc (by simp; omega) _
    · exact (BoxT.new_at (by simp)).alloc _
    · exact ((BoxT.new_at (by simp)).alloc _).alloc _
    clear hI hB hq
    intro W A
    obtain ⟨fp, G, b0, lo⟩ := A
    have HL := hide (Load_any G (LSeg.nil' 1 i64cs w.heap.size W) lo b0.size)
    have HB0 := hide b0
    have HLO := hide lo
    have HG := hide G
    clear G b0 lo
    go_wp2_with (go_at_call 11; refine HL.out.mono ?_; rintro e w2 ⟨rfl, fp2, g2, t2⟩)
    go_ret
    refine ⟨w.heap.size + 1 + 1, fp2, rfl, ?_, ?_, ?_⟩
    · have e : ({ (Gs.new n) with M := List.replicate n 0 } : Gs).ld [] = Gs.new n := by unfold Gs.ld Gs.new; simp [ldM_nil]
      rw [← e]
      exact g2
    · exact HB0.out.trans (t2.below HB0.out.size HLO.out)
    · intro i hi
      rcases t2.sub i hi with e | e
      · exact HLO.out i e
      · exact Nat.le_trans HB0.out.size e
theorem New_any {w : World} (c : Int) : Calls Try.prog 9 #[.int .i64 c] w fun e w' => ∃ k fp, e = .returned (.pointer (some ⟨k, 0, none⟩)) ∧ GA w' k fp (Gs.new (chans c)) ∧ Below w.heap.size w w' ∧ ∀ i, fp i → w.heap.size ≤ i := by
  have h1 : 1 ≤ chans c ∧ chans c ≤ 64 := by
    unfold chans
    by_cases a : c < 1
    · rw [if_pos a]; omega
    · rw [if_neg a]
      by_cases b : 64 < c
      · rw [if_pos b]; omega
      · rw [if_neg b]; omega
  by_cases b : 64 < c
  · exact New_top c h1.1 h1.2 b (by unfold chans; rw [if_neg (by omega), if_pos b])
  · by_cases a : c < 1
    · exact New_low c h1.1 h1.2 a (by unfold chans; rw [if_pos a])
    · have e : c = (chans c : Int) := by unfold chans; rw [if_neg a, if_neg b]; omega
      have := New_mid (w := w) h1.1 h1.2
      rw [← e] at this
      exact this
end Go.Proofs.Ytmipgfobggbndaa
