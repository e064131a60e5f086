/-
  lay of any pane.
-/
import Derived.Test.YtdoldohcimbdaaaSBad
namespace Go.Proofs.Ytdoldohcimbdaaa
open Go.RowKit

/-- What is known behind a pane that was laid, whatever it was. -/
def WPost (w : World) (s m o : Nat) (kd size slide ag : Int) (fq : Nat → Prop) (M : List Pn) (e : Ending) (w' : World) : Prop := e = .returned (.tuple #[]) ∧ ∃ fq' M' R', StAt w' s m o kd size slide ag fq' M' R' ∧ FT (FP s m fq) (FP s m fq') w w' ∧ M'.length ≤ M.length + 1
theorem inv_swap {kd : Int} {M N0 : List Pn} {R : List SRow} {k f t xa : Int} (h : Inv kd M R) (hp : M.Perm (⟨k, f, t, xa⟩ :: N0)) (J : Int) : Inv kd (⟨k, f, t, J⟩ :: N0) R := by
  refine ⟨h.none, fun e x hx hlt => ?_, fun r hr sp hsp => ?_, h.rise⟩
  · rcases List.mem_cons.1 hx with rfl | hx
    · exact h.up e ⟨k, f, t, xa⟩ (hp.mem_iff.2 (List.mem_cons_self ..)) hlt
    · exact h.up e x (hp.mem_iff.2 (List.mem_cons_of_mem _ hx)) hlt
  · obtain ⟨h1, x, h2, h3⟩ := h.dn r hr sp hsp
    refine ⟨h1, ?_⟩
    rcases List.mem_cons.1 (hp.mem_iff.1 h2) with rfl | h2
    · exact ⟨_, List.mem_cons_self .., h3⟩
    · exact ⟨x, List.mem_cons_of_mem _ h2, h3⟩
theorem inv_more {kd : Int} {M : List Pn} {R : List SRow} {k f t c : Int} (h : Inv kd M R) (hf : ¬ f < t) : Inv kd (⟨k, f, t, c⟩ :: M) R := by
  refine ⟨h.none, fun e x hx hlt => ?_, fun r hr sp hsp => ?_, h.rise⟩
  · rcases List.mem_cons.1 hx with rfl | hx
    · exact absurd hlt hf
    · exact h.up e x hx hlt
  · obtain ⟨h1, x, h2, h3⟩ := h.dn r hr sp hsp
    exact ⟨h1, x, List.mem_cons_of_mem _ h2, h3⟩
set_option maxHeartbeats 8000000 in
set_option maxRecDepth 100000 in
theorem lay_bad {w : World} {s m o : Nat} {size slide ag : Int} {fq : Nat → Prop} {M : List Pn} {R : List SRow} (h : StAt w s m o 3 size slide ag fq M R) {k f t c : Int} (hp : PnOk ⟨k, f, t, c⟩) (hf : ¬ f < t) :
    Calls Try.prog 32 #[.pointer (some ⟨s, 0, none⟩), .agg #[.int .i64 k, .int .i64 f, .int .i64 t, .int .i64 c]] w (WPost w s m o 3 size slide ag fq M) := by
  have hb1 := below_box w (.cells #[.int .i64 k, .int .i64 f, .int .i64 t, .int .i64 c] 43)
  have HL : Hid (LI w (w.alloc (.cells #[.int .i64 k, .int .i64 f, .int .i64 t, .int .i64 c] 43)) s m o 3 size slide ag fq fq M R k f t c) :=
    ⟨BoxT.below (t := 67) h.box hb1, h.mp.back (hb1.block m h.mp.lt), h.om.below hb1, FT.of_below hb1, BoxT.new _ _ _, h.ns, h.nm, fun e => by have := h.om.flt _ e; omega, h.box.lt, h.mp.lt⟩
  have HKEY := hide (keyPl hp.k hp.f hp.t)
  have HST := hide h
  have HP := hide hp
  have hk1 : (w.alloc (.cells #[.int .i64 k, .int .i64 f, .int .i64 t, .int .i64 c] 43)).cell? ⟨s, 0, none⟩ = some (.int .i64 3) := by have := HL.out.box.cellAt 0; simpa using this
  have d3 : ((3 : Int) == 3) = true := rfl
  have HGA := hide (gathered_bad (c := c) (k := k) (h.below (fun i hi => hb1.block i (h.flt i hi)) hb1.size) hf)
  have HBF := hide hf
  clear hf
  obtain ⟨fq', hfq⟩ : ∃ fq', fq' = fq := ⟨_, rfl⟩
  obtain ⟨N, hN⟩ : ∃ N, N = M := ⟨_, rfl⟩
  obtain ⟨R', hR⟩ : ∃ R', R' = R := ⟨_, rfl⟩
  have HEQ := hide (And.intro hfq (And.intro hN hR))
  rw [show LI w (w.alloc (.cells #[.int .i64 k, .int .i64 f, .int .i64 t, .int .i64 c] 43)) s m o 3 size slide ag fq fq M R k f t c = LI w (w.alloc (.cells #[.int .i64 k, .int .i64 f, .int .i64 t, .int .i64 c] 43)) s m o 3 size slide ag fq fq' N R' k f t c by rw [hfq, hN, hR]] at HL
  clear h hb1 hfq hN hR hp
  by_cases hx : ∃ x ∈ N, x.k = k ∧ x.f = f ∧ x.t = t
  · obtain ⟨x, hxN, x1, x2, x3⟩ := hx
    obtain ⟨u, v, huv⟩ := List.append_of_mem hxN
    obtain ⟨xk, xf, xt, xa⟩ := x
    simp only at x1 x2 x3
    have e1 := x1.symm
    have e2 := x2.symm
    have e3 := x3.symm
    clear x1 x2 x3
    subst e1 e2 e3
    obtain ⟨N0, hN0⟩ : ∃ N0, N0 = u ++ v := ⟨_, rfl⟩
    have HN0 : Hid (N.Perm (⟨k, f, t, xa⟩ :: N0)) := (show List.Perm _ _ by rw [huv, hN0]; exact List.perm_middle)
    clear huv hN0 hxN
    go_enter Try.func32, Try.ntmps32
    go_upto_region 3 with (first | (go_at_call 52; refine HGA.out.mono ?_; rintro e w2 ⟨rfl, b2⟩; have HL0 := hide (HL.out.below b2); clear b2; obtain ⟨y0, y1, y2, y3⟩ := HL0.out.bp.cells4; have yf := fun j => HL0.out.bp.free j) | fail)
    have hgr : w2.grownBy ((((w2.setCell ⟨w.heap.size, 0, none⟩ (.int .i64 k)).setCell ⟨w.heap.size, 1, none⟩ (.int .i64 f)).setCell ⟨w.heap.size, 2, none⟩ (.int .i64 t)).setCell ⟨w.heap.size, 3, none⟩ (.int .i64 c)) (some w.heap.size) := grownBy_trans (grownBy_trans (grownBy_trans (grownBy_set _ _ _ _) (grownBy_set _ _ _ _)) (grownBy_set _ _ _ _)) (grownBy_set _ _ _ _)
    clear HL
    have HL := hide (HL0.out.set hgr (k' := k) (f' := f) (t' := t) (c' := c) (by have := (((HL0.out.bp.set 0 (.int .i64 k)).set 1 (.int .i64 f)).set 2 (.int .i64 t)).set 3 (.int .i64 c); simpa using this))
    clear HL0 y0 y1 y2 y3 yf hgr
    generalize hWX : (((w2.setCell ⟨w.heap.size, 0, none⟩ (.int .i64 k)).setCell ⟨w.heap.size, 1, none⟩ (.int .i64 f)).setCell ⟨w.heap.size, 2, none⟩ (.int .i64 t)).setCell ⟨w.heap.size, 3, none⟩ (.int .i64 c) = WX at *
    clear hWX
    obtain ⟨b0, b1, b2, b3⟩ := HL.out.bp.cells4
    have HPO := hide (fun w' => placeOf_any w' ⟨k, f, t, c⟩)
    unfold Pn.val plV at HPO
    simp only at HPO
    go_upto_region 4 with (first | (go_at_call 44; refine (HPO.out _).mono ?_; rintro e w3 ⟨rfl, b3'⟩; have H3 := hide (HL.out.below b3'); clear b3') | fail)
    obtain ⟨W4, hW4⟩ : ∃ W4, W4 = w3.alloc (.cells #[.int .i64 k, .int .i64 f, .int .i64 t] 76) := ⟨_, rfl⟩
    rw [← hW4]
    have H4 : Hid (LI w W4 s m o 3 size slide ag fq fq' N R' k f t c) := (show LI _ _ _ _ _ _ _ _ _ _ _ _ _ _ _ _ _ by rw [hW4]; exact H3.out.below (below_box w3 _))
    have P4 : Hid (BoxT 76 W4 w3.heap.size #[.int .i64 k, .int .i64 f, .int .i64 t]) := (show BoxT _ _ _ _ by rw [hW4]; exact BoxT.new _ _ _)
    clear hW4 b0 b1 b2 b3 HPO
    have HK4 : Hid (∀ w', Below W4.heap.size W4 w' → L4 s m w3.heap.size k f t xa true w') := fun w' hb => by
      have h1 := H4.out.below hb
      obtain ⟨p0, p1, p2⟩ := (BoxT.below (t := 76) P4.out hb).cells3
      obtain ⟨lk, hlk⟩ := HKEY.out
      exact ⟨h1.cells.2.1, p0, p1, p2, h1.mp.look_hit Try.lawPl Try.underlying63 hlk (R := N0.map pEnt) (by have := HN0.out.map pEnt; rwa [List.map_cons] at this) true⟩
    refine wp_region_M (S := fun w' => L4 s m w3.heap.size k f t xa true w') (late := []) (by kernel_rfl) (HK4.out _ (Below.refl _ _).drew) (fun hHeld => ?_)
    (try simp only [List.size_toArray, List.length_cons, List.length_nil, Nat.zero_add, Nat.reduceAdd, Array.replicate, List.replicate])
    refine wpAnyM_take (i := 0) (oi := ⟨_, _, _, _, _, _⟩) (v := ?_) rfl (by kernel_rfl) (by kernel_rfl) (by kernel_rfl) (by kernel_rfl) (fun _ _ _ h => h) (Or.inl ⟨by rfl, ?_⟩) hHeld ?_
    rotate_left
    · (intro w' hSw; unfold L4 at hSw; go_simp; try (with_reducible rfl))
    (try simp only [Act.put, List.setIfInBounds_toArray, List.set_cons_zero, List.set_cons_succ])
    refine wpAnyM_take (i := 1) (oi := ⟨_, _, _, _, _, _⟩) (v := ?_) rfl (by kernel_rfl) (by kernel_rfl) (by kernel_rfl) (by kernel_rfl) (fun _ _ _ h => h) (Or.inl ⟨by rfl, ?_⟩) hHeld ?_
    rotate_left
    · (intro w' hSw; unfold L4 at hSw; go_simp; try (with_reducible rfl))
    (try simp only [Act.put, List.setIfInBounds_toArray, List.set_cons_zero, List.set_cons_succ])
    refine wpAnyM_take (i := 2) (oi := ⟨_, _, _, _, _, _⟩) (v := ?_) rfl (by kernel_rfl) (by kernel_rfl) (by kernel_rfl) (by kernel_rfl) (fun _ _ _ h => h) (Or.inl ⟨by rfl, ?_⟩) hHeld ?_
    rotate_left
    · (intro w' hSw; unfold L4 at hSw; go_simp; try (with_reducible rfl))
    (try simp only [Act.put, List.setIfInBounds_toArray, List.set_cons_zero, List.set_cons_succ])
    refine wpAnyM_take (i := 3) (oi := ⟨_, _, _, _, _, _⟩) (v := ?_) rfl (by kernel_rfl) (by kernel_rfl) (by kernel_rfl) (by kernel_rfl) (fun _ _ _ h => h) (Or.inl ⟨by rfl, ?_⟩) hHeld ?_
    rotate_left
    · (intro w' hSw; unfold L4 at hSw; go_simp; try (with_reducible rfl))
    (try simp only [Act.put, List.setIfInBounds_toArray, List.set_cons_zero, List.set_cons_succ])
    refine wpAnyM_take (i := 4) (oi := ⟨_, _, _, _, _, _⟩) (v := ?_) rfl (by kernel_rfl) (by kernel_rfl) (by kernel_rfl) (by kernel_rfl) (fun _ _ _ h => h) (Or.inl ⟨by rfl, ?_⟩) hHeld ?_
    rotate_left
    · (intro w' hSw; unfold L4 at hSw; go_simp; try (with_reducible rfl))
    (try simp only [Act.put, List.setIfInBounds_toArray, List.set_cons_zero, List.set_cons_succ])
    refine wpAnyM_take (i := 5) (oi := ⟨_, _, _, _, _, _⟩) (v := ?_) rfl (by kernel_rfl) (by kernel_rfl) (by kernel_rfl) (by kernel_rfl) (fun _ _ _ h => h) (Or.inl ⟨by rfl, ?_⟩) hHeld ?_
    rotate_left
    · (intro w' hSw; unfold L4 at hSw; go_simp; try (with_reducible rfl))
    (try simp only [Act.put, List.setIfInBounds_toArray, List.set_cons_zero, List.set_cons_succ])
    refine wpAnyM_take (i := 6) (oi := ⟨_, _, _, _, _, _⟩) (v := ?_) rfl (by kernel_rfl) (by kernel_rfl) (by kernel_rfl) (by kernel_rfl) (fun _ _ _ h => h) (Or.inl ⟨by rfl, ?_⟩) hHeld ?_
    rotate_left
    · (intro w' hSw; unfold L4 at hSw; go_simp; try (with_reducible rfl))
    (try simp only [Act.put, List.setIfInBounds_toArray, List.set_cons_zero, List.set_cons_succ])
    refine wpAnyM_take (i := 7) (oi := ⟨_, _, _, _, _, _⟩) (v := ?_) rfl (by kernel_rfl) (by kernel_rfl) (by kernel_rfl) (by kernel_rfl) (fun _ _ _ h => h) (Or.inl ⟨by rfl, ?_⟩) hHeld ?_
    rotate_left
    · (intro w' hSw; unfold L4 at hSw; go_simp; try (with_reducible rfl))
    (try simp only [Act.put, List.setIfInBounds_toArray, List.set_cons_zero, List.set_cons_succ])
    refine wpAnyM_take (i := 8) (oi := ⟨_, _, _, _, _, _⟩) (v := ?_) rfl (by kernel_rfl) (by kernel_rfl) (by kernel_rfl) (by kernel_rfl) (fun _ _ _ h => h) (Or.inl ⟨by rfl, ?_⟩) hHeld ?_
    rotate_left
    · (intro w' hSw; unfold L4 at hSw; go_simp; try (with_reducible rfl))
    (try simp only [Act.put, List.setIfInBounds_toArray, List.set_cons_zero, List.set_cons_succ])
    refine wpAnyM_take (i := 9) (oi := ⟨_, _, _, _, _, _⟩) (v := ?_) rfl (by kernel_rfl) (by kernel_rfl) (by kernel_rfl) (by kernel_rfl) (fun _ _ _ h => h) (Or.inl ⟨by rfl, ?_⟩) hHeld ?_
    rotate_left
    · (intro w' hSw; unfold L4 at hSw; go_simp; try (with_reducible rfl))
    (try simp only [Act.put, List.setIfInBounds_toArray, List.set_cons_zero, List.set_cons_succ])
    refine wpAnyM_take (i := 10) (oi := ⟨_, _, _, _, _, _⟩) (v := ?_) rfl (by kernel_rfl) (by kernel_rfl) (by kernel_rfl) (by kernel_rfl) (fun _ _ _ h => h) (Or.inl ⟨by rfl, ?_⟩) hHeld ?_
    rotate_left
    · (intro w' hSw; unfold L4 at hSw; go_simp; try (with_reducible rfl))
    (try simp only [Act.put, List.setIfInBounds_toArray, List.set_cons_zero, List.set_cons_succ])
    refine wpAnyM_done (by kernel_rfl) ?_ _
    go_upto_region 6 with fail
    have HMG : Hid (∀ w', Below W4.heap.size W4 w' → Calls Try.prog 53 #[.int .i64 ag, .int .i64 xa, .int .i64 c] w' fun e w'' => e = .returned (.int .i64 (jn ag xa c)) ∧ Below W4.heap.size W4 w'') := fun w' hb => (Merge_any w' ag xa c).mono (by rintro e w'' ⟨rfl, h2⟩; exact ⟨rfl, hb.trans (h2.mono hb.size)⟩)
    generalize hJ : jn ag xa c = J at *
    have HJ := hide hJ
    clear hJ
    have HK6 : Hid (∀ w', Below W4.heap.size W4 w' → L6 s w.heap.size ag c w') := fun w' hb => ⟨(H4.out.below hb).cells.1, (H4.out.below hb).cells.2.2⟩
    refine wp_region_M (S := fun w' => L6 s w.heap.size ag c w') (late := [9]) (by kernel_rfl) (HK6.out _ ((Below.refl _ _).drew.drew)) (fun hHeld => ?_)
    (try simp only [List.size_toArray, List.length_cons, List.length_nil, Nat.zero_add, Nat.reduceAdd, Array.replicate, List.replicate])
    refine wpAnyM_take (i := 0) (oi := ⟨_, _, _, _, _, _⟩) (v := ?_) rfl (by kernel_rfl) (by kernel_rfl) (by kernel_rfl) (by kernel_rfl) (fun _ _ _ h => h) (Or.inl ⟨by rfl, ?_⟩) hHeld ?_
    rotate_left
    · (intro w' hSw; unfold L6 at hSw; go_simp; try (with_reducible rfl))
    (try simp only [Act.put, List.setIfInBounds_toArray, List.set_cons_zero, List.set_cons_succ])
    refine wpAnyM_take (i := 1) (oi := ⟨_, _, _, _, _, _⟩) (v := ?_) rfl (by kernel_rfl) (by kernel_rfl) (by kernel_rfl) (by kernel_rfl) (fun _ _ _ h => h) (Or.inl ⟨by rfl, ?_⟩) hHeld ?_
    rotate_left
    · (intro w' hSw; unfold L6 at hSw; go_simp; try (with_reducible rfl))
    (try simp only [Act.put, List.setIfInBounds_toArray, List.set_cons_zero, List.set_cons_succ])
    refine wpAnyM_take (i := 2) (oi := ⟨_, _, _, _, _, _⟩) (v := ?_) rfl (by kernel_rfl) (by kernel_rfl) (by kernel_rfl) (by kernel_rfl) (fun _ _ _ h => h) (Or.inl ⟨by rfl, ?_⟩) hHeld ?_
    rotate_left
    · (intro w' hSw; unfold L6 at hSw; go_simp; try (with_reducible rfl))
    (try simp only [Act.put, List.setIfInBounds_toArray, List.set_cons_zero, List.set_cons_succ])
    refine wpAnyM_take (i := 3) (oi := ⟨_, _, _, _, _, _⟩) (v := ?_) rfl (by kernel_rfl) (by kernel_rfl) (by kernel_rfl) (by kernel_rfl) (fun _ _ _ h => h) (Or.inl ⟨by rfl, ?_⟩) hHeld ?_
    rotate_left
    · (intro w' hSw; unfold L6 at hSw; go_simp; try (with_reducible rfl))
    (try simp only [Act.put, List.setIfInBounds_toArray, List.set_cons_zero, List.set_cons_succ])
    refine wpAnyM_take (i := 4) (oi := ⟨_, _, _, _, _, _⟩) (v := ?_) rfl (by kernel_rfl) (by kernel_rfl) (by kernel_rfl) (by kernel_rfl) (fun _ _ _ h => h) (Or.inl ⟨by rfl, ?_⟩) hHeld ?_
    rotate_left
    · (intro w' hSw; unfold L6 at hSw; go_simp; try (with_reducible rfl))
    (try simp only [Act.put, List.setIfInBounds_toArray, List.set_cons_zero, List.set_cons_succ])
    refine wpAnyM_take (i := 5) (oi := ⟨_, _, _, _, _, _⟩) (v := ?_) rfl (by kernel_rfl) (by kernel_rfl) (by kernel_rfl) (by kernel_rfl) (fun _ _ _ h => h) (Or.inl ⟨by rfl, ?_⟩) hHeld ?_
    rotate_left
    · (intro w' hSw; unfold L6 at hSw; go_simp; try (with_reducible rfl))
    (try simp only [Act.put, List.setIfInBounds_toArray, List.set_cons_zero, List.set_cons_succ])
    refine wpAnyM_take (i := 6) (oi := ⟨_, _, _, _, _, _⟩) (v := ?_) rfl (by kernel_rfl) (by kernel_rfl) (by kernel_rfl) (by kernel_rfl) (fun _ _ _ h => h) (Or.inl ⟨by rfl, ?_⟩) hHeld ?_
    rotate_left
    · (intro w' hSw; unfold L6 at hSw; go_simp; try (with_reducible rfl))
    (try simp only [Act.put, List.setIfInBounds_toArray, List.set_cons_zero, List.set_cons_succ])
    refine wpAnyM_one (i := 7) (o := ⟨_, _, _, _, _, _⟩) (by kernel_rfl) rfl (fun K hK => ?_)
    go_simp
    go_at_call 53
    refine (HMG.out _ ((Below.refl _ _).drew.drew)).mono ?_
    rintro e w5 ⟨rfl, b5⟩
    have B5 := hide b5
    refine hK.out _ _ (HK6.out _ b5) (fun hHeld => ?_)
    clear hK K b5
    (try simp only [List.setIfInBounds_toArray, List.set_cons_zero, List.set_cons_succ])
    refine wpAnyM_take (i := 8) (oi := ⟨_, _, _, _, _, _⟩) (v := ?_) rfl (by kernel_rfl) (by kernel_rfl) (by kernel_rfl) (by kernel_rfl) (fun _ _ _ h => h) (Or.inl ⟨by rfl, ?_⟩) hHeld ?_
    rotate_left
    · (intro w' hSw; unfold L6 at hSw; go_simp; try (with_reducible rfl))
    (try simp only [Act.put, List.setIfInBounds_toArray, List.set_cons_zero, List.set_cons_succ])
    have H5 := hide (H4.out.below B5.out)
    have hf5 := fun j => H5.out.bp.free j
    have hc5 : w5.cell? ⟨w.heap.size, 3, none⟩ = some (.int .i64 c) := H5.out.cells.2.2
    refine wpAnyM_last (i := 9) (o := ⟨_, _, _, _, _, _⟩) (by kernel_rfl) (by kernel_rfl) rfl (fun K hK => ?_)
    go_simp
    refine hK.out _ _ ?_
    clear hK K
    (try simp only [List.setIfInBounds_toArray, List.set_cons_zero, List.set_cons_succ])
    refine wpAnyM_done (by kernel_rfl) ?_ _
    have H6 := hide (H5.out.set (grownBy_set w5 w.heap.size 3 (.int .i64 J)) (k' := k) (f' := f) (t' := t) (c' := J) (by have := H5.out.bp.set 3 (.int .i64 J); simpa using this))
    have P6 : Hid (BoxT 76 (w5.setCell ⟨w.heap.size, 3, none⟩ (.int .i64 J)) w3.heap.size #[.int .i64 k, .int .i64 f, .int .i64 t]) := (BoxT.below (t := 76) P4.out B5.out).grown (grownBy_set _ _ _ _) (by have := H3.out.bp.lt; omega)
    clear hf5 hc5 hHeld
    generalize hw6 : w5.setCell ⟨w.heap.size, 3, none⟩ (.int .i64 J) = w6 at *
    clear hw6
    go_upto_region 7 with fail
    have H7 := hide (H6.out.below ((Below.refl _ _).drew))
    obtain ⟨lk, hlk⟩ := HKEY.out
    obtain ⟨w7, hrun7, hm7, ht7⟩ := H7.out.mp.store_old (v := .int .i64 J) Try.lawPl Try.underlying63 hlk (R := N0.map pEnt) (by have := HN0.out.map pEnt; rwa [List.map_cons] at this)
    obtain ⟨_, e4, e3⟩ := H6.out.cells
    obtain ⟨p0, p1, p2⟩ := P6.out.cells3
    have hL7 : L7 s m w3.heap.size w.heap.size k f t J w7 := by
      have hne : ∀ {ty : TypeId} {i : Nat} {cs : Array Value}, BoxT ty w6.drew i cs → BoxT ty w7 i cs := fun {ty i cs} hb => by
        have h1 : i ≠ m := fun e => by
          obtain ⟨es, ck, h1⟩ := H7.out.mp.isMap
          unfold BoxT at hb
          rw [e, h1] at hb
          cases hb
        have h2 := ht7.other h1
        unfold BoxT at *
        rw [h2]; exact hb
      have q1 := hne H7.out.box
      have q2 := hne H7.out.bp
      have q3 := hne (ty := 76) P6.out
      obtain ⟨r0, r1, r2⟩ := q3.cells3
      obtain ⟨_, _, _, r3⟩ := q2.cells4
      exact ⟨by rw [q1.cellAt]; rfl, r0, r1, r2, r3⟩
    have HL7 := hide hL7
    have HM7 := hide (And.intro hm7 ht7)
    clear hL7 hm7 ht7
    refine wp_region_M (S := fun w' => L7 s m w3.heap.size w.heap.size k f t J w') (late := []) (by kernel_rfl) ⟨e4, p0, p1, p2, e3⟩ (fun hHeld => ?_)
    (try simp only [List.size_toArray, List.length_cons, List.length_nil, Nat.zero_add, Nat.reduceAdd, Array.replicate, List.replicate])
    refine wpAnyM_take (i := 0) (oi := ⟨_, _, _, _, _, _⟩) (v := ?_) rfl (by kernel_rfl) (by kernel_rfl) (by kernel_rfl) (by kernel_rfl) (fun _ _ _ h => h) (Or.inl ⟨by rfl, ?_⟩) hHeld ?_
    rotate_left
    · (intro w' hSw; unfold L7 at hSw; go_simp; try (with_reducible rfl))
    (try simp only [Act.put, List.setIfInBounds_toArray, List.set_cons_zero, List.set_cons_succ])
    refine wpAnyM_take (i := 1) (oi := ⟨_, _, _, _, _, _⟩) (v := ?_) rfl (by kernel_rfl) (by kernel_rfl) (by kernel_rfl) (by kernel_rfl) (fun _ _ _ h => h) (Or.inl ⟨by rfl, ?_⟩) hHeld ?_
    rotate_left
    · (intro w' hSw; unfold L7 at hSw; go_simp; try (with_reducible rfl))
    (try simp only [Act.put, List.setIfInBounds_toArray, List.set_cons_zero, List.set_cons_succ])
    refine wpAnyM_take (i := 2) (oi := ⟨_, _, _, _, _, _⟩) (v := ?_) rfl (by kernel_rfl) (by kernel_rfl) (by kernel_rfl) (by kernel_rfl) (fun _ _ _ h => h) (Or.inl ⟨by rfl, ?_⟩) hHeld ?_
    rotate_left
    · (intro w' hSw; unfold L7 at hSw; go_simp; try (with_reducible rfl))
    (try simp only [Act.put, List.setIfInBounds_toArray, List.set_cons_zero, List.set_cons_succ])
    refine wpAnyM_take (i := 3) (oi := ⟨_, _, _, _, _, _⟩) (v := ?_) rfl (by kernel_rfl) (by kernel_rfl) (by kernel_rfl) (by kernel_rfl) (fun _ _ _ h => h) (Or.inl ⟨by rfl, ?_⟩) hHeld ?_
    rotate_left
    · (intro w' hSw; unfold L7 at hSw; go_simp; try (with_reducible rfl))
    (try simp only [Act.put, List.setIfInBounds_toArray, List.set_cons_zero, List.set_cons_succ])
    refine wpAnyM_take (i := 4) (oi := ⟨_, _, _, _, _, _⟩) (v := ?_) rfl (by kernel_rfl) (by kernel_rfl) (by kernel_rfl) (by kernel_rfl) (fun _ _ _ h => h) (Or.inl ⟨by rfl, ?_⟩) hHeld ?_
    rotate_left
    · (intro w' hSw; unfold L7 at hSw; go_simp; try (with_reducible rfl))
    (try simp only [Act.put, List.setIfInBounds_toArray, List.set_cons_zero, List.set_cons_succ])
    refine wpAnyM_take (i := 5) (oi := ⟨_, _, _, _, _, _⟩) (v := ?_) rfl (by kernel_rfl) (by kernel_rfl) (by kernel_rfl) (by kernel_rfl) (fun _ _ _ h => h) (Or.inl ⟨by rfl, ?_⟩) hHeld ?_
    rotate_left
    · (intro w' hSw; unfold L7 at hSw; go_simp; try (with_reducible rfl))
    (try simp only [Act.put, List.setIfInBounds_toArray, List.set_cons_zero, List.set_cons_succ])
    refine wpAnyM_take (i := 6) (oi := ⟨_, _, _, _, _, _⟩) (v := ?_) rfl (by kernel_rfl) (by kernel_rfl) (by kernel_rfl) (by kernel_rfl) (fun _ _ _ h => h) (Or.inl ⟨by rfl, ?_⟩) hHeld ?_
    rotate_left
    · (intro w' hSw; unfold L7 at hSw; go_simp; try (with_reducible rfl))
    (try simp only [Act.put, List.setIfInBounds_toArray, List.set_cons_zero, List.set_cons_succ])
    refine wpAnyM_one (i := 7) (o := ⟨_, _, _, _, _, _⟩) (by kernel_rfl) rfl (fun K hK => ?_)
    refine step_put_run rfl _ _ _ 63 rfl _ _ _ rfl rfl rfl hrun7 ?_
    refine hK.out _ _ HL7.out (fun hHeld => ?_)
    clear hK K
    (try simp only [List.setIfInBounds_toArray, List.set_cons_zero, List.set_cons_succ])
    refine wpAnyM_done (by kernel_rfl) ?_ _
    go_wp2_with fail
    go_end0
    obtain ⟨e1, e2, e3⟩ := HEQ.out
    subst e1 e2 e3
    have hnew : (⟨k, f, t, J⟩ :: N0 : List Pn).map pEnt = (plV ⟨k, f, t, c⟩, .int .i64 J) :: N0.map pEnt := rfl
    have hxok := HST.out.ok ⟨k, f, t, xa⟩ (HN0.out.mem_iff.2 (List.mem_cons_self ..))
    obtain ⟨q1, q2⟩ := H7.out.fin (N' := ⟨k, f, t, J⟩ :: N0) (by rw [hnew]; exact HM7.out.1) HM7.out.2 (fun y hy => by
      rcases List.mem_cons.1 hy with rfl | hy
      · exact ⟨HP.out.k, HP.out.f, HP.out.t, by rw [← HJ.out]; exact jn_in hxok.a HP.out.a⟩
      · exact HST.out.ok y (HN0.out.mem_iff.2 (List.mem_cons_of_mem _ hy))) (inv_swap HST.out.inv HN0.out J)
    exact ⟨rfl, _, _, _, q1, q2, by have := HN0.out.length_eq; simp at *; omega⟩
  · have HNO : Hid (∀ p ∈ N.map pEnt, p.1 ≠ (.agg #[.int .i64 k, .int .i64 f, .int .i64 t] : Value)) := fun p hp e => by
      obtain ⟨y, hy, rfl⟩ := List.mem_map.1 hp
      simp [pEnt, plV] at e
      exact hx ⟨y, hy, e⟩
    have HX := hide hx
    clear hx
    go_enter Try.func32, Try.ntmps32
    go_upto_region 3 with (first | (go_at_call 52; refine HGA.out.mono ?_; rintro e w2 ⟨rfl, b2⟩; have HL0 := hide (HL.out.below b2); clear b2; obtain ⟨y0, y1, y2, y3⟩ := HL0.out.bp.cells4; have yf := fun j => HL0.out.bp.free j) | fail)
    have hgr : w2.grownBy ((((w2.setCell ⟨w.heap.size, 0, none⟩ (.int .i64 k)).setCell ⟨w.heap.size, 1, none⟩ (.int .i64 f)).setCell ⟨w.heap.size, 2, none⟩ (.int .i64 t)).setCell ⟨w.heap.size, 3, none⟩ (.int .i64 c)) (some w.heap.size) := grownBy_trans (grownBy_trans (grownBy_trans (grownBy_set _ _ _ _) (grownBy_set _ _ _ _)) (grownBy_set _ _ _ _)) (grownBy_set _ _ _ _)
    clear HL
    have HL := hide (HL0.out.set hgr (k' := k) (f' := f) (t' := t) (c' := c) (by have := (((HL0.out.bp.set 0 (.int .i64 k)).set 1 (.int .i64 f)).set 2 (.int .i64 t)).set 3 (.int .i64 c); simpa using this))
    clear HL0 y0 y1 y2 y3 yf hgr
    generalize hWX : (((w2.setCell ⟨w.heap.size, 0, none⟩ (.int .i64 k)).setCell ⟨w.heap.size, 1, none⟩ (.int .i64 f)).setCell ⟨w.heap.size, 2, none⟩ (.int .i64 t)).setCell ⟨w.heap.size, 3, none⟩ (.int .i64 c) = WX at *
    clear hWX
    obtain ⟨b0, b1, b2, b3⟩ := HL.out.bp.cells4
    have HPO := hide (fun w' => placeOf_any w' ⟨k, f, t, c⟩)
    unfold Pn.val plV at HPO
    simp only at HPO
    go_upto_region 4 with (first | (go_at_call 44; refine (HPO.out _).mono ?_; rintro e w3 ⟨rfl, b3'⟩; have H3 := hide (HL.out.below b3'); clear b3') | fail)
    obtain ⟨W4, hW4⟩ : ∃ W4, W4 = w3.alloc (.cells #[.int .i64 k, .int .i64 f, .int .i64 t] 76) := ⟨_, rfl⟩
    rw [← hW4]
    have H4 : Hid (LI w W4 s m o 3 size slide ag fq fq' N R' k f t c) := (show LI _ _ _ _ _ _ _ _ _ _ _ _ _ _ _ _ _ by rw [hW4]; exact H3.out.below (below_box w3 _))
    have P4 : Hid (BoxT 76 W4 w3.heap.size #[.int .i64 k, .int .i64 f, .int .i64 t]) := (show BoxT _ _ _ _ by rw [hW4]; exact BoxT.new _ _ _)
    clear hW4 b0 b1 b2 b3 HPO
    have HK4 : Hid (∀ w', Below W4.heap.size W4 w' → L4 s m w3.heap.size k f t 0 false w') := fun w' hb => by
      have h1 := H4.out.below hb
      obtain ⟨p0, p1, p2⟩ := (BoxT.below (t := 76) P4.out hb).cells3
      obtain ⟨lk, hlk⟩ := HKEY.out
      exact ⟨h1.cells.2.1, p0, p1, p2, h1.mp.look_miss Try.lawPl Try.underlying63 (Try.zeroI w') hlk HNO.out true⟩
    refine wp_region_M (S := fun w' => L4 s m w3.heap.size k f t 0 false w') (late := []) (by kernel_rfl) (HK4.out _ (Below.refl _ _).drew) (fun hHeld => ?_)
    (try simp only [List.size_toArray, List.length_cons, List.length_nil, Nat.zero_add, Nat.reduceAdd, Array.replicate, List.replicate])
    refine wpAnyM_take (i := 0) (oi := ⟨_, _, _, _, _, _⟩) (v := ?_) rfl (by kernel_rfl) (by kernel_rfl) (by kernel_rfl) (by kernel_rfl) (fun _ _ _ h => h) (Or.inl ⟨by rfl, ?_⟩) hHeld ?_
    rotate_left
    · (intro w' hSw; unfold L4 at hSw; go_simp; try (with_reducible rfl))
    (try simp only [Act.put, List.setIfInBounds_toArray, List.set_cons_zero, List.set_cons_succ])
    refine wpAnyM_take (i := 1) (oi := ⟨_, _, _, _, _, _⟩) (v := ?_) rfl (by kernel_rfl) (by kernel_rfl) (by kernel_rfl) (by kernel_rfl) (fun _ _ _ h => h) (Or.inl ⟨by rfl, ?_⟩) hHeld ?_
    rotate_left
    · (intro w' hSw; unfold L4 at hSw; go_simp; try (with_reducible rfl))
    (try simp only [Act.put, List.setIfInBounds_toArray, List.set_cons_zero, List.set_cons_succ])
    refine wpAnyM_take (i := 2) (oi := ⟨_, _, _, _, _, _⟩) (v := ?_) rfl (by kernel_rfl) (by kernel_rfl) (by kernel_rfl) (by kernel_rfl) (fun _ _ _ h => h) (Or.inl ⟨by rfl, ?_⟩) hHeld ?_
    rotate_left
    · (intro w' hSw; unfold L4 at hSw; go_simp; try (with_reducible rfl))
    (try simp only [Act.put, List.setIfInBounds_toArray, List.set_cons_zero, List.set_cons_succ])
    refine wpAnyM_take (i := 3) (oi := ⟨_, _, _, _, _, _⟩) (v := ?_) rfl (by kernel_rfl) (by kernel_rfl) (by kernel_rfl) (by kernel_rfl) (fun _ _ _ h => h) (Or.inl ⟨by rfl, ?_⟩) hHeld ?_
    rotate_left
    · (intro w' hSw; unfold L4 at hSw; go_simp; try (with_reducible rfl))
    (try simp only [Act.put, List.setIfInBounds_toArray, List.set_cons_zero, List.set_cons_succ])
    refine wpAnyM_take (i := 4) (oi := ⟨_, _, _, _, _, _⟩) (v := ?_) rfl (by kernel_rfl) (by kernel_rfl) (by kernel_rfl) (by kernel_rfl) (fun _ _ _ h => h) (Or.inl ⟨by rfl, ?_⟩) hHeld ?_
    rotate_left
    · (intro w' hSw; unfold L4 at hSw; go_simp; try (with_reducible rfl))
    (try simp only [Act.put, List.setIfInBounds_toArray, List.set_cons_zero, List.set_cons_succ])
    refine wpAnyM_take (i := 5) (oi := ⟨_, _, _, _, _, _⟩) (v := ?_) rfl (by kernel_rfl) (by kernel_rfl) (by kernel_rfl) (by kernel_rfl) (fun _ _ _ h => h) (Or.inl ⟨by rfl, ?_⟩) hHeld ?_
    rotate_left
    · (intro w' hSw; unfold L4 at hSw; go_simp; try (with_reducible rfl))
    (try simp only [Act.put, List.setIfInBounds_toArray, List.set_cons_zero, List.set_cons_succ])
    refine wpAnyM_take (i := 6) (oi := ⟨_, _, _, _, _, _⟩) (v := ?_) rfl (by kernel_rfl) (by kernel_rfl) (by kernel_rfl) (by kernel_rfl) (fun _ _ _ h => h) (Or.inl ⟨by rfl, ?_⟩) hHeld ?_
    rotate_left
    · (intro w' hSw; unfold L4 at hSw; go_simp; try (with_reducible rfl))
    (try simp only [Act.put, List.setIfInBounds_toArray, List.set_cons_zero, List.set_cons_succ])
    refine wpAnyM_take (i := 7) (oi := ⟨_, _, _, _, _, _⟩) (v := ?_) rfl (by kernel_rfl) (by kernel_rfl) (by kernel_rfl) (by kernel_rfl) (fun _ _ _ h => h) (Or.inl ⟨by rfl, ?_⟩) hHeld ?_
    rotate_left
    · (intro w' hSw; unfold L4 at hSw; go_simp; try (with_reducible rfl))
    (try simp only [Act.put, List.setIfInBounds_toArray, List.set_cons_zero, List.set_cons_succ])
    refine wpAnyM_take (i := 8) (oi := ⟨_, _, _, _, _, _⟩) (v := ?_) rfl (by kernel_rfl) (by kernel_rfl) (by kernel_rfl) (by kernel_rfl) (fun _ _ _ h => h) (Or.inl ⟨by rfl, ?_⟩) hHeld ?_
    rotate_left
    · (intro w' hSw; unfold L4 at hSw; go_simp; try (with_reducible rfl))
    (try simp only [Act.put, List.setIfInBounds_toArray, List.set_cons_zero, List.set_cons_succ])
    refine wpAnyM_take (i := 9) (oi := ⟨_, _, _, _, _, _⟩) (v := ?_) rfl (by kernel_rfl) (by kernel_rfl) (by kernel_rfl) (by kernel_rfl) (fun _ _ _ h => h) (Or.inl ⟨by rfl, ?_⟩) hHeld ?_
    rotate_left
    · (intro w' hSw; unfold L4 at hSw; go_simp; try (with_reducible rfl))
    (try simp only [Act.put, List.setIfInBounds_toArray, List.set_cons_zero, List.set_cons_succ])
    refine wpAnyM_take (i := 10) (oi := ⟨_, _, _, _, _, _⟩) (v := ?_) rfl (by kernel_rfl) (by kernel_rfl) (by kernel_rfl) (by kernel_rfl) (fun _ _ _ h => h) (Or.inl ⟨by rfl, ?_⟩) hHeld ?_
    rotate_left
    · (intro w' hSw; unfold L4 at hSw; go_simp; try (with_reducible rfl))
    (try simp only [Act.put, List.setIfInBounds_toArray, List.set_cons_zero, List.set_cons_succ])
    refine wpAnyM_done (by kernel_rfl) ?_ _
    have H6 := hide (H4.out.below ((Below.refl _ _).drew))
    have P6 : Hid (BoxT 76 W4.drew w3.heap.size #[.int .i64 k, .int .i64 f, .int .i64 t]) := P4.out
    clear hHeld
    generalize hw6 : W4.drew = w6 at *
    clear hw6
    go_upto_region 7 with fail
    have H7 := hide (H6.out.below ((Below.refl _ _).drew))
    obtain ⟨lk, hlk⟩ := HKEY.out
    obtain ⟨w7, hrun7, hm7, ht7⟩ := H7.out.mp.store_new (v := .int .i64 c) Try.lawPl Try.underlying63 hlk HNO.out
    obtain ⟨_, e4, e3⟩ := H6.out.cells
    obtain ⟨p0, p1, p2⟩ := P6.out.cells3
    have hL7 : L7 s m w3.heap.size w.heap.size k f t c w7 := by
      have hne : ∀ {ty : TypeId} {i : Nat} {cs : Array Value}, BoxT ty w6.drew i cs → BoxT ty w7 i cs := fun {ty i cs} hb => by
        have h1 : i ≠ m := fun e => by
          obtain ⟨es, ck, h1⟩ := H7.out.mp.isMap
          unfold BoxT at hb
          rw [e, h1] at hb
          cases hb
        have h2 := ht7.other h1
        unfold BoxT at *
        rw [h2]; exact hb
      have q1 := hne H7.out.box
      have q2 := hne H7.out.bp
      have q3 := hne (ty := 76) P6.out
      obtain ⟨r0, r1, r2⟩ := q3.cells3
      obtain ⟨_, _, _, r3⟩ := q2.cells4
      exact ⟨by rw [q1.cellAt]; rfl, r0, r1, r2, r3⟩
    have HL7 := hide hL7
    have HM7 := hide (And.intro hm7 ht7)
    clear hL7 hm7 ht7
    refine wp_region_M (S := fun w' => L7 s m w3.heap.size w.heap.size k f t c w') (late := []) (by kernel_rfl) ⟨e4, p0, p1, p2, e3⟩ (fun hHeld => ?_)
    (try simp only [List.size_toArray, List.length_cons, List.length_nil, Nat.zero_add, Nat.reduceAdd, Array.replicate, List.replicate])
    refine wpAnyM_take (i := 0) (oi := ⟨_, _, _, _, _, _⟩) (v := ?_) rfl (by kernel_rfl) (by kernel_rfl) (by kernel_rfl) (by kernel_rfl) (fun _ _ _ h => h) (Or.inl ⟨by rfl, ?_⟩) hHeld ?_
    rotate_left
    · (intro w' hSw; unfold L7 at hSw; go_simp; try (with_reducible rfl))
    (try simp only [Act.put, List.setIfInBounds_toArray, List.set_cons_zero, List.set_cons_succ])
    refine wpAnyM_take (i := 1) (oi := ⟨_, _, _, _, _, _⟩) (v := ?_) rfl (by kernel_rfl) (by kernel_rfl) (by kernel_rfl) (by kernel_rfl) (fun _ _ _ h => h) (Or.inl ⟨by rfl, ?_⟩) hHeld ?_
    rotate_left
    · (intro w' hSw; unfold L7 at hSw; go_simp; try (with_reducible rfl))
    (try simp only [Act.put, List.setIfInBounds_toArray, List.set_cons_zero, List.set_cons_succ])
    refine wpAnyM_take (i := 2) (oi := ⟨_, _, _, _, _, _⟩) (v := ?_) rfl (by kernel_rfl) (by kernel_rfl) (by kernel_rfl) (by kernel_rfl) (fun _ _ _ h => h) (Or.inl ⟨by rfl, ?_⟩) hHeld ?_
    rotate_left
    · (intro w' hSw; unfold L7 at hSw; go_simp; try (with_reducible rfl))
    (try simp only [Act.put, List.setIfInBounds_toArray, List.set_cons_zero, List.set_cons_succ])
    refine wpAnyM_take (i := 3) (oi := ⟨_, _, _, _, _, _⟩) (v := ?_) rfl (by kernel_rfl) (by kernel_rfl) (by kernel_rfl) (by kernel_rfl) (fun _ _ _ h => h) (Or.inl ⟨by rfl, ?_⟩) hHeld ?_
    rotate_left
    · (intro w' hSw; unfold L7 at hSw; go_simp; try (with_reducible rfl))
    (try simp only [Act.put, List.setIfInBounds_toArray, List.set_cons_zero, List.set_cons_succ])
    refine wpAnyM_take (i := 4) (oi := ⟨_, _, _, _, _, _⟩) (v := ?_) rfl (by kernel_rfl) (by kernel_rfl) (by kernel_rfl) (by kernel_rfl) (fun _ _ _ h => h) (Or.inl ⟨by rfl, ?_⟩) hHeld ?_
    rotate_left
    · (intro w' hSw; unfold L7 at hSw; go_simp; try (with_reducible rfl))
    (try simp only [Act.put, List.setIfInBounds_toArray, List.set_cons_zero, List.set_cons_succ])
    refine wpAnyM_take (i := 5) (oi := ⟨_, _, _, _, _, _⟩) (v := ?_) rfl (by kernel_rfl) (by kernel_rfl) (by kernel_rfl) (by kernel_rfl) (fun _ _ _ h => h) (Or.inl ⟨by rfl, ?_⟩) hHeld ?_
    rotate_left
    · (intro w' hSw; unfold L7 at hSw; go_simp; try (with_reducible rfl))
    (try simp only [Act.put, List.setIfInBounds_toArray, List.set_cons_zero, List.set_cons_succ])
    refine wpAnyM_take (i := 6) (oi := ⟨_, _, _, _, _, _⟩) (v := ?_) rfl (by kernel_rfl) (by kernel_rfl) (by kernel_rfl) (by kernel_rfl) (fun _ _ _ h => h) (Or.inl ⟨by rfl, ?_⟩) hHeld ?_
    rotate_left
    · (intro w' hSw; unfold L7 at hSw; go_simp; try (with_reducible rfl))
    (try simp only [Act.put, List.setIfInBounds_toArray, List.set_cons_zero, List.set_cons_succ])
    refine wpAnyM_one (i := 7) (o := ⟨_, _, _, _, _, _⟩) (by kernel_rfl) rfl (fun K hK => ?_)
    refine step_put_run rfl _ _ _ 63 rfl _ _ _ rfl rfl rfl hrun7 ?_
    refine hK.out _ _ HL7.out (fun hHeld => ?_)
    clear hK K
    (try simp only [List.setIfInBounds_toArray, List.set_cons_zero, List.set_cons_succ])
    refine wpAnyM_done (by kernel_rfl) ?_ _
    go_wp2_with fail
    go_end0
    obtain ⟨e1, e2, e3⟩ := HEQ.out
    subst e1 e2 e3
    have hnew : (⟨k, f, t, c⟩ :: N : List Pn).map pEnt = (plV ⟨k, f, t, c⟩, .int .i64 c) :: N.map pEnt := rfl
    obtain ⟨q1, q2⟩ := H7.out.fin (N' := ⟨k, f, t, c⟩ :: N) (by rw [hnew]; exact HM7.out.1) HM7.out.2 (fun y hy => by
      rcases List.mem_cons.1 hy with rfl | hy
      · exact HP.out
      · exact HST.out.ok y hy) (inv_more HST.out.inv (by have := HBF.out; omega))
    exact ⟨rfl, _, _, _, q1, q2, by simp⟩

theorem lay_w {w : World} {s m o : Nat} {kd size slide ag : Int} {fq : Nat → Prop} {M : List Pn} {R : List SRow} (h : StAt w s m o kd size slide ag fq M R) {k f t c : Int} (hp : PnOk ⟨k, f, t, c⟩) (hM : M.length ≤ 100000) :
    Calls Try.prog 32 #[.pointer (some ⟨s, 0, none⟩), .agg #[.int .i64 k, .int .i64 f, .int .i64 t, .int .i64 c]] w (WPost w s m o kd size slide ag fq M) := by
  by_cases hb : kd = 3 ∧ ¬ f < t
  · obtain ⟨rfl, hb⟩ := hb
    exact lay_bad h hp hb
  · refine (lay_any h hp (fun e => Decidable.of_not_not (fun hn => hb ⟨e, hn⟩)) hM).mono ?_
    rintro e w' ⟨rfl, fq', M', R', h1, h2, h3⟩
    exact ⟨rfl, fq', M', R', h1, h2, h3.1.len⟩
end Go.Proofs.Ytdoldohcimbdaaa
