/-
  The document's Into, walked.
-/
import Derived.Test.YtlikikiglicdlaaWMerge
import Derived.Test.YtlikikiglicdlaaWPure3
namespace Go.Proofs.Ytlikikiglicdlaa
open Go.RowKit

/-- What Into has made ahead of its loop. -/
structure I0 (w wr : World) (k size slide rk sf st acc : Int) : Prop where
  bel : Below w.heap.size w wr
  win : BoxT 23 wr w.heap.size #[.int .i64 k, .int .i64 size, .int .i64 slide]
  sp : BoxT 31 wr (w.heap.size + 2) #[.int .i64 sf, .int .i64 st]
  p : BoxT 46 wr (w.heap.size + 3) #[.int .i64 rk, .int .i64 sf, .int .i64 st, .int .i64 acc]
theorem I0.below {w wr w' : World} {k size slide rk sf st acc : Int} (h : I0 w wr k size slide rk sf st acc) (hb : Below wr.heap.size wr w') : I0 w w' k size slide rk sf st acc :=
  ⟨h.bel.trans (hb.mono h.bel.size), BoxT.below (t := 23) h.win hb, BoxT.below (t := 31) h.sp hb, BoxT.below (t := 46) h.p hb⟩
theorem I0.grown {w wr w' : World} {k size slide rk sf st acc : Int} {r : Option Nat} (h : I0 w wr k size slide rk sf st acc) (hg : wr.grownBy w' r) (hr : ∀ g, r = some g → w.heap.size + 4 ≤ g) : I0 w w' k size slide rk sf st acc := by
  have h1 := h.win.lt
  have h2 := h.sp.lt
  have h3 := h.p.lt
  have hne : ∀ b, b < w.heap.size + 4 → some b ≠ r := fun b hb e => by have := hr b e.symm; omega
  refine ⟨h.bel.grown hg h.bel.size (fun g e => by have := hr g e; omega), ?_, ?_, ?_⟩
  · have := h.win; unfold BoxT at *; rw [hg.block _ h1 (hne _ (by omega))]; exact this
  · have := h.sp; unfold BoxT at *; rw [hg.block _ h2 (hne _ (by omega))]; exact this
  · have := h.p; unfold BoxT at *; rw [hg.block _ h3 (hne _ (by omega))]; exact this
/-- What Into has come to, pure. -/
structure IP (a rk sf st : Int) (p0 : Pn) (l out : List Pn) (acc : Int) (i : Nat) : Prop where
  red : Reds false (jn a) (p0 :: l) (⟨rk, sf, st, acc⟩ :: (out ++ l.drop i))
  sub : (out ++ l.drop i).Sublist l
  no : ∀ x ∈ out, ¬ (x.k = rk ∧ x.f = sf ∧ x.t = st)
theorem IP.met {a rk sf st acc xa : Int} {p0 : Pn} {l out : List Pn} {i : Nat} (h : IP a rk sf st p0 l out acc i) (hx : l[i]? = some ⟨rk, sf, st, xa⟩) : IP a rk sf st p0 l out (jn a acc xa) (i + 1) := by
  refine ⟨h.red.trans ?_, sub_step hx h.sub, h.no⟩
  rw [drop_at hx]
  have e : jp (jn a) (⟨rk, sf, st, acc⟩ : Pn) ⟨rk, sf, st, xa⟩ = ⟨rk, sf, st, jn a acc xa⟩ := Pn.same rfl (by simp [jp]) (by simp [jp]) rfl
  rw [← e]
  refine (Reds.of_perm ?_).trans (Reds.pair (out ++ l.drop (i + 1)) ⟨rfl, .inr ⟨rfl, rfl, rfl⟩⟩)
  exact .cons _ List.perm_middle
theorem IP.past {a rk sf st acc : Int} {p0 x : Pn} {l out : List Pn} {i : Nat} (h : IP a rk sf st p0 l out acc i) (hx : l[i]? = some x) (hm : ¬ (x.k = rk ∧ x.f = sf ∧ x.t = st)) : IP a rk sf st p0 l (out ++ [x]) acc (i + 1) := by
  have e : out ++ l.drop i = (out ++ [x]) ++ l.drop (i + 1) := by rw [drop_at hx]; simp
  refine ⟨e ▸ h.red, e ▸ h.sub, fun y hy => ?_⟩
  rcases List.mem_append.1 hy with hy | hy
  · exact h.no y hy
  · obtain rfl := List.mem_singleton.1 hy; exact hm
theorem IP.start (a rk sf st acc : Int) (l : List Pn) : IP a rk sf st ⟨rk, sf, st, acc⟩ l [] acc 0 :=
  ⟨by simpa using Reds.refl _, by simp, fun x hx => by simp at hx⟩
theorem IP.ends {a rk sf st acc : Int} {p0 : Pn} {l out : List Pn} (h : IP a rk sf st p0 l out acc l.length) (hap : Apart false l) : Comes false (jn a) (p0 :: l) (srt (out ++ [⟨rk, sf, st, acc⟩])) := by
  have h1 := h.sub
  have h2 := h.red
  rw [List.drop_length, List.append_nil] at h1 h2
  have hp : (⟨rk, sf, st, acc⟩ :: out).Perm (srt (out ++ [⟨rk, sf, st, acc⟩])) := ((srt_perm _).trans (List.perm_append_singleton _ out)).symm
  refine ⟨h2.perm (.refl _) hp, Apart.perm (List.Pairwise.cons (fun x hx hm => h.no x hx ?_) (List.Pairwise.sublist h1 hap)) hp⟩
  obtain ⟨e1, ⟨e2, _⟩ | ⟨_, e3, e4⟩⟩ := hm
  · cases e2
  · exact ⟨e1.symm, e3.symm, e4.symm⟩
theorem I0.acc {w wr : World} {k size slide rk sf st acc : Int} (h : I0 w wr k size slide rk sf st acc) {PB : Nat} (hPB : PB = w.heap.size + 3) (c : Int) : I0 w (wr.setCell ⟨PB, 3, none⟩ (.int .i64 c)).drew k size slide rk sf st c := by
  subst hPB
  have hs : ∀ b, b ≠ w.heap.size + 3 → (wr.setCell ⟨w.heap.size + 3, 3, none⟩ (.int .i64 c)).drew.heap[b]? = wr.heap[b]? := fun b hb => Below.heap_setCell wr ⟨w.heap.size + 3, 3, none⟩ _ b hb
  refine ⟨h.bel.trans ⟨rfl, rfl, rfl, by simp, fun i hi => hs i (by omega)⟩, ?_, ?_, ?_⟩
  · have := h.win; unfold BoxT at *; rw [hs _ (by omega)]; exact this
  · have := h.sp; unfold BoxT at *; rw [hs _ (by omega)]; exact this
  · have := BoxT.set (t := 46) h.p 3 (.int .i64 c)
    have h2 : BoxT 46 (wr.setCell ⟨w.heap.size + 3, 3, none⟩ (.int .i64 c)) (w.heap.size + 3) #[.int .i64 rk, .int .i64 sf, .int .i64 st, .int .i64 c] := by simpa using this
    exact h2
theorem OwnL.accOff {w wr : World} {v : Value} {xs : List Pn} (h : OwnL 46 4 Pn.cs (w.heap.size + 4) wr v xs) {PB : Nat} (hPB : PB = w.heap.size + 3) (c : Value) : OwnL 46 4 Pn.cs (w.heap.size + 4) (wr.setCell ⟨PB, 3, none⟩ c).drew v xs :=
  h.back (fun g e => Below.heap_setCell wr ⟨PB, 3, none⟩ _ g (by have := h.at g e; show g ≠ PB; omega))
def IPost (w : World) (k a : Int) (p0 : Pn) (l : List Pn) (e : Ending) (w' : World) : Prop := ∃ u M, e = .returned u ∧ LSeg 4 Pn.cs w'.heap.size w' u M ∧ Below w.heap.size w w' ∧ Rising M ∧ Comes (sess k) (jn a) (p0 :: l) M
set_option maxHeartbeats 32000000 in
set_option maxRecDepth 100000 in
theorem rInto_any {w : World} {v : Value} {l : List Pn} (hl : LSeg 4 Pn.cs w.heap.size w v l) (hn : l.length ≤ 50000) (k size slide a rk rt rv sf st : Int) (hap : Apart (sess k) l) (hfu : k = 3 → sf < st ∧ ∀ x ∈ l, Full x) :
    Calls Try.prog 34 #[.agg #[.int .i64 k, .int .i64 size, .int .i64 slide], .int .i64 a, v, .agg #[.int .i64 rk, .int .i64 rt, .int .i64 rv], .agg #[.int .i64 sf, .int .i64 st]] w (IPost w k a ⟨rk, sf, st, ad a (zr a) rv⟩ l) := by
  obtain ⟨ao, cap, rfl⟩ := hl.shapeOf
  have HL := hide hl
  have HAP := hide hap
  have HFU := hide hfu
  have HZR := hide (fun W => RZero_any W a)
  have HAD := hide (fun W => RAdd_any W a (zr a) rv)
  clear hl hap hfu
  obtain ⟨z0, hz0⟩ : ∃ z0, zr a = z0 := ⟨_, rfl⟩
  rw [hz0] at HZR HAD ⊢
  obtain ⟨acc, hacc⟩ : ∃ acc, ad a z0 rv = acc := ⟨_, rfl⟩
  rw [hacc] at HAD ⊢
  clear hz0 hacc
  go_enter Try.func34, Try.ntmps34
  go_upto_region 1 with fail
  obtain ⟨W1, hW1⟩ : ∃ W1, W1 = ((w.alloc (.cells #[.int .i64 k, .int .i64 size, .int .i64 slide] 23)).alloc (.cells #[.int .i64 rk, .int .i64 rt, .int .i64 rv] 37)).alloc (.cells #[.int .i64 sf, .int .i64 st] 31) := ⟨_, rfl⟩
  rw [← hW1]
  have hZ1 : W1.heap.size = w.heap.size + 3 := by rw [hW1]; simp
  have hB1 : Below w.heap.size w W1 := by
    rw [hW1]
    exact (((Below.refl _ _).alloc (Nat.le_refl _) _).alloc (by simp) _).alloc (by simp; omega) _
  have hX1 : BoxT 23 W1 w.heap.size #[.int .i64 k, .int .i64 size, .int .i64 slide] := by
    rw [hW1]; exact BoxT.alloc (t := 23) (BoxT.alloc (t := 23) (BoxT.new 23 w _) _) _
  have hX2 : BoxT 37 W1 (w.heap.size + 1) #[.int .i64 rk, .int .i64 rt, .int .i64 rv] := by
    rw [hW1]
    have h1 := BoxT.new 37 (w.alloc (.cells #[.int .i64 k, .int .i64 size, .int .i64 slide] 23)) #[.int .i64 rk, .int .i64 rt, .int .i64 rv]
    have e : (w.alloc (.cells #[.int .i64 k, .int .i64 size, .int .i64 slide] 23)).heap.size = w.heap.size + 1 := by simp
    rw [e] at h1
    exact BoxT.alloc (t := 37) h1 _
  have hX3 : BoxT 31 W1 (w.heap.size + 2) #[.int .i64 sf, .int .i64 st] := by
    rw [hW1]
    have h1 := BoxT.new 31 ((w.alloc (.cells #[.int .i64 k, .int .i64 size, .int .i64 slide] 23)).alloc (.cells #[.int .i64 rk, .int .i64 rt, .int .i64 rv] 37)) #[.int .i64 sf, .int .i64 st]
    simpa using h1
  have KC : Hid (∀ w' : World, Below W1.heap.size W1 w' → w'.cell? ⟨w.heap.size + 1, 0, none⟩ = some (.int .i64 rk) ∧ w'.cell? ⟨w.heap.size + 1, 2, none⟩ = some (.int .i64 rv) ∧ w'.cell? ⟨w.heap.size + 2, 0, none⟩ = some (.int .i64 sf) ∧ w'.cell? ⟨w.heap.size + 2, 1, none⟩ = some (.int .i64 st)) := (show ∀ w' : World, _ from fun w' h => by
    have h2 := BoxT.below (t := 37) hX2 h
    have h3 := BoxT.below (t := 31) hX3 h
    exact ⟨by rw [h2.cellAt]; rfl, by rw [h2.cellAt]; rfl, by rw [h3.cellAt]; rfl, by rw [h3.cellAt]; rfl⟩)
  have HBF := hide (below_box W1 (.cells #[.int .i64 rk, .int .i64 sf, .int .i64 st, .int .i64 acc] 46)).drew
  have HI0 : Hid (I0 w (W1.alloc (.cells #[.int .i64 rk, .int .i64 sf, .int .i64 st, .int .i64 acc] 46)).drew k size slide rk sf st acc) := (show I0 _ _ _ _ _ _ _ _ _ from ⟨hB1.trans (HBF.out.mono hB1.size), BoxT.below (t := 23) hX1 HBF.out, BoxT.below (t := 31) hX3 HBF.out, by
    have h1 := BoxT.new 46 W1 #[.int .i64 rk, .int .i64 sf, .int .i64 st, .int .i64 acc]
    rw [hZ1] at h1
    exact h1⟩)
  have HZ1 := hide hZ1
  clear hW1 hB1 hX1 hX2 hX3
  clear hZ1
  go_cut [11] from 14 to 23 (fun p11 wc => p11 = .pointer (some ⟨W1.heap.size, 0, none⟩) ∧ Hid (I0 w wc k size slide rk sf st acc))
  case first =>
    refine wp_region_M (S := fun w' => w'.cell? ⟨w.heap.size + 1, 0, none⟩ = some (.int .i64 rk) ∧ w'.cell? ⟨w.heap.size + 1, 2, none⟩ = some (.int .i64 rv) ∧ w'.cell? ⟨w.heap.size + 2, 0, none⟩ = some (.int .i64 sf) ∧ w'.cell? ⟨w.heap.size + 2, 1, none⟩ = some (.int .i64 st)) (late := []) (by kernel_rfl) (KC.out _ ((Below.refl _ _).drew)) (fun hHeld => ?_)
    (try simp only [List.size_toArray, List.length_cons, List.length_nil, Nat.zero_add, Nat.reduceAdd, Array.replicate, List.replicate])
    refine wpAnyM_take (i := 0) (oi := ⟨_, _, _, _, _, _⟩) (v := ?_) rfl (by kernel_rfl) (by kernel_rfl) (by kernel_rfl) (by kernel_rfl) (fun _ _ _ h => h) (Or.inl ⟨by rfl, ?_⟩) hHeld ?_
    rotate_left
    · (intro w' hSw; (try dsimp only at hSw); go_simp; try (with_reducible rfl))
    (try simp only [Act.put, List.setIfInBounds_toArray, List.set_cons_zero, List.set_cons_succ])
    refine wpAnyM_take (i := 1) (oi := ⟨_, _, _, _, _, _⟩) (v := ?_) rfl (by kernel_rfl) (by kernel_rfl) (by kernel_rfl) (by kernel_rfl) (fun _ _ _ h => h) (Or.inl ⟨by rfl, ?_⟩) hHeld ?_
    rotate_left
    · (intro w' hSw; (try dsimp only at hSw); go_simp; try (with_reducible rfl))
    (try simp only [Act.put, List.setIfInBounds_toArray, List.set_cons_zero, List.set_cons_succ])
    refine wpAnyM_take (i := 2) (oi := ⟨_, _, _, _, _, _⟩) (v := ?_) rfl (by kernel_rfl) (by kernel_rfl) (by kernel_rfl) (by kernel_rfl) (fun _ _ _ h => h) (Or.inl ⟨by rfl, ?_⟩) hHeld ?_
    rotate_left
    · (intro w' hSw; (try dsimp only at hSw); go_simp; try (with_reducible rfl))
    (try simp only [Act.put, List.setIfInBounds_toArray, List.set_cons_zero, List.set_cons_succ])
    refine wpAnyM_take (i := 3) (oi := ⟨_, _, _, _, _, _⟩) (v := ?_) rfl (by kernel_rfl) (by kernel_rfl) (by kernel_rfl) (by kernel_rfl) (fun _ _ _ h => h) (Or.inl ⟨by rfl, ?_⟩) hHeld ?_
    rotate_left
    · (intro w' hSw; (try dsimp only at hSw); go_simp; try (with_reducible rfl))
    (try simp only [Act.put, List.setIfInBounds_toArray, List.set_cons_zero, List.set_cons_succ])
    refine wpAnyM_take (i := 4) (oi := ⟨_, _, _, _, _, _⟩) (v := ?_) rfl (by kernel_rfl) (by kernel_rfl) (by kernel_rfl) (by kernel_rfl) (fun _ _ _ h => h) (Or.inl ⟨by rfl, ?_⟩) hHeld ?_
    rotate_left
    · (intro w' hSw; (try dsimp only at hSw); go_simp; try (with_reducible rfl))
    (try simp only [Act.put, List.setIfInBounds_toArray, List.set_cons_zero, List.set_cons_succ])
    refine wpAnyM_take (i := 6) (oi := ⟨_, _, _, _, _, _⟩) (v := ?_) rfl (by kernel_rfl) (by kernel_rfl) (by kernel_rfl) (by kernel_rfl) (fun _ _ _ h => h) (Or.inl ⟨by rfl, ?_⟩) hHeld ?_
    rotate_left
    · (intro w' hSw; (try dsimp only at hSw); go_simp; try (with_reducible rfl))
    (try simp only [Act.put, List.setIfInBounds_toArray, List.set_cons_zero, List.set_cons_succ])
    refine wpAnyM_take (i := 7) (oi := ⟨_, _, _, _, _, _⟩) (v := ?_) rfl (by kernel_rfl) (by kernel_rfl) (by kernel_rfl) (by kernel_rfl) (fun _ _ _ h => h) (Or.inl ⟨by rfl, ?_⟩) hHeld ?_
    rotate_left
    · (intro w' hSw; (try dsimp only at hSw); go_simp; try (with_reducible rfl))
    (try simp only [Act.put, List.setIfInBounds_toArray, List.set_cons_zero, List.set_cons_succ])
    refine wpAnyM_two (i := 5) (j := 10) (oi := ⟨_, _, _, _, _, _⟩) (oj := ⟨_, _, _, _, _, _⟩) (by kernel_rfl) rfl rfl (fun K hK => ?_) (fun K hK => ?_)
    · go_simp
      go_at_call 47
      refine (HZR.out _).mono ?_
      rintro e w7 ⟨rfl, e7⟩
      subst e7
      refine hK.out _ _ hHeld (fun hHeld => ?_)
      clear hK K
      (try simp only [List.setIfInBounds_toArray, List.set_cons_zero, List.set_cons_succ])
      refine wpAnyM_two (i := 8) (j := 10) (oi := ⟨_, _, _, _, _, _⟩) (oj := ⟨_, _, _, _, _, _⟩) (by kernel_rfl) rfl rfl (fun K hK => ?_) (fun K hK => ?_)
      · go_simp
        go_at_call 46
        refine (HAD.out _).mono ?_
        rintro e w7 ⟨rfl, e7⟩
        subst e7
        refine hK.out _ _ hHeld (fun hHeld => ?_)
        clear hK K
        (try simp only [List.setIfInBounds_toArray, List.set_cons_zero, List.set_cons_succ])
        refine wpAnyM_take (i := 9) (oi := ⟨_, _, _, _, _, _⟩) (v := ?_) rfl (by kernel_rfl) (by kernel_rfl) (by kernel_rfl) (by kernel_rfl) (fun _ _ _ h => h) (Or.inl ⟨by rfl, ?_⟩) hHeld ?_
        rotate_left
        · (intro w' hSw; (try dsimp only at hSw); go_simp; try (with_reducible rfl))
        (try simp only [Act.put, List.setIfInBounds_toArray, List.set_cons_zero, List.set_cons_succ])
        refine wpAnyM_one (i := 10) (o := ⟨_, _, _, _, _, _⟩) (by kernel_rfl) rfl (fun K hK => ?_)
        go_simp
        refine hK.out _ _ (KC.out _ ((below_box _ _).drew)) (fun hHeld => ?_)
        clear hK K
        (try simp only [List.setIfInBounds_toArray, List.set_cons_zero, List.set_cons_succ])
        refine wpAnyM_one (i := 11) (o := ⟨_, _, _, _, _, _⟩) (by kernel_rfl) rfl (fun K hK => ?_)
        go_simp
        refine hK.out _ _ (KC.out _ HBF.out) (fun hHeld => ?_)
        clear hK K
        (try simp only [List.setIfInBounds_toArray, List.set_cons_zero, List.set_cons_succ])
        refine wpAnyM_done (by kernel_rfl) ?_ _
        go_wp2_with fail
        go_meet
        case rel => exact ⟨rfl, HI0.out⟩
      · go_simp
        refine hK.out _ _ (KC.out _ ((below_box _ _).drew)) (fun hHeld => ?_)
        clear hK K
        (try simp only [List.setIfInBounds_toArray, List.set_cons_zero, List.set_cons_succ])
        refine wpAnyM_one (i := 8) (o := ⟨_, _, _, _, _, _⟩) (by kernel_rfl) rfl (fun K hK => ?_)
        go_simp
        go_at_call 46
        refine (HAD.out _).mono ?_
        rintro e w7 ⟨rfl, e7⟩
        subst e7
        refine hK.out _ _ hHeld (fun hHeld => ?_)
        clear hK K
        (try simp only [List.setIfInBounds_toArray, List.set_cons_zero, List.set_cons_succ])
        refine wpAnyM_take (i := 9) (oi := ⟨_, _, _, _, _, _⟩) (v := ?_) rfl (by kernel_rfl) (by kernel_rfl) (by kernel_rfl) (by kernel_rfl) (fun _ _ _ h => h) (Or.inl ⟨by rfl, ?_⟩) hHeld ?_
        rotate_left
        · (intro w' hSw; (try dsimp only at hSw); go_simp; try (with_reducible rfl))
        (try simp only [Act.put, List.setIfInBounds_toArray, List.set_cons_zero, List.set_cons_succ])
        refine wpAnyM_one (i := 11) (o := ⟨_, _, _, _, _, _⟩) (by kernel_rfl) rfl (fun K hK => ?_)
        go_simp
        refine hK.out _ _ (KC.out _ HBF.out) (fun hHeld => ?_)
        clear hK K
        (try simp only [List.setIfInBounds_toArray, List.set_cons_zero, List.set_cons_succ])
        refine wpAnyM_done (by kernel_rfl) ?_ _
        go_wp2_with fail
        go_meet
        case rel => exact ⟨rfl, HI0.out⟩
    · go_simp
      refine hK.out _ _ (KC.out _ ((below_box _ _).drew)) (fun hHeld => ?_)
      clear hK K
      (try simp only [List.setIfInBounds_toArray, List.set_cons_zero, List.set_cons_succ])
      refine wpAnyM_one (i := 5) (o := ⟨_, _, _, _, _, _⟩) (by kernel_rfl) rfl (fun K hK => ?_)
      go_simp
      go_at_call 47
      refine (HZR.out _).mono ?_
      rintro e w7 ⟨rfl, e7⟩
      subst e7
      refine hK.out _ _ hHeld (fun hHeld => ?_)
      clear hK K
      (try simp only [List.setIfInBounds_toArray, List.set_cons_zero, List.set_cons_succ])
      refine wpAnyM_one (i := 8) (o := ⟨_, _, _, _, _, _⟩) (by kernel_rfl) rfl (fun K hK => ?_)
      go_simp
      go_at_call 46
      refine (HAD.out _).mono ?_
      rintro e w7 ⟨rfl, e7⟩
      subst e7
      refine hK.out _ _ hHeld (fun hHeld => ?_)
      clear hK K
      (try simp only [List.setIfInBounds_toArray, List.set_cons_zero, List.set_cons_succ])
      refine wpAnyM_take (i := 9) (oi := ⟨_, _, _, _, _, _⟩) (v := ?_) rfl (by kernel_rfl) (by kernel_rfl) (by kernel_rfl) (by kernel_rfl) (fun _ _ _ h => h) (Or.inl ⟨by rfl, ?_⟩) hHeld ?_
      rotate_left
      · (intro w' hSw; (try dsimp only at hSw); go_simp; try (with_reducible rfl))
      (try simp only [Act.put, List.setIfInBounds_toArray, List.set_cons_zero, List.set_cons_succ])
      refine wpAnyM_one (i := 11) (o := ⟨_, _, _, _, _, _⟩) (by kernel_rfl) rfl (fun K hK => ?_)
      go_simp
      refine hK.out _ _ (KC.out _ HBF.out) (fun hHeld => ?_)
      clear hK K
      (try simp only [List.setIfInBounds_toArray, List.set_cons_zero, List.set_cons_succ])
      refine wpAnyM_done (by kernel_rfl) ?_ _
      go_wp2_with fail
      go_meet
      case rel => exact ⟨rfl, HI0.out⟩
  case rest =>
    obtain ⟨rfl, HI⟩ := hcut
    clear KC HBF HI0 HZR HAD
    generalize W1.heap.size = PB at *
    have HP0 : Hid (∀ (wr : World) (ac : Int), I0 w wr k size slide rk sf st ac → BoxT 46 wr PB #[.int .i64 rk, .int .i64 sf, .int .i64 st, .int .i64 ac]) := (show ∀ (wr : World) (ac : Int), _ from fun _ _ h => by rw [HZ1.out]; exact h.p)
    obtain ⟨w0, w1, w2⟩ := HI.out.win.cells3
    by_cases hk3 : k = 3
    · as_aux_lemma =>
      obtain ⟨q0, q1, q2, q3⟩ := (HP0.out _ _ HI.out).cells4
      have HME := hide (rmerge_any (p0 := ⟨rk, sf, st, acc⟩) ((HL.out.below HI.out.bel).mono HI.out.bel.size) hn (HFU.out hk3).2 (HFU.out hk3).1 a)
      have HV : Hid ((⟨rk, sf, st, acc⟩ : Pn).val = .agg #[.int .i64 rk, .int .i64 sf, .int .i64 st, .int .i64 acc]) := (show _ = _ from rfl)
      rw [HV.out] at HME
      have HSE : Hid (sess k = true) := (show _ = _ by unfold sess; simp [hk3])
      have hkb : (k == 3) = true := by simpa using hk3
      clear HV hk3
      go_wp2_with (first | (go_at_call 41; refine HME.out.mono ?_; rintro e w5 ⟨u5, M5, rfl, o5, b5, r5, d5, p5⟩; have O5 := hide o5; have B5 := hide b5; have R5 := hide r5; have D5 := hide d5; have P5 := hide p5; clear o5 b5 r5 d5 p5) | fail)
      go_ret
      refine ⟨_, M5, rfl, O5.out.seg Pn.cs_len (by have h1 := D5.out.len; simp at h1; omega), HI.out.bel.trans (B5.out.mono HI.out.bel.size), R5.out, ?_⟩
      have hap := HAP.out
      rw [HSE.out] at hap ⊢
      exact ⟨D5.out, P5.out hap⟩
    · have hkb : (k == 3) = false := by simpa using hk3
      have HSE : Hid (sess k = false) := (show _ = _ by unfold sess; simp [hk3])
      clear hk3
      go_wp2_with fail
      go_loopg [12, 13] (l.length + 1) (fun gh ov iv wr => ∃ (i : Nat) (out : List Pn) (ac : Int), iv = .int .i64 (i : Int) ∧ i ≤ l.length ∧ l.length + 1 ≤ gh + i ∧ Hid (I0 w wr k size slide rk sf st ac) ∧ Hid (OwnL 46 4 Pn.cs (w.heap.size + 4) wr ov out) ∧ Hid (IP a rk sf st ⟨rk, sf, st, acc⟩ l out ac i))
      case atStart => exact ⟨0, [], acc, rfl, by omega, by omega, HI, OwnL.nil _ _ _ _ _, (show IP _ _ _ _ _ _ _ _ _ from IP.start a rk sf st acc l)⟩
      case round =>
        clear HI w0 w1 w2
        obtain ⟨i, out, ac, rfl, hi, hg, GI, GO, GP⟩ := hrel
        obtain ⟨go, rfl⟩ : ∃ go, gk = go + 1 := ⟨gk - 1, by omega⟩
        obtain ⟨oa, oc, rfl⟩ := GO.out.shape
        have HOL : Hid (out.length ≤ 50000) := (show _ ≤ _ by have h1 := GP.out.sub.length_le; rw [List.length_append] at h1; omega)
        have HZW : Hid (w.heap.size + 4 ≤ wr.heap.size) := (show _ ≤ _ from GI.out.p.lt)
        by_cases hlt : i < l.length
        · obtain ⟨x, hx⟩ := get_of_lt hlt
          have bt : (i : Int) < (l.length : Int) := by omega
          obtain ⟨nb, no, rfl, nlt, e0, e1, e2, e3⟩ := (HL.out.below GI.out.bel).pane hx
          have HX := hide hx
          have HNB := hide nlt
          have HE := hide (And.intro e0 (And.intro e1 (And.intro e2 e3)))
          obtain ⟨xk, xf, xt, xa⟩ := x
          simp only at HE e0 e1 e2 e3
          have KC : Hid (∀ w' : World, Below wr.heap.size wr w' → w'.cell? ⟨nb, no + i * 4, none⟩ = some (.int .i64 xk) ∧ w'.cell? ⟨nb, no + i * 4 + 1, none⟩ = some (.int .i64 xf) ∧ w'.cell? ⟨nb, no + i * 4 + 2, none⟩ = some (.int .i64 xt) ∧ w'.cell? ⟨nb, no + i * 4 + 3, none⟩ = some (.int .i64 xa) ∧ w'.cell? ⟨PB, 0, none⟩ = some (.int .i64 rk) ∧ w'.cell? ⟨PB, 3, none⟩ = some (.int .i64 ac) ∧ w'.cell? ⟨w.heap.size + 1 + 1, 0, none⟩ = some (.int .i64 sf) ∧ w'.cell? ⟨w.heap.size + 1 + 1, 1, none⟩ = some (.int .i64 st)) := (show ∀ w' : World, _ from fun w' h => by
            have h2 := BoxT.below (t := 46) (HP0.out _ _ GI.out) h
            have h3 := BoxT.below (t := 31) GI.out.sp h
            have hlt2 : nb < wr.heap.size := by have := HNB.out; have := HZW.out; omega
            exact ⟨(h.cell (p := ⟨nb, no + i * 4, none⟩) hlt2).trans HE.out.1, (h.cell (p := ⟨nb, no + i * 4 + 1, none⟩) hlt2).trans HE.out.2.1, (h.cell (p := ⟨nb, no + i * 4 + 2, none⟩) hlt2).trans HE.out.2.2.1, (h.cell (p := ⟨nb, no + i * 4 + 3, none⟩) hlt2).trans HE.out.2.2.2, by rw [h2.cellAt]; rfl, by rw [h2.cellAt]; rfl, by rw [show w.heap.size + 1 + 1 = w.heap.size + 2 from rfl, h3.cellAt]; rfl, by rw [show w.heap.size + 1 + 1 = w.heap.size + 2 from rfl, h3.cellAt]; rfl⟩)
          clear hx nlt e0 e1 e2 e3
          by_cases hk : xk = rk
          · by_cases hs : xf = sf ∧ xt = st
            · as_aux_lemma =>
              obtain ⟨rfl, rfl⟩ := hs
              subst hk
              have HIP := hide (GP.out.met HX.out)
              have HMG := hide (fun W => RMerge_any W a ac xa)
              obtain ⟨ja, hja⟩ : ∃ ja, jn a ac xa = ja := ⟨_, rfl⟩
              rw [hja] at HIP HMG
              clear hja
              go_wp2_with fail
              refine wp_region_M (S := fun w' => w'.cell? ⟨nb, no + i * 4, none⟩ = some (.int .i64 xk) ∧ w'.cell? ⟨nb, no + i * 4 + 1, none⟩ = some (.int .i64 xf) ∧ w'.cell? ⟨nb, no + i * 4 + 2, none⟩ = some (.int .i64 xt) ∧ w'.cell? ⟨nb, no + i * 4 + 3, none⟩ = some (.int .i64 xa) ∧ w'.cell? ⟨PB, 0, none⟩ = some (.int .i64 xk) ∧ w'.cell? ⟨PB, 3, none⟩ = some (.int .i64 ac) ∧ w'.cell? ⟨w.heap.size + 1 + 1, 0, none⟩ = some (.int .i64 xf) ∧ w'.cell? ⟨w.heap.size + 1 + 1, 1, none⟩ = some (.int .i64 xt)) (late := []) (by kernel_rfl) (KC.out _ ((Below.refl _ _).drew)) (fun hHeld => ?_)
              (try simp only [List.size_toArray, List.length_cons, List.length_nil, Nat.zero_add, Nat.reduceAdd, Array.replicate, List.replicate])
              refine wpAnyM_take (i := 0) (oi := ⟨_, _, _, _, _, _⟩) (v := ?_) rfl (by kernel_rfl) (by kernel_rfl) (by kernel_rfl) (by kernel_rfl) (fun _ _ _ h => h) (Or.inl ⟨by rfl, ?_⟩) hHeld ?_
              rotate_left
              · (intro w' hSw; (try dsimp only at hSw); go_simp; try (with_reducible rfl))
              (try simp only [Act.put, List.setIfInBounds_toArray, List.set_cons_zero, List.set_cons_succ])
              refine wpAnyM_take (i := 1) (oi := ⟨_, _, _, _, _, _⟩) (v := ?_) rfl (by kernel_rfl) (by kernel_rfl) (by kernel_rfl) (by kernel_rfl) (fun _ _ _ h => h) (Or.inl ⟨by rfl, ?_⟩) hHeld ?_
              rotate_left
              · (intro w' hSw; (try dsimp only at hSw); go_simp; try (with_reducible rfl))
              (try simp only [Act.put, List.setIfInBounds_toArray, List.set_cons_zero, List.set_cons_succ])
              refine wpAnyM_take (i := 2) (oi := ⟨_, _, _, _, _, _⟩) (v := ?_) rfl (by kernel_rfl) (by kernel_rfl) (by kernel_rfl) (by kernel_rfl) (fun _ _ _ h => h) (Or.inl ⟨by rfl, ?_⟩) hHeld ?_
              rotate_left
              · (intro w' hSw; (try dsimp only at hSw); go_simp; try (with_reducible rfl))
              (try simp only [Act.put, List.setIfInBounds_toArray, List.set_cons_zero, List.set_cons_succ])
              refine wpAnyM_take (i := 3) (oi := ⟨_, _, _, _, _, _⟩) (v := ?_) rfl (by kernel_rfl) (by kernel_rfl) (by kernel_rfl) (by kernel_rfl) (fun _ _ _ h => h) (Or.inl ⟨by rfl, ?_⟩) hHeld ?_
              rotate_left
              · (intro w' hSw; (try dsimp only at hSw); go_simp; try (with_reducible rfl))
              (try simp only [Act.put, List.setIfInBounds_toArray, List.set_cons_zero, List.set_cons_succ])
              refine wpAnyM_take (i := 4) (oi := ⟨_, _, _, _, _, _⟩) (v := ?_) rfl (by kernel_rfl) (by kernel_rfl) (by kernel_rfl) (by kernel_rfl) (fun _ _ _ h => h) (Or.inl ⟨by rfl, ?_⟩) hHeld ?_
              rotate_left
              · (intro w' hSw; (try dsimp only at hSw); go_simp; try (with_reducible rfl))
              (try simp only [Act.put, List.setIfInBounds_toArray, List.set_cons_zero, List.set_cons_succ])
              refine wpAnyM_take (i := 5) (oi := ⟨_, _, _, _, _, _⟩) (v := ?_) rfl (by kernel_rfl) (by kernel_rfl) (by kernel_rfl) (by kernel_rfl) (fun _ _ _ h => h) (Or.inl ⟨by rfl, ?_⟩) hHeld ?_
              rotate_left
              · (intro w' hSw; (try dsimp only at hSw); go_simp; try (with_reducible rfl))
              (try simp only [Act.put, List.setIfInBounds_toArray, List.set_cons_zero, List.set_cons_succ])
              refine wpAnyM_take (i := 6) (oi := ⟨_, _, _, _, _, _⟩) (v := ?_) rfl (by kernel_rfl) (by kernel_rfl) (by kernel_rfl) (by kernel_rfl) (fun _ _ _ h => h) (Or.inl ⟨by rfl, ?_⟩) hHeld ?_
              rotate_left
              · (intro w' hSw; (try dsimp only at hSw); go_simp; try (with_reducible rfl))
              (try simp only [Act.put, List.setIfInBounds_toArray, List.set_cons_zero, List.set_cons_succ])
              refine wpAnyM_take (i := 7) (oi := ⟨_, _, _, _, _, _⟩) (v := ?_) rfl (by kernel_rfl) (by kernel_rfl) (by kernel_rfl) (by kernel_rfl) (fun _ _ _ h => h) (Or.inl ⟨by rfl, ?_⟩) hHeld ?_
              rotate_left
              · (intro w' hSw; (try dsimp only at hSw); go_simp; try (with_reducible rfl))
              (try simp only [Act.put, List.setIfInBounds_toArray, List.set_cons_zero, List.set_cons_succ])
              refine wpAnyM_take (i := 8) (oi := ⟨_, _, _, _, _, _⟩) (v := ?_) rfl (by kernel_rfl) (by kernel_rfl) (by kernel_rfl) (by kernel_rfl) (fun _ _ _ h => h) (Or.inl ⟨by rfl, ?_⟩) hHeld ?_
              rotate_left
              · (intro w' hSw; (try dsimp only at hSw); go_simp; try (with_reducible rfl))
              (try simp only [Act.put, List.setIfInBounds_toArray, List.set_cons_zero, List.set_cons_succ])
              refine wpAnyM_take (i := 9) (oi := ⟨_, _, _, _, _, _⟩) (v := ?_) rfl (by kernel_rfl) (by kernel_rfl) (by kernel_rfl) (by kernel_rfl) (fun _ _ _ h => h) (Or.inl ⟨by rfl, ?_⟩) hHeld ?_
              rotate_left
              · (intro w' hSw; (try dsimp only at hSw); go_simp; try (with_reducible rfl))
              (try simp only [Act.put, List.setIfInBounds_toArray, List.set_cons_zero, List.set_cons_succ])
              refine wpAnyM_take (i := 10) (oi := ⟨_, _, _, _, _, _⟩) (v := ?_) rfl (by kernel_rfl) (by kernel_rfl) (by kernel_rfl) (by kernel_rfl) (fun _ _ _ h => h) (Or.inl ⟨by rfl, ?_⟩) hHeld ?_
              rotate_left
              · (intro w' hSw; (try dsimp only at hSw); go_simp; try (with_reducible rfl))
              (try simp only [Act.put, List.setIfInBounds_toArray, List.set_cons_zero, List.set_cons_succ])
              refine wpAnyM_take (i := 11) (oi := ⟨_, _, _, _, _, _⟩) (v := ?_) rfl (by kernel_rfl) (by kernel_rfl) (by kernel_rfl) (by kernel_rfl) (fun _ _ _ h => h) (Or.inl ⟨by rfl, ?_⟩) hHeld ?_
              rotate_left
              · (intro w' hSw; (try dsimp only at hSw); go_simp; try (with_reducible rfl))
              (try simp only [Act.put, List.setIfInBounds_toArray, List.set_cons_zero, List.set_cons_succ])
              refine wpAnyM_take (i := 12) (oi := ⟨_, _, _, _, _, _⟩) (v := ?_) rfl (by kernel_rfl) (by kernel_rfl) (by kernel_rfl) (by kernel_rfl) (fun _ _ _ h => h) (Or.inl ⟨by rfl, ?_⟩) hHeld ?_
              rotate_left
              · (intro w' hSw; (try dsimp only at hSw); go_simp; try (with_reducible rfl))
              (try simp only [Act.put, List.setIfInBounds_toArray, List.set_cons_zero, List.set_cons_succ])
              refine wpAnyM_take (i := 13) (oi := ⟨_, _, _, _, _, _⟩) (v := ?_) rfl (by kernel_rfl) (by kernel_rfl) (by kernel_rfl) (by kernel_rfl) (fun _ _ _ h => h) (Or.inl ⟨by rfl, ?_⟩) hHeld ?_
              rotate_left
              · (intro w' hSw; (try dsimp only at hSw); go_simp; try (with_reducible rfl))
              (try simp only [Act.put, List.setIfInBounds_toArray, List.set_cons_zero, List.set_cons_succ])
              refine wpAnyM_take (i := 14) (oi := ⟨_, _, _, _, _, _⟩) (v := ?_) rfl (by kernel_rfl) (by kernel_rfl) (by kernel_rfl) (by kernel_rfl) (fun _ _ _ h => h) (Or.inl ⟨by rfl, ?_⟩) hHeld ?_
              rotate_left
              · (intro w' hSw; (try dsimp only at hSw); go_simp; try (with_reducible rfl))
              (try simp only [Act.put, List.setIfInBounds_toArray, List.set_cons_zero, List.set_cons_succ])
              refine wpAnyM_take (i := 15) (oi := ⟨_, _, _, _, _, _⟩) (v := ?_) rfl (by kernel_rfl) (by kernel_rfl) (by kernel_rfl) (by kernel_rfl) (fun _ _ _ h => h) (Or.inl ⟨by rfl, ?_⟩) hHeld ?_
              rotate_left
              · (intro w' hSw; (try dsimp only at hSw); go_simp; try (with_reducible rfl))
              (try simp only [Act.put, List.setIfInBounds_toArray, List.set_cons_zero, List.set_cons_succ])
              refine wpAnyM_take (i := 16) (oi := ⟨_, _, _, _, _, _⟩) (v := ?_) rfl (by kernel_rfl) (by kernel_rfl) (by kernel_rfl) (by kernel_rfl) (fun _ _ _ h => h) (Or.inl ⟨by rfl, ?_⟩) hHeld ?_
              rotate_left
              · (intro w' hSw; (try dsimp only at hSw); go_simp; try (with_reducible rfl))
              (try simp only [Act.put, List.setIfInBounds_toArray, List.set_cons_zero, List.set_cons_succ])
              refine wpAnyM_done (by kernel_rfl) ?_ _
              go_wp2_with fail
              generalize hw4 : wr.drew = w4 at *
              have B4 : Hid (Below wr.heap.size wr w4) := (show Below _ _ _ by rw [← hw4]; exact (Below.refl _ _).drew)
              have I4 := hide (GI.out.below B4.out)
              have O4 := hide (GO.out.below B4.out)
              have KC4 : Hid (∀ w' : World, Below w4.heap.size w4 w' → w'.cell? ⟨nb, no + i * 4, none⟩ = some (.int .i64 xk) ∧ w'.cell? ⟨nb, no + i * 4 + 1, none⟩ = some (.int .i64 xf) ∧ w'.cell? ⟨nb, no + i * 4 + 2, none⟩ = some (.int .i64 xt) ∧ w'.cell? ⟨nb, no + i * 4 + 3, none⟩ = some (.int .i64 xa) ∧ w'.cell? ⟨PB, 0, none⟩ = some (.int .i64 xk) ∧ w'.cell? ⟨PB, 3, none⟩ = some (.int .i64 ac) ∧ w'.cell? ⟨w.heap.size + 1 + 1, 0, none⟩ = some (.int .i64 xf) ∧ w'.cell? ⟨w.heap.size + 1 + 1, 1, none⟩ = some (.int .i64 xt)) := (show ∀ w' : World, _ from fun w' h => KC.out _ (B4.out.trans (h.mono B4.out.size)))
              have bf := fun j => (HP0.out _ _ I4.out).free j
              obtain ⟨a0, a1, a2, a3, a4, a5, a6, a7⟩ := KC4.out _ (Below.refl _ _)
              clear hw4 hHeld KC
              refine wp_region_M (S := fun w' => w'.cell? ⟨nb, no + i * 4, none⟩ = some (.int .i64 xk) ∧ w'.cell? ⟨nb, no + i * 4 + 1, none⟩ = some (.int .i64 xf) ∧ w'.cell? ⟨nb, no + i * 4 + 2, none⟩ = some (.int .i64 xt) ∧ w'.cell? ⟨nb, no + i * 4 + 3, none⟩ = some (.int .i64 xa) ∧ w'.cell? ⟨PB, 0, none⟩ = some (.int .i64 xk) ∧ w'.cell? ⟨PB, 3, none⟩ = some (.int .i64 ac) ∧ w'.cell? ⟨w.heap.size + 1 + 1, 0, none⟩ = some (.int .i64 xf) ∧ w'.cell? ⟨w.heap.size + 1 + 1, 1, none⟩ = some (.int .i64 xt)) (late := [10]) (by kernel_rfl) (KC4.out _ ((Below.refl _ _).drew)) (fun hHeld => ?_)
              (try simp only [List.size_toArray, List.length_cons, List.length_nil, Nat.zero_add, Nat.reduceAdd, Array.replicate, List.replicate])
              refine wpAnyM_take (i := 0) (oi := ⟨_, _, _, _, _, _⟩) (v := ?_) rfl (by kernel_rfl) (by kernel_rfl) (by kernel_rfl) (by kernel_rfl) (fun _ _ _ h => h) (Or.inl ⟨by rfl, ?_⟩) hHeld ?_
              rotate_left
              · (intro w' hSw; (try dsimp only at hSw); go_simp; try (with_reducible rfl))
              (try simp only [Act.put, List.setIfInBounds_toArray, List.set_cons_zero, List.set_cons_succ])
              refine wpAnyM_take (i := 1) (oi := ⟨_, _, _, _, _, _⟩) (v := ?_) rfl (by kernel_rfl) (by kernel_rfl) (by kernel_rfl) (by kernel_rfl) (fun _ _ _ h => h) (Or.inl ⟨by rfl, ?_⟩) hHeld ?_
              rotate_left
              · (intro w' hSw; (try dsimp only at hSw); go_simp; try (with_reducible rfl))
              (try simp only [Act.put, List.setIfInBounds_toArray, List.set_cons_zero, List.set_cons_succ])
              refine wpAnyM_take (i := 2) (oi := ⟨_, _, _, _, _, _⟩) (v := ?_) rfl (by kernel_rfl) (by kernel_rfl) (by kernel_rfl) (by kernel_rfl) (fun _ _ _ h => h) (Or.inl ⟨by rfl, ?_⟩) hHeld ?_
              rotate_left
              · (intro w' hSw; (try dsimp only at hSw); go_simp; try (with_reducible rfl))
              (try simp only [Act.put, List.setIfInBounds_toArray, List.set_cons_zero, List.set_cons_succ])
              refine wpAnyM_take (i := 3) (oi := ⟨_, _, _, _, _, _⟩) (v := ?_) rfl (by kernel_rfl) (by kernel_rfl) (by kernel_rfl) (by kernel_rfl) (fun _ _ _ h => h) (Or.inl ⟨by rfl, ?_⟩) hHeld ?_
              rotate_left
              · (intro w' hSw; (try dsimp only at hSw); go_simp; try (with_reducible rfl))
              (try simp only [Act.put, List.setIfInBounds_toArray, List.set_cons_zero, List.set_cons_succ])
              refine wpAnyM_take (i := 4) (oi := ⟨_, _, _, _, _, _⟩) (v := ?_) rfl (by kernel_rfl) (by kernel_rfl) (by kernel_rfl) (by kernel_rfl) (fun _ _ _ h => h) (Or.inl ⟨by rfl, ?_⟩) hHeld ?_
              rotate_left
              · (intro w' hSw; (try dsimp only at hSw); go_simp; try (with_reducible rfl))
              (try simp only [Act.put, List.setIfInBounds_toArray, List.set_cons_zero, List.set_cons_succ])
              refine wpAnyM_take (i := 5) (oi := ⟨_, _, _, _, _, _⟩) (v := ?_) rfl (by kernel_rfl) (by kernel_rfl) (by kernel_rfl) (by kernel_rfl) (fun _ _ _ h => h) (Or.inl ⟨by rfl, ?_⟩) hHeld ?_
              rotate_left
              · (intro w' hSw; (try dsimp only at hSw); go_simp; try (with_reducible rfl))
              (try simp only [Act.put, List.setIfInBounds_toArray, List.set_cons_zero, List.set_cons_succ])
              refine wpAnyM_take (i := 6) (oi := ⟨_, _, _, _, _, _⟩) (v := ?_) rfl (by kernel_rfl) (by kernel_rfl) (by kernel_rfl) (by kernel_rfl) (fun _ _ _ h => h) (Or.inl ⟨by rfl, ?_⟩) hHeld ?_
              rotate_left
              · (intro w' hSw; (try dsimp only at hSw); go_simp; try (with_reducible rfl))
              (try simp only [Act.put, List.setIfInBounds_toArray, List.set_cons_zero, List.set_cons_succ])
              refine wpAnyM_take (i := 7) (oi := ⟨_, _, _, _, _, _⟩) (v := ?_) rfl (by kernel_rfl) (by kernel_rfl) (by kernel_rfl) (by kernel_rfl) (fun _ _ _ h => h) (Or.inl ⟨by rfl, ?_⟩) hHeld ?_
              rotate_left
              · (intro w' hSw; (try dsimp only at hSw); go_simp; try (with_reducible rfl))
              (try simp only [Act.put, List.setIfInBounds_toArray, List.set_cons_zero, List.set_cons_succ])
              refine wpAnyM_one (i := 8) (o := ⟨_, _, _, _, _, _⟩) (by kernel_rfl) rfl (fun K hK => ?_)
              go_simp
              go_at_call 48
              refine (HMG.out _).mono ?_
              rintro e w5 ⟨rfl, e5⟩
              subst e5
              refine hK.out _ _ hHeld (fun hHeld => ?_)
              clear hK K
              (try simp only [List.setIfInBounds_toArray, List.set_cons_zero, List.set_cons_succ])
              refine wpAnyM_one (i := 9) (o := ⟨_, _, _, _, _, _⟩) (by kernel_rfl) rfl (fun K hK => ?_)
              go_simp
              refine hK.out _ _ hHeld (fun hHeld => ?_)
              clear hK K
              (try simp only [List.setIfInBounds_toArray, List.set_cons_zero, List.set_cons_succ])
              refine wpAnyM_last (i := 10) (o := ⟨_, _, _, _, _, _⟩) (by kernel_rfl) (by kernel_rfl) rfl (fun K hK => ?_)
              go_simp
              refine hK.out _ _ ?_
              clear hK K
              refine wpAnyM_done (by kernel_rfl) ?_ _
              go_wp2_with fail
              go_roundg go
              case rel => exact ⟨i + 1, out, ja, by go_num, by omega, by omega, (show I0 _ _ _ _ _ _ _ _ _ from I4.out.acc HZ1.out ja), (show OwnL _ _ _ _ _ _ _ from O4.out.accOff HZ1.out _), HIP⟩
              case measure => omega
            · as_aux_lemma =>
              subst hk
              have HIP := hide (GP.out.past HX.out (fun h => hs ⟨h.2.1, h.2.2⟩))
              by_cases hf : xf = sf
              · as_aux_lemma =>
                have hft : ¬ xt = st := fun e => hs ⟨hf, e⟩
                have hfb : (xt == st) = false := by simpa using hft
                have hfd : decide (xt = st) = false := decide_eq_false hft
                subst hf
                clear hs hft
                go_wp2_with fail
                refine wp_region_M (S := fun w' => w'.cell? ⟨nb, no + i * 4, none⟩ = some (.int .i64 xk) ∧ w'.cell? ⟨nb, no + i * 4 + 1, none⟩ = some (.int .i64 xf) ∧ w'.cell? ⟨nb, no + i * 4 + 2, none⟩ = some (.int .i64 xt) ∧ w'.cell? ⟨nb, no + i * 4 + 3, none⟩ = some (.int .i64 xa) ∧ w'.cell? ⟨PB, 0, none⟩ = some (.int .i64 xk) ∧ w'.cell? ⟨PB, 3, none⟩ = some (.int .i64 ac) ∧ w'.cell? ⟨w.heap.size + 1 + 1, 0, none⟩ = some (.int .i64 xf) ∧ w'.cell? ⟨w.heap.size + 1 + 1, 1, none⟩ = some (.int .i64 st)) (late := []) (by kernel_rfl) (KC.out _ ((Below.refl _ _).drew)) (fun hHeld => ?_)
                (try simp only [List.size_toArray, List.length_cons, List.length_nil, Nat.zero_add, Nat.reduceAdd, Array.replicate, List.replicate])
                refine wpAnyM_take (i := 0) (oi := ⟨_, _, _, _, _, _⟩) (v := ?_) rfl (by kernel_rfl) (by kernel_rfl) (by kernel_rfl) (by kernel_rfl) (fun _ _ _ h => h) (Or.inl ⟨by rfl, ?_⟩) hHeld ?_
                rotate_left
                · (intro w' hSw; (try dsimp only at hSw); go_simp; try (with_reducible rfl))
                (try simp only [Act.put, List.setIfInBounds_toArray, List.set_cons_zero, List.set_cons_succ])
                refine wpAnyM_take (i := 1) (oi := ⟨_, _, _, _, _, _⟩) (v := ?_) rfl (by kernel_rfl) (by kernel_rfl) (by kernel_rfl) (by kernel_rfl) (fun _ _ _ h => h) (Or.inl ⟨by rfl, ?_⟩) hHeld ?_
                rotate_left
                · (intro w' hSw; (try dsimp only at hSw); go_simp; try (with_reducible rfl))
                (try simp only [Act.put, List.setIfInBounds_toArray, List.set_cons_zero, List.set_cons_succ])
                refine wpAnyM_take (i := 2) (oi := ⟨_, _, _, _, _, _⟩) (v := ?_) rfl (by kernel_rfl) (by kernel_rfl) (by kernel_rfl) (by kernel_rfl) (fun _ _ _ h => h) (Or.inl ⟨by rfl, ?_⟩) hHeld ?_
                rotate_left
                · (intro w' hSw; (try dsimp only at hSw); go_simp; try (with_reducible rfl))
                (try simp only [Act.put, List.setIfInBounds_toArray, List.set_cons_zero, List.set_cons_succ])
                refine wpAnyM_take (i := 3) (oi := ⟨_, _, _, _, _, _⟩) (v := ?_) rfl (by kernel_rfl) (by kernel_rfl) (by kernel_rfl) (by kernel_rfl) (fun _ _ _ h => h) (Or.inl ⟨by rfl, ?_⟩) hHeld ?_
                rotate_left
                · (intro w' hSw; (try dsimp only at hSw); go_simp; try (with_reducible rfl))
                (try simp only [Act.put, List.setIfInBounds_toArray, List.set_cons_zero, List.set_cons_succ])
                refine wpAnyM_take (i := 4) (oi := ⟨_, _, _, _, _, _⟩) (v := ?_) rfl (by kernel_rfl) (by kernel_rfl) (by kernel_rfl) (by kernel_rfl) (fun _ _ _ h => h) (Or.inl ⟨by rfl, ?_⟩) hHeld ?_
                rotate_left
                · (intro w' hSw; (try dsimp only at hSw); go_simp; try (with_reducible rfl))
                (try simp only [Act.put, List.setIfInBounds_toArray, List.set_cons_zero, List.set_cons_succ])
                refine wpAnyM_take (i := 5) (oi := ⟨_, _, _, _, _, _⟩) (v := ?_) rfl (by kernel_rfl) (by kernel_rfl) (by kernel_rfl) (by kernel_rfl) (fun _ _ _ h => h) (Or.inl ⟨by rfl, ?_⟩) hHeld ?_
                rotate_left
                · (intro w' hSw; (try dsimp only at hSw); go_simp; try (with_reducible rfl))
                (try simp only [Act.put, List.setIfInBounds_toArray, List.set_cons_zero, List.set_cons_succ])
                refine wpAnyM_take (i := 6) (oi := ⟨_, _, _, _, _, _⟩) (v := ?_) rfl (by kernel_rfl) (by kernel_rfl) (by kernel_rfl) (by kernel_rfl) (fun _ _ _ h => h) (Or.inl ⟨by rfl, ?_⟩) hHeld ?_
                rotate_left
                · (intro w' hSw; (try dsimp only at hSw); go_simp; try (with_reducible rfl))
                (try simp only [Act.put, List.setIfInBounds_toArray, List.set_cons_zero, List.set_cons_succ])
                refine wpAnyM_take (i := 7) (oi := ⟨_, _, _, _, _, _⟩) (v := ?_) rfl (by kernel_rfl) (by kernel_rfl) (by kernel_rfl) (by kernel_rfl) (fun _ _ _ h => h) (Or.inl ⟨by rfl, ?_⟩) hHeld ?_
                rotate_left
                · (intro w' hSw; (try dsimp only at hSw); go_simp; try (with_reducible rfl))
                (try simp only [Act.put, List.setIfInBounds_toArray, List.set_cons_zero, List.set_cons_succ])
                refine wpAnyM_take (i := 8) (oi := ⟨_, _, _, _, _, _⟩) (v := ?_) rfl (by kernel_rfl) (by kernel_rfl) (by kernel_rfl) (by kernel_rfl) (fun _ _ _ h => h) (Or.inl ⟨by rfl, ?_⟩) hHeld ?_
                rotate_left
                · (intro w' hSw; (try dsimp only at hSw); go_simp; try (with_reducible rfl))
                (try simp only [Act.put, List.setIfInBounds_toArray, List.set_cons_zero, List.set_cons_succ])
                refine wpAnyM_take (i := 9) (oi := ⟨_, _, _, _, _, _⟩) (v := ?_) rfl (by kernel_rfl) (by kernel_rfl) (by kernel_rfl) (by kernel_rfl) (fun _ _ _ h => h) (Or.inl ⟨by rfl, ?_⟩) hHeld ?_
                rotate_left
                · (intro w' hSw; (try dsimp only at hSw); go_simp; try (with_reducible rfl))
                (try simp only [Act.put, List.setIfInBounds_toArray, List.set_cons_zero, List.set_cons_succ])
                refine wpAnyM_take (i := 10) (oi := ⟨_, _, _, _, _, _⟩) (v := ?_) rfl (by kernel_rfl) (by kernel_rfl) (by kernel_rfl) (by kernel_rfl) (fun _ _ _ h => h) (Or.inl ⟨by rfl, ?_⟩) hHeld ?_
                rotate_left
                · (intro w' hSw; (try dsimp only at hSw); go_simp; try (with_reducible rfl))
                (try simp only [Act.put, List.setIfInBounds_toArray, List.set_cons_zero, List.set_cons_succ])
                refine wpAnyM_take (i := 11) (oi := ⟨_, _, _, _, _, _⟩) (v := ?_) rfl (by kernel_rfl) (by kernel_rfl) (by kernel_rfl) (by kernel_rfl) (fun _ _ _ h => h) (Or.inl ⟨by rfl, ?_⟩) hHeld ?_
                rotate_left
                · (intro w' hSw; (try dsimp only at hSw); go_simp; try (with_reducible rfl))
                (try simp only [Act.put, List.setIfInBounds_toArray, List.set_cons_zero, List.set_cons_succ])
                refine wpAnyM_take (i := 12) (oi := ⟨_, _, _, _, _, _⟩) (v := ?_) rfl (by kernel_rfl) (by kernel_rfl) (by kernel_rfl) (by kernel_rfl) (fun _ _ _ h => h) (Or.inl ⟨by rfl, ?_⟩) hHeld ?_
                rotate_left
                · (intro w' hSw; (try dsimp only at hSw); go_simp; try (with_reducible rfl))
                (try simp only [Act.put, List.setIfInBounds_toArray, List.set_cons_zero, List.set_cons_succ])
                refine wpAnyM_take (i := 13) (oi := ⟨_, _, _, _, _, _⟩) (v := ?_) rfl (by kernel_rfl) (by kernel_rfl) (by kernel_rfl) (by kernel_rfl) (fun _ _ _ h => h) (Or.inl ⟨by rfl, ?_⟩) hHeld ?_
                rotate_left
                · (intro w' hSw; (try dsimp only at hSw); go_simp; try (with_reducible rfl))
                (try simp only [Act.put, List.setIfInBounds_toArray, List.set_cons_zero, List.set_cons_succ])
                refine wpAnyM_take (i := 14) (oi := ⟨_, _, _, _, _, _⟩) (v := ?_) rfl (by kernel_rfl) (by kernel_rfl) (by kernel_rfl) (by kernel_rfl) (fun _ _ _ h => h) (Or.inl ⟨by rfl, ?_⟩) hHeld ?_
                rotate_left
                · (intro w' hSw; (try dsimp only at hSw); go_simp; try (with_reducible rfl))
                (try simp only [Act.put, List.setIfInBounds_toArray, List.set_cons_zero, List.set_cons_succ])
                refine wpAnyM_take (i := 15) (oi := ⟨_, _, _, _, _, _⟩) (v := ?_) rfl (by kernel_rfl) (by kernel_rfl) (by kernel_rfl) (by kernel_rfl) (fun _ _ _ h => h) (Or.inl ⟨by rfl, ?_⟩) hHeld ?_
                rotate_left
                · (intro w' hSw; (try dsimp only at hSw); go_simp; try (with_reducible rfl))
                (try simp only [Act.put, List.setIfInBounds_toArray, List.set_cons_zero, List.set_cons_succ])
                refine wpAnyM_take (i := 16) (oi := ⟨_, _, _, _, _, _⟩) (v := ?_) rfl (by kernel_rfl) (by kernel_rfl) (by kernel_rfl) (by kernel_rfl) (fun _ _ _ h => h) (Or.inl ⟨by rfl, ?_⟩) hHeld ?_
                rotate_left
                · (intro w' hSw; (try dsimp only at hSw); go_simp; try (with_reducible rfl))
                (try simp only [Act.put, List.setIfInBounds_toArray, List.set_cons_zero, List.set_cons_succ])
                refine wpAnyM_done (by kernel_rfl) ?_ _
                generalize hw4 : wr.drew = w4 at *
                have B4 : Hid (Below wr.heap.size wr w4) := (show Below _ _ _ by rw [← hw4]; exact (Below.refl _ _).drew)
                obtain ⟨a0, a1, a2, a3, a4, a5, a6, a7⟩ := KC.out _ B4.out
                have HB9 := hide (below_box w4 (.cells #[.int .i64 xk, .int .i64 xf, .int .i64 xt, .int .i64 xa] 46))
                have HX9 := hide (seg_one (x := ⟨xk, xf, xt, xa⟩) (BoxT.new 46 w4 #[.int .i64 xk, .int .i64 xf, .int .i64 xt, .int .i64 xa]))
                have HI9 := hide ((GI.out.below B4.out).below HB9.out)
                have HO9 := hide ((GO.out.below B4.out).below HB9.out)
                have HZ9 : Hid (w.heap.size + 4 ≤ (w4.alloc (.cells #[.int .i64 xk, .int .i64 xf, .int .i64 xt, .int .i64 xa] 46)).heap.size) := (show _ ≤ _ from HI9.out.p.lt)
                clear hw4 hHeld KC
                go_wp2_with (first | (at_builtin; refine app_segL Try.infoPn Try.underlying35 rfl (by decide) (by decide) Pn.cs_len Pn.cs_one rfl _ _ rfl (w.heap.size + 4) (.slice oa out.length oc) out rfl HO9.out _ _ [⟨xk, xf, xt, xa⟩] rfl HX9.out (by have := HOL.out; simp; omega) HZ9.out ?_; intro v9 w9 h9 g9 k9; have HI10 := hide (HI9.out.grown g9 (fun g e => HO9.out.at g e)); have HO10 := hide h9; obtain ⟨va9, vc9, rfl⟩ := h9.shape; clear h9 g9 k9) | fail)
                go_roundg go
                case rel => exact ⟨i + 1, out ++ [⟨xk, xf, xt, xa⟩], ac, by go_num, by omega, by omega, HI10, (show OwnL _ _ _ _ _ _ _ by have h := HO10.out; simp only [List.length_append, List.length_cons, List.length_nil, Nat.zero_add] at h; exact h), HIP⟩
                case measure => omega
              · as_aux_lemma =>
                have hfb : (xf == sf) = false := by simpa using hf
                have hfd : decide (xf = sf) = false := decide_eq_false hf
                clear hs hf
                go_wp2_with fail
                refine wp_region_M (S := fun w' => w'.cell? ⟨nb, no + i * 4, none⟩ = some (.int .i64 xk) ∧ w'.cell? ⟨nb, no + i * 4 + 1, none⟩ = some (.int .i64 xf) ∧ w'.cell? ⟨nb, no + i * 4 + 2, none⟩ = some (.int .i64 xt) ∧ w'.cell? ⟨nb, no + i * 4 + 3, none⟩ = some (.int .i64 xa) ∧ w'.cell? ⟨PB, 0, none⟩ = some (.int .i64 xk) ∧ w'.cell? ⟨PB, 3, none⟩ = some (.int .i64 ac) ∧ w'.cell? ⟨w.heap.size + 1 + 1, 0, none⟩ = some (.int .i64 sf) ∧ w'.cell? ⟨w.heap.size + 1 + 1, 1, none⟩ = some (.int .i64 st)) (late := []) (by kernel_rfl) (KC.out _ ((Below.refl _ _).drew)) (fun hHeld => ?_)
                (try simp only [List.size_toArray, List.length_cons, List.length_nil, Nat.zero_add, Nat.reduceAdd, Array.replicate, List.replicate])
                refine wpAnyM_take (i := 0) (oi := ⟨_, _, _, _, _, _⟩) (v := ?_) rfl (by kernel_rfl) (by kernel_rfl) (by kernel_rfl) (by kernel_rfl) (fun _ _ _ h => h) (Or.inl ⟨by rfl, ?_⟩) hHeld ?_
                rotate_left
                · (intro w' hSw; (try dsimp only at hSw); go_simp; try (with_reducible rfl))
                (try simp only [Act.put, List.setIfInBounds_toArray, List.set_cons_zero, List.set_cons_succ])
                refine wpAnyM_take (i := 1) (oi := ⟨_, _, _, _, _, _⟩) (v := ?_) rfl (by kernel_rfl) (by kernel_rfl) (by kernel_rfl) (by kernel_rfl) (fun _ _ _ h => h) (Or.inl ⟨by rfl, ?_⟩) hHeld ?_
                rotate_left
                · (intro w' hSw; (try dsimp only at hSw); go_simp; try (with_reducible rfl))
                (try simp only [Act.put, List.setIfInBounds_toArray, List.set_cons_zero, List.set_cons_succ])
                refine wpAnyM_take (i := 2) (oi := ⟨_, _, _, _, _, _⟩) (v := ?_) rfl (by kernel_rfl) (by kernel_rfl) (by kernel_rfl) (by kernel_rfl) (fun _ _ _ h => h) (Or.inl ⟨by rfl, ?_⟩) hHeld ?_
                rotate_left
                · (intro w' hSw; (try dsimp only at hSw); go_simp; try (with_reducible rfl))
                (try simp only [Act.put, List.setIfInBounds_toArray, List.set_cons_zero, List.set_cons_succ])
                refine wpAnyM_take (i := 3) (oi := ⟨_, _, _, _, _, _⟩) (v := ?_) rfl (by kernel_rfl) (by kernel_rfl) (by kernel_rfl) (by kernel_rfl) (fun _ _ _ h => h) (Or.inl ⟨by rfl, ?_⟩) hHeld ?_
                rotate_left
                · (intro w' hSw; (try dsimp only at hSw); go_simp; try (with_reducible rfl))
                (try simp only [Act.put, List.setIfInBounds_toArray, List.set_cons_zero, List.set_cons_succ])
                refine wpAnyM_take (i := 4) (oi := ⟨_, _, _, _, _, _⟩) (v := ?_) rfl (by kernel_rfl) (by kernel_rfl) (by kernel_rfl) (by kernel_rfl) (fun _ _ _ h => h) (Or.inl ⟨by rfl, ?_⟩) hHeld ?_
                rotate_left
                · (intro w' hSw; (try dsimp only at hSw); go_simp; try (with_reducible rfl))
                (try simp only [Act.put, List.setIfInBounds_toArray, List.set_cons_zero, List.set_cons_succ])
                refine wpAnyM_take (i := 5) (oi := ⟨_, _, _, _, _, _⟩) (v := ?_) rfl (by kernel_rfl) (by kernel_rfl) (by kernel_rfl) (by kernel_rfl) (fun _ _ _ h => h) (Or.inl ⟨by rfl, ?_⟩) hHeld ?_
                rotate_left
                · (intro w' hSw; (try dsimp only at hSw); go_simp; try (with_reducible rfl))
                (try simp only [Act.put, List.setIfInBounds_toArray, List.set_cons_zero, List.set_cons_succ])
                refine wpAnyM_take (i := 6) (oi := ⟨_, _, _, _, _, _⟩) (v := ?_) rfl (by kernel_rfl) (by kernel_rfl) (by kernel_rfl) (by kernel_rfl) (fun _ _ _ h => h) (Or.inl ⟨by rfl, ?_⟩) hHeld ?_
                rotate_left
                · (intro w' hSw; (try dsimp only at hSw); go_simp; try (with_reducible rfl))
                (try simp only [Act.put, List.setIfInBounds_toArray, List.set_cons_zero, List.set_cons_succ])
                refine wpAnyM_take (i := 7) (oi := ⟨_, _, _, _, _, _⟩) (v := ?_) rfl (by kernel_rfl) (by kernel_rfl) (by kernel_rfl) (by kernel_rfl) (fun _ _ _ h => h) (Or.inl ⟨by rfl, ?_⟩) hHeld ?_
                rotate_left
                · (intro w' hSw; (try dsimp only at hSw); go_simp; try (with_reducible rfl))
                (try simp only [Act.put, List.setIfInBounds_toArray, List.set_cons_zero, List.set_cons_succ])
                refine wpAnyM_take (i := 8) (oi := ⟨_, _, _, _, _, _⟩) (v := ?_) rfl (by kernel_rfl) (by kernel_rfl) (by kernel_rfl) (by kernel_rfl) (fun _ _ _ h => h) (Or.inl ⟨by rfl, ?_⟩) hHeld ?_
                rotate_left
                · (intro w' hSw; (try dsimp only at hSw); go_simp; try (with_reducible rfl))
                (try simp only [Act.put, List.setIfInBounds_toArray, List.set_cons_zero, List.set_cons_succ])
                refine wpAnyM_take (i := 9) (oi := ⟨_, _, _, _, _, _⟩) (v := ?_) rfl (by kernel_rfl) (by kernel_rfl) (by kernel_rfl) (by kernel_rfl) (fun _ _ _ h => h) (Or.inl ⟨by rfl, ?_⟩) hHeld ?_
                rotate_left
                · (intro w' hSw; (try dsimp only at hSw); go_simp; try (with_reducible rfl))
                (try simp only [Act.put, List.setIfInBounds_toArray, List.set_cons_zero, List.set_cons_succ])
                refine wpAnyM_take (i := 10) (oi := ⟨_, _, _, _, _, _⟩) (v := ?_) rfl (by kernel_rfl) (by kernel_rfl) (by kernel_rfl) (by kernel_rfl) (fun _ _ _ h => h) (Or.inl ⟨by rfl, ?_⟩) hHeld ?_
                rotate_left
                · (intro w' hSw; (try dsimp only at hSw); go_simp; try (with_reducible rfl))
                (try simp only [Act.put, List.setIfInBounds_toArray, List.set_cons_zero, List.set_cons_succ])
                refine wpAnyM_take (i := 11) (oi := ⟨_, _, _, _, _, _⟩) (v := ?_) rfl (by kernel_rfl) (by kernel_rfl) (by kernel_rfl) (by kernel_rfl) (fun _ _ _ h => h) (Or.inl ⟨by rfl, ?_⟩) hHeld ?_
                rotate_left
                · (intro w' hSw; (try dsimp only at hSw); go_simp; try (with_reducible rfl))
                (try simp only [Act.put, List.setIfInBounds_toArray, List.set_cons_zero, List.set_cons_succ])
                refine wpAnyM_take (i := 12) (oi := ⟨_, _, _, _, _, _⟩) (v := ?_) rfl (by kernel_rfl) (by kernel_rfl) (by kernel_rfl) (by kernel_rfl) (fun _ _ _ h => h) (Or.inl ⟨by rfl, ?_⟩) hHeld ?_
                rotate_left
                · (intro w' hSw; (try dsimp only at hSw); go_simp; try (with_reducible rfl))
                (try simp only [Act.put, List.setIfInBounds_toArray, List.set_cons_zero, List.set_cons_succ])
                refine wpAnyM_take (i := 13) (oi := ⟨_, _, _, _, _, _⟩) (v := ?_) rfl (by kernel_rfl) (by kernel_rfl) (by kernel_rfl) (by kernel_rfl) (fun _ _ _ h => h) (Or.inl ⟨by rfl, ?_⟩) hHeld ?_
                rotate_left
                · (intro w' hSw; (try dsimp only at hSw); go_simp; try (with_reducible rfl))
                (try simp only [Act.put, List.setIfInBounds_toArray, List.set_cons_zero, List.set_cons_succ])
                refine wpAnyM_take (i := 14) (oi := ⟨_, _, _, _, _, _⟩) (v := ?_) rfl (by kernel_rfl) (by kernel_rfl) (by kernel_rfl) (by kernel_rfl) (fun _ _ _ h => h) (Or.inl ⟨by rfl, ?_⟩) hHeld ?_
                rotate_left
                · (intro w' hSw; (try dsimp only at hSw); go_simp; try (with_reducible rfl))
                (try simp only [Act.put, List.setIfInBounds_toArray, List.set_cons_zero, List.set_cons_succ])
                refine wpAnyM_take (i := 15) (oi := ⟨_, _, _, _, _, _⟩) (v := ?_) rfl (by kernel_rfl) (by kernel_rfl) (by kernel_rfl) (by kernel_rfl) (fun _ _ _ h => h) (Or.inl ⟨by rfl, ?_⟩) hHeld ?_
                rotate_left
                · (intro w' hSw; (try dsimp only at hSw); go_simp; try (with_reducible rfl))
                (try simp only [Act.put, List.setIfInBounds_toArray, List.set_cons_zero, List.set_cons_succ])
                refine wpAnyM_take (i := 16) (oi := ⟨_, _, _, _, _, _⟩) (v := ?_) rfl (by kernel_rfl) (by kernel_rfl) (by kernel_rfl) (by kernel_rfl) (fun _ _ _ h => h) (Or.inl ⟨by rfl, ?_⟩) hHeld ?_
                rotate_left
                · (intro w' hSw; (try dsimp only at hSw); go_simp; try (with_reducible rfl))
                (try simp only [Act.put, List.setIfInBounds_toArray, List.set_cons_zero, List.set_cons_succ])
                refine wpAnyM_done (by kernel_rfl) ?_ _
                generalize hw4 : wr.drew = w4 at *
                have B4 : Hid (Below wr.heap.size wr w4) := (show Below _ _ _ by rw [← hw4]; exact (Below.refl _ _).drew)
                obtain ⟨a0, a1, a2, a3, a4, a5, a6, a7⟩ := KC.out _ B4.out
                have HB9 := hide (below_box w4 (.cells #[.int .i64 xk, .int .i64 xf, .int .i64 xt, .int .i64 xa] 46))
                have HX9 := hide (seg_one (x := ⟨xk, xf, xt, xa⟩) (BoxT.new 46 w4 #[.int .i64 xk, .int .i64 xf, .int .i64 xt, .int .i64 xa]))
                have HI9 := hide ((GI.out.below B4.out).below HB9.out)
                have HO9 := hide ((GO.out.below B4.out).below HB9.out)
                have HZ9 : Hid (w.heap.size + 4 ≤ (w4.alloc (.cells #[.int .i64 xk, .int .i64 xf, .int .i64 xt, .int .i64 xa] 46)).heap.size) := (show _ ≤ _ from HI9.out.p.lt)
                clear hw4 hHeld KC
                go_wp2_with (first | (at_builtin; refine app_segL Try.infoPn Try.underlying35 rfl (by decide) (by decide) Pn.cs_len Pn.cs_one rfl _ _ rfl (w.heap.size + 4) (.slice oa out.length oc) out rfl HO9.out _ _ [⟨xk, xf, xt, xa⟩] rfl HX9.out (by have := HOL.out; simp; omega) HZ9.out ?_; intro v9 w9 h9 g9 k9; have HI10 := hide (HI9.out.grown g9 (fun g e => HO9.out.at g e)); have HO10 := hide h9; obtain ⟨va9, vc9, rfl⟩ := h9.shape; clear h9 g9 k9) | fail)
                go_roundg go
                case rel => exact ⟨i + 1, out ++ [⟨xk, xf, xt, xa⟩], ac, by go_num, by omega, by omega, HI10, (show OwnL _ _ _ _ _ _ _ by have h := HO10.out; simp only [List.length_append, List.length_cons, List.length_nil, Nat.zero_add] at h; exact h), HIP⟩
                case measure => omega
          · as_aux_lemma =>
            have HIP := hide (GP.out.past HX.out (fun h => hk h.1))
            have hkb2 : (xk == rk) = false := by simpa using hk
            have hkd : decide (xk = rk) = false := decide_eq_false hk
            clear hk
            go_wp2_with fail
            refine wp_region_M (S := fun w' => w'.cell? ⟨nb, no + i * 4, none⟩ = some (.int .i64 xk) ∧ w'.cell? ⟨nb, no + i * 4 + 1, none⟩ = some (.int .i64 xf) ∧ w'.cell? ⟨nb, no + i * 4 + 2, none⟩ = some (.int .i64 xt) ∧ w'.cell? ⟨nb, no + i * 4 + 3, none⟩ = some (.int .i64 xa) ∧ w'.cell? ⟨PB, 0, none⟩ = some (.int .i64 rk) ∧ w'.cell? ⟨PB, 3, none⟩ = some (.int .i64 ac) ∧ w'.cell? ⟨w.heap.size + 1 + 1, 0, none⟩ = some (.int .i64 sf) ∧ w'.cell? ⟨w.heap.size + 1 + 1, 1, none⟩ = some (.int .i64 st)) (late := []) (by kernel_rfl) (KC.out _ ((Below.refl _ _).drew)) (fun hHeld => ?_)
            (try simp only [List.size_toArray, List.length_cons, List.length_nil, Nat.zero_add, Nat.reduceAdd, Array.replicate, List.replicate])
            refine wpAnyM_take (i := 0) (oi := ⟨_, _, _, _, _, _⟩) (v := ?_) rfl (by kernel_rfl) (by kernel_rfl) (by kernel_rfl) (by kernel_rfl) (fun _ _ _ h => h) (Or.inl ⟨by rfl, ?_⟩) hHeld ?_
            rotate_left
            · (intro w' hSw; (try dsimp only at hSw); go_simp; try (with_reducible rfl))
            (try simp only [Act.put, List.setIfInBounds_toArray, List.set_cons_zero, List.set_cons_succ])
            refine wpAnyM_take (i := 1) (oi := ⟨_, _, _, _, _, _⟩) (v := ?_) rfl (by kernel_rfl) (by kernel_rfl) (by kernel_rfl) (by kernel_rfl) (fun _ _ _ h => h) (Or.inl ⟨by rfl, ?_⟩) hHeld ?_
            rotate_left
            · (intro w' hSw; (try dsimp only at hSw); go_simp; try (with_reducible rfl))
            (try simp only [Act.put, List.setIfInBounds_toArray, List.set_cons_zero, List.set_cons_succ])
            refine wpAnyM_take (i := 2) (oi := ⟨_, _, _, _, _, _⟩) (v := ?_) rfl (by kernel_rfl) (by kernel_rfl) (by kernel_rfl) (by kernel_rfl) (fun _ _ _ h => h) (Or.inl ⟨by rfl, ?_⟩) hHeld ?_
            rotate_left
            · (intro w' hSw; (try dsimp only at hSw); go_simp; try (with_reducible rfl))
            (try simp only [Act.put, List.setIfInBounds_toArray, List.set_cons_zero, List.set_cons_succ])
            refine wpAnyM_take (i := 3) (oi := ⟨_, _, _, _, _, _⟩) (v := ?_) rfl (by kernel_rfl) (by kernel_rfl) (by kernel_rfl) (by kernel_rfl) (fun _ _ _ h => h) (Or.inl ⟨by rfl, ?_⟩) hHeld ?_
            rotate_left
            · (intro w' hSw; (try dsimp only at hSw); go_simp; try (with_reducible rfl))
            (try simp only [Act.put, List.setIfInBounds_toArray, List.set_cons_zero, List.set_cons_succ])
            refine wpAnyM_take (i := 4) (oi := ⟨_, _, _, _, _, _⟩) (v := ?_) rfl (by kernel_rfl) (by kernel_rfl) (by kernel_rfl) (by kernel_rfl) (fun _ _ _ h => h) (Or.inl ⟨by rfl, ?_⟩) hHeld ?_
            rotate_left
            · (intro w' hSw; (try dsimp only at hSw); go_simp; try (with_reducible rfl))
            (try simp only [Act.put, List.setIfInBounds_toArray, List.set_cons_zero, List.set_cons_succ])
            refine wpAnyM_take (i := 5) (oi := ⟨_, _, _, _, _, _⟩) (v := ?_) rfl (by kernel_rfl) (by kernel_rfl) (by kernel_rfl) (by kernel_rfl) (fun _ _ _ h => h) (Or.inl ⟨by rfl, ?_⟩) hHeld ?_
            rotate_left
            · (intro w' hSw; (try dsimp only at hSw); go_simp; try (with_reducible rfl))
            (try simp only [Act.put, List.setIfInBounds_toArray, List.set_cons_zero, List.set_cons_succ])
            refine wpAnyM_take (i := 6) (oi := ⟨_, _, _, _, _, _⟩) (v := ?_) rfl (by kernel_rfl) (by kernel_rfl) (by kernel_rfl) (by kernel_rfl) (fun _ _ _ h => h) (Or.inl ⟨by rfl, ?_⟩) hHeld ?_
            rotate_left
            · (intro w' hSw; (try dsimp only at hSw); go_simp; try (with_reducible rfl))
            (try simp only [Act.put, List.setIfInBounds_toArray, List.set_cons_zero, List.set_cons_succ])
            refine wpAnyM_take (i := 7) (oi := ⟨_, _, _, _, _, _⟩) (v := ?_) rfl (by kernel_rfl) (by kernel_rfl) (by kernel_rfl) (by kernel_rfl) (fun _ _ _ h => h) (Or.inl ⟨by rfl, ?_⟩) hHeld ?_
            rotate_left
            · (intro w' hSw; (try dsimp only at hSw); go_simp; try (with_reducible rfl))
            (try simp only [Act.put, List.setIfInBounds_toArray, List.set_cons_zero, List.set_cons_succ])
            refine wpAnyM_take (i := 8) (oi := ⟨_, _, _, _, _, _⟩) (v := ?_) rfl (by kernel_rfl) (by kernel_rfl) (by kernel_rfl) (by kernel_rfl) (fun _ _ _ h => h) (Or.inl ⟨by rfl, ?_⟩) hHeld ?_
            rotate_left
            · (intro w' hSw; (try dsimp only at hSw); go_simp; try (with_reducible rfl))
            (try simp only [Act.put, List.setIfInBounds_toArray, List.set_cons_zero, List.set_cons_succ])
            refine wpAnyM_take (i := 9) (oi := ⟨_, _, _, _, _, _⟩) (v := undef) rfl (by kernel_rfl) (by kernel_rfl) (by kernel_rfl) (by kernel_rfl) (fun _ _ _ h => h) (Or.inr ⟨by rfl, rfl⟩) hHeld ?_
            (try simp only [Act.put, List.setIfInBounds_toArray, List.set_cons_zero, List.set_cons_succ])
            refine wpAnyM_take (i := 10) (oi := ⟨_, _, _, _, _, _⟩) (v := undef) rfl (by kernel_rfl) (by kernel_rfl) (by kernel_rfl) (by kernel_rfl) (fun _ _ _ h => h) (Or.inr ⟨by rfl, rfl⟩) hHeld ?_
            (try simp only [Act.put, List.setIfInBounds_toArray, List.set_cons_zero, List.set_cons_succ])
            refine wpAnyM_take (i := 11) (oi := ⟨_, _, _, _, _, _⟩) (v := undef) rfl (by kernel_rfl) (by kernel_rfl) (by kernel_rfl) (by kernel_rfl) (fun _ _ _ h => h) (Or.inr ⟨by rfl, rfl⟩) hHeld ?_
            (try simp only [Act.put, List.setIfInBounds_toArray, List.set_cons_zero, List.set_cons_succ])
            refine wpAnyM_take (i := 12) (oi := ⟨_, _, _, _, _, _⟩) (v := undef) rfl (by kernel_rfl) (by kernel_rfl) (by kernel_rfl) (by kernel_rfl) (fun _ _ _ h => h) (Or.inr ⟨by rfl, rfl⟩) hHeld ?_
            (try simp only [Act.put, List.setIfInBounds_toArray, List.set_cons_zero, List.set_cons_succ])
            refine wpAnyM_take (i := 13) (oi := ⟨_, _, _, _, _, _⟩) (v := undef) rfl (by kernel_rfl) (by kernel_rfl) (by kernel_rfl) (by kernel_rfl) (fun _ _ _ h => h) (Or.inr ⟨by rfl, rfl⟩) hHeld ?_
            (try simp only [Act.put, List.setIfInBounds_toArray, List.set_cons_zero, List.set_cons_succ])
            refine wpAnyM_take (i := 14) (oi := ⟨_, _, _, _, _, _⟩) (v := undef) rfl (by kernel_rfl) (by kernel_rfl) (by kernel_rfl) (by kernel_rfl) (fun _ _ _ h => h) (Or.inr ⟨by rfl, rfl⟩) hHeld ?_
            (try simp only [Act.put, List.setIfInBounds_toArray, List.set_cons_zero, List.set_cons_succ])
            refine wpAnyM_take (i := 15) (oi := ⟨_, _, _, _, _, _⟩) (v := undef) rfl (by kernel_rfl) (by kernel_rfl) (by kernel_rfl) (by kernel_rfl) (fun _ _ _ h => h) (Or.inr ⟨by rfl, rfl⟩) hHeld ?_
            (try simp only [Act.put, List.setIfInBounds_toArray, List.set_cons_zero, List.set_cons_succ])
            refine wpAnyM_take (i := 16) (oi := ⟨_, _, _, _, _, _⟩) (v := ?_) rfl (by kernel_rfl) (by kernel_rfl) (by kernel_rfl) (by kernel_rfl) (fun _ _ _ h => h) (Or.inl ⟨by rfl, ?_⟩) hHeld ?_
            rotate_left
            · (intro w' hSw; (try dsimp only at hSw); go_simp; try (with_reducible rfl))
            (try simp only [Act.put, List.setIfInBounds_toArray, List.set_cons_zero, List.set_cons_succ])
            refine wpAnyM_done (by kernel_rfl) ?_ _
            generalize hw4 : wr.drew = w4 at *
            have B4 : Hid (Below wr.heap.size wr w4) := (show Below _ _ _ by rw [← hw4]; exact (Below.refl _ _).drew)
            obtain ⟨a0, a1, a2, a3, a4, a5, a6, a7⟩ := KC.out _ B4.out
            have HB9 := hide (below_box w4 (.cells #[.int .i64 xk, .int .i64 xf, .int .i64 xt, .int .i64 xa] 46))
            have HX9 := hide (seg_one (x := ⟨xk, xf, xt, xa⟩) (BoxT.new 46 w4 #[.int .i64 xk, .int .i64 xf, .int .i64 xt, .int .i64 xa]))
            have HI9 := hide ((GI.out.below B4.out).below HB9.out)
            have HO9 := hide ((GO.out.below B4.out).below HB9.out)
            have HZ9 : Hid (w.heap.size + 4 ≤ (w4.alloc (.cells #[.int .i64 xk, .int .i64 xf, .int .i64 xt, .int .i64 xa] 46)).heap.size) := (show _ ≤ _ from HI9.out.p.lt)
            clear hw4 hHeld KC
            go_wp2_with (first | (at_builtin; refine app_segL Try.infoPn Try.underlying35 rfl (by decide) (by decide) Pn.cs_len Pn.cs_one rfl _ _ rfl (w.heap.size + 4) (.slice oa out.length oc) out rfl HO9.out _ _ [⟨xk, xf, xt, xa⟩] rfl HX9.out (by have := HOL.out; simp; omega) HZ9.out ?_; intro v9 w9 h9 g9 k9; have HI10 := hide (HI9.out.grown g9 (fun g e => HO9.out.at g e)); have HO10 := hide h9; obtain ⟨va9, vc9, rfl⟩ := h9.shape; clear h9 g9 k9) | fail)
            go_roundg go
            case rel => exact ⟨i + 1, out ++ [⟨xk, xf, xt, xa⟩], ac, by go_num, by omega, by omega, HI10, (show OwnL _ _ _ _ _ _ _ by have h := HO10.out; simp only [List.length_append, List.length_cons, List.length_nil, Nat.zero_add] at h; exact h), HIP⟩
            case measure => omega
        · as_aux_lemma =>
          obtain rfl : i = l.length := by omega
          have bt : ¬ ((l.length : Nat) : Int) < (l.length : Int) := by omega
          obtain ⟨c0, c1, c2, c3⟩ := (HP0.out _ _ GI.out).cells4
          have HB9 := hide (below_box wr (.cells #[.int .i64 rk, .int .i64 sf, .int .i64 st, .int .i64 ac] 46))
          have HX9 := hide (seg_one (x := ⟨rk, sf, st, ac⟩) (BoxT.new 46 wr #[.int .i64 rk, .int .i64 sf, .int .i64 st, .int .i64 ac]))
          have HI9 := hide (GI.out.below HB9.out)
          have HO9 := hide (GO.out.below HB9.out)
          have HZ9 : Hid (w.heap.size + 4 ≤ (wr.alloc (.cells #[.int .i64 rk, .int .i64 sf, .int .i64 st, .int .i64 ac] 46)).heap.size) := (show _ ≤ _ from HI9.out.p.lt)
          have HCM : Hid (Comes (sess k) (jn a) (⟨rk, sf, st, acc⟩ :: l) (srt (out ++ [⟨rk, sf, st, ac⟩]))) := (show Comes _ _ _ _ by
            have h1 := HAP.out
            rw [HSE.out] at h1 ⊢
            exact GP.out.ends h1)
          have HLL : Hid ((out ++ [(⟨rk, sf, st, ac⟩ : Pn)]).length ≤ 60000) := (show _ ≤ _ by rw [List.length_append, List.length_singleton]; have := HOL.out; omega)
          have HLS : Hid ((srt (out ++ [(⟨rk, sf, st, ac⟩ : Pn)])).length ≤ 60000) := (show _ ≤ _ by rw [srt_len]; exact HLL.out)
          clear GP
          go_wp2_with (first
            | (at_builtin; refine app_segL Try.infoPn Try.underlying35 rfl (by decide) (by decide) Pn.cs_len Pn.cs_one rfl _ _ rfl (w.heap.size + 4) (.slice oa out.length oc) out rfl HO9.out _ _ [⟨rk, sf, st, ac⟩] rfl HX9.out (by have := HOL.out; simp; omega) HZ9.out ?_; intro v9 w9 h9 g9 k9; have HI10 := hide (HI9.out.grown g9 (fun g e => HO9.out.at g e)); have HSO := hide (rSort_any (h9.seg Pn.cs_len (by have := HLL.out; omega)) (by have := HLL.out; omega)); clear h9 g9 k9)
            | (go_at_call 25; refine HSO.out.mono ?_; rintro e w10 ⟨u10, rfl, o10, b10⟩; have O10 := hide o10; have B10 := hide b10; clear o10 b10)
            | fail)
          go_ret
          exact ⟨_, _, rfl, O10.out.seg Pn.cs_len (by have := HLS.out; omega), HI10.out.bel.trans (B10.out.mono HI10.out.bel.size), srt_rising _, HCM.out⟩
end Go.Proofs.Ytlikikiglicdlaa
