/-
  From, To, fed, Outs.
-/
import Derived.Test.YtfiafbfbiidnlaaPPlace
namespace Go.Proofs.Ytfiafbfbiidnlaa
open Go.RowKit

theorem two2 (w : World) (o0 o1 : Obj) : ((w.alloc o0).alloc o1).heap[w.heap.size]? = some o0 ∧ ((w.alloc o0).alloc o1).heap[w.heap.size + 1]? = some o1 := by
  have e : ((w.alloc o0).alloc o1).heap = (w.heap.push o0).push o1 := rfl
  rw [e]
  simp only [Array.getElem?_push, Array.size_push]
  refine ⟨?_, ?_⟩
  · rw [if_neg (by omega), if_pos trivial]
  · rw [if_pos trivial]
theorem OwnN.mono' {b b' : Nat} {w : World} {v : Value} {l : List Nat} (h : OwnN b w v l) (hb : b' ≤ b) : OwnN b' w v l := OwnL.mono h hb
set_option maxHeartbeats 1000000 in
set_option maxRecDepth 100000 in
theorem From_any {w : World} {ta : Option Addr} {tn tc : Nat} {cv : Value} {cs : List Cn} (hc : LSeg 3 Cn.cs w.heap.size w cv cs) (hl : cs.length ≤ 100000) (k : Int) :
    Calls Try.prog 14 #[.agg #[.slice ta tn tc, cv], .int .i64 k] w fun e w' => ∃ u, e = .returned u ∧ OwnN w.heap.size w' u (plc (fun c : Cn => decide (c.fr = k)) 0 cs) ∧ Below w.heap.size w w' := by
  obtain ⟨ca, cc, rfl⟩ := hc.shape
  have hb : Below w.heap.size w ((w.alloc (.cells #[.slice ta tn tc, .slice ca cs.length cc] 30)).alloc (.cells #[.int .i64 k] 3)) := ((Below.refl _ _).alloc (Nat.le_refl _) _).alloc (by simp) _
  have h2 := two2 w (.cells #[.slice ta tn tc, .slice ca cs.length cc] 30) (.cells #[.int .i64 k] 3)
  have HP := hide (placesC_any ((hc.below hb).mono hb.size) hl 33 runF33 [.pointer (some ⟨w.heap.size + 1, 0, none⟩)] (fun c : Cn => decide (c.fr = k)) (fun x _ w' h => from1_any ((show BoxT 3 _ _ _ from h2.2).below h) x))
  have HB := hide hb
  clear hc h2 hb
  go_enter Try.func14, Try.ntmps14
  go_wp2_with (go_at_call 32; refine HP.out.mono ?_; rintro e w1 ⟨u, rfl, o1, b1⟩)
  go_ret
  exact ⟨_, rfl, o1.mono' HB.out.size, HB.out.trans (b1.mono HB.out.size)⟩
set_option maxHeartbeats 1000000 in
set_option maxRecDepth 100000 in
theorem To_any {w : World} {ta : Option Addr} {tn tc : Nat} {cv : Value} {cs : List Cn} (hc : LSeg 3 Cn.cs w.heap.size w cv cs) (hl : cs.length ≤ 100000) (k : Int) :
    Calls Try.prog 16 #[.agg #[.slice ta tn tc, cv], .int .i64 k] w fun e w' => ∃ u, e = .returned u ∧ OwnN w.heap.size w' u (plc (fun c : Cn => decide (c.tg = k)) 0 cs) ∧ Below w.heap.size w w' := by
  obtain ⟨ca, cc, rfl⟩ := hc.shape
  have hb : Below w.heap.size w ((w.alloc (.cells #[.slice ta tn tc, .slice ca cs.length cc] 30)).alloc (.cells #[.int .i64 k] 3)) := ((Below.refl _ _).alloc (Nat.le_refl _) _).alloc (by simp) _
  have h2 := two2 w (.cells #[.slice ta tn tc, .slice ca cs.length cc] 30) (.cells #[.int .i64 k] 3)
  have HP := hide (placesC_any ((hc.below hb).mono hb.size) hl 34 runF34 [.pointer (some ⟨w.heap.size + 1, 0, none⟩)] (fun c : Cn => decide (c.tg = k)) (fun x _ w' h => to1_any ((show BoxT 3 _ _ _ from h2.2).below h) x))
  have HB := hide hb
  clear hc h2 hb
  go_enter Try.func16, Try.ntmps16
  go_wp2_with (go_at_call 32; refine HP.out.mono ?_; rintro e w1 ⟨u, rfl, o1, b1⟩)
  go_ret
  exact ⟨_, rfl, o1.mono' HB.out.size, HB.out.trans (b1.mono HB.out.size)⟩
/-- The task t is of the node that is fed, and f feeds it. -/
def fd1 (nd : Int) (all : Bool) (fp : Int) (t : Tk) : Bool := decide (t.nd = nd) && (all || decide (t.pt = fp))
set_option maxHeartbeats 1000000 in
set_option maxRecDepth 100000 in
theorem fed1_any {w : World} {Kn Ka Kf : Nat} {nd fn fp : Int} {all : Bool} (hn : BoxT 3 w Kn #[.int .i64 nd]) (ha : BoxT 4 w Ka #[.bool all]) (hf : BoxT 42 w Kf #[.int .i64 fn, .int .i64 fp]) (x : Tk) :
    Calls Try.prog 55 #[x.val, .pointer (some ⟨Kn, 0, none⟩), .pointer (some ⟨Ka, 0, none⟩), .pointer (some ⟨Kf, 0, none⟩)] w fun e w' => e = .returned (.bool (fd1 nd all fp x)) ∧ Below w.heap.size w w' := by
  obtain ⟨xn, xp⟩ := x
  have HB := hide (below_box w (.cells #[.int .i64 xn, .int .i64 xp] 42))
  have c1 : (w.alloc (.cells #[.int .i64 xn, .int .i64 xp] 42)).cell? ⟨Kn, 0, none⟩ = some (.int .i64 nd) := by rw [(hn.below HB.out).cellAt]; rfl
  have c2 : (w.alloc (.cells #[.int .i64 xn, .int .i64 xp] 42)).cell? ⟨Ka, 0, none⟩ = some (.bool all) := by rw [(ha.below HB.out).cellAt]; rfl
  have c3 : (w.alloc (.cells #[.int .i64 xn, .int .i64 xp] 42)).cell? ⟨Kf, 0 + 1, none⟩ = some (.int .i64 fp) := by rw [(hf.below HB.out).cellAt]; rfl
  have c4 : (w.alloc (.cells #[.int .i64 xn, .int .i64 xp] 42)).cell? ⟨Kf, 1, none⟩ = some (.int .i64 fp) := c3
  obtain ⟨R, hR⟩ : ∃ R, fd1 nd all fp ⟨xn, xp⟩ = R := ⟨_, rfl⟩
  rw [hR]
  unfold fd1 at hR
  simp only at hR
  clear hn ha hf
  unfold Tk.val
  by_cases h1 : xn = nd
  · have g1 : (xn == nd) = true := by simp [h1]
    have HR : Hid ((all || (xp == fp)) = R) := (show _ = R by rw [← hR]; simp only [h1, decide_true, Bool.true_and]; by_cases h : xp = fp <;> simp [h])
    clear hR h1
    cases all with
    | true =>
      have hR' : true = R := by rw [← HR.out]; rfl
      subst hR'
      go_enter Try.func55, Try.ntmps55
      go_wp2_with fail
      go_ret
      exact ⟨rfl, HB.out⟩
    | false =>
      go_enter Try.func55, Try.ntmps55
      go_wp2_with fail
      go_ret
      exact ⟨ret_bool HR.out, HB.out⟩
  · have g1 : (xn == nd) = false := by simp [h1]
    have hR' : false = R := by rw [← hR]; simp [h1]
    subst hR'
    clear hR h1
    go_enter Try.func55, Try.ntmps55
    go_wp2_with fail
    go_ret
    exact ⟨rfl, HB.out⟩
set_option maxHeartbeats 1000000 in
set_option maxRecDepth 100000 in
theorem outs1_any {w : World} {Kt Kj Kf Kp Kg : Nat} {task fn fp g : Int} {v tv cv : Value} {ns : List Nd} {ts : List Tk} (hj : JobIn w.heap.size w v ns) (ht : LSeg 2 Tk.cs w.heap.size w tv ts)
    (hKt : BoxT 3 w Kt #[.int .i64 task]) (hKj : BoxT 24 w Kj #[v]) (hKf : BoxT 42 w Kf #[.int .i64 fn, .int .i64 fp]) (hKp : BoxT 30 w Kp #[tv, cv]) (hKg : BoxT 3 w Kg #[.int .i64 g]) (x : Cn) :
    Calls Try.prog 37 #[x.val, .pointer (some ⟨Kt, 0, none⟩), .pointer (some ⟨Kj, 0, none⟩), .pointer (some ⟨Kf, 0, none⟩), .pointer (some ⟨Kp, 0, none⟩), .pointer (some ⟨Kg, 0, none⟩)] w
      fun e w' => e = .returned (.bool (decide (x.fr = task) && tks ns ⟨fn, fp⟩ (tkAt ts x.tg) g)) ∧ Below w.heap.size w w' := by
  obtain ⟨na, ncp, rfl⟩ := hj.shape
  obtain ⟨ta, tc, rfl⟩ := ht.shape
  obtain ⟨xf, xt, xi⟩ := x
  have HB := hide (below_box w (.cells #[.int .i64 xf, .int .i64 xt, .int .i64 xi] 40))
  have hj1 := (hj.below HB.out).mono HB.out.size
  have ht1 := (ht.below HB.out).mono HB.out.size
  have KC : Hid (∀ w' : World, Below (w.alloc (.cells #[.int .i64 xf, .int .i64 xt, .int .i64 xi] 40)).heap.size (w.alloc (.cells #[.int .i64 xf, .int .i64 xt, .int .i64 xi] 40)) w' → w'.cell? ⟨w.heap.size, 0, none⟩ = some (.int .i64 xf) ∧ w'.cell? ⟨w.heap.size, 1, none⟩ = some (.int .i64 xt) ∧ w'.cell? ⟨Kt, 0, none⟩ = some (.int .i64 task) ∧ w'.cell? ⟨Kj, 0, none⟩ = some (.slice na ns.length ncp) ∧ w'.cell? ⟨Kf, 0, none⟩ = some (.int .i64 fn) ∧ w'.cell? ⟨Kf, 1, none⟩ = some (.int .i64 fp) ∧ w'.cell? ⟨Kp, 0, none⟩ = some (.slice ta ts.length tc) ∧ w'.cell? ⟨Kg, 0, none⟩ = some (.int .i64 g)) := fun w' h => ⟨(by rw [((BoxT.new 40 w _).below h).cellAt]; rfl), (by rw [((BoxT.new 40 w _).below h).cellAt]; rfl), (by rw [((hKt.below HB.out).below h).cellAt]; rfl), (by rw [((hKj.below HB.out).below h).cellAt]; rfl), (by rw [((hKf.below HB.out).below h).cellAt]; rfl), (by rw [((hKf.below HB.out).below h).cellAt]; rfl), (by rw [((hKp.below HB.out).below h).cellAt]; rfl), (by rw [((hKg.below HB.out).below h).cellAt]; rfl)⟩
  have HA : Hid (∀ w', Below (w.alloc (.cells #[.int .i64 xf, .int .i64 xt, .int .i64 xi] 40)).heap.size (w.alloc (.cells #[.int .i64 xf, .int .i64 xt, .int .i64 xi] 40)) w' → Calls Try.prog 36 #[.slice ta ts.length tc, .int .i64 xt] w' fun e w'' => e = .returned (.agg #[.int .i64 (tkAt ts xt).nd, .int .i64 (tkAt ts xt).pt]) ∧ Below (w.alloc (.cells #[.int .i64 xf, .int .i64 xt, .int .i64 xi] 40)).heap.size (w.alloc (.cells #[.int .i64 xf, .int .i64 xt, .int .i64 xi] 40)) w'') := fun w' hb =>
    (atT_any ((ht1.below hb).mono hb.size) xt).mono (fun _ _ ⟨h1, h2⟩ => ⟨h1, hb.trans (h2.mono hb.size)⟩)
  have HT : Hid (∀ w', Below (w.alloc (.cells #[.int .i64 xf, .int .i64 xt, .int .i64 xi] 40)).heap.size (w.alloc (.cells #[.int .i64 xf, .int .i64 xt, .int .i64 xi] 40)) w' → Calls Try.prog 38 #[.agg #[.slice na ns.length ncp], .agg #[.int .i64 fn, .int .i64 fp], .agg #[.int .i64 (tkAt ts xt).nd, .int .i64 (tkAt ts xt).pt], .int .i64 g] w' fun e w'' => e = .returned (.bool (tks ns ⟨fn, fp⟩ (tkAt ts xt) g)) ∧ Below (w.alloc (.cells #[.int .i64 xf, .int .i64 xt, .int .i64 xi] 40)).heap.size (w.alloc (.cells #[.int .i64 xf, .int .i64 xt, .int .i64 xi] 40)) w'') := fun w' hb =>
    (takes_any ((hj1.below hb).mono hb.size) ⟨fn, fp⟩ (tkAt ts xt) g).mono (fun _ _ ⟨h1, h2⟩ => ⟨h1, hb.trans (h2.mono hb.size)⟩)
  unfold Cn.val
  simp only
  generalize tks ns ⟨fn, fp⟩ (tkAt ts xt) g = q at *
  generalize (tkAt ts xt).nd = an at *
  generalize (tkAt ts xt).pt = ap at *
  clear hj ht hKt hKj hKf hKp hKg hj1 ht1
  by_cases h1 : xf = task
  · have g1 : (xf == task) = true := by simp [h1]
    have g2 : (decide (xf = task) && q) = q := by simp [h1]
    rw [g2]
    clear h1 g2
    go_enter Try.func37, Try.ntmps37
    go_wp2_with fail
    have B1 : Hid (Below (w.alloc (.cells #[.int .i64 xf, .int .i64 xt, .int .i64 xi] 40)).heap.size (w.alloc (.cells #[.int .i64 xf, .int .i64 xt, .int .i64 xi] 40)) (w.alloc (.cells #[.int .i64 xf, .int .i64 xt, .int .i64 xi] 40)).drew) := (Below.refl _ _).drew
    refine wp_region_M (S := fun w' => w'.cell? ⟨w.heap.size, 0, none⟩ = some (.int .i64 xf) ∧ w'.cell? ⟨w.heap.size, 1, none⟩ = some (.int .i64 xt) ∧ w'.cell? ⟨Kt, 0, none⟩ = some (.int .i64 task) ∧ w'.cell? ⟨Kj, 0, none⟩ = some (.slice na ns.length ncp) ∧ w'.cell? ⟨Kf, 0, none⟩ = some (.int .i64 fn) ∧ w'.cell? ⟨Kf, 1, none⟩ = some (.int .i64 fp) ∧ w'.cell? ⟨Kp, 0, none⟩ = some (.slice ta ts.length tc) ∧ w'.cell? ⟨Kg, 0, none⟩ = some (.int .i64 g)) (late := []) (by kernel_rfl) (KC.out _ B1.out) (fun hHeld => ?_)
    (try simp only [List.size_toArray, List.length_cons, List.length_nil, Nat.zero_add, Nat.reduceAdd, Array.replicate, List.replicate])
    refine wpAnyM_take (i := 0) (oi := ⟨_, _, _, _, _, _⟩) (v := ?_) rfl (by kernel_rfl) (by kernel_rfl) (by kernel_rfl) (by kernel_rfl) (fun _ _ _ h => h) (Or.inl ⟨by rfl, ?_⟩) hHeld ?_
    rotate_left
    · (intro w' hSw; (try dsimp only at hSw); go_simp; try (with_reducible rfl))
    (try simp only [Act.put, List.setIfInBounds_toArray, List.set_cons_zero, List.set_cons_succ])
    refine wpAnyM_take (i := 1) (oi := ⟨_, _, _, _, _, _⟩) (v := ?_) rfl (by kernel_rfl) (by kernel_rfl) (by kernel_rfl) (by kernel_rfl) (fun _ _ _ h => h) (Or.inl ⟨by rfl, ?_⟩) hHeld ?_
    rotate_left
    · (intro w' hSw; (try dsimp only at hSw); go_simp; try (with_reducible rfl))
    (try simp only [Act.put, List.setIfInBounds_toArray, List.set_cons_zero, List.set_cons_succ])
    refine wpAnyM_take (i := 2) (oi := ⟨_, _, _, _, _, _⟩) (v := ?_) rfl (by kernel_rfl) (by kernel_rfl) (by kernel_rfl) (by kernel_rfl) (fun _ _ _ h => h) (Or.inl ⟨by rfl, ?_⟩) hHeld ?_
    rotate_left
    · (intro w' hSw; (try dsimp only at hSw); go_simp; try (with_reducible rfl))
    (try simp only [Act.put, List.setIfInBounds_toArray, List.set_cons_zero, List.set_cons_succ])
    refine wpAnyM_take (i := 3) (oi := ⟨_, _, _, _, _, _⟩) (v := ?_) rfl (by kernel_rfl) (by kernel_rfl) (by kernel_rfl) (by kernel_rfl) (fun _ _ _ h => h) (Or.inl ⟨by rfl, ?_⟩) hHeld ?_
    rotate_left
    · (intro w' hSw; (try dsimp only at hSw); go_simp; try (with_reducible rfl))
    (try simp only [Act.put, List.setIfInBounds_toArray, List.set_cons_zero, List.set_cons_succ])
    refine wpAnyM_take (i := 4) (oi := ⟨_, _, _, _, _, _⟩) (v := ?_) rfl (by kernel_rfl) (by kernel_rfl) (by kernel_rfl) (by kernel_rfl) (fun _ _ _ h => h) (Or.inl ⟨by rfl, ?_⟩) hHeld ?_
    rotate_left
    · (intro w' hSw; (try dsimp only at hSw); go_simp; try (with_reducible rfl))
    (try simp only [Act.put, List.setIfInBounds_toArray, List.set_cons_zero, List.set_cons_succ])
    refine wpAnyM_take (i := 5) (oi := ⟨_, _, _, _, _, _⟩) (v := ?_) rfl (by kernel_rfl) (by kernel_rfl) (by kernel_rfl) (by kernel_rfl) (fun _ _ _ h => h) (Or.inl ⟨by rfl, ?_⟩) hHeld ?_
    rotate_left
    · (intro w' hSw; (try dsimp only at hSw); go_simp; try (with_reducible rfl))
    (try simp only [Act.put, List.setIfInBounds_toArray, List.set_cons_zero, List.set_cons_succ])
    refine wpAnyM_take (i := 6) (oi := ⟨_, _, _, _, _, _⟩) (v := ?_) rfl (by kernel_rfl) (by kernel_rfl) (by kernel_rfl) (by kernel_rfl) (fun _ _ _ h => h) (Or.inl ⟨by rfl, ?_⟩) hHeld ?_
    rotate_left
    · (intro w' hSw; (try dsimp only at hSw); go_simp; try (with_reducible rfl))
    (try simp only [Act.put, List.setIfInBounds_toArray, List.set_cons_zero, List.set_cons_succ])
    refine wpAnyM_take (i := 7) (oi := ⟨_, _, _, _, _, _⟩) (v := ?_) rfl (by kernel_rfl) (by kernel_rfl) (by kernel_rfl) (by kernel_rfl) (fun _ _ _ h => h) (Or.inl ⟨by rfl, ?_⟩) hHeld ?_
    rotate_left
    · (intro w' hSw; (try dsimp only at hSw); go_simp; try (with_reducible rfl))
    (try simp only [Act.put, List.setIfInBounds_toArray, List.set_cons_zero, List.set_cons_succ])
    refine wpAnyM_take (i := 8) (oi := ⟨_, _, _, _, _, _⟩) (v := ?_) rfl (by kernel_rfl) (by kernel_rfl) (by kernel_rfl) (by kernel_rfl) (fun _ _ _ h => h) (Or.inl ⟨by rfl, ?_⟩) hHeld ?_
    rotate_left
    · (intro w' hSw; (try dsimp only at hSw); go_simp; try (with_reducible rfl))
    (try simp only [Act.put, List.setIfInBounds_toArray, List.set_cons_zero, List.set_cons_succ])
    refine wpAnyM_take (i := 9) (oi := ⟨_, _, _, _, _, _⟩) (v := ?_) rfl (by kernel_rfl) (by kernel_rfl) (by kernel_rfl) (by kernel_rfl) (fun _ _ _ h => h) (Or.inl ⟨by rfl, ?_⟩) hHeld ?_
    rotate_left
    · (intro w' hSw; (try dsimp only at hSw); go_simp; try (with_reducible rfl))
    (try simp only [Act.put, List.setIfInBounds_toArray, List.set_cons_zero, List.set_cons_succ])
    refine wpAnyM_take (i := 10) (oi := ⟨_, _, _, _, _, _⟩) (v := ?_) rfl (by kernel_rfl) (by kernel_rfl) (by kernel_rfl) (by kernel_rfl) (fun _ _ _ h => h) (Or.inl ⟨by rfl, ?_⟩) hHeld ?_
    rotate_left
    · (intro w' hSw; (try dsimp only at hSw); go_simp; try (with_reducible rfl))
    (try simp only [Act.put, List.setIfInBounds_toArray, List.set_cons_zero, List.set_cons_succ])
    refine wpAnyM_take (i := 12) (oi := ⟨_, _, _, _, _, _⟩) (v := ?_) rfl (by kernel_rfl) (by kernel_rfl) (by kernel_rfl) (by kernel_rfl) (fun _ _ _ h => h) (Or.inl ⟨by rfl, ?_⟩) hHeld ?_
    rotate_left
    · (intro w' hSw; (try dsimp only at hSw); go_simp; try (with_reducible rfl))
    (try simp only [Act.put, List.setIfInBounds_toArray, List.set_cons_zero, List.set_cons_succ])
    refine wpAnyM_one (i := 11) (o := ⟨_, _, _, _, _, _⟩) (by kernel_rfl) rfl (fun K hK => ?_)
    go_simp
    go_at_call 36
    refine (HA.out _ B1.out).mono ?_
    rintro e w2 ⟨rfl, hb⟩
    have B2 := hide hb
    refine hK.out _ _ (KC.out _ hb) (fun hHeld => ?_)
    clear hK K hb
    (try simp only [List.setIfInBounds_toArray, List.set_cons_zero, List.set_cons_succ])
    refine wpAnyM_one (i := 13) (o := ⟨_, _, _, _, _, _⟩) (by kernel_rfl) rfl (fun K hK => ?_)
    go_simp
    go_at_call 38
    refine (HT.out _ B2.out).mono ?_
    rintro e w3 ⟨rfl, hb⟩
    have B3 := hide hb
    refine hK.out _ _ (KC.out _ hb) (fun hHeld => ?_)
    clear hK K hb
    (try simp only [List.setIfInBounds_toArray, List.set_cons_zero, List.set_cons_succ])
    refine wpAnyM_take (i := 14) (oi := ⟨_, _, _, _, _, _⟩) (v := ?_) rfl (by kernel_rfl) (by kernel_rfl) (by kernel_rfl) (by kernel_rfl) (fun _ _ _ h => h) (Or.inl ⟨by rfl, ?_⟩) hHeld ?_
    rotate_left
    · (intro w' hSw; (try dsimp only at hSw); go_simp; try (with_reducible rfl))
    (try simp only [Act.put, List.setIfInBounds_toArray, List.set_cons_zero, List.set_cons_succ])
    refine wpAnyM_take (i := 15) (oi := ⟨_, _, _, _, _, _⟩) (v := ?_) rfl (by kernel_rfl) (by kernel_rfl) (by kernel_rfl) (by kernel_rfl) (fun _ _ _ h => h) (Or.inl ⟨by rfl, ?_⟩) hHeld ?_
    rotate_left
    · (intro w' hSw; (try dsimp only at hSw); go_simp; try (with_reducible rfl))
    (try simp only [Act.put, List.setIfInBounds_toArray, List.set_cons_zero, List.set_cons_succ])
    refine wpAnyM_done (by kernel_rfl) ?_ _
    go_wp2_with fail
    go_ret
    exact ⟨rfl, HB.out.trans (B3.out.mono HB.out.size)⟩
  · have g1 : (xf == task) = false := by simp [h1]
    have g2 : (decide (xf = task) && q) = false := by simp [h1]
    rw [g2]
    clear h1 g2 HA HT
    go_enter Try.func37, Try.ntmps37
    go_wp2_with fail
    have B1 : Hid (Below (w.alloc (.cells #[.int .i64 xf, .int .i64 xt, .int .i64 xi] 40)).heap.size (w.alloc (.cells #[.int .i64 xf, .int .i64 xt, .int .i64 xi] 40)) (w.alloc (.cells #[.int .i64 xf, .int .i64 xt, .int .i64 xi] 40)).drew) := (Below.refl _ _).drew
    refine wp_region_M (S := fun w' => w'.cell? ⟨w.heap.size, 0, none⟩ = some (.int .i64 xf) ∧ w'.cell? ⟨w.heap.size, 1, none⟩ = some (.int .i64 xt) ∧ w'.cell? ⟨Kt, 0, none⟩ = some (.int .i64 task) ∧ w'.cell? ⟨Kj, 0, none⟩ = some (.slice na ns.length ncp) ∧ w'.cell? ⟨Kf, 0, none⟩ = some (.int .i64 fn) ∧ w'.cell? ⟨Kf, 1, none⟩ = some (.int .i64 fp) ∧ w'.cell? ⟨Kp, 0, none⟩ = some (.slice ta ts.length tc) ∧ w'.cell? ⟨Kg, 0, none⟩ = some (.int .i64 g)) (late := []) (by kernel_rfl) (KC.out _ B1.out) (fun hHeld => ?_)
    (try simp only [List.size_toArray, List.length_cons, List.length_nil, Nat.zero_add, Nat.reduceAdd, Array.replicate, List.replicate])
    refine wpAnyM_take (i := 0) (oi := ⟨_, _, _, _, _, _⟩) (v := ?_) rfl (by kernel_rfl) (by kernel_rfl) (by kernel_rfl) (by kernel_rfl) (fun _ _ _ h => h) (Or.inl ⟨by rfl, ?_⟩) hHeld ?_
    rotate_left
    · (intro w' hSw; (try dsimp only at hSw); go_simp; try (with_reducible rfl))
    (try simp only [Act.put, List.setIfInBounds_toArray, List.set_cons_zero, List.set_cons_succ])
    refine wpAnyM_take (i := 1) (oi := ⟨_, _, _, _, _, _⟩) (v := ?_) rfl (by kernel_rfl) (by kernel_rfl) (by kernel_rfl) (by kernel_rfl) (fun _ _ _ h => h) (Or.inl ⟨by rfl, ?_⟩) hHeld ?_
    rotate_left
    · (intro w' hSw; (try dsimp only at hSw); go_simp; try (with_reducible rfl))
    (try simp only [Act.put, List.setIfInBounds_toArray, List.set_cons_zero, List.set_cons_succ])
    refine wpAnyM_take (i := 2) (oi := ⟨_, _, _, _, _, _⟩) (v := ?_) rfl (by kernel_rfl) (by kernel_rfl) (by kernel_rfl) (by kernel_rfl) (fun _ _ _ h => h) (Or.inl ⟨by rfl, ?_⟩) hHeld ?_
    rotate_left
    · (intro w' hSw; (try dsimp only at hSw); go_simp; try (with_reducible rfl))
    (try simp only [Act.put, List.setIfInBounds_toArray, List.set_cons_zero, List.set_cons_succ])
    refine wpAnyM_take (i := 3) (oi := ⟨_, _, _, _, _, _⟩) (v := ?_) rfl (by kernel_rfl) (by kernel_rfl) (by kernel_rfl) (by kernel_rfl) (fun _ _ _ h => h) (Or.inl ⟨by rfl, ?_⟩) hHeld ?_
    rotate_left
    · (intro w' hSw; (try dsimp only at hSw); go_simp; try (with_reducible rfl))
    (try simp only [Act.put, List.setIfInBounds_toArray, List.set_cons_zero, List.set_cons_succ])
    refine wpAnyM_take (i := 4) (oi := ⟨_, _, _, _, _, _⟩) (v := ?_) rfl (by kernel_rfl) (by kernel_rfl) (by kernel_rfl) (by kernel_rfl) (fun _ _ _ h => h) (Or.inl ⟨by rfl, ?_⟩) hHeld ?_
    rotate_left
    · (intro w' hSw; (try dsimp only at hSw); go_simp; try (with_reducible rfl))
    (try simp only [Act.put, List.setIfInBounds_toArray, List.set_cons_zero, List.set_cons_succ])
    refine wpAnyM_take (i := 5) (oi := ⟨_, _, _, _, _, _⟩) (v := undef) rfl (by kernel_rfl) (by kernel_rfl) (by kernel_rfl) (by kernel_rfl) (fun _ _ _ h => h) (Or.inr ⟨by rfl, rfl⟩) hHeld ?_
    (try simp only [Act.put, List.setIfInBounds_toArray, List.set_cons_zero, List.set_cons_succ])
    refine wpAnyM_take (i := 6) (oi := ⟨_, _, _, _, _, _⟩) (v := undef) rfl (by kernel_rfl) (by kernel_rfl) (by kernel_rfl) (by kernel_rfl) (fun _ _ _ h => h) (Or.inr ⟨by rfl, rfl⟩) hHeld ?_
    (try simp only [Act.put, List.setIfInBounds_toArray, List.set_cons_zero, List.set_cons_succ])
    refine wpAnyM_take (i := 7) (oi := ⟨_, _, _, _, _, _⟩) (v := undef) rfl (by kernel_rfl) (by kernel_rfl) (by kernel_rfl) (by kernel_rfl) (fun _ _ _ h => h) (Or.inr ⟨by rfl, rfl⟩) hHeld ?_
    (try simp only [Act.put, List.setIfInBounds_toArray, List.set_cons_zero, List.set_cons_succ])
    refine wpAnyM_take (i := 8) (oi := ⟨_, _, _, _, _, _⟩) (v := undef) rfl (by kernel_rfl) (by kernel_rfl) (by kernel_rfl) (by kernel_rfl) (fun _ _ _ h => h) (Or.inr ⟨by rfl, rfl⟩) hHeld ?_
    (try simp only [Act.put, List.setIfInBounds_toArray, List.set_cons_zero, List.set_cons_succ])
    refine wpAnyM_take (i := 9) (oi := ⟨_, _, _, _, _, _⟩) (v := undef) rfl (by kernel_rfl) (by kernel_rfl) (by kernel_rfl) (by kernel_rfl) (fun _ _ _ h => h) (Or.inr ⟨by rfl, rfl⟩) hHeld ?_
    (try simp only [Act.put, List.setIfInBounds_toArray, List.set_cons_zero, List.set_cons_succ])
    refine wpAnyM_take (i := 10) (oi := ⟨_, _, _, _, _, _⟩) (v := undef) rfl (by kernel_rfl) (by kernel_rfl) (by kernel_rfl) (by kernel_rfl) (fun _ _ _ h => h) (Or.inr ⟨by rfl, rfl⟩) hHeld ?_
    (try simp only [Act.put, List.setIfInBounds_toArray, List.set_cons_zero, List.set_cons_succ])
    refine wpAnyM_take (i := 11) (oi := ⟨_, _, _, _, _, _⟩) (v := undef) rfl (by kernel_rfl) (by kernel_rfl) (by kernel_rfl) (by kernel_rfl) (fun _ _ _ h => h) (Or.inr ⟨by rfl, rfl⟩) hHeld ?_
    (try simp only [Act.put, List.setIfInBounds_toArray, List.set_cons_zero, List.set_cons_succ])
    refine wpAnyM_take (i := 12) (oi := ⟨_, _, _, _, _, _⟩) (v := undef) rfl (by kernel_rfl) (by kernel_rfl) (by kernel_rfl) (by kernel_rfl) (fun _ _ _ h => h) (Or.inr ⟨by rfl, rfl⟩) hHeld ?_
    (try simp only [Act.put, List.setIfInBounds_toArray, List.set_cons_zero, List.set_cons_succ])
    refine wpAnyM_take (i := 13) (oi := ⟨_, _, _, _, _, _⟩) (v := undef) rfl (by kernel_rfl) (by kernel_rfl) (by kernel_rfl) (by kernel_rfl) (fun _ _ _ h => h) (Or.inr ⟨by rfl, rfl⟩) hHeld ?_
    (try simp only [Act.put, List.setIfInBounds_toArray, List.set_cons_zero, List.set_cons_succ])
    refine wpAnyM_take (i := 14) (oi := ⟨_, _, _, _, _, _⟩) (v := ?_) rfl (by kernel_rfl) (by kernel_rfl) (by kernel_rfl) (by kernel_rfl) (fun _ _ _ h => h) (Or.inl ⟨by rfl, ?_⟩) hHeld ?_
    rotate_left
    · (intro w' hSw; (try dsimp only at hSw); go_simp; try (with_reducible rfl))
    (try simp only [Act.put, List.setIfInBounds_toArray, List.set_cons_zero, List.set_cons_succ])
    refine wpAnyM_take (i := 15) (oi := ⟨_, _, _, _, _, _⟩) (v := ?_) rfl (by kernel_rfl) (by kernel_rfl) (by kernel_rfl) (by kernel_rfl) (fun _ _ _ h => h) (Or.inl ⟨by rfl, ?_⟩) hHeld ?_
    rotate_left
    · (intro w' hSw; (try dsimp only at hSw); go_simp; try (with_reducible rfl))
    (try simp only [Act.put, List.setIfInBounds_toArray, List.set_cons_zero, List.set_cons_succ])
    refine wpAnyM_done (by kernel_rfl) ?_ _
    go_wp2_with fail
    go_ret
    exact ⟨rfl, HB.out.trans (B1.out.mono HB.out.size)⟩
end Go.Proofs.Ytfiafbfbiidnlaa
