/-
  Texts in build order: WKey.
-/
import Derived.Test.YtpcbhcdpegbfjaaGreatM03
/-
 byKey: how two panes stand to each other.
-/
namespace Go.Proofs.YtpcbhcdpegbfjaaGreat
set_option maxHeartbeats 16000000
set_option maxRecDepth 100000
open Go.RowKit
def cfP (x y : Pn) : Int := orv [cmpv x.k y.k, cmpv x.f y.f, cmpv x.t y.t, cmpv x.a y.a]
theorem drew_alloc2 (w : World) (o p : Obj) : ((w.alloc o).alloc p).drew = Sort.grow (w.drewN 1) #[o, p] := by
 have e : ((w.alloc o).alloc p).drew = ((w.drew.alloc o).alloc p) := rfl
 rw [e, Sort.alloc_eq_grow, Sort.alloc_eq_grow, Sort.grow_grow]
 rfl
theorem two2 (w : World) (o0 o1 : Obj) : ((w.alloc o0).alloc o1).heap[w.heap.size]? = some o0 ∧ ((w.alloc o0).alloc o1).heap[w.heap.size + 1]? = some o1 := by
 have e : ((w.alloc o0).alloc o1).heap = (w.heap.push o0).push o1 := rfl
 rw [e]
 simp only [Array.getElem?_push, Array.size_push]
 refine ⟨?_, ?_⟩
 ·rw [if_neg (by omega), if_pos trivial]
 ·rw [if_pos trivial]
theorem byKey_any (x y : Pn) (w : World) : Calls Tryz.prog 112 #[.agg (Pn.cs x).toArray, .agg (Pn.cs y).toArray] w fun e w' => e = .returned (.int .i64 (cfP x y)) ∧ ∃ os, w' = Sort.grow (w.drewN 1) os := by
 obtain ⟨xk, xf, xt, xa⟩ := x
 obtain ⟨yk, yf, yt, ya⟩ := y
 simp only [Pn.cs, cfP]
 have h2 := two2 w (.cells #[.int .i64 xk, .int .i64 xf, .int .i64 xt, .int .i64 xa] 79) (.cells #[.int .i64 yk, .int .i64 yf, .int .i64 yt, .int .i64 ya] 79)
 have c1 : BoxT 79 ((w.alloc (.cells #[.int .i64 xk, .int .i64 xf, .int .i64 xt, .int .i64 xa] 79)).alloc (.cells #[.int .i64 yk, .int .i64 yf, .int .i64 yt, .int .i64 ya] 79)) w.heap.size _ := h2.1
 have c2 : BoxT 79 ((w.alloc (.cells #[.int .i64 xk, .int .i64 xf, .int .i64 xt, .int .i64 xa] 79)).alloc (.cells #[.int .i64 yk, .int .i64 yf, .int .i64 yt, .int .i64 ya] 79)) (w.heap.size + 1) _ := h2.2
 have KD := drew_alloc2 w (.cells #[.int .i64 xk, .int .i64 xf, .int .i64 xt, .int .i64 xa] 79) (.cells #[.int .i64 yk, .int .i64 yf, .int .i64 yt, .int .i64 ya] 79)
 have HS : Hid (((w.alloc (.cells #[.int .i64 xk, .int .i64 xf, .int .i64 xt, .int .i64 xa] 79)).alloc (.cells #[.int .i64 yk, .int .i64 yf, .int .i64 yt, .int .i64 ya] 79)).drew.cell? ⟨w.heap.size, 0, none⟩ = some (.int .i64 xk) ∧ ((w.alloc (.cells #[.int .i64 xk, .int .i64 xf, .int .i64 xt, .int .i64 xa] 79)).alloc (.cells #[.int .i64 yk, .int .i64 yf, .int .i64 yt, .int .i64 ya] 79)).drew.cell? ⟨w.heap.size, 1, none⟩ = some (.int .i64 xf) ∧ ((w.alloc (.cells #[.int .i64 xk, .int .i64 xf, .int .i64 xt, .int .i64 xa] 79)).alloc (.cells #[.int .i64 yk, .int .i64 yf, .int .i64 yt, .int .i64 ya] 79)).drew.cell? ⟨w.heap.size, 2, none⟩ = some (.int .i64 xt) ∧ ((w.alloc (.cells #[.int .i64 xk, .int .i64 xf, .int .i64 xt, .int .i64 xa] 79)).alloc (.cells #[.int .i64 yk, .int .i64 yf, .int .i64 yt, .int .i64 ya] 79)).drew.cell? ⟨w.heap.size, 3, none⟩ = some (.int .i64 xa) ∧ ((w.alloc (.cells #[.int .i64 xk, .int .i64 xf, .int .i64 xt, .int .i64 xa] 79)).alloc (.cells #[.int .i64 yk, .int .i64 yf, .int .i64 yt, .int .i64 ya] 79)).drew.cell? ⟨w.heap.size + 1, 0, none⟩ = some (.int .i64 yk) ∧ ((w.alloc (.cells #[.int .i64 xk, .int .i64 xf, .int .i64 xt, .int .i64 xa] 79)).alloc (.cells #[.int .i64 yk, .int .i64 yf, .int .i64 yt, .int .i64 ya] 79)).drew.cell? ⟨w.heap.size + 1, 1, none⟩ = some (.int .i64 yf) ∧ ((w.alloc (.cells #[.int .i64 xk, .int .i64 xf, .int .i64 xt, .int .i64 xa] 79)).alloc (.cells #[.int .i64 yk, .int .i64 yf, .int .i64 yt, .int .i64 ya] 79)).drew.cell? ⟨w.heap.size + 1, 2, none⟩ = some (.int .i64 yt) ∧ ((w.alloc (.cells #[.int .i64 xk, .int .i64 xf, .int .i64 xt, .int .i64 xa] 79)).alloc (.cells #[.int .i64 yk, .int .i64 yf, .int .i64 yt, .int .i64 ya] 79)).drew.cell? ⟨w.heap.size + 1, 3, none⟩ = some (.int .i64 ya) ∧ Hid (∃ os, ((w.alloc (.cells #[.int .i64 xk, .int .i64 xf, .int .i64 xt, .int .i64 xa] 79)).alloc (.cells #[.int .i64 yk, .int .i64 yf, .int .i64 yt, .int .i64 ya] 79)).drew = Sort.grow (w.drewN 1) os)) :=
  ⟨(by rw [c1.drew.cellAt]; rfl), (by rw [c1.drew.cellAt]; rfl), (by rw [c1.drew.cellAt]; rfl), (by rw [c1.drew.cellAt]; rfl), (by rw [c2.drew.cellAt]; rfl), (by rw [c2.drew.cellAt]; rfl), (by rw [c2.drew.cellAt]; rfl), (by rw [c2.drew.cellAt]; rfl), ⟨_, KD⟩⟩
 have HO := hide (fun (w' : World) (B : Nat) (v : Value) (h : LSeg 1 i64cs B w' v [cmpv xk yk, cmpv xf yf, cmpv xt yt, cmpv xa ya]) => Or_any h (by simp))
 generalize orv [cmpv xk yk, cmpv xf yf, cmpv xt yt, cmpv xa ya] = R at *
 generalize hq1 : cmpv xk yk = q1 at *
 generalize hq2 : cmpv xf yf = q2 at *
 generalize hq3 : cmpv xt yt = q3 at *
 generalize hq4 : cmpv xa ya = q4 at *
 have HC1 : Hid (∀ w, Calls Tryz.prog 123 #[.int .i64 xk, .int .i64 yk] w fun e w' => e = .returned (.int .i64 q1) ∧ w' = w) := fun w => hq1 ▸ Compare_any w xk yk
 have HC2 : Hid (∀ w, Calls Tryz.prog 123 #[.int .i64 xf, .int .i64 yf] w fun e w' => e = .returned (.int .i64 q2) ∧ w' = w) := fun w => hq2 ▸ Compare_any w xf yf
 have HC3 : Hid (∀ w, Calls Tryz.prog 123 #[.int .i64 xt, .int .i64 yt] w fun e w' => e = .returned (.int .i64 q3) ∧ w' = w) := fun w => hq3 ▸ Compare_any w xt yt
 have HC4 : Hid (∀ w, Calls Tryz.prog 123 #[.int .i64 xa, .int .i64 ya] w fun e w' => e = .returned (.int .i64 q4) ∧ w' = w) := fun w => hq4 ▸ Compare_any w xa ya
 clear hq1 hq2 hq3 hq4
 have hb3 : Below ((w.alloc (.cells #[.int .i64 xk, .int .i64 xf, .int .i64 xt, .int .i64 xa] 79)).alloc (.cells #[.int .i64 yk, .int .i64 yf, .int .i64 yt, .int .i64 ya] 79)).heap.size ((w.alloc (.cells #[.int .i64 xk, .int .i64 xf, .int .i64 xt, .int .i64 xa] 79)).alloc (.cells #[.int .i64 yk, .int .i64 yf, .int .i64 yt, .int .i64 ya] 79)) (((w.alloc (.cells #[.int .i64 xk, .int .i64 xf, .int .i64 xt, .int .i64 xa] 79)).alloc (.cells #[.int .i64 yk, .int .i64 yf, .int .i64 yt, .int .i64 ya] 79)).alloc (.cells #[.int .i64 q1, .int .i64 q2, .int .i64 q3, .int .i64 q4] 3)).drew := ((Below.refl _ _).alloc (Nat.le_refl _) _).drew
 have KC3 : Hid ((((w.alloc (.cells #[.int .i64 xk, .int .i64 xf, .int .i64 xt, .int .i64 xa] 79)).alloc (.cells #[.int .i64 yk, .int .i64 yf, .int .i64 yt, .int .i64 ya] 79)).alloc (.cells #[.int .i64 q1, .int .i64 q2, .int .i64 q3, .int .i64 q4] 3)).drew.cell? ⟨w.heap.size, 0, none⟩ = some (.int .i64 xk) ∧ (((w.alloc (.cells #[.int .i64 xk, .int .i64 xf, .int .i64 xt, .int .i64 xa] 79)).alloc (.cells #[.int .i64 yk, .int .i64 yf, .int .i64 yt, .int .i64 ya] 79)).alloc (.cells #[.int .i64 q1, .int .i64 q2, .int .i64 q3, .int .i64 q4] 3)).drew.cell? ⟨w.heap.size, 1, none⟩ = some (.int .i64 xf) ∧ (((w.alloc (.cells #[.int .i64 xk, .int .i64 xf, .int .i64 xt, .int .i64 xa] 79)).alloc (.cells #[.int .i64 yk, .int .i64 yf, .int .i64 yt, .int .i64 ya] 79)).alloc (.cells #[.int .i64 q1, .int .i64 q2, .int .i64 q3, .int .i64 q4] 3)).drew.cell? ⟨w.heap.size, 2, none⟩ = some (.int .i64 xt) ∧ (((w.alloc (.cells #[.int .i64 xk, .int .i64 xf, .int .i64 xt, .int .i64 xa] 79)).alloc (.cells #[.int .i64 yk, .int .i64 yf, .int .i64 yt, .int .i64 ya] 79)).alloc (.cells #[.int .i64 q1, .int .i64 q2, .int .i64 q3, .int .i64 q4] 3)).drew.cell? ⟨w.heap.size, 3, none⟩ = some (.int .i64 xa) ∧ (((w.alloc (.cells #[.int .i64 xk, .int .i64 xf, .int .i64 xt, .int .i64 xa] 79)).alloc (.cells #[.int .i64 yk, .int .i64 yf, .int .i64 yt, .int .i64 ya] 79)).alloc (.cells #[.int .i64 q1, .int .i64 q2, .int .i64 q3, .int .i64 q4] 3)).drew.cell? ⟨w.heap.size + 1, 0, none⟩ = some (.int .i64 yk) ∧ (((w.alloc (.cells #[.int .i64 xk, .int .i64 xf, .int .i64 xt, .int .i64 xa] 79)).alloc (.cells #[.int .i64 yk, .int .i64 yf, .int .i64 yt, .int .i64 ya] 79)).alloc (.cells #[.int .i64 q1, .int .i64 q2, .int .i64 q3, .int .i64 q4] 3)).drew.cell? ⟨w.heap.size + 1, 1, none⟩ = some (.int .i64 yf) ∧ (((w.alloc (.cells #[.int .i64 xk, .int .i64 xf, .int .i64 xt, .int .i64 xa] 79)).alloc (.cells #[.int .i64 yk, .int .i64 yf, .int .i64 yt, .int .i64 ya] 79)).alloc (.cells #[.int .i64 q1, .int .i64 q2, .int .i64 q3, .int .i64 q4] 3)).drew.cell? ⟨w.heap.size + 1, 2, none⟩ = some (.int .i64 yt) ∧ (((w.alloc (.cells #[.int .i64 xk, .int .i64 xf, .int .i64 xt, .int .i64 xa] 79)).alloc (.cells #[.int .i64 yk, .int .i64 yf, .int .i64 yt, .int .i64 ya] 79)).alloc (.cells #[.int .i64 q1, .int .i64 q2, .int .i64 q3, .int .i64 q4] 3)).drew.cell? ⟨w.heap.size + 1, 3, none⟩ = some (.int .i64 ya) ∧ Hid (∃ os, (((w.alloc (.cells #[.int .i64 xk, .int .i64 xf, .int .i64 xt, .int .i64 xa] 79)).alloc (.cells #[.int .i64 yk, .int .i64 yf, .int .i64 yt, .int .i64 ya] 79)).alloc (.cells #[.int .i64 q1, .int .i64 q2, .int .i64 q3, .int .i64 q4] 3)).drew = Sort.grow (w.drewN 1) os)) :=
  ⟨(by rw [(c1.below hb3).cellAt]; rfl), (by rw [(c1.below hb3).cellAt]; rfl), (by rw [(c1.below hb3).cellAt]; rfl), (by rw [(c1.below hb3).cellAt]; rfl), (by rw [(c2.below hb3).cellAt]; rfl), (by rw [(c2.below hb3).cellAt]; rfl), (by rw [(c2.below hb3).cellAt]; rfl), (by rw [(c2.below hb3).cellAt]; rfl), ⟨_, by
   have e : (((w.alloc (.cells #[.int .i64 xk, .int .i64 xf, .int .i64 xt, .int .i64 xa] 79)).alloc (.cells #[.int .i64 yk, .int .i64 yf, .int .i64 yt, .int .i64 ya] 79)).alloc (.cells #[.int .i64 q1, .int .i64 q2, .int .i64 q3, .int .i64 q4] 3)).drew = ((w.alloc (.cells #[.int .i64 xk, .int .i64 xf, .int .i64 xt, .int .i64 xa] 79)).alloc (.cells #[.int .i64 yk, .int .i64 yf, .int .i64 yt, .int .i64 ya] 79)).drew.alloc (.cells #[.int .i64 q1, .int .i64 q2, .int .i64 q3, .int .i64 q4] 3) := rfl
   rw [e, KD, Sort.alloc_eq_grow, Sort.grow_grow]⟩⟩
 have HL3 : Hid (LSeg 1 i64cs (w.heap.size + 1 + 1 + 1) (((w.alloc (.cells #[.int .i64 xk, .int .i64 xf, .int .i64 xt, .int .i64 xa] 79)).alloc (.cells #[.int .i64 yk, .int .i64 yf, .int .i64 yt, .int .i64 ya] 79)).alloc (.cells #[.int .i64 q1, .int .i64 q2, .int .i64 q3, .int .i64 q4] 3)).drew (.slice (some ⟨w.heap.size + 1 + 1, 0, none⟩) 4 4) [q1, q2, q3, q4]) := by
  have c3 : BoxT 3 (((w.alloc (.cells #[.int .i64 xk, .int .i64 xf, .int .i64 xt, .int .i64 xa] 79)).alloc (.cells #[.int .i64 yk, .int .i64 yf, .int .i64 yt, .int .i64 ya] 79)).alloc (.cells #[.int .i64 q1, .int .i64 q2, .int .i64 q3, .int .i64 q4] 3)).drew (w.heap.size + 1 + 1) _ := BoxT.drew (BoxT.new_at (t := 3) (w := (w.alloc (.cells #[.int .i64 xk, .int .i64 xf, .int .i64 xt, .int .i64 xa] 79)).alloc (.cells #[.int .i64 yk, .int .i64 yf, .int .i64 yt, .int .i64 ya] 79)) (by simp))
  refine ⟨_, 4, rfl, by simp, .inr ⟨w.heap.size + 1 + 1, 0, rfl, by omega, fun i x hi j u hu => ?_⟩⟩
  rw [c3.cellAt]
  have hi4 := lt_of_get hi
  have hj1 := lt_of_get hu
  simp only [i64cs, List.length_cons, List.length_nil] at hi4 hj1
  obtain rfl : j = 0 := by omega
  simp only [i64cs, List.getElem?_cons_zero, Option.some.injEq] at hu
  subst hu
  match i, hi with
  | 0, hi | 1, hi | 2, hi | 3, hi => simp at hi; subst hi; rfl
 clear h2 c1 c2 KD hb3
 go_enter Tryz.func112, Tryz.ntmps112
 go_wp2_with fail
 refine wp_region_M (S := fun w' => w'.cell? ⟨w.heap.size, 0, none⟩ = some (.int .i64 xk) ∧ w'.cell? ⟨w.heap.size, 1, none⟩ = some (.int .i64 xf) ∧ w'.cell? ⟨w.heap.size, 2, none⟩ = some (.int .i64 xt) ∧ w'.cell? ⟨w.heap.size, 3, none⟩ = some (.int .i64 xa) ∧ w'.cell? ⟨w.heap.size + 1, 0, none⟩ = some (.int .i64 yk) ∧ w'.cell? ⟨w.heap.size + 1, 1, none⟩ = some (.int .i64 yf) ∧ w'.cell? ⟨w.heap.size + 1, 2, none⟩ = some (.int .i64 yt) ∧ w'.cell? ⟨w.heap.size + 1, 3, none⟩ = some (.int .i64 ya) ∧ Hid (∃ os, w' = Sort.grow (w.drewN 1) os)) (late := []) (by kernel_rfl) HS.out (fun hH => ?_)
 (try simp only [nr, Nat.reduceAdd])
 refine tkA 0 hH ?_; simp only [nm]; refine tkA 1 hH ?_; simp only [nm]; refine tkA 2 hH ?_; simp only [nm]; refine tkA 3 hH ?_; simp only [nm]; refine tkA 5 hH ?_; simp only [nm]; refine tkA 6 hH ?_; simp only [nm]; refine tkA 7 hH ?_; simp only [nm]; refine tkA 8 hH ?_; simp only [nm]; refine tkA 9 hH ?_; simp only [nm]; refine tkA 10 hH ?_; simp only [nm]; refine tkA 12 hH ?_; simp only [nm]; refine tkA 13 hH ?_; simp only [nm]; refine tkA 14 hH ?_; simp only [nm]; refine tkA 15 hH ?_; simp only [nm]; refine tkA 16 hH ?_; simp only [nm]; refine tkA 17 hH ?_; simp only [nm]; refine tkA 19 hH ?_; simp only [nm]; refine tkA 20 hH ?_; simp only [nm]; refine tkA 21 hH ?_; simp only [nm]; refine tkA 22 hH ?_; simp only [nm]
 refine tkO 4 fun K hK => ?_
 go_simp
 go_at_call 123
 refine (HC1.out _).mono ?_
 rintro e w1 ⟨rfl, rfl⟩
 refine hK.out _ _ hH (fun hH => ?_)
 clear hK K
 (try simp only [nm])
 refine tkO 11 fun K hK => ?_
 go_simp
 go_at_call 123
 refine (HC2.out _).mono ?_
 rintro e w1 ⟨rfl, rfl⟩
 refine hK.out _ _ hH (fun hH => ?_)
 clear hK K
 (try simp only [nm])
 refine tkO 18 fun K hK => ?_
 go_simp
 go_at_call 123
 refine (HC3.out _).mono ?_
 rintro e w1 ⟨rfl, rfl⟩
 refine hK.out _ _ hH (fun hH => ?_)
 clear hK K
 (try simp only [nm])
 refine tkO 23 fun K hK => ?_
 go_simp
 go_at_call 123
 refine (HC4.out _).mono ?_
 rintro e w1 ⟨rfl, rfl⟩
 refine hK.out _ _ hH (fun hH => ?_)
 clear hK K
 (try simp only [nm])
 refine tkO 24 fun K hK => ?_
 go_simp
 refine hK.out _ _ (KC3.out) (fun hH => ?_)
 clear hK K
 refine tkO 25 fun K hK => ?_
 go_simp
 go_at_call 122
 refine (HO.out _ _ _ HL3.out).mono ?_
 rintro e w1 ⟨rfl, rfl⟩
 refine hK.out _ _ (KC3.out) (fun hH => ?_)
 clear hK K
 refine tkO 26 fun K hK => ?_
 go_simp
 refine hK.out _ _ (KC3.out) (fun hH => ?_)
 clear hK K
 refine wpAnyM_done (by kernel_rfl) ?_ _
 obtain ⟨os, hos⟩ := hH.2.2.2.2.2.2.2.2.out
 go_wp2_with fail
 go_ret
 exact ⟨rfl, os, hos⟩
end Go.Proofs.YtpcbhcdpegbfjaaGreat
