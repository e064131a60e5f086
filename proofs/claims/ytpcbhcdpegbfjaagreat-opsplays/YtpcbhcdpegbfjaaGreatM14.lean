/-
  Texts in build order: WJoined.
-/
import Derived.Test.YtpcbhcdpegbfjaaGreatM08
/-
 joined.
-/
namespace Go.Proofs.YtpcbhcdpegbfjaaGreat
set_option maxHeartbeats 16000000
set_option maxRecDepth 100000
open Go.RowKit
theorem four4 (w : World) (o0 o1 o2 o3 : Obj) : ((((w.alloc o0).alloc o1).alloc o2).alloc o3).heap[w.heap.size]? = some o0 ∧ ((((w.alloc o0).alloc o1).alloc o2).alloc o3).heap[w.heap.size + 1]? = some o1 ∧ ((((w.alloc o0).alloc o1).alloc o2).alloc o3).heap[w.heap.size + 1 + 1]? = some o2 ∧ ((((w.alloc o0).alloc o1).alloc o2).alloc o3).heap[w.heap.size + 1 + 1 + 1]? = some o3 := by
 have e : ((((w.alloc o0).alloc o1).alloc o2).alloc o3).heap = (((w.heap.push o0).push o1).push o2).push o3 := rfl
 rw [e]
 simp only [Array.getElem?_push, Array.size_push]
 refine ⟨?_, ?_, ?_, ?_⟩
 ·rw [if_neg (by omega), if_neg (by omega), if_neg (by omega), if_pos trivial]
 ·rw [if_neg (by omega), if_neg (by omega), if_pos trivial]
 ·rw [if_neg (by omega), if_pos trivial]
 ·rw [if_pos trivial]
theorem cell_other {w : World} {k : Nat} (j : Nat) (u : Value) {b : Nat} (i : Nat) (h : b ≠ k) : (w.setCell ⟨k, j, none⟩ u).cell? ⟨b, i, none⟩ = w.cell? ⟨b, i, none⟩ := by
 have e := Below.heap_setCell w ⟨k, j, none⟩ u b h
 unfold World.cell?
 simp only [e]
theorem BoxT.four {t : TypeId} {w : World} {k : Nat} {c0 c1 c2 c3 : Value} (h : BoxT t w k #[c0, c1, c2, c3]) (u0 u1 u2 u3 : Value) : BoxT t ((((w.setCell ⟨k, 0, none⟩ u0).setCell ⟨k, 1, none⟩ u1).setCell ⟨k, 2, none⟩ u2).setCell ⟨k, 3, none⟩ u3) k #[u0, u1, u2, u3] := by
 have h0 : BoxT t _ _ #[u0, c1, c2, c3] := h.set 0 u0
 have h1 : BoxT t _ _ #[u0, u1, c2, c3] := h0.set 1 u1
 have h2 : BoxT t _ _ #[u0, u1, u2, c3] := h1.set 2 u2
 exact h2.set 3 u3
theorem below_four {B : Nat} {a w : World} (h : Below B a w) {k : Nat} (hk : B ≤ k) (u0 u1 u2 u3 : Value) : Below B a ((((w.setCell ⟨k, 0, none⟩ u0).setCell ⟨k, 1, none⟩ u1).setCell ⟨k, 2, none⟩ u2).setCell ⟨k, 3, none⟩ u3) :=
 (((h.setCell (p := ⟨k, 0, none⟩) hk u0).setCell (p := ⟨k, 1, none⟩) hk u1).setCell (p := ⟨k, 2, none⟩) hk u2).setCell (p := ⟨k, 3, none⟩) hk u3
theorem joined_any (w : World) (a : Int) (x y : Pn) : Calls Tryz.prog 172 #[.int .i64 a, x.val, y.val] w fun e w' => e = .returned (jp (jn a) x y).val ∧ Below w.heap.size w w' := by
 obtain ⟨xk, xf, xt, xa⟩ := x
 obtain ⟨yk, yf, yt, ya⟩ := y
 have HM := hide (fun w => Merge_any w a xa ya)
 have HJ : Hid (∀ mf mt, mf = min xf yf → mt = max xt yt → .agg #[.int .i64 xk, .int .i64 mf, .int .i64 mt, .int .i64 (jn a xa ya)] = (jp (jn a) ⟨xk, xf, xt, xa⟩ ⟨yk, yf, yt, ya⟩).val) := fun mf mt h1 h2 => by rw [h1, h2]; rfl
 generalize jn a xa ya = R at *
 generalize (jp (jn a) ⟨xk, xf, xt, xa⟩ ⟨yk, yf, yt, ya⟩).val = V at *
 by_cases h1 : yf < xf <;> by_cases h2 : yt > xt
 ·have HV : Hid (.agg #[.int .i64 xk, .int .i64 yf, .int .i64 yt, .int .i64 R] = V) := HJ.out _ _ (by omega) (by omega)
  clear HJ
  have h4 := four4 w (.cells #[.int .i64 xk, .int .i64 xf, .int .i64 xt, .int .i64 xa] 79) (.cells #[.int .i64 yk, .int .i64 yf, .int .i64 yt, .int .i64 ya] 79) (.cells #[.int .i64 0, .int .i64 0, .int .i64 0, .int .i64 0] 79) (.cells #[.int .i64 yf, .int .i64 yt] 72)
  have HB : Hid (Below w.heap.size w ((((w.alloc (.cells #[.int .i64 xk, .int .i64 xf, .int .i64 xt, .int .i64 xa] 79)).alloc (.cells #[.int .i64 yk, .int .i64 yf, .int .i64 yt, .int .i64 ya] 79)).alloc (.cells #[.int .i64 0, .int .i64 0, .int .i64 0, .int .i64 0] 79)).alloc (.cells #[.int .i64 yf, .int .i64 yt] 72))) := ((((Below.refl _ _).alloc (Nat.le_refl _) _).alloc (by simp) _).alloc (by simp; omega) _).alloc (by simp; omega) _
  have g0 : BoxT 79 ((((w.alloc (.cells #[.int .i64 xk, .int .i64 xf, .int .i64 xt, .int .i64 xa] 79)).alloc (.cells #[.int .i64 yk, .int .i64 yf, .int .i64 yt, .int .i64 ya] 79)).alloc (.cells #[.int .i64 0, .int .i64 0, .int .i64 0, .int .i64 0] 79)).alloc (.cells #[.int .i64 yf, .int .i64 yt] 72)) w.heap.size _ := h4.1
  have g1 : BoxT 79 ((((w.alloc (.cells #[.int .i64 xk, .int .i64 xf, .int .i64 xt, .int .i64 xa] 79)).alloc (.cells #[.int .i64 yk, .int .i64 yf, .int .i64 yt, .int .i64 ya] 79)).alloc (.cells #[.int .i64 0, .int .i64 0, .int .i64 0, .int .i64 0] 79)).alloc (.cells #[.int .i64 yf, .int .i64 yt] 72)) (w.heap.size + 1) _ := h4.2.1
  have g2 : BoxT 79 ((((w.alloc (.cells #[.int .i64 xk, .int .i64 xf, .int .i64 xt, .int .i64 xa] 79)).alloc (.cells #[.int .i64 yk, .int .i64 yf, .int .i64 yt, .int .i64 ya] 79)).alloc (.cells #[.int .i64 0, .int .i64 0, .int .i64 0, .int .i64 0] 79)).alloc (.cells #[.int .i64 yf, .int .i64 yt] 72)) (w.heap.size + 1 + 1) _ := h4.2.2.1
  have g3 : BoxT 72 ((((w.alloc (.cells #[.int .i64 xk, .int .i64 xf, .int .i64 xt, .int .i64 xa] 79)).alloc (.cells #[.int .i64 yk, .int .i64 yf, .int .i64 yt, .int .i64 ya] 79)).alloc (.cells #[.int .i64 0, .int .i64 0, .int .i64 0, .int .i64 0] 79)).alloc (.cells #[.int .i64 yf, .int .i64 yt] 72)) (w.heap.size + 1 + 1 + 1) _ := h4.2.2.2
  have KC : Hid (∀ w' : World, Below ((((w.alloc (.cells #[.int .i64 xk, .int .i64 xf, .int .i64 xt, .int .i64 xa] 79)).alloc (.cells #[.int .i64 yk, .int .i64 yf, .int .i64 yt, .int .i64 ya] 79)).alloc (.cells #[.int .i64 0, .int .i64 0, .int .i64 0, .int .i64 0] 79)).alloc (.cells #[.int .i64 yf, .int .i64 yt] 72)).heap.size ((((w.alloc (.cells #[.int .i64 xk, .int .i64 xf, .int .i64 xt, .int .i64 xa] 79)).alloc (.cells #[.int .i64 yk, .int .i64 yf, .int .i64 yt, .int .i64 ya] 79)).alloc (.cells #[.int .i64 0, .int .i64 0, .int .i64 0, .int .i64 0] 79)).alloc (.cells #[.int .i64 yf, .int .i64 yt] 72)) w' → w'.cell? ⟨w.heap.size, 0, none⟩ = some (.int .i64 xk) ∧ w'.cell? ⟨w.heap.size, 3, none⟩ = some (.int .i64 xa) ∧ w'.cell? ⟨w.heap.size + 1, 3, none⟩ = some (.int .i64 ya) ∧ w'.cell? ⟨w.heap.size + 1 + 1 + 1, 0, none⟩ = some (.int .i64 yf) ∧ w'.cell? ⟨w.heap.size + 1 + 1 + 1, 1, none⟩ = some (.int .i64 yt)) := fun w' h => ⟨(by rw [(g0.below h).cellAt]; rfl), (by rw [(g0.below h).cellAt]; rfl), (by rw [(g1.below h).cellAt]; rfl), (by rw [(g3.below h).cellAt]; rfl), (by rw [(g3.below h).cellAt]; rfl)⟩
  have HG := hide g2
  clear h4 g0 g1 g2 g3
  unfold Pn.val
  as_aux_lemma =>
  go_enter Tryz.func172, Tryz.ntmps172
  go_wp2_with fail
  refine wp_region_M (S := fun w' => w'.cell? ⟨w.heap.size, 0, none⟩ = some (.int .i64 xk) ∧ w'.cell? ⟨w.heap.size, 3, none⟩ = some (.int .i64 xa) ∧ w'.cell? ⟨w.heap.size + 1, 3, none⟩ = some (.int .i64 ya) ∧ w'.cell? ⟨w.heap.size + 1 + 1 + 1, 0, none⟩ = some (.int .i64 yf) ∧ w'.cell? ⟨w.heap.size + 1 + 1 + 1, 1, none⟩ = some (.int .i64 yt)) (late := []) (by kernel_rfl) (KC.out _ (Below.refl _ _).drew) (fun hH => ?_)
  (try simp only [nr, Nat.reduceAdd])
  refine tkA 0 hH ?_; simp only [nm]; refine tkA 1 hH ?_; simp only [nm]; refine tkA 2 hH ?_; simp only [nm]; refine tkA 3 hH ?_; simp only [nm]; refine tkA 4 hH ?_; simp only [nm]; refine tkA 5 hH ?_; simp only [nm]; refine tkA 6 hH ?_; simp only [nm]; refine tkA 7 hH ?_; simp only [nm]
  refine tkO 8 fun K hK => ?_
  go_simp
  go_at_call 114
  refine (HM.out _).mono ?_
  rintro e w1 ⟨rfl, hb⟩
  have B1 : Hid (Below ((((w.alloc (.cells #[.int .i64 xk, .int .i64 xf, .int .i64 xt, .int .i64 xa] 79)).alloc (.cells #[.int .i64 yk, .int .i64 yf, .int .i64 yt, .int .i64 ya] 79)).alloc (.cells #[.int .i64 0, .int .i64 0, .int .i64 0, .int .i64 0] 79)).alloc (.cells #[.int .i64 yf, .int .i64 yt] 72)).heap.size ((((w.alloc (.cells #[.int .i64 xk, .int .i64 xf, .int .i64 xt, .int .i64 xa] 79)).alloc (.cells #[.int .i64 yk, .int .i64 yf, .int .i64 yt, .int .i64 ya] 79)).alloc (.cells #[.int .i64 0, .int .i64 0, .int .i64 0, .int .i64 0] 79)).alloc (.cells #[.int .i64 yf, .int .i64 yt] 72)) w1) := ((Below.refl _ _).drew).trans hb
  refine hK.out _ _ (KC.out _ B1.out) (fun hH => ?_)
  clear hK K hb
  (try simp only [nm])
  refine tkA 9 hH ?_; simp only [nm]
  have HQ := hide (HG.out.below B1.out)
  obtain ⟨q0, q1, q2, q3⟩ := HQ.out.cells4
  have fz := fun j => HQ.out.free j
  refine tkO 10 fun K hK => ?_
  go_simp
  refine hK.out _ _ ?_ (fun _ => ?_)
  ·simp only [cell_other _ _ _ (show (w.heap.size : Nat) ≠ w.heap.size + 1 + 1 by omega), cell_other _ _ _ (show (w.heap.size + 1 : Nat) ≠ w.heap.size + 1 + 1 by omega), cell_other _ _ _ (show (w.heap.size + 1 + 1 + 1 : Nat) ≠ w.heap.size + 1 + 1 by omega)]; exact hH
  clear hK K
  refine wpAnyM_done (by kernel_rfl) ?_ _
  go_wp2_with fail
  obtain ⟨r0, r1, r2, r3⟩ := (HQ.out.four (.int .i64 xk) (.int .i64 yf) (.int .i64 yt) (.int .i64 R)).cells4
  exact bodyPost_ret (v := .agg #[.int .i64 xk, .int .i64 yf, .int .i64 yt, .int .i64 R]) (by simp [results, Tryz.results172, go_sem, r0, r1, r2, r3]) rfl ⟨by rw [HV.out], below_four (HB.out.trans (B1.out.mono HB.out.size)) (by omega) _ _ _ _⟩
 
 ·have HV : Hid (.agg #[.int .i64 xk, .int .i64 yf, .int .i64 xt, .int .i64 R] = V) := HJ.out _ _ (by omega) (by omega)
  clear HJ
  have h4 := four4 w (.cells #[.int .i64 xk, .int .i64 xf, .int .i64 xt, .int .i64 xa] 79) (.cells #[.int .i64 yk, .int .i64 yf, .int .i64 yt, .int .i64 ya] 79) (.cells #[.int .i64 0, .int .i64 0, .int .i64 0, .int .i64 0] 79) (.cells #[.int .i64 yf, .int .i64 xt] 72)
  have HB : Hid (Below w.heap.size w ((((w.alloc (.cells #[.int .i64 xk, .int .i64 xf, .int .i64 xt, .int .i64 xa] 79)).alloc (.cells #[.int .i64 yk, .int .i64 yf, .int .i64 yt, .int .i64 ya] 79)).alloc (.cells #[.int .i64 0, .int .i64 0, .int .i64 0, .int .i64 0] 79)).alloc (.cells #[.int .i64 yf, .int .i64 xt] 72))) := ((((Below.refl _ _).alloc (Nat.le_refl _) _).alloc (by simp) _).alloc (by simp; omega) _).alloc (by simp; omega) _
  have g0 : BoxT 79 ((((w.alloc (.cells #[.int .i64 xk, .int .i64 xf, .int .i64 xt, .int .i64 xa] 79)).alloc (.cells #[.int .i64 yk, .int .i64 yf, .int .i64 yt, .int .i64 ya] 79)).alloc (.cells #[.int .i64 0, .int .i64 0, .int .i64 0, .int .i64 0] 79)).alloc (.cells #[.int .i64 yf, .int .i64 xt] 72)) w.heap.size _ := h4.1
  have g1 : BoxT 79 ((((w.alloc (.cells #[.int .i64 xk, .int .i64 xf, .int .i64 xt, .int .i64 xa] 79)).alloc (.cells #[.int .i64 yk, .int .i64 yf, .int .i64 yt, .int .i64 ya] 79)).alloc (.cells #[.int .i64 0, .int .i64 0, .int .i64 0, .int .i64 0] 79)).alloc (.cells #[.int .i64 yf, .int .i64 xt] 72)) (w.heap.size + 1) _ := h4.2.1
  have g2 : BoxT 79 ((((w.alloc (.cells #[.int .i64 xk, .int .i64 xf, .int .i64 xt, .int .i64 xa] 79)).alloc (.cells #[.int .i64 yk, .int .i64 yf, .int .i64 yt, .int .i64 ya] 79)).alloc (.cells #[.int .i64 0, .int .i64 0, .int .i64 0, .int .i64 0] 79)).alloc (.cells #[.int .i64 yf, .int .i64 xt] 72)) (w.heap.size + 1 + 1) _ := h4.2.2.1
  have g3 : BoxT 72 ((((w.alloc (.cells #[.int .i64 xk, .int .i64 xf, .int .i64 xt, .int .i64 xa] 79)).alloc (.cells #[.int .i64 yk, .int .i64 yf, .int .i64 yt, .int .i64 ya] 79)).alloc (.cells #[.int .i64 0, .int .i64 0, .int .i64 0, .int .i64 0] 79)).alloc (.cells #[.int .i64 yf, .int .i64 xt] 72)) (w.heap.size + 1 + 1 + 1) _ := h4.2.2.2
  have KC : Hid (∀ w' : World, Below ((((w.alloc (.cells #[.int .i64 xk, .int .i64 xf, .int .i64 xt, .int .i64 xa] 79)).alloc (.cells #[.int .i64 yk, .int .i64 yf, .int .i64 yt, .int .i64 ya] 79)).alloc (.cells #[.int .i64 0, .int .i64 0, .int .i64 0, .int .i64 0] 79)).alloc (.cells #[.int .i64 yf, .int .i64 xt] 72)).heap.size ((((w.alloc (.cells #[.int .i64 xk, .int .i64 xf, .int .i64 xt, .int .i64 xa] 79)).alloc (.cells #[.int .i64 yk, .int .i64 yf, .int .i64 yt, .int .i64 ya] 79)).alloc (.cells #[.int .i64 0, .int .i64 0, .int .i64 0, .int .i64 0] 79)).alloc (.cells #[.int .i64 yf, .int .i64 xt] 72)) w' → w'.cell? ⟨w.heap.size, 0, none⟩ = some (.int .i64 xk) ∧ w'.cell? ⟨w.heap.size, 3, none⟩ = some (.int .i64 xa) ∧ w'.cell? ⟨w.heap.size + 1, 3, none⟩ = some (.int .i64 ya) ∧ w'.cell? ⟨w.heap.size + 1 + 1 + 1, 0, none⟩ = some (.int .i64 yf) ∧ w'.cell? ⟨w.heap.size + 1 + 1 + 1, 1, none⟩ = some (.int .i64 xt)) := fun w' h => ⟨(by rw [(g0.below h).cellAt]; rfl), (by rw [(g0.below h).cellAt]; rfl), (by rw [(g1.below h).cellAt]; rfl), (by rw [(g3.below h).cellAt]; rfl), (by rw [(g3.below h).cellAt]; rfl)⟩
  have HG := hide g2
  clear h4 g0 g1 g2 g3
  unfold Pn.val
  as_aux_lemma =>
  go_enter Tryz.func172, Tryz.ntmps172
  go_wp2_with fail
  refine wp_region_M (S := fun w' => w'.cell? ⟨w.heap.size, 0, none⟩ = some (.int .i64 xk) ∧ w'.cell? ⟨w.heap.size, 3, none⟩ = some (.int .i64 xa) ∧ w'.cell? ⟨w.heap.size + 1, 3, none⟩ = some (.int .i64 ya) ∧ w'.cell? ⟨w.heap.size + 1 + 1 + 1, 0, none⟩ = some (.int .i64 yf) ∧ w'.cell? ⟨w.heap.size + 1 + 1 + 1, 1, none⟩ = some (.int .i64 xt)) (late := []) (by kernel_rfl) (KC.out _ (Below.refl _ _).drew) (fun hH => ?_)
  (try simp only [nr, Nat.reduceAdd])
  refine tkA 0 hH ?_; simp only [nm]; refine tkA 1 hH ?_; simp only [nm]; refine tkA 2 hH ?_; simp only [nm]; refine tkA 3 hH ?_; simp only [nm]; refine tkA 4 hH ?_; simp only [nm]; refine tkA 5 hH ?_; simp only [nm]; refine tkA 6 hH ?_; simp only [nm]; refine tkA 7 hH ?_; simp only [nm]
  refine tkO 8 fun K hK => ?_
  go_simp
  go_at_call 114
  refine (HM.out _).mono ?_
  rintro e w1 ⟨rfl, hb⟩
  have B1 : Hid (Below ((((w.alloc (.cells #[.int .i64 xk, .int .i64 xf, .int .i64 xt, .int .i64 xa] 79)).alloc (.cells #[.int .i64 yk, .int .i64 yf, .int .i64 yt, .int .i64 ya] 79)).alloc (.cells #[.int .i64 0, .int .i64 0, .int .i64 0, .int .i64 0] 79)).alloc (.cells #[.int .i64 yf, .int .i64 xt] 72)).heap.size ((((w.alloc (.cells #[.int .i64 xk, .int .i64 xf, .int .i64 xt, .int .i64 xa] 79)).alloc (.cells #[.int .i64 yk, .int .i64 yf, .int .i64 yt, .int .i64 ya] 79)).alloc (.cells #[.int .i64 0, .int .i64 0, .int .i64 0, .int .i64 0] 79)).alloc (.cells #[.int .i64 yf, .int .i64 xt] 72)) w1) := ((Below.refl _ _).drew).trans hb
  refine hK.out _ _ (KC.out _ B1.out) (fun hH => ?_)
  clear hK K hb
  (try simp only [nm])
  refine tkA 9 hH ?_; simp only [nm]
  have HQ := hide (HG.out.below B1.out)
  obtain ⟨q0, q1, q2, q3⟩ := HQ.out.cells4
  have fz := fun j => HQ.out.free j
  refine tkO 10 fun K hK => ?_
  go_simp
  refine hK.out _ _ ?_ (fun _ => ?_)
  ·simp only [cell_other _ _ _ (show (w.heap.size : Nat) ≠ w.heap.size + 1 + 1 by omega), cell_other _ _ _ (show (w.heap.size + 1 : Nat) ≠ w.heap.size + 1 + 1 by omega), cell_other _ _ _ (show (w.heap.size + 1 + 1 + 1 : Nat) ≠ w.heap.size + 1 + 1 by omega)]; exact hH
  clear hK K
  refine wpAnyM_done (by kernel_rfl) ?_ _
  go_wp2_with fail
  obtain ⟨r0, r1, r2, r3⟩ := (HQ.out.four (.int .i64 xk) (.int .i64 yf) (.int .i64 xt) (.int .i64 R)).cells4
  exact bodyPost_ret (v := .agg #[.int .i64 xk, .int .i64 yf, .int .i64 xt, .int .i64 R]) (by simp [results, Tryz.results172, go_sem, r0, r1, r2, r3]) rfl ⟨by rw [HV.out], below_four (HB.out.trans (B1.out.mono HB.out.size)) (by omega) _ _ _ _⟩
 
 ·have HV : Hid (.agg #[.int .i64 xk, .int .i64 xf, .int .i64 yt, .int .i64 R] = V) := HJ.out _ _ (by omega) (by omega)
  clear HJ
  have h4 := four4 w (.cells #[.int .i64 xk, .int .i64 xf, .int .i64 xt, .int .i64 xa] 79) (.cells #[.int .i64 yk, .int .i64 yf, .int .i64 yt, .int .i64 ya] 79) (.cells #[.int .i64 0, .int .i64 0, .int .i64 0, .int .i64 0] 79) (.cells #[.int .i64 xf, .int .i64 yt] 72)
  have HB : Hid (Below w.heap.size w ((((w.alloc (.cells #[.int .i64 xk, .int .i64 xf, .int .i64 xt, .int .i64 xa] 79)).alloc (.cells #[.int .i64 yk, .int .i64 yf, .int .i64 yt, .int .i64 ya] 79)).alloc (.cells #[.int .i64 0, .int .i64 0, .int .i64 0, .int .i64 0] 79)).alloc (.cells #[.int .i64 xf, .int .i64 yt] 72))) := ((((Below.refl _ _).alloc (Nat.le_refl _) _).alloc (by simp) _).alloc (by simp; omega) _).alloc (by simp; omega) _
  have g0 : BoxT 79 ((((w.alloc (.cells #[.int .i64 xk, .int .i64 xf, .int .i64 xt, .int .i64 xa] 79)).alloc (.cells #[.int .i64 yk, .int .i64 yf, .int .i64 yt, .int .i64 ya] 79)).alloc (.cells #[.int .i64 0, .int .i64 0, .int .i64 0, .int .i64 0] 79)).alloc (.cells #[.int .i64 xf, .int .i64 yt] 72)) w.heap.size _ := h4.1
  have g1 : BoxT 79 ((((w.alloc (.cells #[.int .i64 xk, .int .i64 xf, .int .i64 xt, .int .i64 xa] 79)).alloc (.cells #[.int .i64 yk, .int .i64 yf, .int .i64 yt, .int .i64 ya] 79)).alloc (.cells #[.int .i64 0, .int .i64 0, .int .i64 0, .int .i64 0] 79)).alloc (.cells #[.int .i64 xf, .int .i64 yt] 72)) (w.heap.size + 1) _ := h4.2.1
  have g2 : BoxT 79 ((((w.alloc (.cells #[.int .i64 xk, .int .i64 xf, .int .i64 xt, .int .i64 xa] 79)).alloc (.cells #[.int .i64 yk, .int .i64 yf, .int .i64 yt, .int .i64 ya] 79)).alloc (.cells #[.int .i64 0, .int .i64 0, .int .i64 0, .int .i64 0] 79)).alloc (.cells #[.int .i64 xf, .int .i64 yt] 72)) (w.heap.size + 1 + 1) _ := h4.2.2.1
  have g3 : BoxT 72 ((((w.alloc (.cells #[.int .i64 xk, .int .i64 xf, .int .i64 xt, .int .i64 xa] 79)).alloc (.cells #[.int .i64 yk, .int .i64 yf, .int .i64 yt, .int .i64 ya] 79)).alloc (.cells #[.int .i64 0, .int .i64 0, .int .i64 0, .int .i64 0] 79)).alloc (.cells #[.int .i64 xf, .int .i64 yt] 72)) (w.heap.size + 1 + 1 + 1) _ := h4.2.2.2
  have KC : Hid (∀ w' : World, Below ((((w.alloc (.cells #[.int .i64 xk, .int .i64 xf, .int .i64 xt, .int .i64 xa] 79)).alloc (.cells #[.int .i64 yk, .int .i64 yf, .int .i64 yt, .int .i64 ya] 79)).alloc (.cells #[.int .i64 0, .int .i64 0, .int .i64 0, .int .i64 0] 79)).alloc (.cells #[.int .i64 xf, .int .i64 yt] 72)).heap.size ((((w.alloc (.cells #[.int .i64 xk, .int .i64 xf, .int .i64 xt, .int .i64 xa] 79)).alloc (.cells #[.int .i64 yk, .int .i64 yf, .int .i64 yt, .int .i64 ya] 79)).alloc (.cells #[.int .i64 0, .int .i64 0, .int .i64 0, .int .i64 0] 79)).alloc (.cells #[.int .i64 xf, .int .i64 yt] 72)) w' → w'.cell? ⟨w.heap.size, 0, none⟩ = some (.int .i64 xk) ∧ w'.cell? ⟨w.heap.size, 3, none⟩ = some (.int .i64 xa) ∧ w'.cell? ⟨w.heap.size + 1, 3, none⟩ = some (.int .i64 ya) ∧ w'.cell? ⟨w.heap.size + 1 + 1 + 1, 0, none⟩ = some (.int .i64 xf) ∧ w'.cell? ⟨w.heap.size + 1 + 1 + 1, 1, none⟩ = some (.int .i64 yt)) := fun w' h => ⟨(by rw [(g0.below h).cellAt]; rfl), (by rw [(g0.below h).cellAt]; rfl), (by rw [(g1.below h).cellAt]; rfl), (by rw [(g3.below h).cellAt]; rfl), (by rw [(g3.below h).cellAt]; rfl)⟩
  have HG := hide g2
  clear h4 g0 g1 g2 g3
  unfold Pn.val
  as_aux_lemma =>
  go_enter Tryz.func172, Tryz.ntmps172
  go_wp2_with fail
  refine wp_region_M (S := fun w' => w'.cell? ⟨w.heap.size, 0, none⟩ = some (.int .i64 xk) ∧ w'.cell? ⟨w.heap.size, 3, none⟩ = some (.int .i64 xa) ∧ w'.cell? ⟨w.heap.size + 1, 3, none⟩ = some (.int .i64 ya) ∧ w'.cell? ⟨w.heap.size + 1 + 1 + 1, 0, none⟩ = some (.int .i64 xf) ∧ w'.cell? ⟨w.heap.size + 1 + 1 + 1, 1, none⟩ = some (.int .i64 yt)) (late := []) (by kernel_rfl) (KC.out _ (Below.refl _ _).drew) (fun hH => ?_)
  (try simp only [nr, Nat.reduceAdd])
  refine tkA 0 hH ?_; simp only [nm]; refine tkA 1 hH ?_; simp only [nm]; refine tkA 2 hH ?_; simp only [nm]; refine tkA 3 hH ?_; simp only [nm]; refine tkA 4 hH ?_; simp only [nm]; refine tkA 5 hH ?_; simp only [nm]; refine tkA 6 hH ?_; simp only [nm]; refine tkA 7 hH ?_; simp only [nm]
  refine tkO 8 fun K hK => ?_
  go_simp
  go_at_call 114
  refine (HM.out _).mono ?_
  rintro e w1 ⟨rfl, hb⟩
  have B1 : Hid (Below ((((w.alloc (.cells #[.int .i64 xk, .int .i64 xf, .int .i64 xt, .int .i64 xa] 79)).alloc (.cells #[.int .i64 yk, .int .i64 yf, .int .i64 yt, .int .i64 ya] 79)).alloc (.cells #[.int .i64 0, .int .i64 0, .int .i64 0, .int .i64 0] 79)).alloc (.cells #[.int .i64 xf, .int .i64 yt] 72)).heap.size ((((w.alloc (.cells #[.int .i64 xk, .int .i64 xf, .int .i64 xt, .int .i64 xa] 79)).alloc (.cells #[.int .i64 yk, .int .i64 yf, .int .i64 yt, .int .i64 ya] 79)).alloc (.cells #[.int .i64 0, .int .i64 0, .int .i64 0, .int .i64 0] 79)).alloc (.cells #[.int .i64 xf, .int .i64 yt] 72)) w1) := ((Below.refl _ _).drew).trans hb
  refine hK.out _ _ (KC.out _ B1.out) (fun hH => ?_)
  clear hK K hb
  (try simp only [nm])
  refine tkA 9 hH ?_; simp only [nm]
  have HQ := hide (HG.out.below B1.out)
  obtain ⟨q0, q1, q2, q3⟩ := HQ.out.cells4
  have fz := fun j => HQ.out.free j
  refine tkO 10 fun K hK => ?_
  go_simp
  refine hK.out _ _ ?_ (fun _ => ?_)
  ·simp only [cell_other _ _ _ (show (w.heap.size : Nat) ≠ w.heap.size + 1 + 1 by omega), cell_other _ _ _ (show (w.heap.size + 1 : Nat) ≠ w.heap.size + 1 + 1 by omega), cell_other _ _ _ (show (w.heap.size + 1 + 1 + 1 : Nat) ≠ w.heap.size + 1 + 1 by omega)]; exact hH
  clear hK K
  refine wpAnyM_done (by kernel_rfl) ?_ _
  go_wp2_with fail
  obtain ⟨r0, r1, r2, r3⟩ := (HQ.out.four (.int .i64 xk) (.int .i64 xf) (.int .i64 yt) (.int .i64 R)).cells4
  exact bodyPost_ret (v := .agg #[.int .i64 xk, .int .i64 xf, .int .i64 yt, .int .i64 R]) (by simp [results, Tryz.results172, go_sem, r0, r1, r2, r3]) rfl ⟨by rw [HV.out], below_four (HB.out.trans (B1.out.mono HB.out.size)) (by omega) _ _ _ _⟩
 
 ·have HV : Hid (.agg #[.int .i64 xk, .int .i64 xf, .int .i64 xt, .int .i64 R] = V) := HJ.out _ _ (by omega) (by omega)
  clear HJ
  have h4 := four4 w (.cells #[.int .i64 xk, .int .i64 xf, .int .i64 xt, .int .i64 xa] 79) (.cells #[.int .i64 yk, .int .i64 yf, .int .i64 yt, .int .i64 ya] 79) (.cells #[.int .i64 0, .int .i64 0, .int .i64 0, .int .i64 0] 79) (.cells #[.int .i64 xf, .int .i64 xt] 72)
  have HB : Hid (Below w.heap.size w ((((w.alloc (.cells #[.int .i64 xk, .int .i64 xf, .int .i64 xt, .int .i64 xa] 79)).alloc (.cells #[.int .i64 yk, .int .i64 yf, .int .i64 yt, .int .i64 ya] 79)).alloc (.cells #[.int .i64 0, .int .i64 0, .int .i64 0, .int .i64 0] 79)).alloc (.cells #[.int .i64 xf, .int .i64 xt] 72))) := ((((Below.refl _ _).alloc (Nat.le_refl _) _).alloc (by simp) _).alloc (by simp; omega) _).alloc (by simp; omega) _
  have g0 : BoxT 79 ((((w.alloc (.cells #[.int .i64 xk, .int .i64 xf, .int .i64 xt, .int .i64 xa] 79)).alloc (.cells #[.int .i64 yk, .int .i64 yf, .int .i64 yt, .int .i64 ya] 79)).alloc (.cells #[.int .i64 0, .int .i64 0, .int .i64 0, .int .i64 0] 79)).alloc (.cells #[.int .i64 xf, .int .i64 xt] 72)) w.heap.size _ := h4.1
  have g1 : BoxT 79 ((((w.alloc (.cells #[.int .i64 xk, .int .i64 xf, .int .i64 xt, .int .i64 xa] 79)).alloc (.cells #[.int .i64 yk, .int .i64 yf, .int .i64 yt, .int .i64 ya] 79)).alloc (.cells #[.int .i64 0, .int .i64 0, .int .i64 0, .int .i64 0] 79)).alloc (.cells #[.int .i64 xf, .int .i64 xt] 72)) (w.heap.size + 1) _ := h4.2.1
  have g2 : BoxT 79 ((((w.alloc (.cells #[.int .i64 xk, .int .i64 xf, .int .i64 xt, .int .i64 xa] 79)).alloc (.cells #[.int .i64 yk, .int .i64 yf, .int .i64 yt, .int .i64 ya] 79)).alloc (.cells #[.int .i64 0, .int .i64 0, .int .i64 0, .int .i64 0] 79)).alloc (.cells #[.int .i64 xf, .int .i64 xt] 72)) (w.heap.size + 1 + 1) _ := h4.2.2.1
  have g3 : BoxT 72 ((((w.alloc (.cells #[.int .i64 xk, .int .i64 xf, .int .i64 xt, .int .i64 xa] 79)).alloc (.cells #[.int .i64 yk, .int .i64 yf, .int .i64 yt, .int .i64 ya] 79)).alloc (.cells #[.int .i64 0, .int .i64 0, .int .i64 0, .int .i64 0] 79)).alloc (.cells #[.int .i64 xf, .int .i64 xt] 72)) (w.heap.size + 1 + 1 + 1) _ := h4.2.2.2
  have KC : Hid (∀ w' : World, Below ((((w.alloc (.cells #[.int .i64 xk, .int .i64 xf, .int .i64 xt, .int .i64 xa] 79)).alloc (.cells #[.int .i64 yk, .int .i64 yf, .int .i64 yt, .int .i64 ya] 79)).alloc (.cells #[.int .i64 0, .int .i64 0, .int .i64 0, .int .i64 0] 79)).alloc (.cells #[.int .i64 xf, .int .i64 xt] 72)).heap.size ((((w.alloc (.cells #[.int .i64 xk, .int .i64 xf, .int .i64 xt, .int .i64 xa] 79)).alloc (.cells #[.int .i64 yk, .int .i64 yf, .int .i64 yt, .int .i64 ya] 79)).alloc (.cells #[.int .i64 0, .int .i64 0, .int .i64 0, .int .i64 0] 79)).alloc (.cells #[.int .i64 xf, .int .i64 xt] 72)) w' → w'.cell? ⟨w.heap.size, 0, none⟩ = some (.int .i64 xk) ∧ w'.cell? ⟨w.heap.size, 3, none⟩ = some (.int .i64 xa) ∧ w'.cell? ⟨w.heap.size + 1, 3, none⟩ = some (.int .i64 ya) ∧ w'.cell? ⟨w.heap.size + 1 + 1 + 1, 0, none⟩ = some (.int .i64 xf) ∧ w'.cell? ⟨w.heap.size + 1 + 1 + 1, 1, none⟩ = some (.int .i64 xt)) := fun w' h => ⟨(by rw [(g0.below h).cellAt]; rfl), (by rw [(g0.below h).cellAt]; rfl), (by rw [(g1.below h).cellAt]; rfl), (by rw [(g3.below h).cellAt]; rfl), (by rw [(g3.below h).cellAt]; rfl)⟩
  have HG := hide g2
  clear h4 g0 g1 g2 g3
  unfold Pn.val
  as_aux_lemma =>
  go_enter Tryz.func172, Tryz.ntmps172
  go_wp2_with fail
  refine wp_region_M (S := fun w' => w'.cell? ⟨w.heap.size, 0, none⟩ = some (.int .i64 xk) ∧ w'.cell? ⟨w.heap.size, 3, none⟩ = some (.int .i64 xa) ∧ w'.cell? ⟨w.heap.size + 1, 3, none⟩ = some (.int .i64 ya) ∧ w'.cell? ⟨w.heap.size + 1 + 1 + 1, 0, none⟩ = some (.int .i64 xf) ∧ w'.cell? ⟨w.heap.size + 1 + 1 + 1, 1, none⟩ = some (.int .i64 xt)) (late := []) (by kernel_rfl) (KC.out _ (Below.refl _ _).drew) (fun hH => ?_)
  (try simp only [nr, Nat.reduceAdd])
  refine tkA 0 hH ?_; simp only [nm]; refine tkA 1 hH ?_; simp only [nm]; refine tkA 2 hH ?_; simp only [nm]; refine tkA 3 hH ?_; simp only [nm]; refine tkA 4 hH ?_; simp only [nm]; refine tkA 5 hH ?_; simp only [nm]; refine tkA 6 hH ?_; simp only [nm]; refine tkA 7 hH ?_; simp only [nm]
  refine tkO 8 fun K hK => ?_
  go_simp
  go_at_call 114
  refine (HM.out _).mono ?_
  rintro e w1 ⟨rfl, hb⟩
  have B1 : Hid (Below ((((w.alloc (.cells #[.int .i64 xk, .int .i64 xf, .int .i64 xt, .int .i64 xa] 79)).alloc (.cells #[.int .i64 yk, .int .i64 yf, .int .i64 yt, .int .i64 ya] 79)).alloc (.cells #[.int .i64 0, .int .i64 0, .int .i64 0, .int .i64 0] 79)).alloc (.cells #[.int .i64 xf, .int .i64 xt] 72)).heap.size ((((w.alloc (.cells #[.int .i64 xk, .int .i64 xf, .int .i64 xt, .int .i64 xa] 79)).alloc (.cells #[.int .i64 yk, .int .i64 yf, .int .i64 yt, .int .i64 ya] 79)).alloc (.cells #[.int .i64 0, .int .i64 0, .int .i64 0, .int .i64 0] 79)).alloc (.cells #[.int .i64 xf, .int .i64 xt] 72)) w1) := ((Below.refl _ _).drew).trans hb
  refine hK.out _ _ (KC.out _ B1.out) (fun hH => ?_)
  clear hK K hb
  (try simp only [nm])
  refine tkA 9 hH ?_; simp only [nm]
  have HQ := hide (HG.out.below B1.out)
  obtain ⟨q0, q1, q2, q3⟩ := HQ.out.cells4
  have fz := fun j => HQ.out.free j
  refine tkO 10 fun K hK => ?_
  go_simp
  refine hK.out _ _ ?_ (fun _ => ?_)
  ·simp only [cell_other _ _ _ (show (w.heap.size : Nat) ≠ w.heap.size + 1 + 1 by omega), cell_other _ _ _ (show (w.heap.size + 1 : Nat) ≠ w.heap.size + 1 + 1 by omega), cell_other _ _ _ (show (w.heap.size + 1 + 1 + 1 : Nat) ≠ w.heap.size + 1 + 1 by omega)]; exact hH
  clear hK K
  refine wpAnyM_done (by kernel_rfl) ?_ _
  go_wp2_with fail
  obtain ⟨r0, r1, r2, r3⟩ := (HQ.out.four (.int .i64 xk) (.int .i64 xf) (.int .i64 xt) (.int .i64 R)).cells4
  exact bodyPost_ret (v := .agg #[.int .i64 xk, .int .i64 xf, .int .i64 xt, .int .i64 R]) (by simp [results, Tryz.results172, go_sem, r0, r1, r2, r3]) rfl ⟨by rw [HV.out], below_four (HB.out.trans (B1.out.mono HB.out.size)) (by omega) _ _ _ _⟩
 
end Go.Proofs.YtpcbhcdpegbfjaaGreat
