/-
  Texts in build order: SRFire.
-/
import Derived.Test.YtpcbhcdpegbfjaaGreatM44
import Derived.Test.YtpcbhcdpegbfjaaGreatM12
/-
 The document's Fire, walked.
-/
namespace Go.Proofs.YtpcbhcdpegbfjaaGreat
set_option maxHeartbeats 16000000
set_option maxRecDepth 100000
open Go.RowKit
theorem wrap_is (x : Int) : IntKind.i64.wrap x = wrap64 x := by
 unfold wrap64
 exact IntKind.wrap_i64 x
theorem seg_rec {w : World} {g : Nat} {x : Rc} (h : BoxT 38 w g #[.int .i64 x.k, .int .i64 x.t, .int .i64 x.v]) : LSeg 3 Rc.cs w.heap.size w (.slice (some ⟨g, 0, none⟩) 1 1) [x] := by
 refine ⟨_, 1, rfl, by simp, .inr ⟨g, 0, rfl, h.lt, fun i y hy j v hv => ?_⟩⟩
 have e0 : i = 0 := by have := lt_of_get hy; simp at this; exact this
 subst e0
 cases hy
 rw [h.cellAt]
 have hj : j < 3 := by have := lt_of_get hv; rwa [Rc.cs_len] at this
 have e4 : j = 0 ∨ j = 1 ∨ j = 2 := by omega
 rcases e4 with rfl | rfl | rfl <;> simpa [Rc.cs] using hv
theorem rFire_any {w : World} {v : Value} {l : List Pn} (hl : LSeg 4 Pn.cs w.heap.size w v l) (hn : l.length ≤ 100000) (mk : Int) : Calls Tryz.prog 45 #[v, .int .i64 mk] w fun e w' => ∃ u1 u2, e = .returned (.tuple #[u1, u2]) ∧ OwnL 38 3 Rc.cs w.heap.size w' u1 (outF mk (srt l)) ∧ OwnL 79 4 Pn.cs w.heap.size w' u2 (leftF mk (srt l)) ∧ Below w.heap.size w w' := by
 have HS1 := hide (rSort_any hl (by omega))
 obtain ⟨ao, cap, rfl⟩ := hl.shapeOf
 have hsl : (srt l).length ≤ 100000 := by rw [srt_len]; exact hn
 generalize srt l = m at *
 clear hl hn
 go_enter Tryz.func45, Tryz.ntmps45
 go_wp2_with (first | (go_at_call 22; refine HS1.out.mono ?_; rintro e w1 ⟨u, rfl, o1, b1⟩; obtain ⟨ua, uc, rfl⟩ := (o1.seg Pn.cs_len (by omega)).shapeOf; have O1 := hide (o1.seg Pn.cs_len (by omega)); have B1 := hide b1; clear o1 b1) | fail)
 clear HS1
 go_loopg [6, 7, 8] (m.length + 1) (fun gh ov lv iv wr => ∃ i : Nat, iv = .int .i64 (i : Int) ∧ i ≤ m.length ∧ m.length + 1 ≤ gh + i ∧ Hid (OwnL 38 3 Rc.cs w1.heap.size wr ov (outF mk (m.take i))) ∧ Hid (OwnL 79 4 Pn.cs w1.heap.size wr lv (leftF mk (m.take i))) ∧ Hid (Below w1.heap.size w1 wr))
 case atStart => exact ⟨0, rfl, by omega, by omega, OwnL.nil _ _ _ _ _, OwnL.nil _ _ _ _ _, Below.refl _ _⟩
 case round =>
  obtain ⟨i, rfl, hi, hg, GO, GL, GB⟩ := hrel
  obtain ⟨go, rfl⟩ : ∃ go, gk = go + 1 := ⟨gk - 1, by omega⟩
  by_cases hlt : i < m.length
  ·obtain ⟨x, hx⟩ := get_of_lt hlt
   have bt : (i : Int) < (m.length : Int) := by omega
   obtain ⟨nb, no, rfl, nlt, e0, e1, e2, e3⟩ := (O1.out.below GB.out).pane hx
   have HOS := hide (out_step (mk := mk) hx)
   have HLS := hide (left_step (mk := mk) hx)
   have HOL : Hid ((outF mk (m.take i)).length ≤ 100000) := (show _ ≤ _ by have h1 := out_len mk (m.take i); have h2 := take_len m i; omega)
   have HLL : Hid ((leftF mk (m.take i)).length ≤ 100000) := (show _ ≤ _ by have h1 := left_len mk (m.take i); have h2 := take_len m i; omega)
   generalize outF mk (m.take i) = oi at *
   generalize leftF mk (m.take i) = li at *
   obtain ⟨oa, oc, rfl⟩ := GO.out.shape
   obtain ⟨la, lc, rfl⟩ := GL.out.shape
   clear hx
   obtain ⟨xk, xf, xt, xa⟩ := x
   simp only at e0 e1 e2 e3
   have HOV : Hid (ovr mk ⟨xk, xf, xt, xa⟩ = decide (wrap64 (xt - 1) ≤ mk)) := (show _ = _ from rfl)
   have HRC : Hid (rcOf ⟨xk, xf, xt, xa⟩ = ⟨xk, wrap64 (xt - 1), xa⟩) := (show _ = _ from rfl)
   rw [HOV.out] at HOS HLS
   rw [HRC.out] at HOS
   clear HOV HRC
   have HE := hide (And.intro e0 (And.intro e1 (And.intro e2 e3)))
   have HNB := hide nlt
   by_cases ho : wrap64 (xt - 1) ≤ mk
   ·as_aux_lemma =>
    rw [decide_eq_true ho, if_pos rfl] at HOS HLS
    have KC : Hid (∀ w' : World, Below wr.heap.size wr w' → w'.cell? ⟨nb, no + i * 4, none⟩ = some (.int .i64 xk) ∧ w'.cell? ⟨nb, no + i * 4 + 1, none⟩ = some (.int .i64 xf) ∧ w'.cell? ⟨nb, no + i * 4 + 2, none⟩ = some (.int .i64 xt) ∧ w'.cell? ⟨nb, no + i * 4 + 3, none⟩ = some (.int .i64 xa)) := (show ∀ w' : World, _ from fun w' h => by
     have hl2 : nb < wr.heap.size := Nat.lt_of_lt_of_le HNB.out GB.out.size
     exact ⟨(h.cell (p := ⟨nb, no + i * 4, none⟩) hl2).trans HE.out.1, (h.cell (p := ⟨nb, no + i * 4 + 1, none⟩) hl2).trans HE.out.2.1, (h.cell (p := ⟨nb, no + i * 4 + 2, none⟩) hl2).trans HE.out.2.2.1, (h.cell (p := ⟨nb, no + i * 4 + 3, none⟩) hl2).trans HE.out.2.2.2⟩)
    have KC2 : Hid (∀ w' : World, Below w1.heap.size w1 w' → w'.cell? ⟨nb, no + i * 4, none⟩ = some (.int .i64 xk) ∧ w'.cell? ⟨nb, no + i * 4 + 1, none⟩ = some (.int .i64 xf) ∧ w'.cell? ⟨nb, no + i * 4 + 2, none⟩ = some (.int .i64 xt) ∧ w'.cell? ⟨nb, no + i * 4 + 3, none⟩ = some (.int .i64 xa)) := (show ∀ w' : World, _ from fun w' h => by
     have h0 := GB.out
     have c : ∀ (o : Nat) (u : Value), wr.cell? ⟨nb, o, none⟩ = some u → w'.cell? ⟨nb, o, none⟩ = some u := fun o u hu => (h.cell (p := ⟨nb, o, none⟩) HNB.out).trans ((h0.cell (p := ⟨nb, o, none⟩) HNB.out).symm.trans hu)
     exact ⟨c _ _ HE.out.1, c _ _ HE.out.2.1, c _ _ HE.out.2.2.1, c _ _ HE.out.2.2.2⟩)
    have HB3 := hide (below_box wr (.cells #[.int .i64 xk, .int .i64 (wrap64 (xt - 1)), .int .i64 xa] 38)).drew
    have HX3 : Hid (LSeg 3 Rc.cs (wr.alloc (.cells #[.int .i64 xk, .int .i64 (wrap64 (xt - 1)), .int .i64 xa] 38)).drew.heap.size (wr.alloc (.cells #[.int .i64 xk, .int .i64 (wrap64 (xt - 1)), .int .i64 xa] 38)).drew (.slice (some ⟨wr.heap.size, 0, none⟩) 1 1) [⟨xk, wrap64 (xt - 1), xa⟩]) := (show LSeg _ _ _ _ _ _ from seg_rec (x := ⟨xk, wrap64 (xt - 1), xa⟩) (BoxT.new 38 wr #[.int .i64 xk, .int .i64 (wrap64 (xt - 1)), .int .i64 xa]))
    have HO3 := hide (GO.out.below HB3.out)
    have HL3 := hide (GL.out.below HB3.out)
    have HS3 := hide (GB.out.trans (HB3.out.mono GB.out.size))
    have HSZ := hide HS3.out.size
    go_wp2_with fail
    refine wp_region_M (S := fun w' => w'.cell? ⟨nb, no + i * 4, none⟩ = some (.int .i64 xk) ∧ w'.cell? ⟨nb, no + i * 4 + 1, none⟩ = some (.int .i64 xf) ∧ w'.cell? ⟨nb, no + i * 4 + 2, none⟩ = some (.int .i64 xt) ∧ w'.cell? ⟨nb, no + i * 4 + 3, none⟩ = some (.int .i64 xa)) (late := []) (by kernel_rfl) (KC.out _ ((Below.refl _ _).drew)) (fun hH => ?_)
    (try simp only [nr, Nat.reduceAdd])
    refine tkA 0 hH ?_; simp only [nm]; refine tkA 1 hH ?_; simp only [nm]; refine tkA 2 hH ?_; simp only [nm]; refine tkA 3 hH ?_; simp only [nm]; refine tkA 4 hH ?_; simp only [nm]; refine tkA 5 hH ?_; simp only [nm]; refine tkA 6 hH ?_; simp only [nm]; refine tkA 7 hH ?_; simp only [nm]; refine tkA 8 hH ?_; simp only [nm]; refine tkA 9 hH ?_; simp only [nm]; refine tkA 10 hH ?_; simp only [nm]; refine tkA 11 hH ?_; simp only [nm]; refine tkA 12 hH ?_; simp only [nm]; refine tkA 13 hH ?_; simp only [nm]; refine tkA 14 hH ?_; simp only [nm]; refine tkA 15 hH ?_; simp only [nm]; refine tkA 16 hH ?_; simp only [nm]; refine tkA 17 hH ?_; simp only [nm]; refine tkA 18 hH ?_; simp only [nm]
    refine tkO 19 fun K hK => ?_
    go_simp
    rw [wrap_is]
    refine hK.out _ _ (KC.out _ HB3.out) (fun hH => ?_)
    clear hK K
    (try simp only [nm])
    refine tkO 20 fun K hK => ?_
    refine wp_segL Tryz.infoRc Tryz.underlying43 rfl (by decide) (by decide) Rc.cs_len Rc.cs_one _ _ rfl w1.heap.size _ oi rfl HO3.out _ _ [(⟨xk, wrap64 (xt - 1), xa⟩ : Rc)] rfl HX3.out (by have := HOL.out; simp; omega) HSZ.out ?_
    intro v6 w6 h6 g6 k6
    (try simp only [nm])
    have B6 := hide (HS3.out.grown g6 HSZ.out (fun k e => GO.out.at k e))
    have KC6 := hide (KC2.out _ B6.out)
    refine hK.out _ _ KC6.out (fun hH => ?_)
    clear hK K
    (try simp only [nm])
    refine tkO 21 fun K hK => ?_
    go_simp
    refine hK.out _ _ KC6.out (fun hH => ?_)
    clear hK K
    (try simp only [nm])
    refine wpAnyM_done (by kernel_rfl) ?_ _
    go_wp2_with fail
    go_roundg go
    case rel => exact ⟨i + 1, by go_num, by omega, by omega, (show OwnL _ _ _ _ _ _ _ by rw [HOS.out]; exact h6), (show OwnL _ _ _ _ _ _ _ by rw [HLS.out]; exact HL3.out.other HO3.out g6 (by decide)), B6⟩
    case measure => omega
   ·as_aux_lemma =>
    rw [decide_eq_false ho, if_neg (by decide)] at HOS HLS
    have HB3 := hide (below_box wr (.cells #[.int .i64 xk, .int .i64 xf, .int .i64 xt, .int .i64 xa] 79))
    have HX3 := hide (seg_one (x := ⟨xk, xf, xt, xa⟩) (BoxT.new 79 wr #[.int .i64 xk, .int .i64 xf, .int .i64 xt, .int .i64 xa]))
    have HO3 := hide (GO.out.below HB3.out)
    have HL3 := hide (GL.out.below HB3.out)
    have HS3 := hide (GB.out.trans (HB3.out.mono GB.out.size))
    have HSZ := hide HS3.out.size
    go_wp2_with (first | (at_builtin; refine app_segL Tryz.infoPn Tryz.underlying47 rfl (by decide) (by decide) Pn.cs_len Pn.cs_one rfl _ _ rfl w1.heap.size _ li rfl HL3.out _ _ [⟨xk, xf, xt, xa⟩] rfl HX3.out (by have := HLL.out; simp; omega) HSZ.out ?_; intro v5 w5 h5 g5 k5) | fail)
    go_roundg go
    case rel => exact ⟨i + 1, by go_num, by omega, by omega, (show OwnL _ _ _ _ _ _ _ by rw [HOS.out]; exact HO3.out.other HL3.out g5 (by decide)), (show OwnL _ _ _ _ _ _ _ by rw [HLS.out]; exact h5), HS3.out.grown g5 HSZ.out (fun k e => GL.out.at k e)⟩
    case measure => omega
  ·have bt : ¬ (i : Int) < (m.length : Int) := by omega
   have HT : Hid (m.take i = m) := (show _ = _ from List.take_of_length_le (by omega))
   rw [HT.out] at GO GL
   have HBB := hide (B1.out.trans (GB.out.mono B1.out.size))
   obtain ⟨oa, oc, rfl⟩ := GO.out.shape
   obtain ⟨la, lc, rfl⟩ := GL.out.shape
   go_wp2_with fail
   exact bodyPost_ret (v := .tuple #[.slice oa (outF mk m).length oc, .slice la (leftF mk m).length lc]) (by simp [results, Tryz.results45, go_sem]; try rfl) rfl ⟨_, _, rfl, GO.out.mono B1.out.size, GL.out.mono B1.out.size, HBB.out⟩
end Go.Proofs.YtpcbhcdpegbfjaaGreat
