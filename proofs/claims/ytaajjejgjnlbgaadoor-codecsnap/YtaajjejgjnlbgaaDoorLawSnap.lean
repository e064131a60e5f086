/-
  The law of parts, walked.
-/
import Derived.Test.YtaajjejgjnlbgaaDoorOpenSnap
import Derived.Test.YtaajjejgjnlbgaaDoorMathSnap
import Derived.Test.YtaajjejgjnlbgaaDoorHelpS
import Derived.Test.YtaajjejgjnlbgaaDoorRefSnap
import Derived.Test.YtaajjejgjnlbgaaDoorKnown
namespace Go.Proofs.YtaajjejgjnlbgaaDoor
open Go.RowKit

theorem flat_get {α : Type} {sz : Nat} {cs : α → List Value} (hcs : ∀ x, (cs x).length = sz) (xs : List α) : ∀ (i j : Nat) (x : α) (u : Value), xs[i]? = some x → (cs x)[j]? = some u → (xs.flatMap cs)[i * sz + j]? = some u := by
  induction xs with
  | nil => intro i j x u h; simp at h
  | cons y ys ih =>
    intro i j x u h hu
    have hj : j < sz := by rw [← hcs x]; exact (List.getElem?_eq_some_iff.1 hu).1
    rw [List.flatMap_cons]
    match i, h with
    | 0, h =>
      obtain rfl : y = x := by simpa using h
      rw [Nat.zero_mul, Nat.zero_add, List.getElem?_append_left (by rw [hcs]; exact hj)]; exact hu
    | i + 1, h =>
      rw [List.getElem?_append_right (by rw [hcs, Nat.succ_mul]; omega), hcs, show (i + 1) * sz + j - sz = i * sz + j by rw [Nat.succ_mul]; omega]
      exact ih i j x u (by simpa using h) hu
theorem OwnL.lseg {α : Type} {t sz base B : Nat} {cs : α → List Value} {w : World} {v : Value} {xs : List α} (h : OwnL t sz cs base w v xs) (hcs : ∀ x, (cs x).length = sz) (hl : xs.length ≤ 140737488355328) (hB : w.heap.size ≤ B) : LSeg sz cs B w v xs := by
  rcases h.2 with ⟨rfl, h0⟩ | ⟨g, cap, cur, rfl, h2, h3, h4, h5, _⟩
  · have : xs = [] := List.length_eq_zero_iff.1 h0
    subst this
    exact ⟨none, 0, rfl, by simp, .inl rfl⟩
  · refine ⟨_, cap, rfl, hl, .inr ⟨g, 0, rfl, by have := (Array.getElem?_eq_some_iff.1 h3).1; omega, fun i x hx j u hu => ?_⟩⟩
    have hg := flat_get hcs xs i j x u hx hu
    have hlt := (List.getElem?_eq_some_iff.1 hg).1
    have hlen : (xs.flatMap cs).length = xs.length * sz := h.1
    rw [Nat.zero_add, World.ownsRow.cellAt h (i * sz + j) (by omega)]
    exact hg
theorem OwnSn.seg {base B : Nat} {w : World} {vm vp vc : Value} {s : Sn} (h : OwnSn base w vm vp vc s) (hb : s.big = false) (hB : w.heap.size ≤ B) : SnSeg B w vm vp vc s := by
  obtain ⟨b1, b2, b3⟩ := (Sn.big_iff s).1 hb
  exact ⟨h.m.lseg (fun _ => rfl) (by omega) hB, h.p.lseg (fun _ => rfl) (by omega) hB, h.c.lseg (fun _ => rfl) (by omega) hB⟩

/-- In the midst of the law: its box, and that what was there is as it was. -/
structure LS (w W : World) (mc : Array Value) : Prop where
  bm : BoxT 48 W w.heap.size mc
  bel : Below w.heap.size w W
  gl : Glob W
theorem LS.step {w W W' : World} {mc : Array Value} (h : LS w W mc) (hb : Below W.heap.size W W') : LS w W' mc :=
  ⟨h.bm.kept (base := 0) (Kept.of_below hb) (by decide), h.bel.trans (hb.mono h.bel.size), h.gl.below hb h.gl.1⟩
theorem LS.start (w : World) (mc : Array Value) (hg : Glob w) : LS w (w.alloc (.cells mc 48)) mc := by
  have hb : Below w.heap.size w (w.alloc (.cells mc 48)) := (Below.refl _ _).alloc (Nat.le_refl _) _
  exact ⟨BoxT.new 48 w mc, hb, hg.below hb hg.1⟩
theorem SnSeg.ls {w W : World} {mc : Array Value} {vm vp vc : Value} {s : Sn} (h : SnSeg w.heap.size w vm vp vc s) (q : LS w W mc) : SnSeg W.heap.size W vm vp vc s := (h.below q.bel).mono q.bel.size

set_option maxHeartbeats 4000000 in
set_option maxRecDepth 100000 in
theorem CodecSnap_walk (s : Sn) (vm vp vc : Value) (w : World) (hok : s.ok) (hseg : SnSeg w.heap.size w vm vp vc s) (hg : Glob w) :
    Calls Tryd.prog 4 #[.agg #[.int .i64 s.task, .int .i64 s.off, .int .i64 s.mark, vm, vp, vc]] w fun e w' => e = .returned (.bool true) ∧ Below w.heap.size w w' := by
  have HSS := hide hseg
  have HU : Hid (∀ o ∈ s.outs, 0 ≤ o.f.n) := fun o ho => (hok.outs o ho).2.2.2.2.1
  have HOK := hide hok
  obtain ⟨am, cm, rfl, -, -⟩ := hseg.m
  obtain ⟨ap, cp, rfl, -, -⟩ := hseg.p
  obtain ⟨ac, cc, rfl, -, -⟩ := hseg.c
  have q := LS.start w #[.int .i64 s.task, .int .i64 s.off, .int .i64 s.mark, .slice am s.marks.length cm, .slice ap s.panes.length cp, .slice ac s.outs.length cc] hg
  clear hg hok hseg
  go_enter Tryd.func4, Tryd.ntmps4
  go_wp2_with fail
  refine (known_any _ q.gl).mono ?_
  rintro e w1 ⟨rfl, hb⟩
  have q := q.step hb
  clear hb
  obtain ⟨c0, c1, c2, c3, c4, c5⟩ := q.bm.cells6
  generalize hlt : s.light = lt
  have HLT := hide hlt
  clear hlt
  go_wp2_with fail
  refine (light_any s _ _ _ w1 (HSS.out.ls q)).mono ?_
  rw [HLT.out]
  rintro e w2 ⟨rfl, hb⟩
  have q := q.step hb
  clear hb c0 c1 c2 c3 c4 c5
  obtain ⟨c0, c1, c2, c3, c4, c5⟩ := q.bm.cells6
  cases lt
  · have hfin := q.bel
    go_wp2
    go_ret
    exact ⟨rfl, hfin⟩
  generalize her : sEr s = er
  have HER := hide her
  clear her
  go_wp2_with fail
  refine (Snap_any s _ _ _ w2 HU.out (HSS.out.ls q)).mono ?_
  rw [HER.out]
  rintro e w3 ⟨v3, rfl, ho3, hb⟩
  have q := q.step hb
  have HO3 := hide ho3
  clear hb ho3 c0 c1 c2 c3 c4 c5
  obtain ⟨c0, c1, c2, c3, c4, c5⟩ := q.bm.cells6
  go_wp2_with fail
  refine (refSnap_any s _ _ _ w3 HU.out (HSS.out.ls q)).mono ?_
  rw [HER.out]
  rintro e w4 ⟨v4, rfl, ho4, hb⟩
  have q := q.step hb
  have hlo := sOut_len s
  have HS3 : Hid (Seg w4 v3 (sOut s)) := (HO3.out.below hb (Nat.le_refl _)).seg (by omega)
  have HS4 : Hid (Seg w4 v4 (sOut s)) := ho4.seg (by omega)
  clear hb ho4 HO3 hlo c0 c1 c2 c3 c4 c5
  go_wp2_with fail
  refine (Bytes_any v3 v4 _ _ w4 HS3.out HS4.out).mono ?_
  rw [decide_eq_true rfl]
  rintro e w5 ⟨rfl, hb⟩
  have q := q.step hb
  have HS3 : Hid (Seg w5 v3 (sOut s)) := HS3.out.below hb
  clear hb HS4
  have ee : (er != er) = false := by simp
  by_cases he0 : er = 0
  · have hbf : s.big = false ∧ s.form = true := by
      have h1 := HER.out
      rw [he0] at h1
      unfold sEr at h1
      rcases Bool.eq_false_or_eq_true s.big with hb | hb <;> rcases Bool.eq_false_or_eq_true s.form with hf | hf <;> simp [hb, hf] at h1 ⊢
    subst he0
    have hso : sOut s = snb s := by unfold sOut; rw [hbf.1, hbf.2]; rfl
    rw [hso] at HS3
    have hrs := rSnap_of s hbf.1 hbf.2 HOK.out []
    rw [List.append_nil] at hrs
    have hos : oSn (rSnap (snb s, false)) = s := by rw [hrs]; rfl
    have hoe : oEr (rSnap (snb s, false)) = 0 := by rw [hrs]; rfl
    have hOpen := OpenSnap_any v3 _ w5 HS3.out (snb_byts s)
    rw [hos, hoe] at hOpen
    have HBG := hide hbf.1
    clear hso hrs hos hoe hbf
    go_wp2_with fail
    refine hOpen.mono ?_
    rintro e w6 ⟨um, up, uc, rfl, ho6, hb⟩
    have q := q.step hb
    obtain ⟨bm, dm, hvm⟩ := ho6.m.shape
    obtain ⟨bp, dp, hvp⟩ := ho6.p.shape
    obtain ⟨bc, dc, hvc⟩ := ho6.c.shape
    rw [hvm, hvp, hvc] at ho6 ⊢
    have q := q.step ((Below.refl w6.heap.size w6).alloc (Nat.le_refl _) (.cells #[.int .i64 s.task, .int .i64 s.off, .int .i64 s.mark, .slice bm s.marks.length dm, .slice bp s.panes.length dp, .slice bc s.outs.length dc] 48))
    have HS6 := hide ((ho6.alloc (.cells #[.int .i64 s.task, .int .i64 s.off, .int .i64 s.mark, .slice bm s.marks.length dm, .slice bp s.panes.length dp, .slice bc s.outs.length dc] 48)).seg HBG.out (Nat.le_refl _))
    clear hb ho6 hvm hvp hvc hOpen
    obtain ⟨c0, c1, c2, c3, c4, c5⟩ := q.bm.cells6
    go_wp2_with fail
    refine (@helpSnap_any decPn decOt decSn s s _ _ _ _ _ _ _ HS6.out (HSS.out.ls q)).mono ?_
    rw [@decide_eq_true (s = s) (decSn s s) rfl]
    rintro e w7 ⟨rfl, hb⟩
    have hfin := (q.step hb).bel
    go_wp2
    go_ret
    exact ⟨rfl, hfin⟩
  · have e0 : (er != 0) = true := by simpa using he0
    have hfin := q.bel
    clear he0
    go_wp2
    go_ret
    exact ⟨rfl, hfin⟩
end Go.Proofs.YtaajjejgjnlbgaaDoor
