/-
  Texts in build order: WSpans, WSmall, WSpans2.
-/
import Derived.Test.YtpcbhcdpegbfjaaGreatM03
import Derived.Test.YtpcbhcdpegbfjaaGreatM05
/-
 regular, Spans: the spans of a time.
-/
namespace Go.Proofs.YtpcbhcdpegbfjaaGreat
set_option maxHeartbeats 16000000
set_option maxRecDepth 100000
open Go.RowKit
def sinceOf (slide t : Int) : Int := if t.tmod slide < 0 then t.tmod slide + slide else t.tmod slide
theorem since_in {slide t : Int} (h : 1 ≤ slide) : 0 ≤ sinceOf slide t ∧ sinceOf slide t < slide := by
 have h1 := Int.tmod_lt_of_pos t (show 0 < slide by omega)
 have h2 : -slide < t.tmod slide := by
  have := Int.tmod_lt_of_pos (-t) (show 0 < slide by omega)
  rw [Int.neg_tmod] at this
  omega
 unfold sinceOf
 split <;> omega
def countOf (size slide since : Int) : Nat := (min ((size - 1 - since).tdiv slide + 1) 64).toNat
theorem count_in {size slide since : Int} (h : 1 ≤ slide) (h1 : since < size) : 1 ≤ countOf size slide since ∧ countOf size slide since ≤ 64 ∧ ((countOf size slide since : Int) - 1) * slide ≤ size - 1 - since := by
 have hd : 0 ≤ (size - 1 - since).tdiv slide := Int.tdiv_nonneg (by omega) (by omega)
 have hm : (size - 1 - since).tdiv slide * slide ≤ size - 1 - since := by
  rw [Int.tdiv_eq_ediv_of_nonneg (by omega)]
  exact Int.ediv_mul_le _ (by omega)
 unfold countOf
 refine ⟨by omega, by omega, ?_⟩
 have hq : ((min ((size - 1 - since).tdiv slide + 1) 64).toNat : Int) - 1 ≤ (size - 1 - since).tdiv slide := by omega
 exact Int.le_trans (Int.mul_le_mul_of_nonneg_right hq (by omega)) hm
def spanAt (size slide t since : Int) (c i : Nat) : Sp :=
 ⟨wrap64 (wrap64 (t - since) - ((c : Int) - 1 - (i : Int)) * slide), wrap64 (wrap64 (wrap64 (t - since) - ((c : Int) - 1 - (i : Int)) * slide) + size)⟩
def rgl (size slide t : Int) : List Sp :=
 if slide < 1 then [] else if size ≤ sinceOf slide t then [] else (List.range (countOf size slide (sinceOf slide t))).map (spanAt size slide t (sinceOf slide t) (countOf size slide (sinceOf slide t)))
theorem rgl_len (size slide t : Int) : (rgl size slide t).length ≤ 64 := by
 unfold rgl
 split
 ·simp
 split
 ·simp
 ·rw [List.length_map, List.length_range]; unfold countOf; omega
theorem mkS (w : World) (n : Nat) (hn : n ≤ 1000000) : (Instr.makeSlice 74 (.int .i64 (n : Int)) (.int .i64 (n : Int))).run Tryz.prog w = .ok (.slice (some ⟨w.heap.size, 0, none⟩) n n) (w.alloc (.cells (madeCells #[.int .i64 0, .int .i64 0] (n * 2)) 72)) := by
 obtain ⟨i0, hi, hz0, hz1, hz2⟩ := info_parts Tryz.infoSp
 have := run_make (P := Tryz.prog) w 74 72 i0 (.agg #[.int .i64 0, .int .i64 0]) (by kernel_rfl) hi hz0 .i64 .i64 (n : Int) (n : Int) (by omega) (Int.le_refl _) (by rw [hz2]; omega) (by omega)
 rw [this, hz1]
 rfl
def SB (w wr : World) (g : Nat) (sp : Nat → Sp) (c i : Nat) : Prop := Below g w wr ∧ ∃ cur : Array Value, BoxT 72 wr g cur ∧ cur.size = c * 2 ∧ ∀ a, a < i → cur[a * 2]? = some (.int .i64 (sp a).f) ∧ cur[a * 2 + 1]? = some (.int .i64 (sp a).t)
theorem SB.start (w : World) (sp : Nat → Sp) (c : Nat) : SB w (w.alloc (.cells (madeCells #[.int .i64 0, .int .i64 0] (c * 2)) 72)) w.heap.size sp c 0 :=
 ⟨below_box w _, _, BoxT.new 72 w _, size_madeCells _ _, fun a ha => by omega⟩
theorem SB.cells {w wr : World} {g : Nat} {sp : Nat → Sp} {c i : Nat} (h : SB w wr g sp c i) (hi : i < c) : ∃ u0 u1, wr.cell? ⟨g, i * 2, none⟩ = some u0 ∧ wr.cell? ⟨g, i * 2 + 1, none⟩ = some u1 ∧ ∀ j, wr.frozen? ⟨g, j, none⟩ = false := by
 obtain ⟨_, cur, h1, h2, _⟩ := h
 refine ⟨cur[i * 2]'(by omega), cur[i * 2 + 1]'(by omega), ?_, ?_, fun j => h1.free j⟩ <;> (rw [h1.cellAt]; exact Array.getElem?_eq_getElem _)
theorem SB.put {w wr : World} {g : Nat} {sp : Nat → Sp} {c i : Nat} (h : SB w wr g sp c i) (hi : i < c) : SB w ((wr.setCell ⟨g, i * 2, none⟩ (.int .i64 (sp i).f)).setCell ⟨g, i * 2 + 1, none⟩ (.int .i64 (sp i).t)) g sp c (i + 1) := by
 obtain ⟨hb, cur, h1, h2, h3⟩ := h
 refine ⟨(hb.setCell (p := ⟨g, i * 2, none⟩) (Nat.le_refl _) _).setCell (p := ⟨g, i * 2 + 1, none⟩) (Nat.le_refl _) _, _, (h1.set _ _).set _ _, by simpa using h2, fun a ha => ?_⟩
 by_cases e : a = i
 ·subst e
  constructor
  ·rw [Array.getElem?_setIfInBounds_ne (by omega), Array.getElem?_setIfInBounds_self_of_lt (by omega)]
  ·rw [Array.getElem?_setIfInBounds_self_of_lt (by simp; omega)]
 ·have := h3 a (by omega)
  constructor
  ·rw [Array.getElem?_setIfInBounds_ne (by omega), Array.getElem?_setIfInBounds_ne (by omega)]; exact this.1
  ·rw [Array.getElem?_setIfInBounds_ne (by omega), Array.getElem?_setIfInBounds_ne (by omega)]; exact this.2
theorem SB.putV {w wr : World} {g : Nat} {sp : Nat → Sp} {c i : Nat} (h : SB w wr g sp c i) (hi : i < c) {f t : Int} (hf : f = (sp i).f) (ht : t = (sp i).t) : SB w ((wr.setCell ⟨g, i * 2, none⟩ (.int .i64 f)).setCell ⟨g, i * 2 + 1, none⟩ (.int .i64 t)) g sp c (i + 1) := by
 rw [hf, ht]; exact h.put hi
theorem SB.done {w wr : World} {sp : Nat → Sp} {c : Nat} (h : SB w wr w.heap.size sp c c) (hc : c ≤ 1000) : OwnL 72 2 Sp.cs w.heap.size wr (.slice (some ⟨w.heap.size, 0, none⟩) c c) ((List.range c).map sp) := by
 obtain ⟨hb, cur, h1, h2, h3⟩ := h
 refine ⟨flat_size Sp.cs_len _, .inr ⟨w.heap.size, c, cur, by simp, Nat.le_refl _, h1, by simp, by unfold maxLen; omega, h2, ?_⟩⟩
 apply List.ext_getElem?
 intro a
 rw [List.getElem?_take]
 simp only [List.length_map, List.length_range]
 by_cases ha : a < c * 2
 ·rw [if_pos ha, Array.getElem?_toList]
  have hx : ((List.range c).map sp)[a / 2]? = some (sp (a / 2)) := by rw [List.getElem?_map, List.getElem?_range (by omega)]; rfl
  have h4 := h3 (a / 2) (by omega)
  rcases (show a % 2 = 0 ∨ a % 2 = 1 by omega) with e | e
  ·have h5 := flat_get Sp.cs_len _ (a / 2) 0 _ _ hx rfl
   rw [show a / 2 * 2 + 0 = a by omega] at h5
   rw [h5, ← h4.1, show a / 2 * 2 = a by omega]
  ·have h5 := flat_get Sp.cs_len _ (a / 2) 1 _ _ hx rfl
   rw [show a / 2 * 2 + 1 = a by omega] at h5
   rw [h5, ← h4.2, show a / 2 * 2 + 1 = a by omega]
 ·rw [if_neg ha, List.getElem?_eq_none (by rw [flat_size Sp.cs_len]; simp; omega)]
theorem regular_any (w : World) {size slide t : Int} (hs : 1 ≤ size) (hs' : In64 size) (hl' : In64 slide) :
  Calls Tryz.prog 133 #[.int .i64 size, .int .i64 slide, .int .i64 t] w fun e w' => ∃ u, e = .returned u ∧ OwnL 72 2 Sp.cs w.heap.size w' u (rgl size slide t) ∧ Below w.heap.size w w' := by
 unfold In64 at hs' hl'
 by_cases h1 : slide < 1
 ·have HE : Hid (rgl size slide t = []) := (show _ = _ by unfold rgl; rw [if_pos h1])
  generalize rgl size slide t = R at *
  go_enter Tryz.func133, Tryz.ntmps133
  go_wp2_with fail
  go_ret
  exact ⟨_, rfl, by rw [HE.out]; exact OwnL.nil _ _ _ _ _, Below.refl _ _⟩
 obtain ⟨k1, k2⟩ := since_in (t := t) (show 1 ≤ slide by omega)
 have hz : slide ≠ 0 := by omega
 have HR : Hid (∃ R, rgl size slide t = R) := ⟨_, rfl⟩
 unfold rgl at *
 rw [if_neg h1] at *
 have HSI : Hid (sinceOf slide t = (if t.tmod slide < 0 then t.tmod slide + slide else t.tmod slide)) := (show _ = _ from rfl)
 generalize sinceOf slide t = s at *
 by_cases h2 : size ≤ s
 ·rw [if_pos h2]
  by_cases hm : t.tmod slide < 0
  ·have f1 : wrap64 (t.tmod slide + slide) = s := by rw [HSI.out, if_pos hm]; have := HSI.out; rw [if_pos hm] at this; unfold wrap64; omega
   go_enter Tryz.func133, Tryz.ntmps133
   go_wp2_with fail
   go_ret
   exact ⟨_, rfl, OwnL.nil _ _ _ _ _, Below.refl _ _⟩
  ·have f1 : t.tmod slide = s := by rw [HSI.out, if_neg hm]
   rw [f1] at hm
   go_enter Tryz.func133, Tryz.ntmps133
   go_wp2_with fail
   go_ret
   exact ⟨_, rfl, OwnL.nil _ _ _ _ _, Below.refl _ _⟩
 ·rw [if_neg h2]
  have hlt : s < size := by omega
  obtain ⟨c1, c2, c3⟩ := count_in (slide := slide) (show 1 ≤ slide by omega) hlt
  have f2' : wrap64 (size - 1 - s) = size - 1 - s := by unfold wrap64; omega
  have hd0 : 0 ≤ size - 1 - s := by omega
  have hq0 : 0 ≤ (size - 1 - s).tdiv slide := Int.tdiv_nonneg hd0 (by omega)
  have hq1 : (size - 1 - s).tdiv slide ≤ size - 1 - s := by rw [Int.tdiv_eq_ediv_of_nonneg hd0]; exact Int.ediv_le_self _ hd0
  have f3' : wrap64 ((size - 1 - s).tdiv slide) = (size - 1 - s).tdiv slide := by unfold wrap64; omega
  have f4' : wrap64 ((size - 1 - s).tdiv slide + 1) = (size - 1 - s).tdiv slide + 1 := by unfold wrap64; omega
  obtain ⟨d, hd⟩ : ∃ d, size - 1 - s = d := ⟨_, rfl⟩
  have HD0 := hide hd
  have HCO : Hid (countOf size slide s = (min ((size - 1 - s).tdiv slide + 1) 64).toNat) := (show _ = _ from rfl)
  have HCC : Hid (((countOf size slide s : Int) - 1) * slide ≤ 9223372036854775807) := (show _ ≤ _ by omega)
  generalize hRR : (List.range (countOf size slide s)).map (spanAt size slide t s (countOf size slide s)) = R
  have HRR := hide hRR
  clear hRR c3
  by_cases h4 : 64 < (size - 1 - s).tdiv slide + 1
  ·have e64 : countOf size slide s = 64 := by rw [HCO.out]; omega
   rw [e64] at HRR HCC
   have HCC : Hid ((((64 : Int) - 1)) * slide ≤ 9223372036854775807) := HCC
   clear c1 c2 e64 HCO
   rw [hd] at f2' f3' f4' h4 hq0 hq1 hd0
   have f2 : wrap64 (size - 1 - s) = d := by rw [hd]; exact f2'
   obtain ⟨q, hq⟩ : ∃ q, d.tdiv slide = q := ⟨_, rfl⟩
   rw [hq] at f3' f4' h4 hq0 hq1
   have f3 : wrap64 (d.tdiv slide) = q := by rw [hq]; exact f3'
   have f4 := f4'
   have h4' : ¬ (q + 1 ≤ 64) := by omega
   have f3b : d / slide = q := by rw [← hq, Int.tdiv_eq_ediv_of_nonneg hd0]
   have f3d : wrap64 (d / slide) = q := by rw [f3b]; exact f3'
   clear f2' f3' f4'
   by_cases hm : t.tmod slide < 0
   ·have f1 : wrap64 (t.tmod slide + slide) = s := by have := HSI.out; rw [if_pos hm] at this; unfold wrap64; omega
    clear HSI HR
    obtain ⟨tm, f0⟩ : ∃ tm, t.tmod slide = tm := ⟨_, rfl⟩
    rw [f0] at f1 hm
    as_aux_lemma =>
    have m1 : ∀ W : World, (Instr.makeSlice 74 (.int .i64 ((64 : Int))) (.int .i64 ((64 : Int)))).run Tryz.prog W = .ok (.slice (some ⟨W.heap.size, 0, none⟩) 64 64) (W.alloc (.cells (madeCells #[.int .i64 0, .int .i64 0] (64 * 2)) 72)) := fun W => mkS W 64 (by omega)
    have HST := hide (SB.start w (spanAt size slide t s 64) 64)
    go_enter Tryz.func133, Tryz.ntmps133
    go_wp2_with fail
    clear m1
    go_loopg [10, 11, 37] (64 + 1) (fun gh _ _ iv wr => ∃ i : Nat, iv = .int .i64 (i : Int) ∧ i ≤ 64 ∧ 64 + 1 ≤ gh + i ∧ Hid (SB w wr w.heap.size (spanAt size slide t s 64) 64 i))
    case atStart => exact ⟨0, rfl, by omega, by omega, HST⟩
    case round =>
     obtain ⟨i, rfl, hi, hg, HS⟩ := hrel
     obtain ⟨go, rfl⟩ : ∃ go, gk = go + 1 := ⟨gk - 1, by omega⟩
     by_cases hlt : i < 64
     ·have bt : (i : Int) < (64 : Int) := by omega
      obtain ⟨u0, u1, y0, y1, yf⟩ := HS.out.cells hlt
      have hprod : 0 ≤ ((64 : Int) - 1 - (i : Int)) * slide ∧ ((64 : Int) - 1 - (i : Int)) * slide ≤ ((64 : Int) - 1) * slide := ⟨Int.mul_nonneg (by omega) (by omega), Int.mul_le_mul_of_nonneg_right (by omega) (by omega)⟩
      have g3 : wrap64 (((64 : Int) - 1 - (i : Int)) * slide) = ((64 : Int) - 1 - (i : Int)) * slide := by
       have h9 := HCC.out
       obtain ⟨q1, q2⟩ := hprod
       generalize ((64 : Int) - 1 - (i : Int)) * slide = z at *
       generalize ((64 : Int) - 1) * slide = y at *
       unfold wrap64; omega
      have HF : Hid (∀ z, z = ((64 : Int) - 1 - (i : Int)) * slide → wrap64 (wrap64 (t - s) - wrap64 z) = (spanAt size slide t s 64 i).f ∧ wrap64 (wrap64 (wrap64 (t - s) - wrap64 z) + size) = (spanAt size slide t s 64 i).t) := fun z hz => by
       rw [hz, g3]; exact ⟨rfl, rfl⟩
      clear hprod g3
      go_wp2_with fail
      go_roundg go
      case rel => exact ⟨i + 1, by go_num, by omega, by omega, HS.out.putV hlt (HF.out _ (by rw [show (63 : Int) - (i : Int) = 64 - 1 - (i : Int) by omega])).1 (HF.out _ (by rw [show (63 : Int) - (i : Int) = 64 - 1 - (i : Int) by omega])).2⟩
      case measure => omega
     ·have hic : i = 64 := by omega
      have bt : ¬ (i : Int) < (64 : Int) := by omega
      have HS2 := hide (hic ▸ HS.out : SB w wr w.heap.size (spanAt size slide t s 64) 64 64)
      clear hic
      go_wp2_with fail
      go_ret
      exact ⟨_, rfl, by rw [← HRR.out]; exact HS2.out.done (by omega), HS.out.1⟩
   ·have f1 : t.tmod slide = s := by rw [HSI.out, if_neg hm]
    rw [f1] at hm
    clear HSI HR
    as_aux_lemma =>
    have m1 : ∀ W : World, (Instr.makeSlice 74 (.int .i64 ((64 : Int))) (.int .i64 ((64 : Int)))).run Tryz.prog W = .ok (.slice (some ⟨W.heap.size, 0, none⟩) 64 64) (W.alloc (.cells (madeCells #[.int .i64 0, .int .i64 0] (64 * 2)) 72)) := fun W => mkS W 64 (by omega)
    have HST := hide (SB.start w (spanAt size slide t s 64) 64)
    go_enter Tryz.func133, Tryz.ntmps133
    go_wp2_with fail
    clear m1
    go_loopg [10, 11, 37] (64 + 1) (fun gh _ _ iv wr => ∃ i : Nat, iv = .int .i64 (i : Int) ∧ i ≤ 64 ∧ 64 + 1 ≤ gh + i ∧ Hid (SB w wr w.heap.size (spanAt size slide t s 64) 64 i))
    case atStart => exact ⟨0, rfl, by omega, by omega, HST⟩
    case round =>
     obtain ⟨i, rfl, hi, hg, HS⟩ := hrel
     obtain ⟨go, rfl⟩ : ∃ go, gk = go + 1 := ⟨gk - 1, by omega⟩
     by_cases hlt : i < 64
     ·have bt : (i : Int) < (64 : Int) := by omega
      obtain ⟨u0, u1, y0, y1, yf⟩ := HS.out.cells hlt
      have hprod : 0 ≤ ((64 : Int) - 1 - (i : Int)) * slide ∧ ((64 : Int) - 1 - (i : Int)) * slide ≤ ((64 : Int) - 1) * slide := ⟨Int.mul_nonneg (by omega) (by omega), Int.mul_le_mul_of_nonneg_right (by omega) (by omega)⟩
      have g3 : wrap64 (((64 : Int) - 1 - (i : Int)) * slide) = ((64 : Int) - 1 - (i : Int)) * slide := by
       have h9 := HCC.out
       obtain ⟨q1, q2⟩ := hprod
       generalize ((64 : Int) - 1 - (i : Int)) * slide = z at *
       generalize ((64 : Int) - 1) * slide = y at *
       unfold wrap64; omega
      have HF : Hid (∀ z, z = ((64 : Int) - 1 - (i : Int)) * slide → wrap64 (wrap64 (t - s) - wrap64 z) = (spanAt size slide t s 64 i).f ∧ wrap64 (wrap64 (wrap64 (t - s) - wrap64 z) + size) = (spanAt size slide t s 64 i).t) := fun z hz => by
       rw [hz, g3]; exact ⟨rfl, rfl⟩
      clear hprod g3
      go_wp2_with fail
      go_roundg go
      case rel => exact ⟨i + 1, by go_num, by omega, by omega, HS.out.putV hlt (HF.out _ (by rw [show (63 : Int) - (i : Int) = 64 - 1 - (i : Int) by omega])).1 (HF.out _ (by rw [show (63 : Int) - (i : Int) = 64 - 1 - (i : Int) by omega])).2⟩
      case measure => omega
     ·have hic : i = 64 := by omega
      have bt : ¬ (i : Int) < (64 : Int) := by omega
      have HS2 := hide (hic ▸ HS.out : SB w wr w.heap.size (spanAt size slide t s 64) 64 64)
      clear hic
      go_wp2_with fail
      go_ret
      exact ⟨_, rfl, by rw [← HRR.out]; exact HS2.out.done (by omega), HS.out.1⟩
  ·have ec : (size - 1 - s).tdiv slide + 1 = ((countOf size slide s : Nat) : Int) := by rw [HCO.out]; omega
   generalize countOf size slide s = c at *
   rw [ec] at f4' h4
   have h4' : (c : Int) ≤ 64 := by omega
   rw [hd] at f2' f3' hq0 hq1 hd0 ec
   have f2 : wrap64 (size - 1 - s) = d := by rw [hd]; exact f2'
   obtain ⟨q, hq⟩ : ∃ q, d.tdiv slide = q := ⟨_, rfl⟩
   rw [hq] at f3' hq0 hq1 ec
   have f3 : wrap64 (d.tdiv slide) = q := by rw [hq]; exact f3'
   have f4 : wrap64 (q + 1) = (c : Int) := by rw [ec]; exact f4'
   have f3b : d / slide = q := by rw [← hq, Int.tdiv_eq_ediv_of_nonneg hd0]
   have f3d : wrap64 (d / slide) = q := by rw [f3b]; exact f3'
   have f4b : q + 1 = (c : Int) := ec
   clear HCO ec f2' f3' f4'
   by_cases hm : t.tmod slide < 0
   ·have f1 : wrap64 (t.tmod slide + slide) = s := by have := HSI.out; rw [if_pos hm] at this; unfold wrap64; omega
    clear HSI HR
    obtain ⟨tm, f0⟩ : ∃ tm, t.tmod slide = tm := ⟨_, rfl⟩
    rw [f0] at f1 hm
    as_aux_lemma =>
    have m1 : ∀ W : World, (Instr.makeSlice 74 (.int .i64 ((c : Int))) (.int .i64 ((c : Int)))).run Tryz.prog W = .ok (.slice (some ⟨W.heap.size, 0, none⟩) c c) (W.alloc (.cells (madeCells #[.int .i64 0, .int .i64 0] (c * 2)) 72)) := fun W => mkS W c (by omega)
    have HST := hide (SB.start w (spanAt size slide t s c) c)
    go_enter Tryz.func133, Tryz.ntmps133
    go_wp2_with fail
    clear m1
    go_loopg [10, 11, 37] (c + 1) (fun gh _ _ iv wr => ∃ i : Nat, iv = .int .i64 (i : Int) ∧ i ≤ c ∧ c + 1 ≤ gh + i ∧ Hid (SB w wr w.heap.size (spanAt size slide t s c) c i))
    case atStart => exact ⟨0, rfl, by omega, by omega, HST⟩
    case round =>
     obtain ⟨i, rfl, hi, hg, HS⟩ := hrel
     obtain ⟨go, rfl⟩ : ∃ go, gk = go + 1 := ⟨gk - 1, by omega⟩
     by_cases hlt : i < c
     ·have bt : (i : Int) < (c : Int) := by omega
      obtain ⟨u0, u1, y0, y1, yf⟩ := HS.out.cells hlt
      have hprod : 0 ≤ ((c : Int) - 1 - (i : Int)) * slide ∧ ((c : Int) - 1 - (i : Int)) * slide ≤ ((c : Int) - 1) * slide := ⟨Int.mul_nonneg (by omega) (by omega), Int.mul_le_mul_of_nonneg_right (by omega) (by omega)⟩
      have g3 : wrap64 (((c : Int) - 1 - (i : Int)) * slide) = ((c : Int) - 1 - (i : Int)) * slide := by
       have h9 := HCC.out
       obtain ⟨q1, q2⟩ := hprod
       generalize ((c : Int) - 1 - (i : Int)) * slide = z at *
       generalize ((c : Int) - 1) * slide = y at *
       unfold wrap64; omega
      have HF : Hid (∀ z, z = ((c : Int) - 1 - (i : Int)) * slide → wrap64 (wrap64 (t - s) - wrap64 z) = (spanAt size slide t s c i).f ∧ wrap64 (wrap64 (wrap64 (t - s) - wrap64 z) + size) = (spanAt size slide t s c i).t) := fun z hz => by
       rw [hz, g3]; exact ⟨rfl, rfl⟩
      clear hprod g3
      go_wp2_with fail
      go_roundg go
      case rel => exact ⟨i + 1, by go_num, by omega, by omega, HS.out.putV hlt (HF.out _ (rfl)).1 (HF.out _ (rfl)).2⟩
      case measure => omega
     ·have hic : i = c := by omega
      have bt : ¬ (i : Int) < (c : Int) := by omega
      have HS2 := hide (hic ▸ HS.out : SB w wr w.heap.size (spanAt size slide t s c) c c)
      clear hic
      go_wp2_with fail
      go_ret
      exact ⟨_, rfl, by rw [← HRR.out]; exact HS2.out.done (by omega), HS.out.1⟩
   ·have f1 : t.tmod slide = s := by rw [HSI.out, if_neg hm]
    rw [f1] at hm
    clear HSI HR
    as_aux_lemma =>
    have m1 : ∀ W : World, (Instr.makeSlice 74 (.int .i64 ((c : Int))) (.int .i64 ((c : Int)))).run Tryz.prog W = .ok (.slice (some ⟨W.heap.size, 0, none⟩) c c) (W.alloc (.cells (madeCells #[.int .i64 0, .int .i64 0] (c * 2)) 72)) := fun W => mkS W c (by omega)
    have HST := hide (SB.start w (spanAt size slide t s c) c)
    go_enter Tryz.func133, Tryz.ntmps133
    go_wp2_with fail
    clear m1
    go_loopg [10, 11, 37] (c + 1) (fun gh _ _ iv wr => ∃ i : Nat, iv = .int .i64 (i : Int) ∧ i ≤ c ∧ c + 1 ≤ gh + i ∧ Hid (SB w wr w.heap.size (spanAt size slide t s c) c i))
    case atStart => exact ⟨0, rfl, by omega, by omega, HST⟩
    case round =>
     obtain ⟨i, rfl, hi, hg, HS⟩ := hrel
     obtain ⟨go, rfl⟩ : ∃ go, gk = go + 1 := ⟨gk - 1, by omega⟩
     by_cases hlt : i < c
     ·have bt : (i : Int) < (c : Int) := by omega
      obtain ⟨u0, u1, y0, y1, yf⟩ := HS.out.cells hlt
      have hprod : 0 ≤ ((c : Int) - 1 - (i : Int)) * slide ∧ ((c : Int) - 1 - (i : Int)) * slide ≤ ((c : Int) - 1) * slide := ⟨Int.mul_nonneg (by omega) (by omega), Int.mul_le_mul_of_nonneg_right (by omega) (by omega)⟩
      have g3 : wrap64 (((c : Int) - 1 - (i : Int)) * slide) = ((c : Int) - 1 - (i : Int)) * slide := by
       have h9 := HCC.out
       obtain ⟨q1, q2⟩ := hprod
       generalize ((c : Int) - 1 - (i : Int)) * slide = z at *
       generalize ((c : Int) - 1) * slide = y at *
       unfold wrap64; omega
      have HF : Hid (∀ z, z = ((c : Int) - 1 - (i : Int)) * slide → wrap64 (wrap64 (t - s) - wrap64 z) = (spanAt size slide t s c i).f ∧ wrap64 (wrap64 (wrap64 (t - s) - wrap64 z) + size) = (spanAt size slide t s c i).t) := fun z hz => by
       rw [hz, g3]; exact ⟨rfl, rfl⟩
      clear hprod g3
      go_wp2_with fail
      go_roundg go
      case rel => exact ⟨i + 1, by go_num, by omega, by omega, HS.out.putV hlt (HF.out _ (rfl)).1 (HF.out _ (rfl)).2⟩
      case measure => omega
     ·have hic : i = c := by omega
      have bt : ¬ (i : Int) < (c : Int) := by omega
      have HS2 := hide (hic ▸ HS.out : SB w wr w.heap.size (spanAt size slide t s c) c c)
      clear hic
      go_wp2_with fail
      go_ret
      exact ⟨_, rfl, by rw [← HRR.out]; exact HS2.out.done (by omega), HS.out.1⟩
end Go.Proofs.YtpcbhcdpegbfjaaGreat
/-
 overlap, isEmpty, joined, the closure of withSession.
-/
namespace Go.Proofs.YtpcbhcdpegbfjaaGreat
set_option maxHeartbeats 16000000
set_option maxRecDepth 100000
open Go.RowKit
theorem below_box2 (w : World) (o p : Obj) : Below w.heap.size w ((w.alloc o).alloc p) := ((Below.refl _ _).alloc (Nat.le_refl _) _).alloc (by simp) _
theorem overlap_any (w : World) (x y : Pn) : Calls Tryz.prog 171 #[x.val, y.val] w fun e w' => e = .returned (.bool (ovb x y)) ∧ Below w.heap.size w w' := by
 obtain ⟨xk, xf, xt, xa⟩ := x
 obtain ⟨yk, yf, yt, ya⟩ := y
 have HB := hide (below_box2 w (.cells #[.int .i64 xk, .int .i64 xf, .int .i64 xt, .int .i64 xa] 79) (.cells #[.int .i64 yk, .int .i64 yf, .int .i64 yt, .int .i64 ya] 79))
 by_cases hk : xk = yk
 ·subst hk
  have HR : Hid (∀ c : Bool, (c = true ↔ max xf yf < min xt yt) → c = ovb ⟨xk, xf, xt, xa⟩ ⟨xk, yf, yt, ya⟩) := (show ∀ c : Bool, _ by
   intro c hc
   unfold ovb
   rw [decide_eq_true (rfl : xk = xk), Bool.true_and]
   simp only
   by_cases h : max xf yf < min xt yt
   ·rw [decide_eq_true h]; exact hc.2 h
   ·rw [decide_eq_false h]; cases c with
    | false => rfl
    | true => exact absurd (hc.1 rfl) h)
  generalize ovb ⟨xk, xf, xt, xa⟩ ⟨xk, yf, yt, ya⟩ = R at *
  unfold Pn.val
  by_cases h1 : yf > xf <;> by_cases h2 : yt < xt
  all_goals
   go_enter Tryz.func171, Tryz.ntmps171
   go_wp2_with fail
   go_ret
   exact ⟨ret_bool (HR.out _ (by simp only [decide_eq_true_eq]; omega)), HB.out⟩
 ·have HR : Hid (ovb ⟨xk, xf, xt, xa⟩ ⟨yk, yf, yt, ya⟩ = false) := (show _ = _ by simp [ovb, hk])
  generalize ovb ⟨xk, xf, xt, xa⟩ ⟨yk, yf, yt, ya⟩ = R at *
  unfold Pn.val
  go_enter Tryz.func171, Tryz.ntmps171
  go_wp2_with fail
  go_ret
  exact ⟨by rw [HR.out]; simp, HB.out⟩
theorem isEmpty_any (w : World) (f t : Int) : Calls Tryz.prog 175 #[.agg #[.int .i64 f, .int .i64 t]] w fun e w' => e = .returned (.bool (decide (f ≥ t))) ∧ Below w.heap.size w w' := by
 have HB := hide (below_box w (.cells #[.int .i64 f, .int .i64 t] 72))
 go_enter Tryz.func175, Tryz.ntmps175
 go_wp2_with fail
 go_ret
 exact ⟨rfl, HB.out⟩
end Go.Proofs.YtpcbhcdpegbfjaaGreat
/-
 Spans.
-/
namespace Go.Proofs.YtpcbhcdpegbfjaaGreat
set_option maxHeartbeats 16000000
set_option maxRecDepth 100000
open Go.RowKit
def pSpans (k size slide t : Int) : List Sp := if size < 1 then [] else if k = 1 then rgl size size t else if k = 2 then rgl size slide t else if k = 3 then [⟨t, wrap64 (t + size)⟩] else []
theorem pSpans_len (k size slide t : Int) : (pSpans k size slide t).length ≤ 64 := by
 unfold pSpans
 split
 ·simp
 split
 ·exact rgl_len _ _ _
 split
 ·exact rgl_len _ _ _
 split <;> simp
theorem own_one {α : Type} {t sz k base : Nat} {cs : α → List Value} {w : World} (x : α) (hcs : (cs x).length = sz) (hk : k = w.heap.size) (hb : base ≤ k) : OwnL t sz cs base (w.alloc (.cells (cs x).toArray t)) (.slice (some ⟨k, 0, none⟩) 1 1) [x] := by
 subst hk
 refine ⟨by simp [hcs], .inr ⟨w.heap.size, 1, _, rfl, hb, BoxT.new t w _, by simp, by unfold maxLen; omega, by simp [hcs], ?_⟩⟩
 simp [← hcs]
theorem Spans_any (w : World) (k : Int) {size slide : Int} (t : Int) (hs : In64 size) (hl : In64 slide) :
  Calls Tryz.prog 119 #[.agg #[.int .i64 k, .int .i64 size, .int .i64 slide], .int .i64 t] w fun e w' => ∃ u, e = .returned u ∧ OwnL 72 2 Sp.cs w.heap.size w' u (pSpans k size slide t) ∧ Below w.heap.size w w' := by
 have hb := below_box w (.cells #[.int .i64 k, .int .i64 size, .int .i64 slide] 27)
 have HB := hide hb
 unfold pSpans
 by_cases h1 : size < 1
 ·rw [if_pos h1]
  clear hs hl
  go_enter Tryz.func119, Tryz.ntmps119
  go_wp2_with fail
  go_ret
  exact ⟨_, rfl, OwnL.nil _ _ _ _ _, HB.out⟩
 rw [if_neg h1]
 have HR1 := hide (fun W => regular_any W (slide := size) (t := t) (show 1 ≤ size by omega) hs hs)
 have HR2 := hide (fun W => regular_any W (slide := slide) (t := t) (show 1 ≤ size by omega) hs hl)
 clear hs hl hb
 by_cases k1 : k = 1
 ·subst k1
  rw [if_pos rfl]
  go_enter Tryz.func119, Tryz.ntmps119
  go_wp2_with (go_at_call 133; refine (HR1.out _).mono ?_; rintro e w1 ⟨u, rfl, o1, b1⟩)
  go_ret
  exact ⟨_, rfl, o1.mono (by simp), HB.out.trans (b1.mono HB.out.size)⟩
 rw [if_neg k1]
 by_cases k2 : k = 2
 ·subst k2
  rw [if_pos rfl]
  go_enter Tryz.func119, Tryz.ntmps119
  go_wp2_with (go_at_call 133; refine (HR2.out _).mono ?_; rintro e w1 ⟨u, rfl, o1, b1⟩)
  go_ret
  exact ⟨_, rfl, o1.mono (by simp), HB.out.trans (b1.mono HB.out.size)⟩
 rw [if_neg k2]
 by_cases k3 : k = 3
 ·subst k3
  rw [if_pos rfl]
  have HB2 : Hid (Below w.heap.size w ((w.alloc (.cells #[.int .i64 3, .int .i64 size, .int .i64 slide] 27)).alloc (.cells (Sp.cs ⟨t, wrap64 (t + size)⟩).toArray 72))) := below_box2 w _ _
  clear HR1 HR2
  go_enter Tryz.func119, Tryz.ntmps119
  go_wp2_with fail
  go_ret
  exact ⟨_, rfl, own_one (t := 72) (cs := Sp.cs) ⟨t, wrap64 (t + size)⟩ rfl (by simp) (by omega), HB2.out⟩
 rw [if_neg k3]
 go_enter Tryz.func119, Tryz.ntmps119
 go_wp2_with fail
 go_ret
 exact ⟨_, rfl, OwnL.nil _ _ _ _ _, HB.out⟩
end Go.Proofs.YtpcbhcdpegbfjaaGreat
