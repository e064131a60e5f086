/-
  Walks over the document's disk: Write.
-/
import Derived.Test.YtnokibjhkdaamaaDRefSync
namespace Go.Proofs.Ytnokibjhkdaamaa
open Go.RowKit Go.Maps

theorem was_no {p : Pd} (hr : Rise p.l) {s : List UInt8} (hs : isAt s p.l = false) : fWas s p.l = 0 := by
  unfold fWas
  rw [fGet_pos hr, hs]
  rfl
theorem was_yes {p : Pd} (hr : Rise p.l) {s : List UInt8} (hs : isAt s p.l = true) {f : Fi} (hf : p.l[pos s p.l]? = some f) : fWas s p.l = f.x.length := by
  unfold fWas
  rw [fGet_pos hr, hs, if_pos rfl, hf]

/-- What an append of bytes onto nothing makes. -/
theorem bytes_made {w w' : World} {v : Value} {l : List Nat} (ho : Own w.heap.size w' v ([] ++ l)) (hk : Kept w.heap.size w w') (hl : l.length ≤ 140737488355328) :
    ∃ a c n, Hid (n = l.length) ∧ Hid (Seg w' (.slice a l.length c) l) ∧ Hid (Below w.heap.size w w') ∧ v = .slice a n c := by
  rw [List.nil_append] at ho
  have hs := ho.seg hl
  obtain ⟨a, c, rfl, h⟩ := hs
  exact ⟨a, c, _, rfl, ⟨a, c, rfl, h⟩, hk.below (Nat.le_refl _), rfl⟩
set_option maxHeartbeats 4000000 in
set_option maxRecDepth 100000 in
theorem rWrite {w : World} {R n : Nat} {p : Pd} {rs : List Rf} {vl : Value} (h : RAt w R p rs vl) (hok : Ok p n) (hlf : (Lit.int .i64 p.left).wf = true) (s : ByteArray) (ab : Option Addr) (cb : Nat) (l : List Nat) (hsg : Seg w (.slice ab l.length cb) l) (hl5 : l.length ≤ 50000) :
    Calls Try.prog 19 #[.pointer (some ⟨R, 0, none⟩), .string s, .slice ab l.length cb] w (RefPost w R (pWrite p (nm s) l)) := by
  obtain ⟨ao, cap, rfl, hc1, hc2⟩ := h.cap
  have hd := rDead h
  have hll : rs.length ≤ 1000000 := by rw [h.len]; exact Nat.le_trans hok.len hok.many
  have hat := rAt h hll s
  have hnm := rNamed s w
  have hus := hok.used
  have HSG := hide hsg
  have HH := hide h
  clear h hsg
  unfold pWrite
  by_cases h0 : p.left = 0
  · have e2 : (p.left == 0) = true := by simp [h0]
    rw [e2] at hd
    rw [if_pos h0]
    clear hat hnm
    go_enter Try.func19, Try.ntmps19
    go_wp2_with fail
    refine hd.mono ?_
    rintro e w1 ⟨rfl, rfl⟩
    go_wp2
    go_ret
    exact ⟨rfl, ⟨_, _, HH.out⟩, Turned.refl _ _ _⟩
  have e2 : (p.left == 0) = false := by simp [h0]
  rw [e2] at hd
  rw [if_neg h0]
  cases hnt : okName (nm s) with
  | false =>
    rw [if_pos rfl]
    rw [hnt] at hnm
    clear hat
    go_enter Try.func19, Try.ntmps19
    go_wp2_with fail
    refine hd.mono ?_
    rintro e w1 ⟨rfl, rfl⟩
    go_wp2_with fail
    refine hnm.mono ?_
    rintro e w2 ⟨rfl, rfl⟩
    go_wp2
    go_ret
    exact ⟨rfl, ⟨_, _, HH.out⟩, Turned.refl _ _ _⟩
  | true =>
    rw [if_neg (by decide)]
    rw [hnt] at hnm
    have HR := hide hok.rise
    have hwas : ∃ was : Nat, fWas (nm s) p.l = was ∧ was ≤ 1048576 := ⟨_, rfl, fWas_le hok.size⟩
    obtain ⟨was, hwas, hwl⟩ := hwas
    have hcase : (isAt (nm s) p.l = false ∧ was = 0) ∨ (isAt (nm s) p.l = true ∧ ∃ r, rs[pos (nm s) p.l]? = some r ∧ was = r.f.x.length) := by
      cases his : isAt (nm s) p.l with
      | false => exact .inl ⟨rfl, by rw [← hwas]; exact was_no hok.rise his⟩
      | true =>
        obtain ⟨f, hf, _⟩ := isAt_get his
        obtain ⟨r, hr, rfl⟩ := HH.out.at_pos hf
        exact .inr ⟨rfl, r, hr, by rw [← hwas]; exact was_yes hok.rise his hf⟩
    rw [hwas]
    have hmax : ¬ 1048576 < l.length := by omega
    have hres : (if 1048576 < l.length ∨ p.room < (fSum p.l : Int) - (was : Int) + (l.length : Int) then (p, (22 : Int)) else (({ p with l := fPut ⟨nm s, l, 0⟩ p.l } : Pd).done, 0)) = if p.room < (fSum p.l : Int) - (was : Int) + (l.length : Int) then (p, (22 : Int)) else (({ p with l := fPut ⟨nm s, l, 0⟩ p.l } : Pd).done, 0) := by
      by_cases hf : p.room < (fSum p.l : Int) - (was : Int) + (l.length : Int)
      · rw [if_pos (.inr hf), if_pos hf]
      · rw [if_neg (by omega), if_neg hf]
    rw [hres]
    have hw1 : IntKind.i64.wrap ((fSum p.l : Int) - (was : Int)) = (fSum p.l : Int) - (was : Int) := by rw [IntKind.wrap_i64]; omega
    have hw2 : IntKind.i64.wrap ((fSum p.l : Int) - (was : Int) + (l.length : Int)) = (fSum p.l : Int) - (was : Int) + (l.length : Int) := by rw [IntKind.wrap_i64]; omega
    have hw3 : wrap64 ((fSum p.l : Int) - (was : Int)) = (fSum p.l : Int) - (was : Int) := by unfold wrap64; omega
    have hw4 : wrap64 ((fSum p.l : Int) - (was : Int) + (l.length : Int)) = (fSum p.l : Int) - (was : Int) + (l.length : Int) := by unfold wrap64; omega
    have hmi : (l.length : Int) ≤ 1048576 := by omega
    have hmd : decide ((1048576 : Int) < (l.length : Int)) = false := by simp; omega
    have hw5 : IntKind.i64.wrap (fSum p.l : Int) = (fSum p.l : Int) := by rw [IntKind.wrap_i64]; omega
    have hw6 : IntKind.i64.wrap ((fSum p.l : Int) + (l.length : Int)) = (fSum p.l : Int) + (l.length : Int) := by rw [IntKind.wrap_i64]; omega
    clear hres hwas hnt
    generalize isAt (nm s) p.l = is at *
    generalize pos (nm s) p.l = i at *
    by_cases hf : p.room < (fSum p.l : Int) - (was : Int) + (l.length : Int)
    · rw [if_pos hf]
      go_enter Try.func19, Try.ntmps19
      go_wp2_with fail
      refine hd.mono ?_
      rintro e w1 ⟨rfl, rfl⟩
      go_wp2_with fail
      refine hnm.mono ?_
      rintro e w2 ⟨rfl, rfl⟩
      go_wp2_with fail
      refine hat.mono ?_
      rintro e w3 ⟨rfl, q, rfl⟩
      clear hat hd hnm
      have hb := below_drewN' (Below.refl w2.heap.size w2) q
      have h3 := HH.out.below hb
      have HB := hide hb
      have HSG3 := hide (HSG.out.below hb)
      generalize w2.drewN q = w3 at *
      obtain ⟨c0, c1, c2⟩ := h3.box.cells3
      have H3 := hide h3
      have HC := fun n => (rUsed (h3.below (below_drewN' (Below.refl _ _) n)) hll hus).mono (fun e w' (hx : e = .returned (.int .i64 (fSum p.l : Nat)) ∧ w' = w3.drewN n) => (⟨hx.1, 0, hx.2⟩ : e = .returned (.int .i64 (fSum p.l : Nat)) ∧ ∃ m, w' = (w3.drewN n).drewN m))
      clear hb
      rcases hcase with ⟨rfl, rfl⟩ | ⟨rfl, r, hr, rfl⟩
      case' inr =>
        obtain ⟨b, off, rfl, d0, d1, d2⟩ := h3.file hr
        have hil : i < rs.length := (List.getElem?_eq_some_iff.1 hr).1
        clear hr
        clear h3
        go_wp2_with fail
      case' inl =>
        simp only [Int.natCast_zero, Int.sub_zero] at hf hw1 hw2 hw3 hw4
        clear h3
        go_wp2_with fail
      all_goals
        go_quiet (first | (go_at_call 48; exact Calls.quiet_of (HC _)))
        clear HC
        go_wp2
        go_ret
        have hbn := below_drewN' (Below.refl w3.heap.size w3) nq
        exact ⟨rfl, ⟨_, _, H3.out.below hbn⟩, (Turned.below HB.out).trans (Turned.below hbn)⟩
    · rw [if_neg hf]
      go_enter Try.func19, Try.ntmps19
      go_wp2_with fail
      refine hd.mono ?_
      rintro e w1 ⟨rfl, rfl⟩
      go_wp2_with fail
      refine hnm.mono ?_
      rintro e w2 ⟨rfl, rfl⟩
      go_wp2_with fail
      refine hat.mono ?_
      rintro e w3 ⟨rfl, q, rfl⟩
      clear hat hd hnm
      have hb := below_drewN' (Below.refl w2.heap.size w2) q
      have h3 := HH.out.below hb
      have HB := hide hb
      have HSG3 := hide (HSG.out.below hb)
      generalize w2.drewN q = w3 at *
      obtain ⟨c0, c1, c2⟩ := h3.box.cells3
      have H3 := hide h3
      have HC := fun n => (rUsed (h3.below (below_drewN' (Below.refl _ _) n)) hll hus).mono (fun e w' (hx : e = .returned (.int .i64 (fSum p.l : Nat)) ∧ w' = w3.drewN n) => (⟨hx.1, 0, hx.2⟩ : e = .returned (.int .i64 (fSum p.l : Nat)) ∧ ∃ m, w' = (w3.drewN n).drewN m))
      clear hb
      rcases hcase with ⟨rfl, rfl⟩ | ⟨rfl, r, hr, rfl⟩
      case' inr =>
        obtain ⟨b, off, rfl, d0, d1, d2⟩ := h3.file hr
        have hil : i < rs.length := (List.getElem?_eq_some_iff.1 hr).1
        clear hr
        clear h3
        go_wp2_with fail
      case' inl =>
        simp only [Int.natCast_zero, Int.sub_zero] at hf hw1 hw2 hw3 hw4
        clear h3
        go_wp2_with fail
      all_goals
        go_quiet (first | (go_at_call 48; exact Calls.quiet_of (HC _)))
        clear HC
        have hbn := below_drewN' (Below.refl w3.heap.size w3) nq
        have H4 := hide (And.intro (H3.out.below hbn) (And.intro ((HB.out.trans (hbn.mono HB.out.size))) (HSG3.out.below hbn)))
        generalize w3.drewN nq = w4 at *
        clear hbn
        go_wp2_with (first | (at_builtin; refine app_seg rfl _ _ rfl w4.heap.size _ [] rfl (Own.nil _ _) _ l rfl H4.out.2.2 (by simp; omega) (Nat.le_refl _) ?_; intro v5 w5 o5 k5; obtain ⟨a5, c5, n5, hn5, hs5, hb5, rfl⟩ := bytes_made o5 k5 (by omega)) | fail)
        have H5 := hide (H4.out.1.below hb5.out)
        have HPUT := hide (rPut' H5.out hll HR.out s l 0 a5 c5 hs5.out hn5.out)
        have HT5 : Hid (Turned R R w2 w5) := (Turned.below H4.out.2.1).trans (Turned.below hb5.out)
        clear o5 k5
        refine HPUT.out.mono ?_
        rintro e w6 ⟨rfl, ⟨rs6, vl6, h6⟩, t6⟩
        have H6 := hide (And.intro h6 t6)
        clear h6 t6 HPUT
        go_wp2_with fail
        refine (rDone H6.out.1 hlf).mono ?_
        rintro e w7 ⟨rfl, h7, t7⟩
        have H7 := hide (And.intro h7 t7)
        clear h7 t7
        go_wp2
        go_ret
        exact ⟨rfl, ⟨_, _, H7.out.1⟩, (HT5.out.trans H6.out.2).trans H7.out.2⟩
end Go.Proofs.Ytnokibjhkdaamaa
