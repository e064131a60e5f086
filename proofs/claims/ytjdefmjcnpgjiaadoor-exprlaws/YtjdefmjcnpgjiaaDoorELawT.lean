/-
  The law ExprTexts, walked.
-/
import Derived.Test.YtjdefmjcnpgjiaaDoorEKnown
import Derived.Test.YtjdefmjcnpgjiaaDoorERef2
import Derived.Test.YtjdefmjcnpgjiaaDoorESame
namespace Go.Proofs.YtjdefmjcnpgjiaaDoor
open Go.RowKit

theorem cnt_of_chk {e : Ex} (h : chk e = 0) : (cnt e 1 0).2 ≠ 71 := by
  rcases chk_of e with ⟨h1, _⟩ | ⟨h1, _⟩ | ⟨_, h2⟩
  · rw [h1]; decide
  · rw [h1]; decide
  · rw [h] at h2; split at h2 <;> cases h2
theorem formed_of_chk {e : Ex} (h : chk e = 0) : formed e = true := by
  unfold chk at h
  cases hf : formed e
  · rw [hf] at h; simp at h
  · rfl
theorem ftext_few {w : World} (e : Ex) (hin : In w e) (hg : Glob w) (hc : chk e = 0) :
    Calls Tryd.prog 13 #[e.val] w fun v w' => v = .returned (.string ⟨(txt e).toArray⟩) ∧ Below w.heap.size w w' := by
  have h := ftext_of e hin hg (fun w' h' => check_few e h' (cnt_of_chk hc))
  rw [if_pos hc] at h
  exact h
theorem str_beq (l m : List UInt8) : ((⟨l.toArray⟩ : ByteArray).toList == (⟨m.toArray⟩ : ByteArray).toList) = decide (l = m) := by
  rw [ByteArray.toList_eq, ByteArray.toList_eq, Bool.eq_iff_iff]
  simp
theorem light_small {e : Ex} (h : lgt e 300 40 ≤ 300) : size e ≤ 100000 ∧ dep e ≤ 100000 := by
  obtain ⟨_, _, h3⟩ := lgt_ok e 300 40 (by decide)
  obtain ⟨h4, h5⟩ := h3 h
  omega
/-- The two boxes of the law's arguments, and what lies in them. -/
structure TW (w : World) (A B : Nat) (a b : Ex) : Prop where
  ta : Tri w A (.int .i64 a.op) (.int .i64 a.n) (.slice a.a a.l.length a.c)
  tb : Tri w B (.int .i64 b.op) (.int .i64 b.n) (.slice b.a b.l.length b.c)
  ia : In w a
  ib : In w b
  g : Glob w
theorem TW.below {w w' : World} {A B : Nat} {a b : Ex} (h : TW w A B a b) (hb : Below w.heap.size w w') : TW w' A B a b := ⟨h.ta.below hb, h.tb.below hb, h.ia.below hb, h.ib.below hb, h.g.below hb⟩

set_option maxHeartbeats 8000000 in
set_option maxRecDepth 100000 in
theorem ExprTexts_walk {w : World} (hg : Glob w) (a b : Ex) (hia : In w a) (hib : In w b) :
    Calls Tryd.prog 5 #[a.val, b.val] w fun e w' => e = .returned (.bool true) ∧ Below w.heap.size w w' := by
  have hbb : Below w.heap.size w ((w.alloc (.cells #[.int .i64 a.op, .int .i64 a.n, .slice a.a a.l.length a.c] 24)).alloc (.cells #[.int .i64 b.op, .int .i64 b.n, .slice b.a b.l.length b.c] 24)) :=
    ((Below.refl _ _).alloc (Nat.le_refl _) _).alloc (by simp) _
  have t2 : Tri ((w.alloc (.cells #[.int .i64 a.op, .int .i64 a.n, .slice a.a a.l.length a.c] 24)).alloc (.cells #[.int .i64 b.op, .int .i64 b.n, .slice b.a b.l.length b.c] 24)) w.heap.size (.int .i64 a.op) (.int .i64 a.n) (.slice a.a a.l.length a.c) :=
    (Tri.new w _ _ _ 24).below ((Below.refl _ _).alloc (Nat.le_refl _) _)
  have t3 : Tri ((w.alloc (.cells #[.int .i64 a.op, .int .i64 a.n, .slice a.a a.l.length a.c] 24)).alloc (.cells #[.int .i64 b.op, .int .i64 b.n, .slice b.a b.l.length b.c] 24)) (w.heap.size + 1) (.int .i64 b.op) (.int .i64 b.n) (.slice b.a b.l.length b.c) := by
    have := Tri.new (w.alloc (.cells #[.int .i64 a.op, .int .i64 a.n, .slice a.a a.l.length a.c] 24)) (.int .i64 b.op) (.int .i64 b.n) (.slice b.a b.l.length b.c) 24
    simpa using this
  have K0 : Hid (TW ((w.alloc (.cells #[.int .i64 a.op, .int .i64 a.n, .slice a.a a.l.length a.c] 24)).alloc (.cells #[.int .i64 b.op, .int .i64 b.n, .slice b.a b.l.length b.c] 24)) w.heap.size (w.heap.size + 1) a b) :=
    ⟨t2, t3, hia.below hbb, hib.below hbb, hg.below hbb⟩
  have HB0 := hide hbb
  have hC8 := hide (known_any (hg.below hbb))
  have hl1 : Hid (∀ w', In w' a → Calls Tryd.prog 9 #[a.val] w' fun r w'' => r = .returned (.bool (decide (lgt a 300 40 ≤ 300))) ∧ Below w'.heap.size w' w'') := fun w' h => light_of a h
  have hl2 : Hid (∀ w', In w' b → Calls Tryd.prog 9 #[b.val] w' fun r w'' => r = .returned (.bool (decide (lgt b 300 40 ≤ 300))) ∧ Below w'.heap.size w' w'') := fun w' h => light_of b h
  have hc1 : decide (lgt a 300 40 ≤ 300) = true → Hid (∀ w', In w' a → Calls Tryd.prog 10 #[a.val] w' fun r w'' => r = .returned (.int .i64 (chk a)) ∧ Below w'.heap.size w' w'') := fun h w' h' => rCheck_any a h' (light_small (of_decide_eq_true h)).1 (light_small (of_decide_eq_true h)).2
  have hc2 : decide (lgt b 300 40 ≤ 300) = true → Hid (∀ w', In w' b → Calls Tryd.prog 10 #[b.val] w' fun r w'' => r = .returned (.int .i64 (chk b)) ∧ Below w'.heap.size w' w'') := fun h w' h' => rCheck_any b h' (light_small (of_decide_eq_true h)).1 (light_small (of_decide_eq_true h)).2
  have hx1 : chk a = 0 → Hid (∀ w', In w' a → Glob w' → Calls Tryd.prog 13 #[a.val] w' fun v w'' => v = .returned (.string ⟨(txt a).toArray⟩) ∧ Below w'.heap.size w' w'') := fun h w' h' g' => ftext_few a h' g' h
  have hx2 : chk b = 0 → Hid (∀ w', In w' b → Glob w' → Calls Tryd.prog 13 #[b.val] w' fun v w'' => v = .returned (.string ⟨(txt b).toArray⟩) ∧ Below w'.heap.size w' w'') := fun h w' h' g' => ftext_few b h' g' h
  have hx3 : Hid (∀ w', In w' a → In w' b → Calls Tryd.prog 18 #[a.val, b.val] w' fun v w'' => v = .returned (.bool (alk a b)) ∧ Below w'.heap.size w' w'') := fun w' h' h'' => same_any a w' b h' h''
  have hq : chk a = 0 → chk b = 0 → ((⟨(txt a).toArray⟩ : ByteArray).toList == (⟨(txt b).toArray⟩ : ByteArray).toList) = alk a b := fun h1 h2 => by
    rw [str_beq, txt_iff (formed_of_chk h1) (formed_of_chk h2)]
  clear hbb t2 t3 hia hib hg
  obtain ⟨ao, an, aa, ac, al⟩ := a
  obtain ⟨bo, bn, ba, bc, bl⟩ := b
  unfold Ex.val at *
  simp only at *
  generalize decide (lgt ⟨ao, an, aa, ac, al⟩ 300 40 ≤ 300) = da at *
  generalize decide (lgt ⟨bo, bn, ba, bc, bl⟩ 300 40 ≤ 300) = db at *
  generalize chk ⟨ao, an, aa, ac, al⟩ = ca at *
  generalize chk ⟨bo, bn, ba, bc, bl⟩ = cb at *
  generalize hsa : (⟨(txt ⟨ao, an, aa, ac, al⟩).toArray⟩ : ByteArray) = sa at *
  generalize hsb : (⟨(txt ⟨bo, bn, ba, bc, bl⟩).toArray⟩ : ByteArray) = sb at *
  clear hsa hsb
  generalize hqq : alk ⟨ao, an, aa, ac, al⟩ ⟨bo, bn, ba, bc, bl⟩ = q at *
  clear hqq
  have H8 := hide hq
  clear hq
  go_enter Tryd.func5, Tryd.ntmps5
  go_wp2_with fail
  go_at_call 8
  refine hC8.out.mono ?_
  rintro e w2 ⟨rfl, b2⟩
  have K1 := hide (K0.out.below b2)
  have B1 := hide (HB0.out.trans (b2.mono HB0.out.size))
  clear b2 K0 HB0 hC8
  obtain ⟨p0, p1, p2⟩ := K1.out.ta
  obtain ⟨q0, q1, q2⟩ := K1.out.tb
  cases da
  · clear hc1 hc2 hx1 hx2
    go_wp2_with (first
      | (have hk := K1; clear hk; go_at_call 9; refine (hl1.out _ K1.out.ia).mono ?_; rintro e w3 ⟨rfl, hb⟩; have K2 := hide (K1.out.below hb); have B2 := hide (B1.out.trans (hb.mono B1.out.size)); clear p0 p1 p2 q0 q1 q2; obtain ⟨p0, p1, p2⟩ := K2.out.ta; obtain ⟨q0, q1, q2⟩ := K2.out.tb; clear hb))
    go_ret
    exact ⟨rfl, B2.out⟩
  replace hc1 := hc1 rfl
  cases db
  · clear hc2 hx1 hx2
    go_wp2_with (first
      | (have hk := K2; clear hk; go_at_call 9; refine (hl2.out _ K2.out.ib).mono ?_; rintro e w4 ⟨rfl, hb⟩; have K3 := hide (K2.out.below hb); have B3 := hide (B2.out.trans (hb.mono B2.out.size)); clear p0 p1 p2 q0 q1 q2; obtain ⟨p0, p1, p2⟩ := K3.out.ta; obtain ⟨q0, q1, q2⟩ := K3.out.tb; clear hb)
      | (have hk := K1; clear hk; go_at_call 9; refine (hl1.out _ K1.out.ia).mono ?_; rintro e w3 ⟨rfl, hb⟩; have K2 := hide (K1.out.below hb); have B2 := hide (B1.out.trans (hb.mono B1.out.size)); clear p0 p1 p2 q0 q1 q2; obtain ⟨p0, p1, p2⟩ := K2.out.ta; obtain ⟨q0, q1, q2⟩ := K2.out.tb; clear hb))
    go_ret
    exact ⟨rfl, B3.out⟩
  replace hc2 := hc2 rfl
  by_cases h1 : ca = 0
  rotate_left
  · have g1 : (ca == 0) = false := by simp [h1]
    have g2 : (ca != 0) = true := by simp [h1]
    clear hx1 hx2
    go_wp2_with (first
      | (have hk := K3; clear hk; go_at_call 10; refine (hc1.out _ K3.out.ia).mono ?_; rintro e w5 ⟨rfl, hb⟩; have K4 := hide (K3.out.below hb); have B4 := hide (B3.out.trans (hb.mono B3.out.size)); clear p0 p1 p2 q0 q1 q2; obtain ⟨p0, p1, p2⟩ := K4.out.ta; obtain ⟨q0, q1, q2⟩ := K4.out.tb; clear hb)
      | (have hk := K2; clear hk; go_at_call 9; refine (hl2.out _ K2.out.ib).mono ?_; rintro e w4 ⟨rfl, hb⟩; have K3 := hide (K2.out.below hb); have B3 := hide (B2.out.trans (hb.mono B2.out.size)); clear p0 p1 p2 q0 q1 q2; obtain ⟨p0, p1, p2⟩ := K3.out.ta; obtain ⟨q0, q1, q2⟩ := K3.out.tb; clear hb)
      | (have hk := K1; clear hk; go_at_call 9; refine (hl1.out _ K1.out.ia).mono ?_; rintro e w3 ⟨rfl, hb⟩; have K2 := hide (K1.out.below hb); have B2 := hide (B1.out.trans (hb.mono B1.out.size)); clear p0 p1 p2 q0 q1 q2; obtain ⟨p0, p1, p2⟩ := K2.out.ta; obtain ⟨q0, q1, q2⟩ := K2.out.tb; clear hb))
    go_ret
    exact ⟨rfl, B4.out⟩
  replace hx1 := hx1 h1
  by_cases h2 : cb = 0
  rotate_left
  · have g1 : (cb == 0) = false := by simp [h2]
    have g2 : (cb != 0) = true := by simp [h2]
    clear hx2
    subst h1
    go_wp2_with (first
      | (have hk := K4; clear hk; go_at_call 10; refine (hc2.out _ K4.out.ib).mono ?_; rintro e w6 ⟨rfl, hb⟩; have K5 := hide (K4.out.below hb); have B5 := hide (B4.out.trans (hb.mono B4.out.size)); clear p0 p1 p2 q0 q1 q2; obtain ⟨p0, p1, p2⟩ := K5.out.ta; obtain ⟨q0, q1, q2⟩ := K5.out.tb; clear hb)
      | (have hk := K3; clear hk; go_at_call 10; refine (hc1.out _ K3.out.ia).mono ?_; rintro e w5 ⟨rfl, hb⟩; have K4 := hide (K3.out.below hb); have B4 := hide (B3.out.trans (hb.mono B3.out.size)); clear p0 p1 p2 q0 q1 q2; obtain ⟨p0, p1, p2⟩ := K4.out.ta; obtain ⟨q0, q1, q2⟩ := K4.out.tb; clear hb)
      | (have hk := K2; clear hk; go_at_call 9; refine (hl2.out _ K2.out.ib).mono ?_; rintro e w4 ⟨rfl, hb⟩; have K3 := hide (K2.out.below hb); have B3 := hide (B2.out.trans (hb.mono B2.out.size)); clear p0 p1 p2 q0 q1 q2; obtain ⟨p0, p1, p2⟩ := K3.out.ta; obtain ⟨q0, q1, q2⟩ := K3.out.tb; clear hb)
      | (have hk := K1; clear hk; go_at_call 9; refine (hl1.out _ K1.out.ia).mono ?_; rintro e w3 ⟨rfl, hb⟩; have K2 := hide (K1.out.below hb); have B2 := hide (B1.out.trans (hb.mono B1.out.size)); clear p0 p1 p2 q0 q1 q2; obtain ⟨p0, p1, p2⟩ := K2.out.ta; obtain ⟨q0, q1, q2⟩ := K2.out.tb; clear hb))
    go_ret
    exact ⟨rfl, B5.out⟩
  replace hx2 := hx2 h2
  have hq := H8.out h1 h2
  clear H8
  subst h1 h2
  go_wp2_with (first
    | (have hk := K4; clear hk; go_at_call 10; refine (hc2.out _ K4.out.ib).mono ?_; rintro e w6 ⟨rfl, hb⟩; have K5 := hide (K4.out.below hb); have B5 := hide (B4.out.trans (hb.mono B4.out.size)); clear p0 p1 p2 q0 q1 q2; obtain ⟨p0, p1, p2⟩ := K5.out.ta; obtain ⟨q0, q1, q2⟩ := K5.out.tb; clear hb)
    | (have hk := K3; clear hk; go_at_call 10; refine (hc1.out _ K3.out.ia).mono ?_; rintro e w5 ⟨rfl, hb⟩; have K4 := hide (K3.out.below hb); have B4 := hide (B3.out.trans (hb.mono B3.out.size)); clear p0 p1 p2 q0 q1 q2; obtain ⟨p0, p1, p2⟩ := K4.out.ta; obtain ⟨q0, q1, q2⟩ := K4.out.tb; clear hb)
    | (have hk := K2; clear hk; go_at_call 9; refine (hl2.out _ K2.out.ib).mono ?_; rintro e w4 ⟨rfl, hb⟩; have K3 := hide (K2.out.below hb); have B3 := hide (B2.out.trans (hb.mono B2.out.size)); clear p0 p1 p2 q0 q1 q2; obtain ⟨p0, p1, p2⟩ := K3.out.ta; obtain ⟨q0, q1, q2⟩ := K3.out.tb; clear hb)
    | (have hk := K1; clear hk; go_at_call 9; refine (hl1.out _ K1.out.ia).mono ?_; rintro e w3 ⟨rfl, hb⟩; have K2 := hide (K1.out.below hb); have B2 := hide (B1.out.trans (hb.mono B1.out.size)); clear p0 p1 p2 q0 q1 q2; obtain ⟨p0, p1, p2⟩ := K2.out.ta; obtain ⟨q0, q1, q2⟩ := K2.out.tb; clear hb))
  have hC1 := hide (hx1.out w6.drew K5.out.ia.drew (K5.out.g.below ((Below.refl _ _).drew)))
  have s1 : w6.cell? ⟨w.heap.size, 0, none⟩ = some (.int .i64 ao) ∧ w6.cell? ⟨w.heap.size, 1, none⟩ = some (.int .i64 an) ∧ w6.cell? ⟨w.heap.size, 2, none⟩ = some (.slice aa al.length ac) ∧ w6.cell? ⟨w.heap.size + 1, 0, none⟩ = some (.int .i64 bo) ∧ w6.cell? ⟨w.heap.size + 1, 1, none⟩ = some (.int .i64 bn) ∧ w6.cell? ⟨w.heap.size + 1, 2, none⟩ = some (.slice ba bl.length bc) := ⟨K5.out.ta.c0, K5.out.ta.c1, K5.out.ta.c2, K5.out.tb.c0, K5.out.tb.c1, K5.out.tb.c2⟩
  go_region_held3 (fun w' => w'.cell? ⟨w.heap.size, 0, none⟩ = some (.int .i64 ao) ∧ w'.cell? ⟨w.heap.size, 1, none⟩ = some (.int .i64 an) ∧ w'.cell? ⟨w.heap.size, 2, none⟩ = some (.slice aa al.length ac) ∧ w'.cell? ⟨w.heap.size + 1, 0, none⟩ = some (.int .i64 bo) ∧ w'.cell? ⟨w.heap.size + 1, 1, none⟩ = some (.int .i64 bn) ∧ w'.cell? ⟨w.heap.size + 1, 2, none⟩ = some (.slice ba bl.length bc))
    (first | go_keep | with_reducible exact s1 | with_reducible exact s2 | with_reducible exact s3 | with_reducible exact s4)
    (first
      | (have hk := hC3; clear hk; go_at_call 18; refine hC3.out.mono ?_; clear hC3; rintro e w9 ⟨rfl, hb⟩
         have K8 := hide (K7.out.below hb)
         have B8 := hide (B7.out.trans (hb.mono B7.out.size))
         have s4 : w9.cell? ⟨w.heap.size, 0, none⟩ = some (.int .i64 ao) ∧ w9.cell? ⟨w.heap.size, 1, none⟩ = some (.int .i64 an) ∧ w9.cell? ⟨w.heap.size, 2, none⟩ = some (.slice aa al.length ac) ∧ w9.cell? ⟨w.heap.size + 1, 0, none⟩ = some (.int .i64 bo) ∧ w9.cell? ⟨w.heap.size + 1, 1, none⟩ = some (.int .i64 bn) ∧ w9.cell? ⟨w.heap.size + 1, 2, none⟩ = some (.slice ba bl.length bc) := ⟨K8.out.ta.c0, K8.out.ta.c1, K8.out.ta.c2, K8.out.tb.c0, K8.out.tb.c1, K8.out.tb.c2⟩
         clear hb)
      | (have hk := hC2; clear hk; go_at_call 13; refine hC2.out.mono ?_; clear hC2; rintro e w8 ⟨rfl, hb⟩
         have K7 := hide (K6.out.below hb)
         have B7 := hide (B6.out.trans (hb.mono B6.out.size))
         have s3 : w8.cell? ⟨w.heap.size, 0, none⟩ = some (.int .i64 ao) ∧ w8.cell? ⟨w.heap.size, 1, none⟩ = some (.int .i64 an) ∧ w8.cell? ⟨w.heap.size, 2, none⟩ = some (.slice aa al.length ac) ∧ w8.cell? ⟨w.heap.size + 1, 0, none⟩ = some (.int .i64 bo) ∧ w8.cell? ⟨w.heap.size + 1, 1, none⟩ = some (.int .i64 bn) ∧ w8.cell? ⟨w.heap.size + 1, 2, none⟩ = some (.slice ba bl.length bc) := ⟨K7.out.ta.c0, K7.out.ta.c1, K7.out.ta.c2, K7.out.tb.c0, K7.out.tb.c1, K7.out.tb.c2⟩
         have hC3 := hide (hx3.out w8 K7.out.ia K7.out.ib)
         clear hb)
      | (go_at_call 13; refine hC1.out.mono ?_; clear hC1; rintro e w7 ⟨rfl, hb⟩
         have hb1 : Below w6.heap.size w6 w7 := ((Below.refl _ w6).drew).trans hb
         have K6 := hide (K5.out.below hb1)
         have B6 := hide (B5.out.trans (hb1.mono B5.out.size))
         have s2 : w7.cell? ⟨w.heap.size, 0, none⟩ = some (.int .i64 ao) ∧ w7.cell? ⟨w.heap.size, 1, none⟩ = some (.int .i64 an) ∧ w7.cell? ⟨w.heap.size, 2, none⟩ = some (.slice aa al.length ac) ∧ w7.cell? ⟨w.heap.size + 1, 0, none⟩ = some (.int .i64 bo) ∧ w7.cell? ⟨w.heap.size + 1, 1, none⟩ = some (.int .i64 bn) ∧ w7.cell? ⟨w.heap.size + 1, 2, none⟩ = some (.slice ba bl.length bc) := ⟨K6.out.ta.c0, K6.out.ta.c1, K6.out.ta.c2, K6.out.tb.c0, K6.out.tb.c1, K6.out.tb.c2⟩
         have hC2 := hide (hx2.out w7 K6.out.ib K6.out.g)
         clear hb hb1))
  go_wp2_with fail
  go_ret
  exact ⟨rfl, B8.out⟩
end Go.Proofs.YtjdefmjcnpgjiaaDoor
