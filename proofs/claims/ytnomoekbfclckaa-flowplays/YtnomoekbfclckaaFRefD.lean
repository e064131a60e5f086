/-
  The document's channel: Arrive, Deliver, Drain.
-/
import Derived.Test.YtnomoekbfclckaaFRefO
import Derived.Deep.CutBlock
import Derived.Deep.CutRange
namespace Go.Proofs.Ytnomoekbfclckaa
open Go.RowKit

section
variable {w w' : World} {fr : List Nat} {R cr : Nat} {S : FS Int} {vB vM vW vQ : Value}
theorem TurnedL.drewL {fp : List Nat} {w w' : World} (h : TurnedL fp w w') : TurnedL fp w w'.drew := h.trans (TurnedL.of_below ((Below.refl _ _).drew)) (Grew.refl _ _)
set_option maxHeartbeats 4000000 in
set_option maxRecDepth 100000 in
theorem rArrive (H : Re w fr R cr S) (hw : S.wait.length ≤ 1000) (hr0 : 0 ≤ S.r) (hr1 : S.r ≤ 1000000) (e' q x : Int) : Calls Try.prog 25 #[.pointer (some ⟨R, 0, none⟩), .int .u64 e', .int .u64 q, .int .i64 x] w fun r w' => r = .returned (.int .i64 (pArr cr S e' q x).2) ∧ DidR w w' fr R cr (pArr cr S e' q x).1 := by
  have HC := hide H
  obtain ⟨vB, vM, vW, vQ, H⟩ := H
  obtain ⟨c0, c1, c2, c3, c4, c5, c6, c7, c8⟩ := H.cells
  have HX := hide H
  obtain ⟨_, _, ⟨aW, cW, rfl⟩, _⟩ := H.shapes
  unfold pArr
  by_cases he : e' = S.e
  rotate_left
  · rw [if_pos he]
    clear H
    go_enter Try.func25, Try.ntmps25
    go_wp2
    go_ret
    exact ⟨rfl, fr, HC.out, TurnedL.refl _ _, Grew.refl _ _⟩
  rw [if_neg (fun h => h he)]
  subst he
  by_cases hq : q = S.r
  rotate_left
  · rw [if_pos (.inl hq)]
    have hqb : (q != S.r) = true := by simp [hq]
    clear H
    go_enter Try.func25, Try.ntmps25
    go_wp2
    go_quiet (fail)
    go_wp2
    go_ret
    exact ⟨rfl, fr, HC.out.below (below_drewN (Below.refl _ _) nq), TurnedL.of_below (below_drewN (Below.refl _ _) nq), Grew.refl _ _⟩
  by_cases hf : cr ≤ S.wait.length
  · rw [if_pos (.inr hf)]
    subst hq
    have hfi : (cr : Int) ≤ S.wait.length := by omega
    clear H
    go_enter Try.func25, Try.ntmps25
    go_wp2
    go_quiet (fail)
    go_wp2
    go_ret
    exact ⟨rfl, fr, HC.out.below (below_drewN (Below.refl _ _) nq), TurnedL.of_below (below_drewN (Below.refl _ _) nq), Grew.refl _ _⟩
  · rw [if_neg (by rintro (h | h); exact h hq; omega)]
    subst hq
    have hfi : ¬ ((cr : Int) ≤ S.wait.length) := by omega
    have hwr : IntKind.u64.wrap (S.r + 1) = S.r + 1 := by unfold IntKind.wrap; simp [IntKind.bits]; omega
    clear H
    go_enter Try.func25, Try.ntmps25
    go_wp2
    go_quiet (fail)
    have B1 := hide (below_drewN (Below.refl w.heap.size w) nq)
    have H1 := hide (HX.out.below B1.out)
    obtain ⟨y0, y1, y2, y3, y4, y5, y6, y7, y8⟩ := H1.out.cells
    have yf := H1.out.rf.box.free
    have hR1 := H1.out.rf.box.lt
    generalize w.drewN nq = w1 at *
    clear c0 c1 c2 c3 c4 c5 c6 c7 c8
    have HB2 : Hid (BoxT 48 (w1.setCell ⟨R, 7, none⟩ (.int .u64 (S.r + 1))) R #[vB, vM, .slice aW S.wait.length cW, vQ, .int .u64 S.s, .int .u64 S.e, .int .i64 cr, .int .u64 (S.r + 1), .int .i64 S.mo]) := by simpa using hide (H1.out.rf.box.set 7 (.int .u64 (S.r + 1)))
    have T2 := (TurnedL.refl [R] w1).setR 7 (.int .u64 (S.r + 1))
    have hadd := hide (add_any (H1.out.kW T2) hw x)
    have HT2 := hide T2
    clear T2
    go_wp2_with (first
      | (generalize w1.setCell ⟨R, 7, none⟩ (.int .u64 (S.r + 1)) = w2 at *
         go_at_call 51; refine hadd.out.mono ?_; rintro r w3 ⟨v3, rfl, o3, b3⟩
         have HB3 := hide (show BoxT 48 w3 R _ from (by have h := HB2.out; have hl := h.lt; unfold BoxT at *; rw [b3.block R hl]; exact h))
         have z2 := (HB3.out.cellAt 2).trans rfl
         have zf := HB3.out.free
         have HO := hide (And.intro o3 b3)
         obtain ⟨a3, e3, hv⟩ := o3.shape
         rw [List.length_append, List.length_singleton] at hv
         subst hv
         clear o3 b3)
      | fail)
    have HB4 : Hid (BoxT 48 (w3.setCell ⟨R, 2, none⟩ (.slice a3 (S.wait.length + 1) e3)) R #[vB, vM, .slice a3 (S.wait.length + 1) e3, vQ, .int .u64 S.s, .int .u64 S.e, .int .i64 cr, .int .u64 (S.r + 1), .int .i64 S.mo]) := by simpa using hide (HB3.out.set 2 (.slice a3 (S.wait.length + 1) e3))
    have HT4 := hide ((TurnedL.refl [R] w3).setR 2 (.slice a3 (S.wait.length + 1) e3))
    have x2 := (HB4.out.cellAt 2).trans rfl
    have x8 := (HB4.out.cellAt 8).trans rfl
    have xf := HB4.out.free
    generalize w3.setCell ⟨R, 2, none⟩ (.slice a3 (S.wait.length + 1) e3) = w4 at *
    clear y0 y1 y2 y3 y4 y5 y6 y7 y8 yf z2 zf hadd
    go_region
    all_goals
      have hmx : (if S.mo < (S.wait.length : Int) + 1 then (S.wait.length : Int) + 1 else S.mo) = max S.mo ((S.wait.length : Int) + 1) := by split <;> omega
      rw [hmx]
      go_wp2
      go_ret
      have sB := B1.out.size
      have s2 := HT2.out.size
      have T5 := ((TurnedL.refl [R] w4).setR 8 (.int .i64 (max S.mo ((S.wait.length : Int) + 1)))).drewL
      have T4 := HT4.out.trans T5 (Grew.refl _ _)
      have T3 := (TurnedL.of_below (fp := [R]) HO.out.2).trans T4 (Grew.refl _ _)
      have TA := (TurnedL.of_below (fp := [R]) B1.out).trans (HT2.out.trans T3 (Grew.refl _ _)) (Grew.refl _ _)
      have hR2 : R < w2.heap.size := by omega
      exact ⟨rfl, HX.out.store (S' := { S with wait := S.wait ++ [x], r := S.r + 1, mo := max S.mo ((S.wait.length : Int) + 1) }) (vW' := .slice a3 (S.wait.length + 1) e3) TA (by simpa using (HB4.out.set 8 (.int .i64 (max S.mo ((S.wait.length : Int) + 1)))).drew) (HX.out.kB TA) (HX.out.kM TA) (HO.out.1.row0 hR2 T4) (HX.out.kQ TA) (fun g hg => .inl hg) (fun g hg => .inl hg) (fun g hg => .inr (by have := HO.out.1.at g hg; omega)) (fun g hg => .inl hg)⟩
set_option maxHeartbeats 8000000 in
set_option maxRecDepth 100000 in
theorem rDeliver (H : Re w fr R cr S) (hm : S.mov.length ≤ 1000) (hw : S.wait.length ≤ 1000) (hr0 : 0 ≤ S.r) (hr1 : S.r ≤ 1000000) : Calls Try.prog 22 #[.pointer (some ⟨R, 0, none⟩)] w fun r w' => r = .returned (.int .i64 (pDel cr S).2) ∧ DidR w w' fr R cr (pDel cr S).1 := by
  have HC := hide H
  obtain ⟨vB, vM, vW, vQ, H⟩ := H
  obtain ⟨c0, c1, c2, c3, c4, c5, c6, c7, c8⟩ := H.cells
  have HX := hide H
  cases hM : S.mov with
  | nil =>
    rw [del_nil hM]
    obtain ⟨_, ⟨aM, cM, rfl⟩, _, _⟩ := H.shapes
    rw [hM] at c1
    simp only [List.length_nil] at c1
    clear H
    go_enter Try.func22, Try.ntmps22
    go_wp2
    go_ret
    exact ⟨rfl, fr, HC.out, TurnedL.refl _ _, Grew.refl _ _⟩
  | cons p M =>
    obtain ⟨q, x⟩ := p
    have hpd : pDel cr S = pArr cr { S with mov := M } S.e q x := by unfold pDel; rw [hM]
    obtain ⟨S2, r2, hpr⟩ : ∃ S2 r2, pArr cr { S with mov := M } S.e q x = (S2, r2) := ⟨_, _, rfl⟩
    rw [hpd, hpr]
    dsimp only
    have HPR := hide hpr
    clear hpd hpr
    have hrM := H.rf.rM
    have hrQ := H.rf.rQ
    rw [hM] at hrM hrQ hm
    simp only [List.map_cons, List.length_cons] at hrM hrQ hm
    obtain ⟨aM, cM, rfl⟩ := hrM.shape
    obtain ⟨aQ, cQ, rfl⟩ := hrQ.shape
    obtain ⟨g, off, rfl, _, t2, t3, t4⟩ := hrM.tail i64cs_len
    obtain ⟨gq, oq, rfl, _, u2, u3, u4⟩ := hrQ.tail u64cs_len
    obtain ⟨_, _, _, e0, hrd⟩ := hrM.read i64cs_len (i := 0) rfl
    cases e0
    obtain ⟨_, _, _, e0, hrdq⟩ := hrQ.read u64cs_len (i := 0) rfl
    cases e0
    have d0 : w.cell? ⟨g, off, none⟩ = some (.int .i64 x) := by simpa using hrd 0 _ rfl
    have d1 : w.cell? ⟨gq, oq, none⟩ = some (.int .u64 q) := by simpa using hrdq 0 _ rfl
    have hcM := hrM.full
    have hcQ := hrQ.full
    simp only [List.length_cons, List.length_map] at c1 c3 hcM hcQ HX t3 t4 u3 u4
    have hcM2 := hcM.2.1
    have hcM3 := hcM.2.2.1
    have hcQ2 := hcQ.2.1
    have hcQ3 := hcQ.2.2.1
    unfold maxLen at hcM3 hcQ3
    have hgR := (H.oM g rfl).2
    have hqR := (H.oQ gq rfl).2
    have HT := hide (And.intro t3 (And.intro t4 (And.intro u3 u4)))
    have hi1 : (1 : Int) ≤ (M.length : Int) + 1 := by omega
    have hne : ((M.length : Int) + 1 == 0) = false := by simp; omega
    clear H hrd hrdq hrM hrQ t3 t4 u3 u4 hcM hcQ
    go_enter Try.func22, Try.ntmps22
    go_wp2
    go_quiet (fail)
    have B1 := hide (below_drewN (Below.refl w.heap.size w) nq)
    have H1 := hide (HX.out.below B1.out)
    obtain ⟨y0, y1, y2, y3, y4, y5, y6, y7, y8⟩ := H1.out.cells
    have yf := H1.out.rf.box.free
    have HT1 := hide (And.intro (fun h => (HT.out.1 h).below B1.out) (And.intro (fun h => (HT.out.2.1 h).1.below B1.out) (And.intro (fun h => (HT.out.2.2.1 h).below B1.out) (fun h => (HT.out.2.2.2 h).1.below B1.out))))
    have HTn := hide (And.intro (fun h => List.map_eq_nil_iff.1 (HT.out.2.1 h).2) (fun h => List.map_eq_nil_iff.1 (HT.out.2.2.2 h).2))
    generalize w.drewN nq = w1 at *
    clear c0 c1 c2 c3 c4 c5 c6 c7 c8 HT
    go_wp2_with fail
    go_cut [2] from 23 to 38 (fun rv wx => rv = .int .i64 0 ∧ ∃ vM2 vQ2, Hid (TurnedL [R] w1 wx ∧ BoxT 48 wx R #[vB, vM2, vW, vQ2, .int .u64 S.s, .int .u64 S.e, .int .i64 cr, .int .u64 S.r, .int .i64 S.mo] ∧ Row 3 1 i64cs 0 wx vM2 (M.map Prod.snd) ∧ Row 27 1 u64cs 0 wx vQ2 (M.map Prod.fst) ∧ (∀ g', vM2.ownBlock = some g' → g = g') ∧ (∀ g', vQ2.ownBlock = some g' → gq = g')))
    case first =>
      have HB1 := hide H1.out.rf.box
      clear HC HX HPR B1 H1 y0 y2 y4 y5 y6 y7 y8 hw hr0 hr1 t2 u2 d0 d1
      by_cases h1 : cM = 1
      · by_cases h2 : cQ = 1
        · have RM := hide (HT1.out.2.1 h1)
          have RQ := hide (HT1.out.2.2.2 h2)
          clear HT1 HTn
          subst h1
          subst h2
          have HML : Hid (M.length = 0) := by show M.length = 0; omega
          go_region
          all_goals
            go_wp2_with fail
            go_meet
            have T2 := ((((TurnedL.refl [R] w1).setR 1 (.slice (some ⟨g, off, none⟩) 0 0)).setR 3 (.slice (some ⟨gq, oq, none⟩) 0 0)).drewL)
            exact ⟨rfl, .slice (some ⟨g, off, none⟩) 0 0, .slice (some ⟨gq, oq, none⟩) 0 0, T2, by simpa using ((HB1.out.set 1 (.slice (some ⟨g, off, none⟩) 0 0)).set 3 (.slice (some ⟨gq, oq, none⟩) 0 0)).drew, (by first | exact RM.out | (have h := RM.out; rw [HML.out] at h; exact h) : Row 3 1 i64cs 0 w1 _ (M.map Prod.snd)).turn T2 (fun g' hg' => by cases hg'; exact hgR), (by first | exact RQ.out | (have h := RQ.out; rw [HML.out] at h; exact h) : Row 27 1 u64cs 0 w1 _ (M.map Prod.fst)).turn T2 (fun g' hg' => by cases hg'; exact hqR), fun g' hg' => by cases hg'; rfl, fun g' hg' => by cases hg'; rfl⟩
        · have RM := hide (HT1.out.2.1 h1)
          have RQ := hide (HT1.out.2.2.1 h2)
          clear HT1 HTn
          subst h1
          have HML : Hid (M.length = 0) := by show M.length = 0; omega
          go_region
          all_goals
            go_wp2_with fail
            go_meet
            have T2 := ((((TurnedL.refl [R] w1).setR 1 (.slice (some ⟨g, off, none⟩) 0 0)).setR 3 (.slice (some ⟨gq, oq + 1, none⟩) 0 (cQ - 1))).drewL)
            exact ⟨rfl, .slice (some ⟨g, off, none⟩) 0 0, .slice (some ⟨gq, oq + 1, none⟩) 0 (cQ - 1), T2, by simpa using ((HB1.out.set 1 (.slice (some ⟨g, off, none⟩) 0 0)).set 3 (.slice (some ⟨gq, oq + 1, none⟩) 0 (cQ - 1))).drew, (by first | exact RM.out | (have h := RM.out; rw [HML.out] at h; exact h) : Row 3 1 i64cs 0 w1 _ (M.map Prod.snd)).turn T2 (fun g' hg' => by cases hg'; exact hgR), (by first | exact RQ.out | (have h := RQ.out; rw [HML.out] at h; exact h) : Row 27 1 u64cs 0 w1 _ (M.map Prod.fst)).turn T2 (fun g' hg' => by cases hg'; exact hqR), fun g' hg' => by cases hg'; rfl, fun g' hg' => by cases hg'; rfl⟩
      · by_cases h2 : cQ = 1
        · have RM := hide (HT1.out.1 h1)
          have RQ := hide (HT1.out.2.2.2 h2)
          clear HT1 HTn
          subst h2
          have HML : Hid (M.length = 0) := by show M.length = 0; omega
          go_region
          all_goals
            go_wp2_with fail
            go_meet
            have T2 := ((((TurnedL.refl [R] w1).setR 1 (.slice (some ⟨g, off + 1, none⟩) 0 (cM - 1))).setR 3 (.slice (some ⟨gq, oq, none⟩) 0 0)).drewL)
            exact ⟨rfl, .slice (some ⟨g, off + 1, none⟩) 0 (cM - 1), .slice (some ⟨gq, oq, none⟩) 0 0, T2, by simpa using ((HB1.out.set 1 (.slice (some ⟨g, off + 1, none⟩) 0 (cM - 1))).set 3 (.slice (some ⟨gq, oq, none⟩) 0 0)).drew, (by first | exact RM.out | (have h := RM.out; rw [HML.out] at h; exact h) : Row 3 1 i64cs 0 w1 _ (M.map Prod.snd)).turn T2 (fun g' hg' => by cases hg'; exact hgR), (by first | exact RQ.out | (have h := RQ.out; rw [HML.out] at h; exact h) : Row 27 1 u64cs 0 w1 _ (M.map Prod.fst)).turn T2 (fun g' hg' => by cases hg'; exact hqR), fun g' hg' => by cases hg'; rfl, fun g' hg' => by cases hg'; rfl⟩
        · have RM := hide (HT1.out.1 h1)
          have RQ := hide (HT1.out.2.2.1 h2)
          clear HT1 HTn
          go_region
          all_goals
            go_wp2_with fail
            go_meet
            have T2 := ((((TurnedL.refl [R] w1).setR 1 (.slice (some ⟨g, off + 1, none⟩) M.length (cM - 1))).setR 3 (.slice (some ⟨gq, oq + 1, none⟩) M.length (cQ - 1))).drewL)
            exact ⟨rfl, .slice (some ⟨g, off + 1, none⟩) M.length (cM - 1), .slice (some ⟨gq, oq + 1, none⟩) M.length (cQ - 1), T2, by simpa using ((HB1.out.set 1 (.slice (some ⟨g, off + 1, none⟩) M.length (cM - 1))).set 3 (.slice (some ⟨gq, oq + 1, none⟩) M.length (cQ - 1))).drew, (by first | exact RM.out | (have h := RM.out; rw [HML.out] at h; exact h) : Row 3 1 i64cs 0 w1 _ (M.map Prod.snd)).turn T2 (fun g' hg' => by cases hg'; exact hgR), (by first | exact RQ.out | (have h := RQ.out; rw [HML.out] at h; exact h) : Row 27 1 u64cs 0 w1 _ (M.map Prod.fst)).turn T2 (fun g' hg' => by cases hg'; exact hqR), fun g' hg' => by cases hg'; rfl, fun g' hg' => by cases hg'; rfl⟩
    case rest =>
      obtain ⟨rfl, vM2, vQ2, HP⟩ := hcut
      have p5 := (HP.out.2.1.cellAt 5).trans rfl
      have TA := (TurnedL.of_below (fp := [R]) B1.out).trans HP.out.1 (Grew.refl _ _)
      have HD := HX.out.store (S' := { S with mov := M }) (vM' := vM2) (vQ' := vQ2) TA HP.out.2.1 (HX.out.kB TA) HP.out.2.2.1 (HX.out.kW TA) HP.out.2.2.2.1 (fun g hg => .inl hg) (fun g' hg' => .inl (by rw [← HP.out.2.2.2.2.1 g' hg']; rfl)) (fun g hg => .inl hg) (fun g' hg' => .inl (by rw [← HP.out.2.2.2.2.2 g' hg']; rfl))
      obtain ⟨fr2, RE2, TR2, GR2⟩ := HD
      have har := rArrive RE2 hw hr0 hr1 S.e q x
      rw [HPR.out] at har
      dsimp only at har
      have har := hide har
      have HD := hide (And.intro TR2 GR2)
      clear RE2 TR2 GR2 TA y0 y1 y2 y3 y4 y5 y6 y7 y8
      go_wp2_with (first | (go_at_call 25; refine har.out.mono ?_; rintro r w5 ⟨rfl, fr5, RE5, TR5, GR5⟩; have HF := hide (And.intro RE5 (And.intro TR5 GR5)); clear RE5 TR5 GR5) | fail)
      go_ret
      exact ⟨rfl, fr5, HF.out.1, HD.out.1.trans HF.out.2.1 (Grew.refl _ _), HD.out.2.trans HF.out.2.2 HD.out.1.size⟩
end
end Go.Proofs.Ytnomoekbfclckaa
