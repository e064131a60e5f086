/-
  A channel of whole numbers: Arrive, Deliver.
-/
import Derived.Test.YtnomoekbfclckaaFCallI
namespace Go.Proofs.Ytnomoekbfclckaa
open Go.RowKit

section
variable {w : World} {fp : List Nat} {K cr : Nat} {S : FS Int}
set_option maxHeartbeats 2000000 in
set_option maxRecDepth 100000 in
theorem cArriveI (H : ChI w fp K cr S) (hr0 : 0 ≤ S.r) (hr1 : S.r ≤ 1000000) (e' q : Int) (x : Int) : Calls Try.prog 24 #[.pointer (some ⟨K, 0, none⟩), .int .u64 e', .int .u64 q, Value.int .i64 x] w fun r w' => r = .returned (.int .i64 (pArr cr S e' q x).2) ∧ DidI w w' fp K cr (pArr cr S e' q x).1 := by
  have hep := hide (cEpochI H)
  have HC := hide H
  unfold pArr
  by_cases he : e' = S.e
  rotate_left
  · rw [if_pos he]
    clear H
    go_enter Try.func24, Try.ntmps24
    go_wp2_with (first | (go_at_call 18; refine hep.out.mono ?_; rintro r w1 ⟨rfl, rfl⟩) | fail)
    go_ret
    exact ⟨rfl, DidI.refl HC.out⟩
  rw [if_neg (fun h => h he)]
  obtain ⟨h1, h2, kb, km, kw, bw, fb, fm, hfp, H⟩ := H
  obtain ⟨c0, c1, c2, c3, c4, c5⟩ := H.cells
  have HX := hide H
  by_cases hq : q = S.r
  rotate_left
  · rw [if_pos (.inl hq)]
    clear H
    go_enter Try.func24, Try.ntmps24
    go_wp2_with (first | (go_at_call 18; refine hep.out.mono ?_; rintro r w1 ⟨rfl, rfl⟩) | fail)
    go_ret
    exact ⟨rfl, DidI.refl HC.out⟩
  have hput := PutI H.ring (by omega) x
  by_cases hf : cr ≤ S.wait.length
  · rw [if_pos (.inr hf)]
    have hn : ¬ (S.wait.length < cr) := by omega
    simp only [hn, if_false, decide_false] at hput
    have hput := hide hput
    clear H
    go_enter Try.func24, Try.ntmps24
    go_wp2_with (first | (go_at_call 18; refine hep.out.mono ?_; rintro r w1 ⟨rfl, rfl⟩) | (go_at_call 52; refine hput.out.mono ?_; rintro r w2 ⟨rfl, b2, r2, t2, g2⟩) | fail)
    go_ret
    obtain ⟨h3, t3, g3⟩ := HX.out.turnR r2 t2 (g2.imp id .inl)
    subst hfp
    exact ⟨rfl, _, ⟨h1, h2, kb, km, kw, b2, fb, fm, rfl, h3⟩, t3, g3⟩
  · have hn : S.wait.length < cr := by omega
    rw [if_neg (by rintro (h | h); exact h hq; omega)]
    simp only [hn, if_true, decide_true] at hput
    have hput := hide hput
    have hwr : IntKind.u64.wrap (S.r + 1) = S.r + 1 := by unfold IntKind.wrap; simp [IntKind.bits]; omega
    clear H
    go_enter Try.func24, Try.ntmps24
    go_wp2_with (first
      | (go_at_call 18; refine hep.out.mono ?_; rintro r w1 ⟨rfl, rfl⟩)
      | (go_at_call 52; refine hput.out.mono ?_; rintro r w2 ⟨rfl, b2, r2, t2, g2⟩; have H2 := hide (HX.out.turnR r2 t2 (g2.imp id .inl)); obtain ⟨d0, d1, d2, d3, d4, d5⟩ := H2.out.1.cells; have df := H2.out.1.box.free; clear c0 c1 c2 c3 c4 c5 r2 t2 g2)
      | fail)
    have H3 := hide (H2.out.1.set 4 (.int .u64 (S.r + 1)) (s' := S.s) (r' := S.r + 1) (mo' := S.mo) rfl)
    generalize w2.setCell ⟨K, 4, none⟩ (.int .u64 (S.r + 1)) = w3 at *
    obtain ⟨z0, z1, z2, z3, z4, z5⟩ := H3.out.1.cells
    have zf := H3.out.1.box.free
    have HD := hide (H3.out.1.back (w' := w3.drew) (Nat.le_refl _) (fun _ _ => rfl))
    have hwt := hide (cWaitingI (S := { S with wait := S.wait ++ [x], r := S.r + 1 }) ⟨by simp; omega, h2, kb, km, kw, b2, fb, fm, rfl, HD.out⟩)
    dsimp only at hwt
    rw [List.length_append, List.length_singleton] at hwt
    go_region_law (go_simp; go_at_call 17; refine hwt.out.mono ?_; rintro r w4 ⟨rfl, rfl⟩)
    all_goals
      have hmx : (if S.mo < (S.wait.length : Int) + 1 then (S.wait.length : Int) + 1 else S.mo) = max S.mo ((S.wait.length : Int) + 1) := by split <;> omega
      rw [hmx]
      have H5 := hide (HD.out.set 5 (.int .i64 (max S.mo ((S.wait.length : Int) + 1))) (s' := S.s) (r' := S.r + 1) (mo' := max S.mo ((S.wait.length : Int) + 1)) rfl)
      go_wp2
      go_ret
      subst hfp
      have T5 : TurnedL (fpC K kw b2 fb fm) w3 (w3.setCell ⟨K, 5, none⟩ (.int .i64 (max S.mo ((S.wait.length : Int) + 1)))).drew := TurnedL.mk H5.out.2.os rfl H5.out.2.output H5.out.2.size H5.out.2.block
      exact ⟨rfl, _, ⟨by simp; omega, h2, kb, km, kw, b2, fb, fm, rfl, H5.out.1⟩, H2.out.2.1.trans (H3.out.2.trans T5 (Grew.refl _ _)) H2.out.2.2, H2.out.2.2⟩
set_option maxHeartbeats 2000000 in
set_option maxRecDepth 100000 in
theorem cDeliverI (H : ChI w fp K cr S) (hm : S.mov.length < 512) (hr0 : 0 ≤ S.r) (hr1 : S.r ≤ 1000000) : Calls Try.prog 12 #[.pointer (some ⟨K, 0, none⟩)] w fun r w' => r = .returned (.int .i64 (pDel cr S).2) ∧ DidI w w' fp K cr (pDel cr S).1 := by
  have HC := hide H
  obtain ⟨h1, h2, kb, km, kw, bw, fb, fm, hfp, H⟩ := H
  obtain ⟨c0, c1, c2, c3, c4, c5⟩ := H.cells
  have HX := hide H
  have hlm := H.lm
  clear H
  cases hM : S.mov with
  | nil =>
    rw [del_nil hM]
    rw [hM] at hlm
    have hdl := hide (lDeliverNMI hlm)
    clear hlm
    go_enter Try.func12, Try.ntmps12
    go_wp2_with (first | (go_at_call 41; refine hdl.out.mono ?_; rintro r w1 ⟨rfl, b1⟩; have B1 := hide b1; clear b1) | fail)
    go_ret
    exact ⟨rfl, DidI.below HC.out (B1.out.alloc B1.out.size _)⟩
  | cons p M =>
    obtain ⟨q, x⟩ := p
    rw [hM] at hlm hm
    simp only [List.length_cons] at hm
    have hdl := hide (lDeliverMI hlm (by omega))
    have hpd : pDel cr S = pArr cr { S with mov := M } S.e q x := by unfold pDel; rw [hM]
    obtain ⟨S2, r2, hpr⟩ : ∃ S2 r2, pArr cr { S with mov := M } S.e q x = (S2, r2) := ⟨_, _, rfl⟩
    rw [hpd, hpr]
    dsimp only
    have HPR := hide hpr
    clear hlm hpd hpr
    go_enter Try.func12, Try.ntmps12
    go_wp2_with (first | (go_at_call 41; refine hdl.out.mono ?_; rintro r w1 ⟨rfl, fm1, l1, t1, g1⟩; have H1 := hide (HX.out.turnM l1 t1 g1); clear l1 t1 g1) | fail)
    have a1 : Below w1.heap.size w1 (w1.alloc (.cells #[.int .u64 q, Value.int .i64 x] 58)) := (Below.refl _ _).alloc (Nat.le_refl _) _
    have C1 : ChI w1 (fpC K kw bw fb fm1) K cr { S with mov := M } := ⟨h1, h2, kb, km, kw, bw, fb, fm1, rfl, H1.out.1⟩
    have g1 : BoxT 58 (w1.alloc (.cells #[.int .u64 q, Value.int .i64 x] 58)) w1.heap.size #[.int .u64 q, Value.int .i64 x] := BoxT.new _ _ _
    have hX : w1.heap.size ∉ fpC K kw bw fb fm1 := fun h => Nat.lt_irrefl _ (C1.lt _ h)
    have C2 := (C1.below a1).below ((Below.refl _ _).drew)
    have hce := hide (cEpochI C2)
    have har := hide (cArriveI C2 hr0 hr1 S.e q x)
    obtain ⟨x5, x6⟩ := g1.cells2
    have G1 := hide g1.drew
    have A1 := hide (a1.drew)
    have hs1 := a1.size
    clear C1 C2 g1 a1
    dsimp only at hce
    rw [HPR.out] at har
    dsimp only at har
    generalize w1.alloc (.cells #[.int .u64 q, Value.int .i64 x] 58) = w2 at *
    go_region_held3 (fun w' => w'.cell? ⟨w1.heap.size, 0, none⟩ = some (.int .u64 q) ∧ w'.cell? ⟨w1.heap.size, 1, none⟩ = some (Value.int .i64 x)) (first | go_keep | exact ⟨x5, x6⟩ | exact ⟨z5, z6⟩)
      (first
        | (go_at_call 18; refine hce.out.mono ?_; rintro r w3 ⟨rfl, rfl⟩)
        | (go_at_call 24; refine har.out.mono ?_; rintro r w4 ⟨rfl, fp4, C4, t4, g4⟩; have H4 := hide (And.intro C4 (And.intro t4 g4)); obtain ⟨z5, z6⟩ := (G1.out.turnedL t4 hX).cells2; clear C4 t4 g4))
    go_wp2
    go_ret
    subst hfp
    have hs2 : w1.heap.size ≤ w2.drew.heap.size := A1.out.size
    exact ⟨rfl, fp4, H4.out.1, H1.out.2.1.trans ((TurnedL.of_below A1.out).trans H4.out.2.1 (Grew.refl _ _)) H1.out.2.2, H1.out.2.2.trans ((Grew.refl _ w1).trans H4.out.2.2 hs2) H1.out.2.1.size⟩
end
end Go.Proofs.Ytnomoekbfclckaa
