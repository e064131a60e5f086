/-
  A channel of whole numbers: each call, as it changes the state.
-/
import Derived.Test.YtnomoekbfclckaaFChI
import Derived.Test.YtnomoekbfclckaaFHelp
namespace Go.Proofs.Ytnomoekbfclckaa
open Go.RowKit

/-- What a call leaves: the channel with the state S, and nothing turned but its blocks. -/
def DidI (w w' : World) (fp : List Nat) (K cr : Nat) (S : FS Int) : Prop := ∃ fp', ChI w' fp' K cr S ∧ TurnedL fp w w' ∧ Grew fp fp' w
section
variable {w : World} {fp : List Nat} {K cr : Nat} {S : FS Int}
theorem DidI.refl (H : ChI w fp K cr S) : DidI w w fp K cr S := ⟨fp, H, TurnedL.refl _ _, Grew.refl _ _⟩
theorem DidI.below {w' : World} (H : ChI w fp K cr S) (hb : Below w.heap.size w w') : DidI w w' fp K cr S := ⟨fp, H.below hb, TurnedL.of_below hb, Grew.refl _ _⟩
theorem DidI.then {w' w'' : World} {S' : FS Int} (H : DidI w w' fp K cr S) (h : ∀ fp', ChI w' fp' K cr S → DidI w' w'' fp' K cr S') : DidI w w'' fp K cr S' := by
  obtain ⟨fp1, h1, t1, g1⟩ := H
  obtain ⟨fp2, h2, t2, g2⟩ := h fp1 h1
  exact ⟨fp2, h2, t1.trans t2 g1, g1.trans g2 t1.size⟩
set_option maxHeartbeats 1000000 in
set_option maxRecDepth 100000 in
theorem cNewI (w : World) (c e : Int) : Calls Try.prog 9 #[.int .i64 c, .int .u64 e] w fun r w' => ∃ K fp, r = .returned (.pointer (some ⟨K, 0, none⟩)) ∧ ChI w' fp K (min (max c 1) 64).toNat (pNew e) ∧ Below w.heap.size w w' ∧ ∀ i ∈ fp, w.heap.size ≤ i := by
  go_enter Try.func9, Try.ntmps9
  go_wp2_with (first
    | (go_at_call 35; refine (lNewI w e).mono ?_; rintro r w1 ⟨rfl, l1, b1⟩; have H1 := hide (And.intro l1 b1); have s1 := b1.size; have k1 := l1.lt _ (List.mem_singleton.2 rfl); clear l1 b1)
    | (go_at_call 36; refine (lNewMI w1 e).mono ?_; rintro r w2 ⟨rfl, l2, b2⟩; have H2 := hide (And.intro l2 b2); have s2 := b2.size; have k2 := l2.lt _ (List.mem_singleton.2 rfl); clear l2 b2)
    | fail)
  all_goals
    rename_i hi
    go_at_call 37
    refine (NewI w2 _).mono ?_
    rintro r w3 ⟨rfl, r3, b3⟩
    have H3 := hide (And.intro r3 b3)
    have s3 := b3.size
    have k3 := r3.lt
    clear r3 b3
    have hcr : ∀ v : Int, (v = 64 ∧ 64 < c) ∨ (v = 1 ∧ c < 1) ∨ (v = c ∧ 1 ≤ c ∧ c ≤ 64) → (min (max v 1) 65536).toNat = (min (max c 1) 64).toNat := by omega
    rw [hcr _ (by first | (rw [if_pos (by omega)] at hi; omega) | (rw [if_neg (by omega)] at hi; omega))] at H3
    clear hcr hi
    go_wp2
    go_ret
    have a4 : ∀ o : Obj, Below w3.heap.size w3 (w3.alloc o) := fun o => (Below.refl _ _).alloc (Nat.le_refl _) _
    refine ⟨w3.heap.size, fpC w3.heap.size w2.heap.size w2.heap.size [w.heap.size] [w1.heap.size], rfl, ⟨by simp [pNew], by omega, w.heap.size, w1.heap.size, w2.heap.size, w2.heap.size, [w.heap.size], [w1.heap.size], rfl, ?_⟩, ?_, ?_⟩
    · exact ⟨BoxT.new _ _ _, ((H1.out.1.below (H2.out.2)).below H3.out.2).below (a4 _), (H2.out.1.below H3.out.2).below (a4 _), H3.out.1.below (a4 _), by simp; omega, by simp; omega, by omega, by omega, by simp; omega, by simp; omega, by simp; omega, by simp; omega, fun i hi => by simp at hi ⊢; omega⟩
    · exact ((H1.out.2.trans (H2.out.2.mono s1)).trans (H3.out.2.mono (by omega))).trans ((a4 _).mono (by omega))
    · intro i hi
      simp only [fpC, List.mem_cons, List.mem_append, List.not_mem_nil, or_false] at hi
      omega
set_option maxRecDepth 100000 in
theorem cEpochI (H : ChI w fp K cr S) : Calls Try.prog 18 #[.pointer (some ⟨K, 0, none⟩)] w fun r w' => r = .returned (.int .u64 S.e) ∧ w' = w := by
  obtain ⟨_, _, kb, km, kw, bw, fb, fm, rfl, H⟩ := H
  obtain ⟨c0, c1, c2, c3, c4, c5⟩ := H.cells
  have hep := hide (lEpochMI H.lm)
  clear H
  go_enter Try.func18, Try.ntmps18
  go_wp2_with (first | (go_at_call 50; refine hep.out.mono ?_; rintro r w1 ⟨rfl, rfl⟩) | fail)
  go_ret
  exact ⟨rfl, rfl⟩
set_option maxRecDepth 100000 in
theorem cBacklogI (H : ChI w fp K cr S) : Calls Try.prog 15 #[.pointer (some ⟨K, 0, none⟩)] w fun r w' => r = .returned (.int .i64 S.back.length) ∧ w' = w := by
  obtain ⟨_, _, kb, km, kw, bw, fb, fm, rfl, H⟩ := H
  obtain ⟨c0, c1, c2, c3, c4, c5⟩ := H.cells
  have hep := hide (lLenI H.lb)
  clear H
  go_enter Try.func15, Try.ntmps15
  go_wp2_with (first | (go_at_call 47; refine hep.out.mono ?_; rintro r w1 ⟨rfl, rfl⟩) | fail)
  go_ret
  exact ⟨rfl, rfl⟩
--MOVING
set_option maxRecDepth 100000 in
theorem cMovingI (H : ChI w fp K cr S) : Calls Try.prog 16 #[.pointer (some ⟨K, 0, none⟩)] w fun r w' => r = .returned (.int .i64 S.mov.length) ∧ w' = w := by
  obtain ⟨_, _, kb, km, kw, bw, fb, fm, rfl, H⟩ := H
  obtain ⟨c0, c1, c2, c3, c4, c5⟩ := H.cells
  have hep := hide (lLenMI H.lm)
  clear H
  go_enter Try.func16, Try.ntmps16
  go_wp2_with (first | (go_at_call 48; refine hep.out.mono ?_; rintro r w1 ⟨rfl, rfl⟩) | fail)
  go_ret
  exact ⟨rfl, rfl⟩
--END
set_option maxRecDepth 100000 in
theorem cWaitingI (H : ChI w fp K cr S) : Calls Try.prog 17 #[.pointer (some ⟨K, 0, none⟩)] w fun r w' => r = .returned (.int .i64 S.wait.length) ∧ w' = w := by
  obtain ⟨_, _, kb, km, kw, bw, fb, fm, rfl, H⟩ := H
  obtain ⟨c0, c1, c2, c3, c4, c5⟩ := H.cells
  have hep := hide (LenI H.ring)
  clear H
  go_enter Try.func17, Try.ntmps17
  go_wp2_with (first | (go_at_call 49; refine hep.out.mono ?_; rintro r w1 ⟨rfl, rfl⟩) | fail)
  go_ret
  exact ⟨rfl, rfl⟩
--MOST
set_option maxRecDepth 100000 in
theorem cMostI (H : ChI w fp K cr S) : Calls Try.prog 32 #[.pointer (some ⟨K, 0, none⟩)] w fun r w' => r = .returned (.int .i64 S.mo) ∧ w' = w := by
  obtain ⟨_, _, kb, km, kw, bw, fb, fm, rfl, H⟩ := H
  obtain ⟨c0, c1, c2, c3, c4, c5⟩ := H.cells
  clear H
  go_enter Try.func32, Try.ntmps32
  go_wp2
  go_ret
  exact ⟨rfl, rfl⟩
--END
set_option maxHeartbeats 1000000 in
set_option maxRecDepth 100000 in
theorem cCreditsI (H : ChI w fp K cr S) (hm : S.mov.length ≤ 1000) : Calls Try.prog 30 #[.pointer (some ⟨K, 0, none⟩)] w fun r w' => r = .returned (.int .i64 (pCr cr S)) ∧ Below w.heap.size w w' := by
  obtain ⟨hw, hcr, kb, km, kw, bw, fb, fm, rfl, H⟩ := H
  obtain ⟨c0, c1, c2, c3, c4, c5⟩ := H.cells
  have hroom := hide (RoomI (H.ring.below ((Below.refl _ _).drew)) (by omega))
  have HL := hide H.lm
  have hKl := H.box.lt
  clear H
  have hp : pCr cr S = ((cr - S.wait.length : Nat) : Int) - (S.mov.length : Int) := by unfold pCr; omega
  have hw1 : IntKind.i64.wrap (((cr - S.wait.length : Nat) : Int) - (S.mov.length : Int)) = ((cr - S.wait.length : Nat) : Int) - (S.mov.length : Int) := by rw [IntKind.wrap_i64]; omega
  rw [hp]
  clear hp
  go_enter Try.func30, Try.ntmps30
  go_wp2_with fail
  go_region_held3 (fun w' => w'.cell? ⟨K, 1, none⟩ = some (.pointer (some ⟨km, 0, none⟩)) ∧ w'.cell? ⟨K, 2, none⟩ = some (.pointer (some ⟨kw, 0, none⟩))) (first | go_keep | exact ⟨c1, c2⟩ | exact ⟨z1, z2⟩)
    (first
      | (go_at_call 53; refine hroom.out.mono ?_; rintro r w1 ⟨rfl, b1⟩; have z1 : w1.cell? ⟨K, 1, none⟩ = some (.pointer (some ⟨km, 0, none⟩)) := (b1.cell (p := ⟨K, 1, none⟩) hKl).trans c1; have z2 : w1.cell? ⟨K, 2, none⟩ = some (.pointer (some ⟨kw, 0, none⟩)) := (b1.cell (p := ⟨K, 2, none⟩) hKl).trans c2; have HB := hide (((Below.refl w.heap.size w).drew).trans b1); clear b1)
      | (go_at_call 48; refine (lLenMI (HL.out.below HB.out)).mono ?_; rintro r w2 ⟨rfl, rfl⟩))
  go_wp2
  go_ret
  exact ⟨rfl, HB.out⟩
set_option maxHeartbeats 1000000 in
set_option maxRecDepth 100000 in
theorem cOfferI (H : ChI w fp K cr S) (hl : S.back.length < 512) (x : Int) : Calls Try.prog 10 #[.pointer (some ⟨K, 0, none⟩), Value.int .i64 x] w fun r w' => r = .returned (.tuple #[]) ∧ DidI w w' fp K cr (pOffer S x) := by
  have hep := hide (cEpochI (H.below ((Below.refl _ _).drew)))
  obtain ⟨h1, h2, kb, km, kw, bw, fb, fm, rfl, H⟩ := H
  obtain ⟨c0, c1, c2, c3, c4, c5⟩ := H.cells
  replace H := H.back (w' := w.drew) (Nat.le_refl _) (fun _ _ => rfl)
  have hs := lSendI H.lb hl x S.e
  rw [if_pos rfl, if_pos rfl] at hs
  have hs := hide hs
  have HH := hide H
  clear H
  go_enter Try.func10, Try.ntmps10
  go_wp2_with fail
  go_region_held3 (fun w' => w'.cell? ⟨K, 0, none⟩ = some (.pointer (some ⟨kb, 0, none⟩))) (first | go_keep | exact c0 | exact z0)
    (first
      | (go_at_call 18; refine hep.out.mono ?_; rintro r w1 ⟨rfl, rfl⟩)
      | (go_at_call 38; refine hs.out.mono ?_; rintro r w2 ⟨rfl, fb2, l2, t2, g2⟩; have H2 := hide (HH.out.turnB l2 t2 g2); have z0 := H2.out.1.cells.1; clear l2 t2 g2))
  go_wp2
  go_end0
  exact ⟨rfl, _, ⟨h1, h2, kb, km, kw, bw, fb2, fm, rfl, H2.out.1⟩, (TurnedL.of_below ((Below.refl _ _).drew)).trans H2.out.2.1 (Grew.refl _ _), H2.out.2.2⟩
set_option maxHeartbeats 2000000 in
set_option maxRecDepth 100000 in
theorem cTakeI (H : ChI w fp K cr S) {x : Int} {W : List Int} (hx : S.wait = x :: W) : Calls Try.prog 13 #[.pointer (some ⟨K, 0, none⟩)] w fun r w' => r = .returned (.tuple #[Value.int .i64 x, .bool true]) ∧ DidI w w' fp K cr (pTake S) := by
  obtain ⟨h1, h2, kb, km, kw, bw, fb, fm, rfl, H⟩ := H
  obtain ⟨c0, c1, c2, c3, c4, c5⟩ := H.cells
  have hr := H.ring
  rw [hx] at hr
  have ht := hide (TakeI hr)
  have HH := hide H
  clear H hr
  go_enter Try.func13, Try.ntmps13
  go_wp2_with (first | (go_at_call 42; refine ht.out.mono ?_; rintro r w1 ⟨rfl, b1, r1, t1, g1⟩) | fail)
  go_ret2
  obtain ⟨h3, t3, g3⟩ := HH.out.turnR r1 t1 (g1.imp id .inl)
  refine ⟨rfl, _, ⟨?_, h2, kb, km, kw, b1, fb, fm, rfl, ?_⟩, t3, g3⟩
  · rw [hx] at h1; simp [pTake, hx] at h1 ⊢; omega
  · rw [show (pTake S).wait = W by simp [pTake, hx]]; exact h3
set_option maxHeartbeats 2000000 in
set_option maxRecDepth 100000 in
theorem cTakeNI (H : ChI w fp K cr S) (hx : S.wait = []) : Calls Try.prog 13 #[.pointer (some ⟨K, 0, none⟩)] w fun r w' => r = .returned (.tuple #[.int .i64 0, .bool false]) ∧ w' = w := by
  obtain ⟨h1, h2, kb, km, kw, bw, fb, fm, rfl, H⟩ := H
  obtain ⟨c0, c1, c2, c3, c4, c5⟩ := H.cells
  have hr := H.ring
  rw [hx] at hr
  have ht := hide (TakeNI hr)
  clear H hr
  go_enter Try.func13, Try.ntmps13
  go_wp2_with (first | (go_at_call 42; refine ht.out.mono ?_; rintro r w1 ⟨rfl, rfl⟩) | fail)
  go_ret2
  exact ⟨rfl, rfl⟩
set_option maxHeartbeats 2000000 in
set_option maxRecDepth 100000 in
theorem cSendI (H : ChI w fp K cr S) (hb : S.back.length ≤ 512) (hm : S.mov.length < 512) (hs0 : 0 ≤ S.s) (hs1 : S.s ≤ 1000000) : Calls Try.prog 11 #[.pointer (some ⟨K, 0, none⟩)] w fun r w' => r = .returned (.bool (pSend cr S).2) ∧ DidI w w' fp K cr (pSend cr S).1 := by
  have hcr := hide (cCreditsI H (by omega))
  have HC := hide H
  rcases send_cases cr S with ⟨e, he⟩ | ⟨x, B, e1, e2, e⟩
  · rw [e]
    dsimp only
    by_cases hc : pCr cr S ≤ 0
    · clear H he
      generalize pCr cr S = z at *
      go_enter Try.func11, Try.ntmps11
      go_wp2_with (first | (go_at_call 30; refine hcr.out.mono ?_; rintro r w1 ⟨rfl, b1⟩; have B1 := hide b1; clear b1) | fail)
      go_ret
      exact ⟨rfl, DidI.below HC.out B1.out⟩
    · have hbk : S.back = [] := he.resolve_left hc
      clear H he
      generalize pCr cr S = z at *
      go_enter Try.func11, Try.ntmps11
      go_wp2_with (first
        | (go_at_call 30; refine hcr.out.mono ?_; rintro r w1 ⟨rfl, b1⟩
           have B1 := hide b1
           obtain ⟨h1, h2, kb, km, kw, bw, fb, fm, hfp, H⟩ := HC.out.below b1
           obtain ⟨c0, c1, c2, c3, c4, c5⟩ := H.cells
           have hlb := H.lb
           rw [hbk] at hlb
           have hdl := hide (lDeliverNI hlb)
           clear b1 H hlb)
        | (go_at_call 39; refine hdl.out.mono ?_; rintro r w2 ⟨rfl, rfl⟩)
        | fail)
      go_ret
      exact ⟨rfl, DidI.below HC.out B1.out⟩
  · rw [e]
    dsimp only
    have hc : ¬ (pCr cr S ≤ 0) := by omega
    have hws : IntKind.u64.wrap (S.s + 1) = S.s + 1 := by unfold IntKind.wrap; simp [IntKind.bits]; omega
    clear H e2
    generalize pCr cr S = z at *
    go_enter Try.func11, Try.ntmps11
    go_wp2_with (first
      | (go_at_call 30; refine hcr.out.mono ?_; rintro r w1 ⟨rfl, b1⟩
         have B1 := hide b1
         obtain ⟨h1, h2, kb, km, kw, bw, fb, fm, hfp, H⟩ := HC.out.below b1
         obtain ⟨c0, c1, c2, c3, c4, c5⟩ := H.cells
         have hlb := H.lb
         rw [e1] at hlb
         have hdl := hide (lDeliverI hlb (by rw [e1] at hb; simp at hb; omega))
         have H1 := hide H
         clear b1 H hlb)
      | (go_at_call 39; refine hdl.out.mono ?_; rintro r w2 ⟨rfl, fb2, l2, t2, g2⟩
         have H2 := hide (H1.out.turnB l2 t2 g2)
         obtain ⟨d0, d1, d2, d3, d4, d5⟩ := H2.out.1.cells
         have hKl := H2.out.1.box.lt
         clear l2 t2 g2 c0 c1 c2 c3 c4 c5 hdl)
      | fail)
    have HD := hide (H2.out.1.back (w' := w2.drew) (Nat.le_refl _) (fun _ _ => rfl))
    have hep := hide (lEpochMI HD.out.lm)
    have hce := hide (cEpochI (S := { S with back := B }) ⟨h1, h2, kb, km, kw, bw, fb2, fm, rfl, HD.out⟩)
    have hsm := hide (lSendMI HD.out.lm hm (S.s, x))
    go_region_held3 (fun w' => w'.cell? ⟨K, 1, none⟩ = some (.pointer (some ⟨km, 0, none⟩)) ∧ w'.cell? ⟨K, 3, none⟩ = some (.int .u64 S.s)) (first | go_keep | exact ⟨d1, d3⟩ | exact ⟨z1, z3⟩)
      (first
        | (go_at_call 18; refine hce.out.mono ?_; rintro r w3 ⟨rfl, rfl⟩)
        | (go_at_call 40; refine hsm.out.mono ?_; rintro r w4 ⟨rfl, fm4, l4, t4, g4⟩; have H4 := hide (HD.out.turnM l4 t4 g4); obtain ⟨z0, z1, z2, z3, z4, z5⟩ := H4.out.1.cells; have zf := H4.out.1.box.free; clear l4 t4 g4))
    go_wp2
    go_ret
    subst hfp
    obtain ⟨h5, t5⟩ := H4.out.1.set 3 (.int .u64 (S.s + 1)) (s' := S.s + 1) (r' := S.r) (mo' := S.mo) rfl
    have G4 : Grew (fpC K kw bw fb2 fm) (fpC K kw bw fb2 fm4) w2 := H4.out.2.2
    have T4 := ((TurnedL.of_below (fp := fpC K kw bw fb2 fm) ((Below.refl w2.heap.size w2).drew)).trans H4.out.2.1 (Grew.refl _ _)).trans t5 G4
    exact ⟨rfl, _, ⟨h1, h2, kb, km, kw, bw, fb2, fm4, rfl, h5⟩, (TurnedL.of_below B1.out).trans (H2.out.2.1.trans T4 H2.out.2.2) (Grew.refl _ _), (Grew.refl _ w).trans (H2.out.2.2.trans G4 H2.out.2.1.size) B1.out.size⟩
end
end Go.Proofs.Ytnomoekbfclckaa
