/-
  A channel of whole numbers: Kill, Drain.
-/
import Derived.Test.YtnomoekbfclckaaFArrI
import Derived.Test.YtnomoekbfclckaaFAllMI
import Derived.Test.YtnomoekbfclckaaFSeg
namespace Go.Proofs.Ytnomoekbfclckaa
open Go.RowKit

section
variable {w : World} {fp : List Nat} {K cr : Nat} {S : FS Int}
def pEmpty (S : FS Int) (e : Int) : FS Int := ⟨[], [], [], S.s, S.r, S.mo, max S.e e⟩
set_option maxHeartbeats 2000000 in
set_option maxRecDepth 100000 in
theorem cEmptyI (H : ChI w fp K cr S) (e' : Int) : Calls Try.prog 46 #[.pointer (some ⟨K, 0, none⟩), .int .u64 e'] w fun r w' => r = .returned (.tuple #[]) ∧ DidI w w' fp K cr (pEmpty S e') := by
  obtain ⟨h1, h2, kb, km, kw, bw, fb, fm, hfp, H⟩ := H
  obtain ⟨c0, c1, c2, c3, c4, c5⟩ := H.cells
  have hk1 := hide (lKillI H.lb e')
  have HX := hide H
  clear H
  go_enter Try.func46, Try.ntmps46
  go_wp2_with (first
    | (go_at_call 65; refine hk1.out.mono ?_; rintro r w1 ⟨rfl, fb1, l1, t1, g1⟩; have H1 := hide (HX.out.turnB l1 t1 g1); obtain ⟨d0, d1, d2, d3, d4, d5⟩ := H1.out.1.cells; have hk2 := hide (lKillMI H1.out.1.lm e'); clear l1 t1 g1 c0 c1 c2 c3 c4 c5 hk1)
    | (go_at_call 66; refine hk2.out.mono ?_; rintro r w2 ⟨rfl, fm2, l2, t2, g2⟩; have H2 := hide (H1.out.1.turnM l2 t2 g2); obtain ⟨e0, e1, e2, e3, e4, e5⟩ := H2.out.1.cells; have hk3 := hide (ClearI H2.out.1.ring); clear l2 t2 g2 d0 d1 d2 d3 d4 d5 hk2)
    | (go_at_call 67; refine hk3.out.mono ?_; rintro r w3 ⟨rfl, r3, t3⟩; have H3 := hide (H2.out.1.turnR r3 t3 (.inr (.inr rfl))); clear r3 t3 hk3)
    | fail)
  go_end0
  subst hfp
  exact ⟨rfl, _, ⟨by simp [pEmpty], h2, kb, km, kw, kw, fb1, fm2, rfl, H3.out.1⟩, H1.out.2.1.trans (H2.out.2.1.trans H3.out.2.1 H2.out.2.2) H1.out.2.2, H1.out.2.2.trans (H2.out.2.2.trans H3.out.2.2 H2.out.2.1.size) H1.out.2.1.size⟩
set_option maxHeartbeats 2000000 in
set_option maxRecDepth 100000 in
theorem cKillI (H : ChI w fp K cr S) (e' : Int) : Calls Try.prog 28 #[.pointer (some ⟨K, 0, none⟩), .int .u64 e'] w fun r w' => r = .returned (.tuple #[]) ∧ DidI w w' fp K cr (pKill S e') := by
  have hem := hide (cEmptyI H e')
  clear H
  go_enter Try.func28, Try.ntmps28
  go_wp2_with (first
    | (go_at_call 46; refine hem.out.mono ?_; rintro r w1 ⟨rfl, fp1, ⟨h1, h2, kb, km, kw, bw, fb, fm, hfp, H⟩, t1, g1⟩; obtain ⟨c0, c1, c2, c3, c4, c5⟩ := H.cells; have hf := H.box.free; have HX := hide (And.intro H (And.intro t1 g1)); clear H t1 g1)
    | fail)
  go_end0
  subst hfp
  obtain ⟨h3, t3⟩ := HX.out.1.set 3 (.int .u64 1) (s' := 1) (r' := S.r) (mo' := S.mo) rfl
  obtain ⟨h4, t4⟩ := h3.set 4 (.int .u64 1) (s' := 1) (r' := 1) (mo' := S.mo) rfl
  exact ⟨rfl, _, ⟨by simp [pKill], h2, kb, km, kw, bw, fb, fm, rfl, h4⟩, HX.out.2.1.trans (t3.trans t4 (Grew.refl _ _)) HX.out.2.2, HX.out.2.2⟩
end
theorem flat_map64 (q : List Int) : q.flatMap i64cs = q.map (Value.int .i64) := by
  induction q with
  | nil => rfl
  | cons x q ih => rw [List.flatMap_cons, ih]; rfl
/-- What inSlots made of just so many, as a row of the caller's own. -/
theorem InI.own {w w' : World} {q : List Int} (h : InI w w' q q.length q.length) (hq : q.length ≤ 1000000) : OwnL 3 1 i64cs w.heap.size w' (.slice (some ⟨w.heap.size, 0, none⟩) q.length q.length) q := by
  obtain ⟨cs, h1, h2, _, h4⟩ := h.box
  have e := flat_map64 q
  refine ⟨by rw [e]; simp, .inr ⟨w.heap.size, q.length, cs, rfl, Nat.le_refl _, h1, Nat.le_refl _, by unfold maxLen; omega, by omega, ?_⟩⟩
  rw [e]
  apply List.ext_getElem?
  intro i
  rw [List.getElem?_take, List.getElem?_map]
  split
  · rename_i hi
    have hi' : i < q.length := by omega
    obtain ⟨x, hx⟩ : ∃ x, q[i]? = some x := ⟨_, List.getElem?_eq_getElem hi'⟩
    rw [hx, Array.getElem?_toList]
    exact h4 i x hi' hx
  · rw [List.getElem?_eq_none (by omega)]; rfl
theorem OwnL.lt1 {base g n c : Nat} {w : World} {q : List Int} (h : OwnL 3 1 i64cs base w (.slice (some ⟨g, 0, none⟩) n c) q) : g < w.heap.size := by
  rcases h.2 with ⟨h, _⟩ | ⟨g', cap, cur, e, _, h2, _⟩
  · cases h
  · cases e
    exact (Array.getElem?_eq_some_iff.1 h2).1
section
variable {w : World} {fp : List Nat} {K cr : Nat} {S : FS Int}
set_option maxHeartbeats 4000000 in
set_option maxRecDepth 100000 in
theorem cDrainI (H : ChI w fp K cr S) (hb : S.back.length ≤ 512) (hm : S.mov.length ≤ 512) : Calls Try.prog 14 #[.pointer (some ⟨K, 0, none⟩)] w fun r w' => ∃ v, r = .returned v ∧ OwnL 3 1 i64cs w.heap.size w' v (pAll S) ∧ DidI w w' fp K cr (pDrain S) := by
  have HC := hide H
  obtain ⟨h1, h2, kb, km, kw, bw, fb, fm, hfp, H⟩ := H
  obtain ⟨c0, c1, c2, c3, c4, c5⟩ := H.cells
  have HX := hide H
  have hal := hide (AllI H.ring (by omega))
  have hKl := H.box.lt
  clear H
  go_enter Try.func14, Try.ntmps14
  go_wp2_with (first
    | (go_at_call 43; refine hal.out.mono ?_; rintro r w1 ⟨rfl, i1⟩
       have B1 := hide i1.bel
       have O1 := hide (i1.own (by omega))
       have X1 := HX.out.back B1.out.size (fun i hi => B1.out.block i (HX.out.lt i hi))
       obtain ⟨d0, d1, d2, d3, d4, d5⟩ := X1.cells
       have hl1 := hide (lAllMI X1.lm (by omega))
       have hs1 := (i1.own (by omega)).lt1
       clear i1 hal X1)
    | (go_at_call 44; refine hl1.out.mono ?_; rintro r w2 ⟨v2, rfl, o2, b2⟩
       have O2 := hide (Row.of_own o2)
       have B2 := hide (B1.out.trans (b2.mono B1.out.size))
       have O3 := hide (O1.out.below b2)
       obtain ⟨a2, e2, hv2⟩ := o2.shape
       subst hv2
       clear b2 o2 hl1)
    | fail)
  have hM : S.mov.length ≤ 512 := hm
  go_loopw [3, 17] (fun lv iv wr => ∃ (i : Nat) (la : Option Addr) (lc : Nat), i ≤ S.mov.length ∧ lv = .slice la (S.wait.length + i) lc ∧ iv = .int .i64 i ∧ Hid (OwnL 3 1 i64cs w.heap.size wr lv (S.wait ++ (S.mov.take i).map Prod.snd) ∧ Below w.heap.size w wr ∧ Row 58 2 numcs w1.heap.size wr (.slice a2 S.mov.length e2) S.mov ∧ ∀ g, lv.ownBlock = some g → (Value.slice a2 S.mov.length e2).ownBlock ≠ some g)) (fun _ iv _ => S.mov.length - (intOf iv).toNat)
  case atStart =>
    refine ⟨0, _, _, Nat.zero_le _, rfl, rfl, by simpa using O3.out, B2.out, O2.out, fun g hg h => ?_⟩
    have := O2.out.at g h
    have e := Option.some.inj hg
    dsimp only at e
    omega
  case round =>
    obtain ⟨i, la, lc, hi, rfl, rfl, HI⟩ := hrel
    by_cases hlt : i < S.mov.length
    · obtain ⟨p, hp⟩ : ∃ p, S.mov[i]? = some p := ⟨_, List.getElem?_eq_getElem hlt⟩
      obtain ⟨g, off, cap, hv, hcell⟩ := HI.out.2.2.1.read numcs_len hp
      cases hv
      obtain ⟨p1, p2⟩ := p
      have f0 := hcell 0 _ rfl
      have f1 := hcell 1 _ rfl
      simp only [Nat.add_zero] at f0
      rw [← Nat.add_assoc] at f1
      dsimp only at f0 f1
      clear hcell
      have hb3 : Below w.heap.size w ((wr.alloc (.cells #[.int .u64 p1, .int .i64 p2] 58)).alloc (.cells #[.int .i64 p2] 3)) := (HI.out.2.1.alloc HI.out.2.1.size _).alloc (by have := HI.out.2.1.size; simp; omega) _
      have hb4 : Below wr.heap.size wr ((wr.alloc (.cells #[.int .u64 p1, .int .i64 p2] 58)).alloc (.cells #[.int .i64 p2] 3)) := ((Below.refl _ _).alloc (Nat.le_refl _) _).alloc (by simp) _
      have gx : BoxT 3 ((wr.alloc (.cells #[.int .u64 p1, .int .i64 p2] 58)).alloc (.cells #[.int .i64 p2] 3)) (wr.heap.size + 1) #[.int .i64 p2] := BoxT.new_at (by simp)
      have H3 := hide (And.intro hb3 (And.intro hb4 (lseg_one gx)))
      clear hb3 hb4 gx
      go_wp2_with (first | (at_builtin; refine stop_here ?_) | fail)
      generalize (wr.alloc (.cells #[.int .u64 p1, .int .i64 p2] 58)).alloc (.cells #[.int .i64 p2] 3) = w3 at *
      have hlw : (S.wait ++ (S.mov.take i).map Prod.snd).length = S.wait.length + i := by simp; omega
      have hs3 := H3.out.1.size
      refine app_lseg rfl _ _ rfl w.heap.size (.slice la (S.wait.length + i) lc) (S.wait ++ (S.mov.take i).map Prod.snd) rfl (HI.out.1.below H3.out.2.1) _ _ [p2] rfl H3.out.2.2 (by rw [hlw]; simp; omega) hs3 ?_
      intro v4 w4 o4 g4 at4
      have HF : Hid (OwnL 3 1 i64cs w.heap.size w4 v4 (S.wait ++ (S.mov.take (i + 1)).map Prod.snd) ∧ Below w.heap.size w w4 ∧ Row 58 2 numcs w1.heap.size w4 (.slice (some ⟨g, off, none⟩) S.mov.length e2) S.mov ∧ ∀ g', v4.ownBlock = some g' → (Value.slice (some ⟨g, off, none⟩) S.mov.length e2).ownBlock ≠ some g') := by
        have hr3 := HI.out.2.2.1.below H3.out.2.1
        obtain ⟨cur, hcur⟩ := hr3.has g rfl
        have hgl := hcur.lt
        have hw0 := HI.out.1.at
        refine ⟨?_, ?_, hr3.back (fun g' hg' => g4.block g' (by cases hg'; exact hgl) (fun e => HI.out.2.2.2 g' e.symm hg')), fun g' hg' h => ?_⟩
        · rw [List.take_add_one, hp, List.map_append, ← List.append_assoc]
          exact o4
        · exact ⟨g4.os.trans H3.out.1.os, g4.tape.trans H3.out.1.tape, g4.output.trans H3.out.1.output, Nat.le_trans H3.out.1.size g4.size, fun j hj => (g4.block j (Nat.lt_of_lt_of_le hj hs3) (fun e => by have := hw0 j e.symm; omega)).trans (H3.out.1.block j hj)⟩
        · rcases at4 with h4 | h4
          · exact HI.out.2.2.2 g' (h4 ▸ hg') h
          · rw [h4] at hg'
            have e1 := Option.some.inj hg'
            have e2 : g = g' := Option.some.inj h
            omega
      obtain ⟨a4, c4', hv4⟩ := o4.shape
      rw [List.length_append, hlw] at hv4
      subst hv4
      clear o4 g4 at4 H3
      go_wp2
      go_roundw
      case rel => exact ⟨i + 1, _, _, by omega, rfl, by go_num, HF.out⟩
      case measure => simp [intOf]; omega
    · obtain rfl : i = S.mov.length := by omega
      have X5 := HX.out.back HI.out.2.1.size (fun j hj => HI.out.2.1.block j (HX.out.lt j hj))
      obtain ⟨f0, f1, f2, f3, f4, f5⟩ := X5.cells
      have hl5 := hide (lAllI X5.lb (by omega))
      have C5 := hide (HC.out.back HI.out.2.1.size (fun j hj => HI.out.2.1.block j (HC.out.lt j hj)))
      clear X5
      go_wp2_with (first
        | (go_at_call 45; refine hl5.out.mono ?_; rintro r w6 ⟨v6, rfl, o6, b6⟩
           have O6 := hide (Row.of_own o6)
           have B6 := hide b6
           obtain ⟨a6, c6, hv6⟩ := o6.shape
           subst hv6
           clear b6 o6 hl5)
        | (at_builtin; refine stop_here ?_)
        | fail)
      have hlw : (S.wait ++ (S.mov.take S.mov.length).map Prod.snd).length = S.wait.length + S.mov.length := by simp
      have hs6 := Nat.le_trans HI.out.2.1.size B6.out.size
      refine app_lseg rfl _ _ rfl w.heap.size (.slice la (S.wait.length + S.mov.length) lc) (S.wait ++ (S.mov.take S.mov.length).map Prod.snd) rfl (HI.out.1.below B6.out) _ _ S.back rfl (O6.out.lseg (by omega)) (by rw [hlw]; omega) hs6 ?_
      intro v7 w7 o7 g7 _
      have B7 : Hid (Below w.heap.size w w7) := by
        have hb := HI.out.2.1.trans (B6.out.mono HI.out.2.1.size)
        have hw0 := HI.out.1.at
        exact ⟨g7.os.trans hb.os, g7.tape.trans hb.tape, g7.output.trans hb.output, Nat.le_trans hb.size g7.size, fun j hj => (g7.block j (Nat.lt_of_lt_of_le hj hs6) (fun e => by have := hw0 j e.symm; omega)).trans (hb.block j hj)⟩
      obtain ⟨a7, c7, hv7⟩ := o7.shape
      generalize (S.wait ++ (S.mov.take S.mov.length).map Prod.snd ++ S.back).length = n7 at hv7
      rw [List.take_length] at o7
      have O7 : Hid (OwnL 3 1 i64cs w.heap.size w7 v7 (pAll S)) := o7
      subst hv7
      have C7 := HC.out.back B7.out.size (fun j hj => B7.out.block j (HC.out.lt j hj))
      have hce := hide (cEpochI C7)
      have hem := cEmptyI C7 S.e
      rw [show pEmpty S S.e = ⟨[], [], [], S.s, S.r, S.mo, S.e⟩ by simp [pEmpty]] at hem
      have hem := hide hem
      clear C7 o7 g7 C5 HI O6 B6
      go_wp2_with (first
        | (go_at_call 18; refine hce.out.mono ?_; rintro r w8 ⟨rfl, rfl⟩)
        | (go_at_call 46; refine hem.out.mono ?_; rintro r w9 ⟨rfl, fp9, ⟨q1, q2, kb9, km9, kw9, bw9, fb9, fm9, hfp9, H9⟩, t9, gr9⟩; obtain ⟨e0, e1, e2', e3, e4, e5⟩ := H9.cells; have hf9 := H9.box.free; have HX9 := hide (And.intro H9 (And.intro t9 gr9)); clear H9 t9 gr9 hem)
        | fail)
      go_ret
      subst hfp9
      obtain ⟨h3, t3⟩ := HX9.out.1.set 4 (.int .u64 S.s) (s' := S.s) (r' := S.s) (mo' := S.mo) rfl
      have T3 := HX9.out.2.1.trans t3 HX9.out.2.2
      have hlt0 := HC.out.lt
      refine ⟨_, rfl, ?_, _, ⟨by simp [pDrain], q2, kb9, km9, kw9, bw9, fb9, fm9, rfl, h3⟩, (TurnedL.of_below B7.out).trans T3 (Grew.refl _ _), (Grew.refl fp w).trans HX9.out.2.2 B7.out.size⟩
      refine O7.out.back (fun g hg => T3.block g ?_ (fun hm => ?_))
      · obtain ⟨cur, hcur⟩ := (Row.of_own O7.out).has g hg
        exact hcur.lt
      · have e1 := O7.out.at g hg
        have e2 := hlt0 g hm
        omega
end
end Go.Proofs.Ytnomoekbfclckaa
