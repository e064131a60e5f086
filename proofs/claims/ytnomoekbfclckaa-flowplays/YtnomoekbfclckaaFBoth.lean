/-
  A channel and the document's, side by side; the step that is being read beside them.
-/
import Derived.Test.YtnomoekbfclckaaFRefS
import Derived.Test.YtnomoekbfclckaaFRefD
import Derived.Test.YtnomoekbfclckaaFRefE
import Derived.Test.YtnomoekbfclckaaFPeek
namespace Go.Proofs.Ytnomoekbfclckaa
open Go.RowKit

/-- The channel K has the state S, the document's one R the state T, the step lies in block B. -/
structure Bo (W w : World) (K R cr : Nat) (S T : FS Int) (B : Nat) (cs : Array Value) (fp fr : List Nat) : Prop where
  ch : ChI w fp K cr S
  rf : Re w fr R cr T
  bel : Below W.heap.size W w
  n1 : ∀ i ∈ fp, W.heap.size ≤ i
  n2 : W.heap.size ≤ R
  inR : R ∈ fr
  d : ∀ i ∈ fr, i ∉ fp
  box : BoxT 29 w B cs
  b1 : B ∉ fp
  b2 : B ∉ fr
def BoE (W w : World) (K R cr : Nat) (S T : FS Int) (B : Nat) (cs : Array Value) : Prop := ∃ fp fr, Bo W w K R cr S T B cs fp fr
section
variable {W w w' : World} {K R cr B : Nat} {S T S' T' : FS Int} {cs : Array Value} {fp fr : List Nat}
theorem Bo.c (H : Bo W w K R cr S T B cs fp fr) (hd : DidI w w' fp K cr S') : BoE W w' K R cr S' T B cs := by
  obtain ⟨fp', c, t, g⟩ := hd
  have hlt := H.rf.lt
  refine ⟨fp', fr, c, H.rf.back t.size (fun i hi => t.block i (hlt i hi) (H.d i hi)), ?_, fun i hi => ?_, H.n2, H.inR, fun i hi hm => ?_, H.box.turnedL t H.b1, fun hm => ?_, H.b2⟩
  · exact ⟨t.os.trans H.bel.os, t.tape.trans H.bel.tape, t.output.trans H.bel.output, Nat.le_trans H.bel.size t.size, fun i hi => (t.block i (Nat.lt_of_lt_of_le hi H.bel.size) (fun hm => by have := H.n1 i hm; omega)).trans (H.bel.block i hi)⟩
  · rcases g i hi with h | h
    · exact H.n1 i h
    · exact Nat.le_trans H.bel.size h
  · rcases g i hm with h | h
    · exact H.d i hi h
    · have := hlt i hi; omega
  · rcases g B hm with h | h
    · exact H.b1 h
    · have := H.box.lt; omega
theorem Bo.r (H : Bo W w K R cr S T B cs fp fr) (hd : DidR w w' fr R cr T') : BoE W w' K R cr S T' B cs := by
  obtain ⟨fr', c, t, g⟩ := hd
  have hlt := H.ch.lt
  have hRl := H.rf.lt R H.inR
  obtain ⟨_, _, _, _, hc⟩ := id c
  have hRp : R ∉ fp := H.d R H.inR
  refine ⟨fp, fr', H.ch.back t.size (fun i hi => t.block i (hlt i hi) (fun hm => hRp (by rw [← List.mem_singleton.1 hm]; exact hi))), c, ?_, H.n1, H.n2, hc.inR, fun i hi hm => ?_, H.box.turnedL t (fun hm => H.b2 (by rw [List.mem_singleton.1 hm]; exact H.inR)), H.b1, fun hm => ?_⟩
  · exact ⟨t.os.trans H.bel.os, t.tape.trans H.bel.tape, t.output.trans H.bel.output, Nat.le_trans H.bel.size t.size, fun i hi => (t.block i (Nat.lt_of_lt_of_le hi H.bel.size) (fun hm => by have h1 := List.mem_singleton.1 hm; have := H.n2; omega)).trans (H.bel.block i hi)⟩
  · rcases g i hi with h | h
    · exact H.d i h hm
    · have := hlt i hm; omega
  · rcases g B hm with h | h
    · exact H.b2 h
    · have := H.box.lt; omega
theorem Bo.below (H : Bo W w K R cr S T B cs fp fr) (hb : Below w.heap.size w w') : Bo W w' K R cr S T B cs fp fr :=
  ⟨H.ch.below hb, H.rf.below hb, H.bel.trans (hb.mono H.bel.size), H.n1, H.n2, H.inR, H.d, H.box.below hb, H.b1, H.b2⟩
theorem BoE.below (H : BoE W w K R cr S T B cs) (hb : Below w.heap.size w w') : BoE W w' K R cr S T B cs := by
  obtain ⟨fp, fr, H⟩ := H
  exact ⟨fp, fr, H.below hb⟩
theorem BoE.bel (H : BoE W w K R cr S T B cs) : Below W.heap.size W w := by obtain ⟨fp, fr, H⟩ := H; exact H.bel
theorem BoE.crl (H : BoE W w K R cr S T B cs) : cr ≤ 64 := by obtain ⟨fp, fr, H⟩ := H; exact H.ch.2.1
theorem BoE.wl (H : BoE W w K R cr S T B cs) : S.wait.length ≤ cr := by obtain ⟨fp, fr, H⟩ := H; exact H.ch.1
theorem BoE.cell (H : BoE W w K R cr S T B cs) (j : Nat) : w.cell? ⟨B, j, none⟩ = cs[j]? := by obtain ⟨fp, fr, H⟩ := H; exact H.box.cellAt j
/-- Another step laid in a new block. -/
theorem BoE.step (H : BoE W w K R cr S T B cs) (cs' : Array Value) : BoE W (w.alloc (.cells cs' 29)) K R cr S T w.heap.size cs' := by
  obtain ⟨fp, fr, H⟩ := H
  have ba : Below w.heap.size w (w.alloc (.cells cs' 29)) := (Below.refl _ _).alloc (Nat.le_refl _) _
  exact ⟨fp, fr, H.ch.below ba, H.rf.below ba, H.bel.trans (ba.mono H.bel.size), H.n1, H.n2, H.inR, H.d, BoxT.new _ _ _, fun h => Nat.lt_irrefl _ (H.ch.lt _ h), fun h => Nat.lt_irrefl _ (H.rf.lt _ h)⟩
theorem bOffer (H : BoE W w K R cr S T B cs) (hl : S.back.length < 512) (x : Int) : Calls Try.prog 10 #[.pointer (some ⟨K, 0, none⟩), .int .i64 x] w fun r w' => r = .returned (.tuple #[]) ∧ BoE W w' K R cr (pOffer S x) T B cs := by
  obtain ⟨fp, fr, H⟩ := H
  exact (cOfferI H.ch hl x).mono (fun r w' h => ⟨h.1, H.c h.2⟩)
theorem bSend (H : BoE W w K R cr S T B cs) (hb : S.back.length ≤ 512) (hm : S.mov.length < 512) (hs0 : 0 ≤ S.s) (hs1 : S.s ≤ 1000000) : Calls Try.prog 11 #[.pointer (some ⟨K, 0, none⟩)] w fun r w' => r = .returned (.bool (pSend cr S).2) ∧ BoE W w' K R cr (pSend cr S).1 T B cs := by
  obtain ⟨fp, fr, H⟩ := H
  exact (cSendI H.ch hb hm hs0 hs1).mono (fun r w' h => ⟨h.1, H.c h.2⟩)
theorem bDeliver (H : BoE W w K R cr S T B cs) (hm : S.mov.length < 512) (hr0 : 0 ≤ S.r) (hr1 : S.r ≤ 1000000) : Calls Try.prog 12 #[.pointer (some ⟨K, 0, none⟩)] w fun r w' => r = .returned (.int .i64 (pDel cr S).2) ∧ BoE W w' K R cr (pDel cr S).1 T B cs := by
  obtain ⟨fp, fr, H⟩ := H
  exact (cDeliverI H.ch hm hr0 hr1).mono (fun r w' h => ⟨h.1, H.c h.2⟩)
theorem bArrive (H : BoE W w K R cr S T B cs) (hr0 : 0 ≤ S.r) (hr1 : S.r ≤ 1000000) (e' q x : Int) : Calls Try.prog 24 #[.pointer (some ⟨K, 0, none⟩), .int .u64 e', .int .u64 q, .int .i64 x] w fun r w' => r = .returned (.int .i64 (pArr cr S e' q x).2) ∧ BoE W w' K R cr (pArr cr S e' q x).1 T B cs := by
  obtain ⟨fp, fr, H⟩ := H
  exact (cArriveI H.ch hr0 hr1 e' q x).mono (fun r w' h => ⟨h.1, H.c h.2⟩)
theorem bTake (H : BoE W w K R cr S T B cs) {x : Int} {L : List Int} (hx : S.wait = x :: L) : Calls Try.prog 13 #[.pointer (some ⟨K, 0, none⟩)] w fun r w' => r = .returned (.tuple #[.int .i64 x, .bool true]) ∧ BoE W w' K R cr (pTake S) T B cs := by
  obtain ⟨fp, fr, H⟩ := H
  exact (cTakeI H.ch hx).mono (fun r w' h => ⟨h.1, H.c h.2⟩)
theorem bTakeN (H : BoE W w K R cr S T B cs) (hx : S.wait = []) : Calls Try.prog 13 #[.pointer (some ⟨K, 0, none⟩)] w fun r w' => r = .returned (.tuple #[.int .i64 0, .bool false]) ∧ w' = w := by
  obtain ⟨fp, fr, H⟩ := H
  exact cTakeNI H.ch hx
theorem bKill (H : BoE W w K R cr S T B cs) (e' : Int) : Calls Try.prog 28 #[.pointer (some ⟨K, 0, none⟩), .int .u64 e'] w fun r w' => r = .returned (.tuple #[]) ∧ BoE W w' K R cr (pKill S e') T B cs := by
  obtain ⟨fp, fr, H⟩ := H
  exact (cKillI H.ch e').mono (fun r w' h => ⟨h.1, H.c h.2⟩)
theorem dOffer (H : BoE W w K R cr S T B cs) (hl : T.back.length ≤ 1000) (x : Int) : Calls Try.prog 20 #[.pointer (some ⟨R, 0, none⟩), .int .i64 x] w fun r w' => r = .returned (.tuple #[]) ∧ BoE W w' K R cr S (pOffer T x) B cs := by
  obtain ⟨fp, fr, H⟩ := H
  exact (rOffer H.rf hl x).mono (fun r w' h => ⟨h.1, H.r h.2⟩)
theorem dSend (H : BoE W w K R cr S T B cs) (hb : T.back.length ≤ 1000) (hm : T.mov.length ≤ 1000) (hw : T.wait.length ≤ 1000) (hs0 : 0 ≤ T.s) (hs1 : T.s ≤ 1000000) : Calls Try.prog 21 #[.pointer (some ⟨R, 0, none⟩)] w fun r w' => r = .returned (.bool (pSend cr T).2) ∧ BoE W w' K R cr S (pSend cr T).1 B cs := by
  have hcr := H.crl
  obtain ⟨fp, fr, H⟩ := H
  exact (rSend H.rf hcr hb hm hw hs0 hs1).mono (fun r w' h => ⟨h.1, H.r h.2⟩)
theorem dDeliver (H : BoE W w K R cr S T B cs) (hm : T.mov.length ≤ 1000) (hw : T.wait.length ≤ 1000) (hr0 : 0 ≤ T.r) (hr1 : T.r ≤ 1000000) : Calls Try.prog 22 #[.pointer (some ⟨R, 0, none⟩)] w fun r w' => r = .returned (.int .i64 (pDel cr T).2) ∧ BoE W w' K R cr S (pDel cr T).1 B cs := by
  obtain ⟨fp, fr, H⟩ := H
  exact (rDeliver H.rf hm hw hr0 hr1).mono (fun r w' h => ⟨h.1, H.r h.2⟩)
theorem dArrive (H : BoE W w K R cr S T B cs) (hw : T.wait.length ≤ 1000) (hr0 : 0 ≤ T.r) (hr1 : T.r ≤ 1000000) (e' q x : Int) : Calls Try.prog 25 #[.pointer (some ⟨R, 0, none⟩), .int .u64 e', .int .u64 q, .int .i64 x] w fun r w' => r = .returned (.int .i64 (pArr cr T e' q x).2) ∧ BoE W w' K R cr S (pArr cr T e' q x).1 B cs := by
  obtain ⟨fp, fr, H⟩ := H
  exact (rArrive H.rf hw hr0 hr1 e' q x).mono (fun r w' h => ⟨h.1, H.r h.2⟩)
theorem dTake (H : BoE W w K R cr S T B cs) {x : Int} {L : List Int} (hx : T.wait = x :: L) (hl : T.wait.length ≤ 1000) : Calls Try.prog 23 #[.pointer (some ⟨R, 0, none⟩)] w fun r w' => r = .returned (.tuple #[.int .i64 x, .bool true]) ∧ BoE W w' K R cr S (pTake T) B cs := by
  obtain ⟨fp, fr, H⟩ := H
  exact (rTake H.rf hx hl).mono (fun r w' h => ⟨h.1, H.r h.2⟩)
theorem dTakeN (H : BoE W w K R cr S T B cs) (hx : T.wait = []) : Calls Try.prog 23 #[.pointer (some ⟨R, 0, none⟩)] w fun r w' => r = .returned (.tuple #[.int .i64 0, .bool false]) ∧ w' = w := by
  obtain ⟨fp, fr, H⟩ := H
  exact rTakeN H.rf hx
theorem dKill (H : BoE W w K R cr S T B cs) (e' : Int) : Calls Try.prog 29 #[.pointer (some ⟨R, 0, none⟩), .int .u64 e'] w fun r w' => r = .returned (.tuple #[]) ∧ BoE W w' K R cr S (pKill T e') B cs := by
  obtain ⟨fp, fr, H⟩ := H
  exact (rKill H.rf e').mono (fun r w' h => ⟨h.1, H.r h.2⟩)
/-- Drain, of both: the first list lies still when the second is made. -/
theorem bDrain (H : BoE W w K R cr S T B cs) (hb : S.back.length ≤ 512) (hm : S.mov.length ≤ 512) : Calls Try.prog 14 #[.pointer (some ⟨K, 0, none⟩)] w fun r w' => ∃ v, r = .returned v ∧ OwnL 3 1 i64cs w.heap.size w' v (pAll S) ∧ BoE W w' K R cr (pDrain S) T B cs ∧ R < w.heap.size := by
  obtain ⟨fp, fr, H⟩ := H
  refine (cDrainI H.ch hb hm).mono ?_
  rintro r w' ⟨v, rfl, o, d⟩
  exact ⟨v, rfl, o, H.c d, H.rf.lt R H.inR⟩
theorem dDrain (H : BoE W w K R cr S T B cs) (hb : T.back.length ≤ 1000) (hm : T.mov.length ≤ 1000) (hw : T.wait.length ≤ 1000) {v0 : Value} {l0 : List Int} {b0 : Nat} (ho : OwnL 3 1 i64cs b0 w v0 l0) (hR : R < b0) (hl0 : l0.length ≤ 10000) : Calls Try.prog 27 #[.pointer (some ⟨R, 0, none⟩)] w fun r w' => ∃ v, r = .returned v ∧ LSeg 1 i64cs w'.heap.size w' v (pAll T) ∧ LSeg 1 i64cs w'.heap.size w' v0 l0 ∧ BoE W w' K R cr S (pDrain T) B cs := by
  obtain ⟨fp, fr, H⟩ := H
  refine (rDrain H.rf hb hm hw).mono ?_
  rintro r w' ⟨v, rfl, o, fr', c, t, g⟩
  refine ⟨v, rfl, (Row.of_own o).lseg (by rw [all_len]; omega), (Row.of_own (ho.back (fun g hg => t.block g (by obtain ⟨cur, hc⟩ := (Row.of_own ho).has g hg; exact hc.lt) (fun hmm => by have e1 := ho.at g hg; have e2 := List.mem_singleton.1 hmm; omega)))).lseg (by omega), H.r ⟨fr', c, t, g⟩⟩
end
end Go.Proofs.Ytnomoekbfclckaa
