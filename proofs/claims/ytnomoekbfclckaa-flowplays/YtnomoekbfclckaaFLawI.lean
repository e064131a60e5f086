/-
  A channel of whole numbers in a law: all that it has was made behind the law's first world.
-/
import Derived.Test.YtnomoekbfclckaaFArrI
namespace Go.Proofs.Ytnomoekbfclckaa
open Go.RowKit

/-- The law's first world W; the channel K with the state S in the world w. -/
def FlI (W w : World) (K cr : Nat) (S : FS Int) : Prop := ∃ fp, ChI w fp K cr S ∧ Below W.heap.size W w ∧ ∀ i ∈ fp, W.heap.size ≤ i
section
variable {W w w' : World} {K cr : Nat} {S S' : FS Int}
theorem FlI.bel (H : FlI W w K cr S) : Below W.heap.size W w := by obtain ⟨fp, _, h, _⟩ := H; exact h
theorem FlI.below (H : FlI W w K cr S) (hb : Below w.heap.size w w') : FlI W w' K cr S := by
  obtain ⟨fp, h1, h2, h3⟩ := H
  exact ⟨fp, h1.below hb, h2.trans (hb.mono h2.size), h3⟩
theorem FlI.did {fp : List Nat} (h2 : Below W.heap.size W w) (h3 : ∀ i ∈ fp, W.heap.size ≤ i) (hd : DidI w w' fp K cr S') : FlI W w' K cr S' := by
  obtain ⟨fp', c, t, g⟩ := hd
  refine ⟨fp', c, ⟨t.os.trans h2.os, t.tape.trans h2.tape, t.output.trans h2.output, Nat.le_trans h2.size t.size, fun i hi => (t.block i (Nat.lt_of_lt_of_le hi h2.size) (fun hm => by have := h3 i hm; omega)).trans (h2.block i hi)⟩, fun i hi => ?_⟩
  rcases g i hi with h | h
  · exact h3 i h
  · exact Nat.le_trans h2.size h
theorem fNewI (hW : Below W.heap.size W w) (c e : Int) : Calls Try.prog 9 #[.int .i64 c, .int .u64 e] w fun r w' => ∃ K, r = .returned (.pointer (some ⟨K, 0, none⟩)) ∧ FlI W w' K (min (max c 1) 64).toNat (pNew e) := by
  refine (cNewI w c e).mono ?_
  rintro r w' ⟨K, fp, rfl, h1, h2, h3⟩
  exact ⟨K, rfl, fp, h1, hW.trans (h2.mono hW.size), fun i hi => Nat.le_trans hW.size (h3 i hi)⟩
theorem fOfferI (H : FlI W w K cr S) (hl : S.back.length < 512) (x : Int) : Calls Try.prog 10 #[.pointer (some ⟨K, 0, none⟩), Value.int .i64 x] w fun r w' => r = .returned (.tuple #[]) ∧ FlI W w' K cr (pOffer S x) := by
  obtain ⟨fp, h1, h2, h3⟩ := H
  exact (cOfferI h1 hl x).mono (fun r w' h => ⟨h.1, FlI.did h2 h3 h.2⟩)
theorem fSendI (H : FlI W w K cr S) (hb : S.back.length ≤ 512) (hm : S.mov.length < 512) (hs0 : 0 ≤ S.s) (hs1 : S.s ≤ 1000000) : Calls Try.prog 11 #[.pointer (some ⟨K, 0, none⟩)] w fun r w' => r = .returned (.bool (pSend cr S).2) ∧ FlI W w' K cr (pSend cr S).1 := by
  obtain ⟨fp, h1, h2, h3⟩ := H
  exact (cSendI h1 hb hm hs0 hs1).mono (fun r w' h => ⟨h.1, FlI.did h2 h3 h.2⟩)
theorem fArriveI (H : FlI W w K cr S) (hr0 : 0 ≤ S.r) (hr1 : S.r ≤ 1000000) (e' q : Int) (x : Int) : Calls Try.prog 24 #[.pointer (some ⟨K, 0, none⟩), .int .u64 e', .int .u64 q, Value.int .i64 x] w fun r w' => r = .returned (.int .i64 (pArr cr S e' q x).2) ∧ FlI W w' K cr (pArr cr S e' q x).1 := by
  obtain ⟨fp, h1, h2, h3⟩ := H
  exact (cArriveI h1 hr0 hr1 e' q x).mono (fun r w' h => ⟨h.1, FlI.did h2 h3 h.2⟩)
theorem fDeliverI (H : FlI W w K cr S) (hm : S.mov.length < 512) (hr0 : 0 ≤ S.r) (hr1 : S.r ≤ 1000000) : Calls Try.prog 12 #[.pointer (some ⟨K, 0, none⟩)] w fun r w' => r = .returned (.int .i64 (pDel cr S).2) ∧ FlI W w' K cr (pDel cr S).1 := by
  obtain ⟨fp, h1, h2, h3⟩ := H
  exact (cDeliverI h1 hm hr0 hr1).mono (fun r w' h => ⟨h.1, FlI.did h2 h3 h.2⟩)
theorem fTakeI (H : FlI W w K cr S) {x : Int} {T : List Int} (hx : S.wait = x :: T) : Calls Try.prog 13 #[.pointer (some ⟨K, 0, none⟩)] w fun r w' => r = .returned (.tuple #[Value.int .i64 x, .bool true]) ∧ FlI W w' K cr (pTake S) := by
  obtain ⟨fp, h1, h2, h3⟩ := H
  exact (cTakeI h1 hx).mono (fun r w' h => ⟨h.1, FlI.did h2 h3 h.2⟩)
theorem fTakeNI (H : FlI W w K cr S) (hx : S.wait = []) : Calls Try.prog 13 #[.pointer (some ⟨K, 0, none⟩)] w fun r w' => r = .returned (.tuple #[.int .i64 0, .bool false]) ∧ w' = w := by
  obtain ⟨fp, h1, h2, h3⟩ := H
  exact cTakeNI h1 hx
theorem fBacklogI (H : FlI W w K cr S) : Calls Try.prog 15 #[.pointer (some ⟨K, 0, none⟩)] w fun r w' => r = .returned (.int .i64 S.back.length) ∧ w' = w := by
  obtain ⟨fp, h1, h2, h3⟩ := H
  exact cBacklogI h1
end
end Go.Proofs.Ytnomoekbfclckaa
