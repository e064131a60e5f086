/-
  A channel of strings in a law: all that it has was made behind the law's first world.
-/
import Derived.Test.YtnomoekbfclckaaGreatFArrS
namespace Go.Proofs.YtnomoekbfclckaaGreat
open Go.RowKit

/-- The law's first world W; the channel K with the state S in the world w. -/
def FlS (W w : World) (K cr : Nat) (S : FS ByteArray) : Prop := ∃ fp, ChS w fp K cr S ∧ Below W.heap.size W w ∧ ∀ i ∈ fp, W.heap.size ≤ i
section
variable {W w w' : World} {K cr : Nat} {S S' : FS ByteArray}
theorem FlS.bel (H : FlS W w K cr S) : Below W.heap.size W w := by obtain ⟨fp, _, h, _⟩ := H; exact h
theorem FlS.below (H : FlS W w K cr S) (hb : Below w.heap.size w w') : FlS W w' K cr S := by
  obtain ⟨fp, h1, h2, h3⟩ := H
  exact ⟨fp, h1.below hb, h2.trans (hb.mono h2.size), h3⟩
theorem FlS.did {fp : List Nat} (h2 : Below W.heap.size W w) (h3 : ∀ i ∈ fp, W.heap.size ≤ i) (hd : DidS w w' fp K cr S') : FlS W w' K cr S' := by
  obtain ⟨fp', c, t, g⟩ := hd
  refine ⟨fp', c, ⟨t.os.trans h2.os, t.tape.trans h2.tape, t.output.trans h2.output, Nat.le_trans h2.size t.size, fun i hi => (t.block i (Nat.lt_of_lt_of_le hi h2.size) (fun hm => by have := h3 i hm; omega)).trans (h2.block i hi)⟩, fun i hi => ?_⟩
  rcases g i hi with h | h
  · exact h3 i h
  · exact Nat.le_trans h2.size h
theorem fNewS (hW : Below W.heap.size W w) (c e : Int) : Calls Tryz.prog 6 #[.int .i64 c, .int .u64 e] w fun r w' => ∃ K, r = .returned (.pointer (some ⟨K, 0, none⟩)) ∧ FlS W w' K (min (max c 1) 64).toNat (pNew e) := by
  refine (cNewS w c e).mono ?_
  rintro r w' ⟨K, fp, rfl, h1, h2, h3⟩
  exact ⟨K, rfl, fp, h1, hW.trans (h2.mono hW.size), fun i hi => Nat.le_trans hW.size (h3 i hi)⟩
theorem fOfferS (H : FlS W w K cr S) (hl : S.back.length < 512) (x : ByteArray) : Calls Tryz.prog 7 #[.pointer (some ⟨K, 0, none⟩), Value.string x] w fun r w' => r = .returned (.tuple #[]) ∧ FlS W w' K cr (pOffer S x) := by
  obtain ⟨fp, h1, h2, h3⟩ := H
  exact (cOfferS h1 hl x).mono (fun r w' h => ⟨h.1, FlS.did h2 h3 h.2⟩)
theorem fSendS (H : FlS W w K cr S) (hb : S.back.length ≤ 512) (hm : S.mov.length < 512) (hs0 : 0 ≤ S.s) (hs1 : S.s ≤ 1000000) : Calls Tryz.prog 8 #[.pointer (some ⟨K, 0, none⟩)] w fun r w' => r = .returned (.bool (pSend cr S).2) ∧ FlS W w' K cr (pSend cr S).1 := by
  obtain ⟨fp, h1, h2, h3⟩ := H
  exact (cSendS h1 hb hm hs0 hs1).mono (fun r w' h => ⟨h.1, FlS.did h2 h3 h.2⟩)
theorem fArriveS (H : FlS W w K cr S) (hr0 : 0 ≤ S.r) (hr1 : S.r ≤ 1000000) (e' q : Int) (x : ByteArray) : Calls Tryz.prog 31 #[.pointer (some ⟨K, 0, none⟩), .int .u64 e', .int .u64 q, Value.string x] w fun r w' => r = .returned (.int .i64 (pArr cr S e' q x).2) ∧ FlS W w' K cr (pArr cr S e' q x).1 := by
  obtain ⟨fp, h1, h2, h3⟩ := H
  exact (cArriveS h1 hr0 hr1 e' q x).mono (fun r w' h => ⟨h.1, FlS.did h2 h3 h.2⟩)
theorem fDeliverS (H : FlS W w K cr S) (hm : S.mov.length < 512) (hr0 : 0 ≤ S.r) (hr1 : S.r ≤ 1000000) : Calls Tryz.prog 9 #[.pointer (some ⟨K, 0, none⟩)] w fun r w' => r = .returned (.int .i64 (pDel cr S).2) ∧ FlS W w' K cr (pDel cr S).1 := by
  obtain ⟨fp, h1, h2, h3⟩ := H
  exact (cDeliverS h1 hm hr0 hr1).mono (fun r w' h => ⟨h.1, FlS.did h2 h3 h.2⟩)
theorem fTakeS (H : FlS W w K cr S) {x : ByteArray} {T : List ByteArray} (hx : S.wait = x :: T) : Calls Tryz.prog 10 #[.pointer (some ⟨K, 0, none⟩)] w fun r w' => r = .returned (.tuple #[Value.string x, .bool true]) ∧ FlS W w' K cr (pTake S) := by
  obtain ⟨fp, h1, h2, h3⟩ := H
  exact (cTakeS h1 hx).mono (fun r w' h => ⟨h.1, FlS.did h2 h3 h.2⟩)
theorem fTakeNS (H : FlS W w K cr S) (hx : S.wait = []) : Calls Tryz.prog 10 #[.pointer (some ⟨K, 0, none⟩)] w fun r w' => r = .returned (.tuple #[.string ⟨#[]⟩, .bool false]) ∧ w' = w := by
  obtain ⟨fp, h1, h2, h3⟩ := H
  exact cTakeNS h1 hx
theorem fBacklogS (H : FlS W w K cr S) : Calls Tryz.prog 11 #[.pointer (some ⟨K, 0, none⟩)] w fun r w' => r = .returned (.int .i64 S.back.length) ∧ w' = w := by
  obtain ⟨fp, h1, h2, h3⟩ := H
  exact cBacklogS h1
end
end Go.Proofs.YtnomoekbfclckaaGreat
