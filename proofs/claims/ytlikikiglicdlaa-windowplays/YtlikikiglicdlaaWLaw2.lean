/-
  Put in a law, once more: what lay at the call lies behind it.
-/
import Derived.Test.YtlikikiglicdlaaWLaw
namespace Go.Proofs.Ytlikikiglicdlaa
open Go.RowKit

theorem Put_at2 {w : World} {v : Value} {l : List Pn} (hl : LSeg 4 Pn.cs w.heap.size w v l) (hn : l.length ≤ 50000) (k : Int) {size slide : Int} (hs : In64 size) (hsl : In64 slide) (a rk rt rv : Int) (wx : World) (hb : Below w.heap.size w wx) :
    Calls Try.prog 15 #[.agg #[.int .i64 k, .int .i64 size, .int .i64 slide], .int .i64 a, v, .agg #[.int .i64 rk, .int .i64 rt, .int .i64 rv]] wx fun e w' => ∃ u, e = .returned u ∧ LSeg 4 Pn.cs w'.heap.size w' u (pPut k size slide a l ⟨rk, rt, rv⟩) ∧ Below w.heap.size w w' ∧ Below wx.heap.size wx w' :=
  (Put_any ((hl.below hb).mono hb.size) hn k hs hsl a ⟨rk, rt, rv⟩).mono fun _ _ ⟨u, h1, h2, h3⟩ => ⟨u, h1, h2.seg Pn.cs_len (by have := pPut_len k size slide a l ⟨rk, rt, rv⟩; omega), hb.trans (h3.mono hb.size), h3⟩
end Go.Proofs.Ytlikikiglicdlaa
