/-
  Queues of frames in a law, and a gate beside them.
-/
import Derived.Test.YtmipgfobggbndaaGAlQ
namespace Go.Proofs.Ytmipgfobggbndaa
open Go.RowKit

/-- The queues that a law lays. -/
def QW (w : World) (qb : Nat) (vs : List Value) (Q : List (List Fr)) (wr : World) : Prop := QA wr qb w.heap.size vs Q ∧ Below w.heap.size w wr ∧ w.heap.size ≤ qb
theorem QW.below {w wr w' : World} {qb : Nat} {vs : List Value} {Q : List (List Fr)} (h : QW w qb vs Q wr) (hb : Below wr.heap.size wr w') : QW w qb vs Q w' := ⟨h.1.below hb, h.2.1.trans (hb.mono h.2.1.size), h.2.2⟩
theorem QW.app {w wr w' : World} {qb : Nat} {vs : List Value} {Q : List (List Fr)} (h : QW w qb vs Q wr) {c : Nat} {v v' : Value} {xs xs' : List Fr} (hv : vs[c]? = some v) (hr : Row 37 7 Fr.cs w.heap.size w' v' xs') (hg : wr.grownBy w' v.ownBlock) (ho : ∀ g, v'.ownBlock = some g → v.ownBlock = some g ∨ wr.heap.size ≤ g) (hx : Q[c]? = some xs) : QW w qb (vs.set c v') (Q.set c xs') (w'.setCell ⟨qb, c, none⟩ v') := by
  refine ⟨h.1.app hv hr hg ho hx, ?_, h.2.2⟩
  have hrow := h.1.row c v xs hv hx
  exact (h.2.1.grown hg h.2.1.size (fun g e => hrow.at g e)).setCell h.2.2 _
theorem QW.qbox {w wr w' : World} {qb : Nat} {vs : List Value} {Q : List (List Fr)} (h : QW w qb vs Q wr) {c : Nat} {v : Value} {xs : List Fr} (hv : vs[c]? = some v) (hx : Q[c]? = some xs) (hg : wr.grownBy w' v.ownBlock) : BoxT 60 w' qb vs.toArray :=
  h.1.box.back (hg.block qb h.1.box.lt (fun e => by
    obtain ⟨cur, hc⟩ := (h.1.row c v xs hv hx).has qb e.symm
    exact BoxT.ne (t := 60) (t' := 37) h.1.box hc (by decide) rfl))
theorem newF (W : World) {n : Nat} (hn : n = W.heap.size) (x : Fr) (j : Nat) (u : Value) (hu : (Fr.cs x)[j]? = some u) : (W.alloc (.cells #[.int .i64 x.kd, .int .i64 x.ke, .int .i64 x.ti, .int .i64 x.va, .int .i64 x.ma, .int .u64 x.n, .bool x.ov] 37)).cell? ((⟨n, 0, none⟩ : Addr).add j) = some u := by
  have hb : BoxT 37 _ n _ := BoxT.new_at (t := 37) (w := W) (cs := #[.int .i64 x.kd, .int .i64 x.ke, .int .i64 x.ti, .int .i64 x.va, .int .i64 x.ma, .int .u64 x.n, .bool x.ov]) hn
  rw [add_plain2, hb.cellAt, Nat.zero_add]
  simpa [Fr.cs] using hu
theorem seg_u8 {B : Nat} {w : World} {ao : Option Addr} {n cap : Nat} {xs : List Nat} (h : LSeg 1 u8cs B w (.slice ao n cap) xs) {t : Nat} {x : Nat} (hx : xs[t]? = some x) : ∃ b o, ao = some ⟨b, o, none⟩ ∧ b < B ∧ w.cell? ⟨b, o + t, none⟩ = some (.int .u8 (x : Int)) := by
  obtain ⟨ao', cap', e, _, hs⟩ := h
  cases e
  rcases hs with rfl | ⟨b, off, rfl, hb, hc⟩
  · simp at hx
  · exact ⟨b, off, rfl, hb, by simpa using hc t x hx 0 _ rfl⟩
end Go.Proofs.Ytmipgfobggbndaa
