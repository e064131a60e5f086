/-
  For GateOvertakes: the queues, the gate, what the law itself caught, and which barriers it saw, as they lie.
-/
import Derived.Test.YtmipgfobggbndaaGOvP
import Derived.Test.YtmipgfobggbndaaGHelp
namespace Go.Proofs.Ytmipgfobggbndaa
open Go.RowKit

structure OW (w : World) (qb k b1 cb : Nat) (s : Gs) (vs : List Value) (Q : List (List Fr)) (cv : Value) (cp : List Ou) (C : List Bool) (W : World) : Prop where
  q : QA W qb w.heap.size vs Q
  bel : Below w.heap.size w W
  qge : w.heap.size ≤ qb
  qlt : qb < b1
  ble : b1 ≤ W.heap.size
  rlt : ∀ (c : Nat) (v : Value) (g : Nat), vs[c]? = some v → v.ownBlock = some g → g < b1
  g : ∃ fp, GA W k fp s ∧ (∀ i, fp i → b1 ≤ i) ∧ ¬ fp cb ∧ ∀ i, cv.ownBlock = some i → ¬ fp i
  cm : BoxT 4 W cb (bls C)
  cge : b1 ≤ cb
  ca : OwnL 65 8 Ou.cs b1 W cv cp
section
variable {w W W' : World} {qb k b1 cb : Nat} {s s' : Gs} {vs : List Value} {Q : List (List Fr)} {cv cv' : Value} {cp cp' : List Ou} {C : List Bool}
theorem OW.below (h : OW w qb k b1 cb s vs Q cv cp C W) (hb : Below W.heap.size W W') : OW w qb k b1 cb s vs Q cv cp C W' := by
  obtain ⟨fp, g1, g2, g3, g4⟩ := h.g
  exact ⟨h.q.below hb, h.bel.trans (hb.mono h.bel.size), h.qge, h.qlt, Nat.le_trans h.ble hb.size, h.rlt, ⟨fp, g1.below hb, g2, g3, g4⟩, h.cm.below hb, h.cge, h.ca.below hb⟩
theorem OW.of {n : Nat} (h : AW w qb k b1 s vs Q W) (hb : b1 ≤ W.heap.size) : OW w qb k b1 W.heap.size s vs Q (.slice none 0 0) [] (List.replicate n false) (W.alloc (.cells (bls (List.replicate n false)) 4)) := by
  have h2 := h.below (below_box W (.cells (bls (List.replicate n false)) 4))
  obtain ⟨fp, g1, g2⟩ := h.g
  exact ⟨h2.q, h2.bel, h2.qge, h2.qlt, h2.ble, h2.rlt, ⟨fp, g1.below (below_box _ _), g2, fun e => by have := g1.flt _ e; omega, fun i e => by cases e⟩, BoxT.new _ _ _, hb, OwnL.nil _ _ _ _ _⟩
theorem OW.turn {fp fp' : Nat → Prop} (h : OW w qb k b1 cb s vs Q cv cp C W) (hl : ∀ i, fp i → b1 ≤ i) (hc : ¬ fp cb) (hv : ∀ i, cv.ownBlock = some i → ¬ fp i) (g : GA W' k fp' s') (t : FT fp fp' W W') : OW w qb k b1 cb s' vs Q cv cp C W' := by
  have hkeep : ∀ i, i < b1 → W'.heap[i]? = W.heap[i]? := fun i hi => t.block i (Nat.lt_of_lt_of_le hi h.ble) (fun e => by have := hl i e; omega)
  refine ⟨h.q.back (hkeep qb h.qlt) (fun c v g hv e => hkeep g (h.rlt c v g hv e)), h.bel.trans (t.below h.bel.size (fun i e => by have := hl i e; have := h.qge; have := h.qlt; omega)), h.qge, h.qlt, Nat.le_trans h.ble t.size, h.rlt, ⟨fp', g, fun i hi => ?_, fun e => ?_, fun i e e2 => ?_⟩, h.cm.back (t.block cb h.cm.lt hc), h.cge, h.ca.back (fun g e => t.block g (h.ca.lt g e) (hv g e))⟩
  · rcases t.sub i hi with e | e
    · exact hl i e
    · exact Nat.le_trans h.ble e
  · rcases t.sub cb e with e | e
    · exact hc e
    · have := h.cm.lt; omega
  · rcases t.sub i e2 with e3 | e3
    · exact hv i e e3
    · have := h.ca.lt i e; omega
/-- What a step says, as it lies in a box. -/
def snA (x : Sn) : Array Value := #[.int .i64 x.kd, .int .i64 x.ke, .int .i64 x.ti, .int .i64 x.va, .int .i64 x.ma, .int .u64 x.n, .int .u64 x.fu]
/-- What the law holds in a round: the frame in hand (block fb). -/
def OT (w : World) (qb k b1 cb fb : Nat) (s : Gs) (vs : List Value) (Q : List (List Fr)) (cv : Value) (cp : List Ou) (C : List Bool) (f : Fr) (x : Sn) (er : Int) (e : Ending) (w' : World) : Prop := e = .returned (.tuple #[.agg #[.int .i64 x.kd, .int .i64 x.ke, .int .i64 x.ti, .int .i64 x.va, .int .i64 x.ma, .int .u64 x.n, .int .u64 x.fu], .int .i64 er]) ∧ OW w qb k b1 cb s vs Q cv cp C w' ∧ BoxT 37 w' fb f.ar
theorem OW.take (h : OW w qb k b1 cb s vs Q cv cp C W) (ch : Int) (f : Fr) (hl : s.cp.length ≤ 100000) {x : Sn} {er : Int} (hs : s.tk ch f = s') (hx : s.tkS ch f = x) (he : s.tkE ch = er) : Calls Try.prog 13 #[.pointer (some ⟨k, 0, none⟩), .int .i64 ch, .agg #[.int .i64 f.kd, .int .i64 f.ke, .int .i64 f.ti, .int .i64 f.va, .int .i64 f.ma, .int .u64 f.n, .bool f.ov]] (W.alloc (.cells f.ar 37)) (OT w qb k b1 cb W.heap.size s' vs Q cv cp C f x er) := by
  have h2 := h.below (below_box W (.cells f.ar 37))
  obtain ⟨fp, g1, g2, g3, g4⟩ := h.g
  have hc := Take_any (g1.below (below_box W (.cells f.ar 37))) ch f hl
  rw [hs, hx, he] at hc
  refine hc.mono ?_
  rintro e w' ⟨rfl, fp', g', t'⟩
  have hb := BoxT.new 37 W f.ar
  exact ⟨rfl, h2.turn g2 g3 g4 g' t', hb.back (t'.block _ hb.lt (fun e => by have := g1.flt _ e; omega))⟩
theorem OW.blocked (h : OW w qb k b1 cb s vs Q cv cp C W) (ch : Int) : Calls Try.prog 23 #[.pointer (some ⟨k, 0, none⟩), .int .i64 ch] W fun e w' => e = .returned (.bool (s.bl ch)) ∧ W = w' := by
  obtain ⟨fp, g1, _⟩ := h.g
  exact Blocked_any g1 ch
/-- The first frame of channel c is gone. -/
theorem OW.pop (h : OW w qb k b1 cb s vs Q cv cp C W) {c : Nat} {v v' : Value} {xs xs' : List Fr} (hv : vs[c]? = some v) (hx : Q[c]? = some xs) (hr : Row 37 7 Fr.cs w.heap.size W v' xs') (ho : ∀ g, v'.ownBlock = some g → v.ownBlock = some g) : OW w qb k b1 cb s (vs.set c v') (Q.set c xs') cv cp C (W.setCell ⟨qb, c, none⟩ v') := by
  obtain ⟨fp, g1, g2, g3, g4⟩ := h.g
  have hnq : ¬ fp qb := fun e => by have := g2 qb e; have := h.qlt; omega
  refine ⟨h.q.app hv hr (grownBy_refl W v.ownBlock) (fun g e => .inl (ho g e)) hx, h.bel.setCell h.qge _, h.qge, h.qlt, by simpa using h.ble, fun c2 v2 g hv2 e => ?_, ⟨fp, g1.off hnq _ _, g2, g3, g4⟩, h.cm.other _ _ (by have := h.cge; have := h.qlt; omega), h.cge, h.ca.back (fun g e => Below.heap_setCell W ⟨qb, c, none⟩ v' g (by have := h.ca.at g e; have := h.qlt; show g ≠ qb; omega))⟩
  by_cases hcc : c = c2
  · subst hcc
    rw [List.getElem?_set_self (lt_of_get hv)] at hv2
    cases hv2
    exact h.rlt c v g hv (ho g e)
  · rw [List.getElem?_set_ne hcc] at hv2
    exact h.rlt c2 v2 g hv2 e
/-- The barrier of channel c was seen. -/
theorem OW.see (h : OW w qb k b1 cb s vs Q cv cp C W) (c : Nat) : OW w qb k b1 cb s vs Q cv cp (C.set c true) (W.setCell ⟨cb, c, none⟩ (.bool true)) := by
  obtain ⟨fp, g1, g2, g3, g4⟩ := h.g
  have hne : ∀ i, i < b1 → i ≠ cb := fun i hi e => by have := h.cge; omega
  refine ⟨h.q.back (Below.heap_setCell W ⟨cb, c, none⟩ _ qb (hne qb h.qlt)) (fun c2 v g hv e => Below.heap_setCell W ⟨cb, c, none⟩ _ g (hne g (h.rlt c2 v g hv e))), h.bel.setCell (by show w.heap.size ≤ cb; have := h.qge; have := h.qlt; have := h.cge; omega) _, h.qge, h.qlt, by simpa using h.ble, h.rlt, ⟨fp, g1.off g3 _ _, g2, g3, g4⟩, ?_, h.cge, h.ca.otherBox h.cm (by decide) _ _⟩
  have := h.cm.set c (.bool true)
  rw [bls_set] at this
  exact this
/-- One more frame was caught. -/
theorem OW.catch (h : OW w qb k b1 cb s vs Q cv cp C W) (hr : OwnL 65 8 Ou.cs b1 W' cv' cp') (hg : W.grownBy W' cv.ownBlock) (ho : ∀ g, cv'.ownBlock = some g → cv.ownBlock = some g ∨ W.heap.size ≤ g) : OW w qb k b1 cb s vs Q cv' cp' C W' := by
  obtain ⟨fp, g1, g2, g3, g4⟩ := h.g
  have hblk : ∀ i, i < b1 → W'.heap[i]? = W.heap[i]? := fun i hi => hg.block i (Nat.lt_of_lt_of_le hi h.ble) (fun e => by have := h.ca.at i e.symm; omega)
  refine ⟨h.q.back (hblk qb h.qlt) (fun c v g hv e => hblk g (h.rlt c v g hv e)), h.bel.grown hg h.bel.size (fun g e => by have := h.ca.at g e; have := h.qge; have := h.qlt; omega), h.qge, h.qlt, Nat.le_trans h.ble hg.size, h.rlt, ⟨fp, g1.back (fun i hi => hg.block i (g1.flt i hi) (fun e => g4 i e.symm hi)), g2, g3, fun i e e2 => ?_⟩, h.cm.back (hg.block cb h.cm.lt (fun e => ?_)), h.cge, hr⟩
  · rcases ho i e with e3 | e3
    · exact g4 i e3 e2
    · have := g1.flt i e2; omega
  · obtain ⟨cur, hc⟩ := h.ca.has cb e.symm
    exact BoxT.ne (t := 4) (t' := 65) h.cm hc (by decide) rfl
theorem OW.outs (h : OW w qb k b1 cb s vs Q cv cp C W) (hl : s.cp.length ≤ 1000000) (hl2 : cp.length ≤ 1000000) : Calls Try.prog 22 #[.pointer (some ⟨k, 0, none⟩)] W fun e w' => ∃ u, e = .returned u ∧ LSeg 8 Ou.cs w'.heap.size w' u s.cp ∧ LSeg 8 Ou.cs w'.heap.size w' cv cp ∧ Below W.heap.size W w' := by
  obtain ⟨fp, g1, _⟩ := h.g
  refine (Captured_any g1 hl).mono ?_
  rintro e w' ⟨u, rfl, ho, hb⟩
  exact ⟨u, rfl, ho.seg Ou.cs_len (by omega), (h.ca.below hb).seg Ou.cs_len (by omega), hb⟩
theorem OW.keep (h : OW w qb k b1 cb s vs Q cv cp C W) {t kx : Nat} {cs : Array Value} (hb : BoxT t W kx cs) (ht : t ≠ 65) (hg : W.grownBy W' cv.ownBlock) : BoxT t W' kx cs :=
  hb.back (hg.block kx hb.lt (fun e => by
    obtain ⟨cur, hc⟩ := h.ca.has kx e.symm
    exact BoxT.ne (t := t) (t' := 65) hb hc ht rfl))
theorem OW.seen (h : OW w qb k b1 cb s vs Q cv cp C W) {c : Nat} {b : Bool} (hc : C[c]? = some b) : W.cell? ⟨cb, c, none⟩ = some (.bool b) := by
  rw [h.cm.cellAt, bls_get, hc]; rfl
end
/-- A frame beside the queues is another one. -/
theorem QW.setF {w W : World} {qb fb : Nat} {vs : List Value} {Q : List (List Fr)} (h : QW w qb vs Q W) (hne : fb ≠ qb) (hr : ∀ (c : Nat) (v : Value), vs[c]? = some v → v.ownBlock ≠ some fb) (hge : w.heap.size ≤ fb) (j : Nat) (u : Value) : QW w qb vs Q (W.setCell ⟨fb, j, none⟩ u) :=
  ⟨h.1.back (Below.heap_setCell W ⟨fb, j, none⟩ u qb (Ne.symm hne)) (fun c v g hv e => Below.heap_setCell W ⟨fb, j, none⟩ u g (fun e2 => hr c v hv (by rw [e]; exact congrArg some e2))), h.2.1.setCell hge u, h.2.2⟩
/-- Block fb is none of the queues'. -/
def Off (w : World) (qb fb : Nat) (vs : List Value) : Prop := fb ≠ qb ∧ (∀ (c : Nat) (v : Value), vs[c]? = some v → v.ownBlock ≠ some fb) ∧ w.heap.size ≤ fb
theorem QW.off {w W : World} {qb fb : Nat} {vs : List Value} {Q : List (List Fr)} (h : QW w qb vs Q W) (hf : W.heap.size ≤ fb) : Off w qb fb vs :=
  ⟨by have := h.1.box.lt; omega, fun c v hv e => by
    obtain ⟨xs, hx⟩ := get_of_lt (show c < Q.length by rw [← h.1.len]; exact lt_of_get hv)
    have := (h.1.row c v xs hv hx).lt fb e; omega, Nat.le_trans h.2.1.size hf⟩
theorem QW.chF {w W : World} {qb fb : Nat} {vs : List Value} {Q : List (List Fr)} (h : QW w qb vs Q W) (o : Off w qb fb vs) (c0 c1 c2 c3 c4 c5 c6 : Value) : QW w qb vs Q (ch7 W fb c0 c1 c2 c3 c4 c5 c6) :=
  ((((((h.setF o.1 o.2.1 o.2.2 _ _).setF o.1 o.2.1 o.2.2 _ _).setF o.1 o.2.1 o.2.2 _ _).setF o.1 o.2.1 o.2.2 _ _).setF o.1 o.2.1 o.2.2 _ _).setF o.1 o.2.1 o.2.2 _ _).setF o.1 o.2.1 o.2.2 _ _
end Go.Proofs.Ytmipgfobggbndaa
