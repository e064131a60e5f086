/-
  The law TryPlays, walked.
-/
import Derived.Test.YtaoejpgjdoikiaaRHelp
namespace Go.Proofs.Ytaoejpgjdoikiaa
open Go.RowKit

/-- Two queues by channels, and the law's two lists beside them. -/
structure TI (W w : World) (k1 c1 m1 k2 c2 m2 : Nat) (vp vq : Value) (pt qt p q : List Int) (gs1 gs2 : List Nat) (s1 r1 s2 r2 : Nat) : Prop where
  t1 : Ty 72 3 (Value.int .i64) w k1 c1 m1 gs1 pt s1 r1
  t2 : Ty 72 3 (Value.int .i64) w k2 c2 m2 gs2 qt s2 r2
  rp : Row 3 1 i64cs W.heap.size w vp p
  rq : Row 3 1 i64cs W.heap.size w vq q
  bel : Below W.heap.size W w
  hc : c1 ≠ c2
  hc1 : W.heap.size ≤ c1
  hc2 : W.heap.size ≤ c2
  d1 : ∀ g, vp.ownBlock = some g → g ∉ gs1 ∧ g ∉ gs2
  d2 : ∀ g, vq.ownBlock = some g → g ∉ gs1 ∧ g ∉ gs2
  d3 : ∀ g, vp.ownBlock = some g → vq.ownBlock ≠ some g
  d4 : ∀ g ∈ gs1, g ∉ gs2
section
variable {W w w' : World} {k1 c1 m1 k2 c2 m2 : Nat} {vp vq : Value} {pt qt p q : List Int} {gs1 gs2 : List Nat} {s1 r1 s2 r2 : Nat}
theorem TI.swap (H : TI W w k1 c1 m1 k2 c2 m2 vp vq pt qt p q gs1 gs2 s1 r1 s2 r2) : TI W w k2 c2 m2 k1 c1 m1 vq vp qt pt q p gs2 gs1 s2 r2 s1 r1 :=
  ⟨H.t2, H.t1, H.rq, H.rp, H.bel, fun e => H.hc e.symm, H.hc2, H.hc1, fun g h => (H.d2 g h).symm, fun g h => (H.d1 g h).symm, fun g h h2 => H.d3 g h2 h, fun g h h2 => H.d4 g h2 h⟩
theorem Row.notChan {v : Value} {xs : List Int} {base c mo s r : Nat} {buf : Array Value} (h : Row 3 1 i64cs base w v xs) (hc : w.heap[c]? = some (.chan mo buf false s r false)) {g : Nat} (hg : v.ownBlock = some g) : g ≠ c := fun e => by
  obtain ⟨cur, h1⟩ := h.has g hg
  unfold BoxT at h1
  rw [e, hc] at h1
  simp at h1
theorem Row.lt {v : Value} {xs : List Int} {base : Nat} (h : Row 3 1 i64cs base w v xs) {g : Nat} (hg : v.ownBlock = some g) : g < w.heap.size := by
  obtain ⟨cur, h1⟩ := h.has g hg
  exact h1.lt
/-- The first queue turned. -/
theorem TI.turn (H : TI W w k1 c1 m1 k2 c2 m2 vp vq pt qt p q gs1 gs2 s1 r1 s2 r2) {pt' : List Int} {gs' : List Nat} {s' r' : Nat} (h1 : Ty 72 3 (Value.int .i64) w' k1 c1 m1 gs' pt' s' r') (t : Turned c1 c1 w w') (hg : ∀ g ∈ gs', g ∈ gs1 ∨ w.heap.size ≤ g) :
    TI W w' k1 c1 m1 k2 c2 m2 vp vq pt' qt p q gs' gs2 s' r' s2 r2 := by
  have hbp : ∀ g, vp.ownBlock = some g → w'.heap[g]? = w.heap[g]? := fun g e => t.block g (H.rp.lt e) (H.rp.notChan H.t1.ch e) (H.rp.notChan H.t1.ch e)
  have hbq : ∀ g, vq.ownBlock = some g → w'.heap[g]? = w.heap[g]? := fun g e => t.block g (H.rq.lt e) (H.rq.notChan H.t1.ch e) (H.rq.notChan H.t1.ch e)
  have hgc : ∀ g ∈ gs2, g ≠ c1 := fun g hm e => by
    obtain ⟨i, hi⟩ := List.getElem?_of_mem hm
    have hl := (List.getElem?_eq_some_iff.1 hi).1
    have h1 := H.t2.each i g _ hi (List.getElem?_eq_getElem (by rw [← H.t2.len]; exact hl))
    have h2 := H.t1.ch
    unfold BoxT at h1
    rw [e, h2] at h1
    simp at h1
  have hkc : k2 ≠ c1 := fun e => by
    have h1 := H.t2.box
    have h2 := H.t1.ch
    unfold BoxT at h1
    rw [e, h2] at h1
    simp at h1
  refine ⟨h1, H.t2.beside t hkc hkc (fun e => H.hc e.symm) (fun e => H.hc e.symm) (fun g hm => ⟨hgc g hm, hgc g hm⟩), H.rp.back hbp, H.rq.back hbq, t.toBelow H.bel H.bel.size H.hc1 H.hc1, H.hc, H.hc1, H.hc2, fun g e => ⟨fun hm => ?_, (H.d1 g e).2⟩, fun g e => ⟨fun hm => ?_, (H.d2 g e).2⟩, H.d3, fun g hm h2 => ?_⟩
  · rcases hg g hm with h | h
    · exact (H.d1 g e).1 h
    · have := H.rp.lt e; omega
  · rcases hg g hm with h | h
    · exact (H.d2 g e).1 h
    · have := H.rq.lt e; omega
  · rcases hg g hm with h | h
    · exact H.d4 g h h2
    · have := H.t2.ltg h2; omega
/-- The first list turned. -/
theorem TI.row (H : TI W w k1 c1 m1 k2 c2 m2 vp vq pt qt p q gs1 gs2 s1 r1 s2 r2) {v' : Value} {p' : List Int} (h1 : Row 3 1 i64cs W.heap.size w' v' p') (hg : w.grownBy w' vp.ownBlock) (hat : ∀ g, v'.ownBlock = some g → vp.ownBlock = some g ∨ w.heap.size ≤ g) :
    TI W w' k1 c1 m1 k2 c2 m2 v' vq pt qt p' q gs1 gs2 s1 r1 s2 r2 := by
  have hne : ∀ i, i < w.heap.size → vp.ownBlock ≠ some i → w'.heap[i]? = w.heap[i]? := fun i hi h => hg.block i hi (fun e => h e.symm)
  have hbox : ∀ (k : Nat) (u : Value), BoxT 72 w k #[u] → vp.ownBlock ≠ some k := fun k u hb e => by
    obtain ⟨cur, h1⟩ := H.rp.has k e
    unfold BoxT at h1 hb
    rw [hb] at h1
    simp at h1
  refine ⟨H.t1.back (hne _ H.t1.box.lt (hbox _ _ H.t1.box)) (hne _ H.t1.lt (fun e => H.rp.notChan H.t1.ch e rfl)) (fun g hm => hne g (H.t1.ltg hm) (fun e => (H.d1 g e).1 hm)),
    H.t2.back (hne _ H.t2.box.lt (hbox _ _ H.t2.box)) (hne _ H.t2.lt (fun e => H.rp.notChan H.t2.ch e rfl)) (fun g hm => hne g (H.t2.ltg hm) (fun e => (H.d1 g e).2 hm)), h1,
    H.rq.back (fun g e => hne g (H.rq.lt e) (fun e2 => H.d3 g e2 e)), ?_, H.hc, H.hc1, H.hc2, fun g e => ?_, H.d2, fun g e e2 => ?_, H.d4⟩
  · exact ⟨hg.os.trans H.bel.os, hg.tape.trans H.bel.tape, hg.output.trans H.bel.output, Nat.le_trans H.bel.size hg.size, fun i hi => (hne i (Nat.lt_of_lt_of_le hi H.bel.size) (fun e => by have := H.rp.at i e; omega)).trans (H.bel.block i hi)⟩
  · rcases hat g e with h | h
    · exact H.d1 g h
    · exact ⟨fun hm => by have := H.t1.ltg hm; omega, fun hm => by have := H.t2.ltg hm; omega⟩
  · rcases hat g e with h | h
    · exact H.d3 g h e2
    · have := H.rq.lt e2; omega
/-- Nothing that lay is turned. -/
theorem TI.below (H : TI W w k1 c1 m1 k2 c2 m2 vp vq pt qt p q gs1 gs2 s1 r1 s2 r2) (hb : Below w.heap.size w w') : TI W w' k1 c1 m1 k2 c2 m2 vp vq pt qt p q gs1 gs2 s1 r1 s2 r2 :=
  ⟨H.t1.below hb, H.t2.below hb, H.rp.below hb, H.rq.below hb, H.bel.trans (hb.mono H.bel.size), H.hc, H.hc1, H.hc2, H.d1, H.d2, H.d3, H.d4⟩
/-- The head of the first list, and what is left behind it. -/
theorem TI.tail {x : Int} {pa : Option Addr} {n pc : Nat} (H : TI W w k1 c1 m1 k2 c2 m2 (.slice pa n pc) vq pt qt (x :: p) q gs1 gs2 s1 r1 s2 r2) : ∃ g off, pa = some ⟨g, off, none⟩ ∧ n = p.length + 1 ∧ 1 ≤ pc ∧ w.cell? ⟨g, off, none⟩ = some (.int .i64 x) ∧
    (pc ≠ 1 → TI W w k1 c1 m1 k2 c2 m2 (.slice (some ⟨g, off + 1, none⟩) p.length (pc - 1)) vq pt qt p q gs1 gs2 s1 r1 s2 r2) ∧ (pc = 1 → p = [] ∧ TI W w k1 c1 m1 k2 c2 m2 (.slice (some ⟨g, off, none⟩) 0 0) vq pt qt p q gs1 gs2 s1 r1 s2 r2) := by
  obtain ⟨g, off, rfl, h1, h2, h3, h4⟩ := H.rp.tail i64cs_len
  obtain ⟨g', off', cap', e, hr⟩ := H.rp.read i64cs_len (i := 0) rfl
  cases e
  refine ⟨g, off, rfl, h1, h2, by simpa using hr 0 _ rfl, fun hc => H.row (h3 hc) (grownBy_refl _ _) (fun g e => .inl e), fun hc => ?_⟩
  obtain ⟨h5, rfl⟩ := h4 hc
  exact ⟨rfl, H.row h5 (grownBy_refl _ _) (fun g e => .inl e)⟩
end
end Go.Proofs.Ytaoejpgjdoikiaa
