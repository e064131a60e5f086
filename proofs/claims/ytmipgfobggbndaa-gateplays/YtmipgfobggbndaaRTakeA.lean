/-
  The document's Take, whole; both gates side by side.
-/
import Derived.Test.YtmipgfobggbndaaRTakeM
import Derived.Test.YtmipgfobggbndaaGSim
import Derived.Test.YtmipgfobggbndaaGHelp
namespace Go.Proofs.Ytmipgfobggbndaa
open Go.RowKit

theorem rTake_any {w : World} {R : Nat} {fq : Nat → Prop} {r : Gs} (h : RA w R fq r) (hSm : r.Sm) (ch : Int) (f : Fr) (hl : r.cp.length ≤ 100000) : Calls Try.prog 14 #[.pointer (some ⟨R, 0, none⟩), .int .i64 ch, f.val] w fun e w' => e = .returned (.tuple #[(r.tkS ch f).val, .int .i64 (r.tkE ch)]) ∧ ∃ fq', RA w' R fq' (r.tk ch f) ∧ FT fq fq' w w' := by
  unfold Gs.tk Gs.tkS Gs.tkE Gs.ok
  cases hh : r.has ch with
  | false => exact rTake_none h f ch hh
  | true =>
    obtain ⟨c, rfl, hc⟩ := Gs.has_nat hh
    cases hb : r.bl (c : Int) with
    | true => exact rTake_shut h f hc hb
    | false =>
      simp only [Bool.not_false, Bool.and_self, if_true]
      rw [Int.toNat_natCast]
      by_cases k1 : f.kd = 1
      · rw [if_pos k1, if_pos k1]
        exact rTake_rec h f hc hb hl k1
      · rw [if_neg k1, if_neg k1]
        by_cases k2 : f.kd = 2
        · rw [if_pos k2, if_pos k2]
          exact rTake_mark h f hc hb hl k2 rfl
        · rw [if_neg k2, if_neg k2]
          by_cases k3 : f.kd = 3
          · rw [if_pos k3, if_pos k3]
            exact rTake_bar h f hc hb hSm k3 rfl
          · rw [if_neg k3, if_neg k3]
            exact rTake_idle h f hc hb k1 k2 k3
/-- Both gates side by side, and boxes of the law's. -/
def PW (w0 : World) (k : Nat) (s : Gs) (R : Nat) (r : Gs) (L : List (Nat × TypeId × Array Value)) (w : World) : Prop :=
  ∃ fp fq, GA w k fp s ∧ RA w R fq r ∧ (∀ i, fp i → ¬ fq i) ∧ Below w0.heap.size w0 w ∧ (∀ i, fp i → w0.heap.size ≤ i) ∧ (∀ i, fq i → w0.heap.size ≤ i) ∧ ∀ p ∈ L, BoxT p.2.1 w p.1 p.2.2 ∧ ¬ fp p.1 ∧ ¬ fq p.1
section
variable {w0 w w' : World} {k R : Nat} {s r s' r' : Gs} {L : List (Nat × TypeId × Array Value)}
theorem PW.bel (h : PW w0 k s R r L w) : Below w0.heap.size w0 w := by
  obtain ⟨fp, fq, _, _, _, h4, _⟩ := h
  exact h4
theorem PW.below (h : PW w0 k s R r L w) (hb : Below w.heap.size w w') : PW w0 k s R r L w' := by
  obtain ⟨fp, fq, h1, h2, h3, h4, h5, h6, h7⟩ := h
  exact ⟨fp, fq, h1.below hb, h2.below hb, h3, h4.trans (hb.mono h4.size), h5, h6, fun p hp => ⟨(h7 p hp).1.below hb, (h7 p hp).2⟩⟩
theorem PW.box (h : PW w0 k s R r L w) (t : TypeId) (cs : Array Value) : PW w0 k s R r ((w.heap.size, t, cs) :: L) (w.alloc (.cells cs t)) := by
  obtain ⟨fp, fq, h1, h2, h3, h4, h5, h6, h7⟩ := h
  refine ⟨fp, fq, h1.below (below_box _ _), h2.below (below_box _ _), h3, h4.alloc h4.size _, h5, h6, fun p hp => ?_⟩
  rcases List.mem_cons.1 hp with rfl | hp
  · exact ⟨BoxT.new _ _ _, fun e => by have := h1.flt _ e; simp at this, fun e => by have := h2.flt _ e; simp at this⟩
  · exact ⟨(h7 p hp).1.alloc _, (h7 p hp).2⟩
theorem PW.none_ (h : PW w0 k s R r L w) : PW w0 k s R r [] w := by
  obtain ⟨fp, fq, h1, h2, h3, h4, h5, h6, h7⟩ := h
  exact ⟨fp, fq, h1, h2, h3, h4, h5, h6, fun p hp => by cases hp⟩
theorem PW.get (h : PW w0 k s R r L w) {p : Nat × TypeId × Array Value} (hp : p ∈ L) : BoxT p.2.1 w p.1 p.2.2 := by
  obtain ⟨fp, fq, h1, h2, h3, h4, h5, h6, h7⟩ := h
  exact (h7 p hp).1
theorem PW.afterG {fp fp' fq : Nat → Prop} (h2 : RA w R fq r) (h3 : ∀ i, fp i → ¬ fq i) (h4 : Below w0.heap.size w0 w) (h5 : ∀ i, fp i → w0.heap.size ≤ i) (h6 : ∀ i, fq i → w0.heap.size ≤ i) (h7 : ∀ p ∈ L, BoxT p.2.1 w p.1 p.2.2 ∧ ¬ fp p.1 ∧ ¬ fq p.1) (g : GA w' k fp' s') (t : FT fp fp' w w') : PW w0 k s' R r L w' := by
  have hd : ∀ i, fq i → ¬ fp i := fun i hi e => h3 i e hi
  refine ⟨fp', fq, g, h2.beside t hd, fun i hi e => t.apart h2.flt hd i e hi, h4.trans (t.below h4.size h5), fun i hi => ?_, h6, fun p hp => ⟨(h7 p hp).1.back (t.block _ (h7 p hp).1.lt (h7 p hp).2.1), fun e => ?_, (h7 p hp).2.2⟩⟩
  · rcases t.sub i hi with e | e
    · exact h5 i e
    · exact Nat.le_trans h4.size e
  · rcases t.sub _ e with e | e
    · exact (h7 p hp).2.1 e
    · have := (h7 p hp).1.lt; omega
theorem PW.afterR {fp fq fq' : Nat → Prop} (h1 : GA w k fp s) (h3 : ∀ i, fp i → ¬ fq i) (h4 : Below w0.heap.size w0 w) (h5 : ∀ i, fp i → w0.heap.size ≤ i) (h6 : ∀ i, fq i → w0.heap.size ≤ i) (h7 : ∀ p ∈ L, BoxT p.2.1 w p.1 p.2.2 ∧ ¬ fp p.1 ∧ ¬ fq p.1) (g : RA w' R fq' r') (t : FT fq fq' w w') : PW w0 k s R r' L w' := by
  refine ⟨fp, fq', h1.beside t h3, g, t.apart h1.flt h3, h4.trans (t.below h4.size h6), h5, fun i hi => ?_, fun p hp => ⟨(h7 p hp).1.back (t.block _ (h7 p hp).1.lt (h7 p hp).2.2), (h7 p hp).2.1, fun e => ?_⟩⟩
  · rcases t.sub i hi with e | e
    · exact h6 i e
    · exact Nat.le_trans h4.size e
  · rcases t.sub _ e with e | e
    · exact (h7 p hp).2.2 e
    · have := (h7 p hp).1.lt; omega
def PT (w0 : World) (k : Nat) (s : Gs) (R : Nat) (r : Gs) (L : List (Nat × TypeId × Array Value)) (x : Sn) (er : Int) (e : Ending) (w' : World) : Prop := e = .returned (.tuple #[.agg #[.int .i64 x.kd, .int .i64 x.ke, .int .i64 x.ti, .int .i64 x.va, .int .i64 x.ma, .int .u64 x.n, .int .u64 x.fu], .int .i64 er]) ∧ PW w0 k s R r L w'
theorem PW.take (h : PW w0 k s R r L w) (ch : Int) (f : Fr) (hl : s.cp.length ≤ 100000) {x : Sn} {er : Int} (hs : s.tk ch f = s') (hx : s.tkS ch f = x) (he : s.tkE ch = er) : Calls Try.prog 13 #[.pointer (some ⟨k, 0, none⟩), .int .i64 ch, .agg #[.int .i64 f.kd, .int .i64 f.ke, .int .i64 f.ti, .int .i64 f.va, .int .i64 f.ma, .int .u64 f.n, .bool f.ov]] w (PT w0 k s' R r L x er) := by
  obtain ⟨fp, fq, h1, h2, h3, h4, h5, h6, h7⟩ := h
  have hc := Take_any h1 ch f hl
  rw [hs, hx, he] at hc
  refine hc.mono ?_
  rintro e w' ⟨rfl, fp', g', t'⟩
  exact ⟨rfl, PW.afterG h2 h3 h4 h5 h6 h7 g' t'⟩
theorem PW.rtake (h : PW w0 k s R r L w) (hSm : r.Sm) (ch : Int) (f : Fr) (hl : r.cp.length ≤ 100000) {x : Sn} {er : Int} (hs : r.tk ch f = r') (hx : r.tkS ch f = x) (he : r.tkE ch = er) : Calls Try.prog 14 #[.pointer (some ⟨R, 0, none⟩), .int .i64 ch, .agg #[.int .i64 f.kd, .int .i64 f.ke, .int .i64 f.ti, .int .i64 f.va, .int .i64 f.ma, .int .u64 f.n, .bool f.ov]] w (PT w0 k s R r' L x er) := by
  obtain ⟨fp, fq, h1, h2, h3, h4, h5, h6, h7⟩ := h
  have hc := rTake_any h2 hSm ch f hl
  rw [hs, hx, he] at hc
  refine hc.mono ?_
  rintro e w' ⟨rfl, fp', g', t'⟩
  exact ⟨rfl, PW.afterR h1 h3 h4 h5 h6 h7 g' t'⟩
theorem PW.load (h : PW w0 k s R r L w) {v : Value} {l : List Int} (hv : LSeg 1 i64cs w0.heap.size w0 v l) : Calls Try.prog 11 #[.pointer (some ⟨k, 0, none⟩), v] w fun e w' => e = .returned (.tuple #[]) ∧ PW w0 k (s.ld l) R r L w' := by
  obtain ⟨fp, fq, h1, h2, h3, h4, h5, h6, h7⟩ := h
  refine (Load_any h1 (hv.below h4) h5 h4.size).mono ?_
  rintro e w' ⟨rfl, fp', g', t'⟩
  exact ⟨rfl, PW.afterG h2 h3 h4 h5 h6 h7 g' t'⟩
theorem PW.rload (h : PW w0 k s R r L w) {v : Value} {l : List Int} (hv : LSeg 1 i64cs w0.heap.size w0 v l) {n : Nat} (hn : n = r.M.length) : Calls Try.prog 12 #[.pointer (some ⟨R, 0, none⟩), v, .int .i64 (n : Int)] w fun e w' => e = .returned (.tuple #[]) ∧ PW w0 k s R { r with M := ldM n l, un := 0, co := List.replicate n false, cp := [] } L w' := by
  obtain ⟨fp, fq, h1, h2, h3, h4, h5, h6, h7⟩ := h
  have hRw : w0.heap.size ≤ R := by
    obtain ⟨fd, mv, cv, kv, X, hf⟩ := id h2
    exact h6 R ((hf R).2 (.inl rfl))
  refine (rLoad_any h2 hn (hv.below h4) hRw).mono ?_
  rintro e w' ⟨rfl, fp', g', t'⟩
  exact ⟨rfl, PW.afterR h1 h3 h4 h5 h6 h7 g' t'⟩
theorem PW.facts (h : PW w0 k s R r L w) : r.co.length = r.M.length ∧ 0 ≤ r.la ∧ 1 ≤ r.M.length ∧ r.M.length ≤ 64 ∧ s.co.length = s.M.length := by
  obtain ⟨fp, fq, ⟨_, _, _, _, X1, _⟩, ⟨fd, mv, cv, kv, X, hf⟩, _⟩ := h
  exact ⟨X.len, X.la0, X.pos, X.le, X1.len⟩
end
end Go.Proofs.Ytmipgfobggbndaa
