/-
  Two logs in a law; what a step does.
-/
import Derived.Test.YteafnohponbbeaaKKnown
namespace Go.Proofs.Yteafnohponbbeaa
open Go.RowKit

/-- Two logs of a law's own, and a row that is neither's. -/
def G2 (w wr : World) (la lb : Nat) (f1 : Int → PS) (o1 : List (List Rc)) (f2 : Int → PS) (o2 : List (List Rc)) (W1 W2 : Nat) (wv : Value) (prev : List Rc) (bx : Option (Nat × Array Value)) : Prop :=
  ∃ fa fb, LA wr la fa f1 o1 W1 ∧ LA wr lb fb f2 o2 W2 ∧ (∀ i, fa i → ¬ fb i) ∧ (∀ i, fa i → w.heap.size ≤ i) ∧ (∀ i, fb i → w.heap.size ≤ i) ∧ Below w.heap.size w wr ∧ OwnL 39 3 Rc.cs w.heap.size wr wv prev ∧ (∀ g, wv.ownBlock = some g → ¬ fa g ∧ ¬ fb g) ∧ ∀ k cs, bx = some (k, cs) → BoxT 34 wr k cs ∧ ¬ fa k ∧ ¬ fb k
section
variable {w wr w' : World} {la lb : Nat} {f1 f2 f1' f2' : Int → PS} {o1 o2 o1' o2' : List (List Rc)} {W1 W2 W1' W2' : Nat} {wv : Value} {prev : List Rc} {bx : Option (Nat × Array Value)}
theorem G2.world (h : G2 w wr la lb f1 o1 f2 o2 W1 W2 wv prev bx) : Below w.heap.size w wr := by
  obtain ⟨fa, fb, a, b, c, d, e, h6, h7, h8, h9⟩ := h
  exact h6
theorem G2.row (h : G2 w wr la lb f1 o1 f2 o2 W1 W2 wv prev bx) : OwnL 39 3 Rc.cs w.heap.size wr wv prev := by
  obtain ⟨fa, fb, a, b, c, d, e, h6, h7, h8, h9⟩ := h
  exact h7
theorem G2.below (h : G2 w wr la lb f1 o1 f2 o2 W1 W2 wv prev bx) (hb : Below wr.heap.size wr w') : G2 w w' la lb f1 o1 f2 o2 W1 W2 wv prev bx := by
  obtain ⟨fa, fb, a, b, c, d, e, h6, h7, h8, h9⟩ := h
  exact ⟨fa, fb, a.below hb, b.below hb, c, d, e, h6.trans (hb.mono h6.size), h7.below hb, h8, fun k cs e => ⟨(h9 k cs e).1.below hb, (h9 k cs e).2⟩⟩
theorem G2.swap (h : G2 w wr la lb f1 o1 f2 o2 W1 W2 wv prev bx) : G2 w wr lb la f2 o2 f1 o1 W2 W1 wv prev bx := by
  obtain ⟨fa, fb, a, b, c, d, e, h6, h7, h8, h9⟩ := h
  exact ⟨fb, fa, b, a, fun i h1 h2 => c i h2 h1, e, d, h6, h7, fun g hg => ⟨(h8 g hg).2, (h8 g hg).1⟩, fun k cs e => ⟨(h9 k cs e).1, (h9 k cs e).2.2, (h9 k cs e).2.1⟩⟩
theorem G2.up (h : G2 w wr la lb f1 o1 f2 o2 W1 W2 wv prev bx) (h1 : W1 ≤ W1') (h2 : W2 ≤ W2') : G2 w wr la lb f1 o1 f2 o2 W1' W2' wv prev bx := by
  obtain ⟨fa, fb, a, b, r⟩ := h
  exact ⟨fa, fb, a.up h1, b.up h2, r⟩
/-- A box beside. -/
theorem G2.box (h : G2 w wr la lb f1 o1 f2 o2 W1 W2 wv prev bx) (cs : Array Value) : G2 w (wr.alloc (.cells cs 34)) la lb f1 o1 f2 o2 W1 W2 wv prev (some (wr.heap.size, cs)) := by
  obtain ⟨fa, fb, a, b, c, d, e, h6, h7, h8, h9⟩ := h
  have hb := below_box wr (.cells cs 34)
  refine ⟨fa, fb, a.below hb, b.below hb, c, d, e, h6.trans (hb.mono h6.size), h7.below hb, h8, fun k cs' e => ?_⟩
  cases e
  exact ⟨BoxT.new _ _ _, fun h10 => by have := a.flt _ h10; omega, fun h10 => by have := b.flt _ h10; omega⟩
theorem G2.cells {k : Nat} {cs : Array Value} (h : G2 w wr la lb f1 o1 f2 o2 W1 W2 wv prev (some (k, cs))) : BoxT 34 wr k cs := by
  obtain ⟨fa, fb, a, b, c, d, e, h6, h7, h8, h9⟩ := h
  exact (h9 k cs rfl).1
theorem G2.nobox (h : G2 w wr la lb f1 o1 f2 o2 W1 W2 wv prev bx) : G2 w wr la lb f1 o1 f2 o2 W1 W2 wv prev none := by
  obtain ⟨fa, fb, a, b, c, d, e, h6, h7, h8, h9⟩ := h
  exact ⟨fa, fb, a, b, c, d, e, h6, h7, h8, fun k cs e => by cases e⟩
/-- Another row beside. -/
theorem G2.rows {u : Value} {l : List Rc} (h : G2 w wr la lb f1 o1 f2 o2 W1 W2 wv prev bx) (hb : Below wr.heap.size wr w') (ho : OwnL 39 3 Rc.cs wr.heap.size w' u l) : G2 w w' la lb f1 o1 f2 o2 W1 W2 u l bx := by
  obtain ⟨fa, fb, a, b, c, d, e, h6, h7, h8, h9⟩ := h
  refine ⟨fa, fb, a.below hb, b.below hb, c, d, e, h6.trans (hb.mono h6.size), ho.mono h6.size, fun g hg => ?_, fun k cs e => ⟨(h9 k cs e).1.below hb, (h9 k cs e).2⟩⟩
  have h9 := ho.at g hg
  exact ⟨fun h10 => by have := a.flt g h10; omega, fun h10 => by have := b.flt g h10; omega⟩
theorem G2.post {fa fb : Nat → Prop} (b : LA wr lb fb f2 o2 W2) (c : ∀ i, fa i → ¬ fb i) (d : ∀ i, fa i → w.heap.size ≤ i) (e : ∀ i, fb i → w.heap.size ≤ i) (h6 : Below w.heap.size w wr) (h7 : OwnL 39 3 Rc.cs w.heap.size wr wv prev) (h8 : ∀ g, wv.ownBlock = some g → ¬ fa g ∧ ¬ fb g) (h9 : ∀ k cs, bx = some (k, cs) → BoxT 34 wr k cs ∧ ¬ fa k ∧ ¬ fb k)
    (hp : LPost wr w' la fa f1' o1' W1') : G2 w w' la lb f1' o1' f2 o2 W1' W2 wv prev bx := by
  obtain ⟨fa', h1, h2⟩ := hp
  have hn : ∀ i, i < wr.heap.size → ¬ fa i → ¬ fa' i := fun i hi hq e => by
    rcases h2.sub i e with e | e
    · exact hq e
    · omega
  refine ⟨fa', fb, h1, b.back (fun i hi => h2.block i (b.flt i hi) (fun e => c i e hi)) h2.size, fun i hi hj => hn i (b.flt i hj) (fun e => c i e hj) hi, fun i hi => ?_, e, h6.trans (h2.below h6.size d), h7.back (fun g e => h2.block g (h7.lt g e) (h8 g e).1), fun g e => ⟨hn g (h7.lt g e) (h8 g e).1, (h8 g e).2⟩, fun k cs e => ⟨(h9 k cs e).1.back (h2.block k (h9 k cs e).1.lt (h9 k cs e).2.1), hn k (h9 k cs e).1.lt (h9 k cs e).2.1, (h9 k cs e).2.2⟩⟩
  rcases h2.sub i hi with e | e
  · exact d i e
  · have := h6.size; omega
theorem G2.stageA (h : G2 w wr la lb f1 o1 f2 o2 W1 W2 wv prev bx) (hW : W1 ≤ 500000) {k : Int} (hk : In64 k) (n : Nat) {rv : Value} {rs : List Rc} (hr : LSeg 3 Rc.cs w.heap.size wr rv rs) (hrl : rs.length ≤ 500000) :
    Calls Try.prog 11 #[.pointer (some ⟨la, 0, none⟩), .int .i64 k, .int .u64 (n : Int), rv] wr fun e w' => e = .returned (.int .i64 (stE f1 k n)) ∧ G2 w w' la lb (stF f1 k n rs) o1 f2 o2 (W1 + rs.length + 1) W2 wv prev bx := by
  obtain ⟨fa, fb, a, b, c, d, e, h6, h7, h8, h9⟩ := h
  refine (Stage_LA a hW hk n hr h6.size hrl).mono ?_
  rintro e' w' ⟨rfl, hp⟩
  exact ⟨rfl, G2.post b c d e h6 h7 h8 h9 hp⟩
theorem G2.commitA (h : G2 w wr la lb f1 o1 f2 o2 W1 W2 wv prev bx) (hW : W1 ≤ 500000) {k : Int} (hk : In64 k) (n : Nat) :
    Calls Try.prog 13 #[.pointer (some ⟨la, 0, none⟩), .int .i64 k, .int .u64 (n : Int)] wr fun e w' => e = .returned (.int .i64 (cmE f1 k n)) ∧ G2 w w' la lb (cmF f1 k n) (o1 ++ cmO f1 k n) f2 o2 W1 W2 wv prev bx := by
  obtain ⟨fa, fb, a, b, c, d, e, h6, h7, h8, h9⟩ := h
  refine (Commit_LA a hW hk n).mono ?_
  rintro e' w' ⟨rfl, hp⟩
  exact ⟨rfl, G2.post b c d e h6 h7 h8 h9 hp⟩
theorem G2.abortA (h : G2 w wr la lb f1 o1 f2 o2 W1 W2 wv prev bx) (hW : W1 ≤ 500000) {k : Int} (hk : In64 k) (n : Nat) :
    Calls Try.prog 15 #[.pointer (some ⟨la, 0, none⟩), .int .i64 k, .int .u64 (n : Int)] wr fun e w' => e = .returned (.tuple #[]) ∧ G2 w w' la lb (abF f1 k n) o1 f2 o2 W1 W2 wv prev bx := by
  obtain ⟨fa, fb, a, b, c, d, e, h6, h7, h8, h9⟩ := h
  refine (Abort_LA a hW hk n).mono ?_
  rintro e' w' ⟨rfl, hp⟩
  exact ⟨rfl, G2.post b c d e h6 h7 h8 h9 hp⟩
theorem G2.stageB (h : G2 w wr la lb f1 o1 f2 o2 W1 W2 wv prev bx) (hW : W2 ≤ 500000) {k : Int} (hk : In64 k) (n : Nat) {rv : Value} {rs : List Rc} (hr : LSeg 3 Rc.cs w.heap.size wr rv rs) (hrl : rs.length ≤ 500000) :
    Calls Try.prog 11 #[.pointer (some ⟨lb, 0, none⟩), .int .i64 k, .int .u64 (n : Int), rv] wr fun e w' => e = .returned (.int .i64 (stE f2 k n)) ∧ G2 w w' la lb f1 o1 (stF f2 k n rs) o2 W1 (W2 + rs.length + 1) wv prev bx :=
  (h.swap.stageA hW hk n hr hrl).mono fun _ _ h1 => ⟨h1.1, h1.2.swap⟩
theorem G2.commitB (h : G2 w wr la lb f1 o1 f2 o2 W1 W2 wv prev bx) (hW : W2 ≤ 500000) {k : Int} (hk : In64 k) (n : Nat) :
    Calls Try.prog 13 #[.pointer (some ⟨lb, 0, none⟩), .int .i64 k, .int .u64 (n : Int)] wr fun e w' => e = .returned (.int .i64 (cmE f2 k n)) ∧ G2 w w' la lb f1 o1 (cmF f2 k n) (o2 ++ cmO f2 k n) W1 W2 wv prev bx :=
  (h.swap.commitA hW hk n).mono fun _ _ h1 => ⟨h1.1, h1.2.swap⟩
theorem G2.abortB (h : G2 w wr la lb f1 o1 f2 o2 W1 W2 wv prev bx) (hW : W2 ≤ 500000) {k : Int} (hk : In64 k) (n : Nat) :
    Calls Try.prog 15 #[.pointer (some ⟨lb, 0, none⟩), .int .i64 k, .int .u64 (n : Int)] wr fun e w' => e = .returned (.tuple #[]) ∧ G2 w w' la lb f1 o1 (abF f2 k n) o2 W1 W2 wv prev bx :=
  (h.swap.abortA hW hk n).mono fun _ _ h1 => ⟨h1.1, h1.2.swap⟩
theorem G2.first (h : G2 w wr la lb f1 o1 f2 o2 W1 W2 wv prev bx) : ∃ fa, LA wr la fa f1 o1 W1 := by
  obtain ⟨fa, fb, a, b, r⟩ := h
  exact ⟨fa, a⟩
theorem G2.allA (h : G2 w wr la lb f1 o1 f2 o2 W1 W2 wv prev bx) (hW : W1 ≤ 500000) : Calls Try.prog 18 #[.pointer (some ⟨la, 0, none⟩)] wr fun e w' => ∃ u, e = .returned u ∧ OwnL 39 3 Rc.cs wr.heap.size w' u o1.flatten ∧ Below wr.heap.size wr w' := by
  obtain ⟨fa, a⟩ := h.first
  exact All_LA a hW
theorem G2.lastA (h : G2 w wr la lb f1 o1 f2 o2 W1 W2 wv prev bx) {k : Int} (hk : In64 k) : Calls Try.prog 19 #[.pointer (some ⟨la, 0, none⟩), .int .i64 k] wr fun e w' => e = .returned (.int .u64 ((f1 k).last : Int)) ∧ wr = w' := by
  obtain ⟨fa, a⟩ := h.first
  exact Last_LA a hk
theorem G2.stagedA (h : G2 w wr la lb f1 o1 f2 o2 W1 W2 wv prev bx) (hW : W1 ≤ 500000) {k : Int} (hk : In64 k) : Calls Try.prog 22 #[.pointer (some ⟨la, 0, none⟩), .int .i64 k] wr fun e w' => ∃ u, e = .returned u ∧ OwnL 32 1 u64cs wr.heap.size w' u ((f1 k).stg.map Prod.fst) ∧ Below wr.heap.size wr w' := by
  obtain ⟨fa, a⟩ := h.first
  exact Staged_LA a hW hk
theorem G2.uptoA (h : G2 w wr la lb f1 o1 f2 o2 W1 W2 wv prev bx) (hW : W1 ≤ 500000) {k : Int} (hk : In64 k) (n : Nat) : Calls Try.prog 24 #[.pointer (some ⟨la, 0, none⟩), .int .i64 k, .int .u64 (n : Int)] wr fun e w' => ∃ u, e = .returned u ∧ OwnL 39 3 Rc.cs wr.heap.size w' u (uptoS (f1 k) n) ∧ Below wr.heap.size wr w' := by
  obtain ⟨fa, a⟩ := h.first
  exact Upto_LA a hW hk n
theorem G2.part (h : G2 w wr la lb f1 o1 f2 o2 W1 W2 wv prev bx) (k : Int) (n : Nat) : (f1 k).stg.length ≤ W1 ∧ (uptoS (f1 k) n).length ≤ W1 := by
  obtain ⟨fa, a⟩ := h.first
  exact a.part k n
theorem G2.flat (h : G2 w wr la lb f1 o1 f2 o2 W1 W2 wv prev bx) : o1.flatten.length ≤ W1 := by
  obtain ⟨fa, a⟩ := h.first
  exact a.flat
end
/-- What a step does. -/
def spF (f : Int → PS) (x : Stp) : Int → PS := if x.wh = 0 ∨ x.wh = 1 ∨ x.wh = 2 then stF f x.pa x.n x.rs else if x.wh = 3 ∨ x.wh = 4 then cmF f x.pa x.n else if x.wh = 5 then abF f x.pa x.n else f
def spO (f : Int → PS) (x : Stp) : List (List Rc) := if x.wh = 3 ∨ x.wh = 4 then cmO f x.pa x.n else []
theorem upd_at (f : Int → PS) (k : Int) (s : PS) : upd f k s k = s := by unfold upd; rw [if_pos rfl]
theorem upd_upd (f : Int → PS) (k : Int) (s t : PS) : upd (upd f k s) k t = upd f k t := by
  funext i
  unfold upd
  split <;> rfl
theorem upd_same (f : Int → PS) (k : Int) : upd f k (f k) = f := by
  funext i
  unfold upd
  split
  · rename_i h; rw [h]
  · rfl
/-- A commit that is told again does nothing. -/
theorem cm_again (f : Int → PS) (k : Int) (n : Nat) : cmF (cmF f k n) k n = cmF f k n ∧ cmO (cmF f k n) k n = [] := by
  by_cases h1 : n ≤ (f k).last
  · have e : cmF f k n = f := by unfold cmF; rw [if_pos h1]
    rw [e]
    exact ⟨e, by unfold cmO; rw [if_pos h1]⟩
  · cases h2 : hasN (f k) n with
    | true =>
      have e : cmF f k n = upd f k (commitS (f k) n) := by unfold cmF; rw [if_neg h1, h2, if_pos rfl]
      have hl : n ≤ (upd f k (commitS (f k) n) k).last := by rw [upd_at]; exact Nat.le_refl _
      rw [e]
      exact ⟨by unfold cmF; rw [if_pos hl], by unfold cmO; rw [if_pos hl]⟩
    | false =>
      have e : cmF f k n = f := by unfold cmF; rw [if_neg h1, h2]; rfl
      rw [e]
      exact ⟨e, by unfold cmO; rw [if_neg h1, h2]; rfl⟩
theorem ab_again (f : Int → PS) (k : Int) (n : Nat) : abF (abF f k n) k n = abF f k n := by
  unfold abF
  rw [upd_at, upd_upd]
  congr 1
  unfold abortS
  simp only [List.filter_filter, Bool.and_self]

end Go.Proofs.Yteafnohponbbeaa
