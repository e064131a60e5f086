/-
  The two logs side by side.
-/
import Derived.Test.YteafnohponbbeaaKSim
namespace Go.Proofs.Yteafnohponbbeaa
open Go.RowKit

def dw (d : List Dp) : Nat := (d.map fun x => x.rs.length + 1).sum
theorem dw_app (a b : List Dp) : dw (a ++ b) = dw a + dw b := by unfold dw; rw [List.map_append, List.sum_append]
theorem dw_cons (x : Dp) (b : List Dp) : dw (x :: b) = x.rs.length + 1 + dw b := by unfold dw; rw [List.map_cons, List.sum_cons]
theorem dw_len (d : List Dp) : d.length ≤ dw d := by
  induction d with
  | nil => exact Nat.zero_le _
  | cons x d ih => rw [dw_cons, List.length_cons]; omega
theorem dw_pick (p : Dp → Bool) (d : List Dp) : ((d.filter p).map Dp.rs).flatten.length ≤ dw d ∧ dw (d.filter p) ≤ dw d := by
  induction d with
  | nil => exact ⟨Nat.zero_le _, Nat.le_refl _⟩
  | cons x d ih =>
    rw [List.filter_cons, dw_cons]
    split
    · rw [List.map_cons, List.flatten_cons, List.length_append, dw_cons]; omega
    · omega
theorem dw_mark (d : List Dp) (k : Int) (n : Nat) : dw (dMark d k n) = dw d := by
  unfold dw dMark
  rw [List.map_map]
  congr 1
  refine List.map_congr_left (fun x _ => ?_)
  show (if hitP k n x = true then _ else _ : Dp).rs.length + 1 = _
  split <;> rfl
theorem dw_at {D : List Dx} {i : Nat} {x : Dx} (h : D[i]? = some x) : dw ((D.take i).map Dx.pr) + x.rs.length ≤ dw (D.map Dx.pr) := by
  obtain ⟨h1, h2⟩ := List.getElem?_eq_some_iff.1 h
  have e : D = D.take i ++ x :: D.drop (i + 1) := by rw [← h2, ← List.drop_eq_getElem_cons h1, List.take_append_drop]
  have e2 : dw (D.map Dx.pr) = dw ((D.take i).map Dx.pr) + dw ((x :: D.drop (i + 1)).map Dx.pr) := by
    rw [← dw_app, ← List.map_append, ← e]
  rw [e2, List.map_cons, dw_cons]
  show _ ≤ _ + (x.rs.length + 1 + _)
  omega
/-- Our log and the document's side by side, with a row of the law's own, and a box. -/
def GP (w wr : World) (la r : Nat) (f : Int → PS) (o : List (List Rc)) (W : Nat) (d : List Dp) (O : List Rc) (wv : Value) (prev : List Rc) (bx : Option (Nat × Array Value)) : Prop :=
  ∃ fa lv ov fq D, LA wr la fa f o W ∧ RG wr r lv ov fq D O ∧ D.map Dx.pr = d ∧ (∀ i, fa i → ¬ RP r fq i) ∧ (∀ i, fa i → w.heap.size ≤ i) ∧ (∀ i, RP r fq i → w.heap.size ≤ i) ∧ Below w.heap.size w wr ∧ OwnL 39 3 Rc.cs w.heap.size wr wv prev ∧ (∀ g, wv.ownBlock = some g → ¬ fa g ∧ ¬ RP r fq g) ∧ ∀ k cs, bx = some (k, cs) → BoxT 34 wr k cs ∧ ¬ fa k ∧ ¬ RP r fq k
theorem RG.flt2 {w : World} {r : Nat} {lv ov : Value} {fq : Nat → Prop} {D : List Dx} {O : List Rc} (h : RG w r lv ov fq D O) : ∀ i, RP r fq i → i < w.heap.size := fun i hi => by
  rcases hi with rfl | hi
  · exact h.box.lt
  · exact h.flt i hi
section
variable {w wr w' : World} {la r : Nat} {f f' : Int → PS} {o o' : List (List Rc)} {W W' : Nat} {d d' : List Dp} {O O' : List Rc} {wv : Value} {prev : List Rc} {bx : Option (Nat × Array Value)}
theorem GP.world (h : GP w wr la r f o W d O wv prev bx) : Below w.heap.size w wr := by
  obtain ⟨fa, lv, ov, fq, D, a, b, hD, c, d1, e, h6, h7, h8, h9⟩ := h
  exact h6
theorem GP.row (h : GP w wr la r f o W d O wv prev bx) : OwnL 39 3 Rc.cs w.heap.size wr wv prev := by
  obtain ⟨fa, lv, ov, fq, D, a, b, hD, c, d1, e, h6, h7, h8, h9⟩ := h
  exact h7
theorem GP.below (h : GP w wr la r f o W d O wv prev bx) (hb : Below wr.heap.size wr w') : GP w w' la r f o W d O wv prev bx := by
  obtain ⟨fa, lv, ov, fq, D, a, b, hD, c, d1, e, h6, h7, h8, h9⟩ := h
  exact ⟨fa, lv, ov, fq, D, a.below hb, b.below hb, hD, c, d1, e, h6.trans (hb.mono h6.size), h7.below hb, h8, fun k cs e => ⟨(h9 k cs e).1.below hb, (h9 k cs e).2⟩⟩
theorem GP.up (h : GP w wr la r f o W d O wv prev bx) (h1 : W ≤ W') : GP w wr la r f o W' d O wv prev bx := by
  obtain ⟨fa, lv, ov, fq, D, a, b⟩ := h
  exact ⟨fa, lv, ov, fq, D, a.up h1, b⟩
theorem GP.box (h : GP w wr la r f o W d O wv prev bx) (cs : Array Value) : GP w (wr.alloc (.cells cs 34)) la r f o W d O wv prev (some (wr.heap.size, cs)) := by
  obtain ⟨fa, lv, ov, fq, D, a, b, hD, c, d1, e, h6, h7, h8, h9⟩ := h
  have hb := below_box wr (.cells cs 34)
  refine ⟨fa, lv, ov, fq, D, a.below hb, b.below hb, hD, c, d1, e, h6.trans (hb.mono h6.size), h7.below hb, h8, fun k cs' e => ?_⟩
  cases e
  exact ⟨BoxT.new _ _ _, fun h10 => by have := a.flt _ h10; omega, fun h10 => by have := b.flt2 _ h10; omega⟩
theorem GP.cells {k : Nat} {cs : Array Value} (h : GP w wr la r f o W d O wv prev (some (k, cs))) : BoxT 34 wr k cs := by
  obtain ⟨fa, lv, ov, fq, D, a, b, hD, c, d1, e, h6, h7, h8, h9⟩ := h
  exact (h9 k cs rfl).1
theorem GP.nobox (h : GP w wr la r f o W d O wv prev bx) : GP w wr la r f o W d O wv prev none := by
  obtain ⟨fa, lv, ov, fq, D, a, b, hD, c, d1, e, h6, h7, h8, h9⟩ := h
  exact ⟨fa, lv, ov, fq, D, a, b, hD, c, d1, e, h6, h7, h8, fun k cs e => by cases e⟩
theorem GP.norow (h : GP w wr la r f o W d O wv prev bx) : GP w wr la r f o W d O (.slice none 0 0) [] bx := by
  obtain ⟨fa, lv, ov, fq, D, a, b, hD, c, d1, e, h6, h7, h8, h9⟩ := h
  exact ⟨fa, lv, ov, fq, D, a, b, hD, c, d1, e, h6, OwnL.nil _ _ _ _ _, fun g e => by (cases e), h9⟩
theorem GP.rows {u : Value} {l : List Rc} (h : GP w wr la r f o W d O wv prev bx) (hb : Below wr.heap.size wr w') (ho : OwnL 39 3 Rc.cs wr.heap.size w' u l) : GP w w' la r f o W d O u l bx := by
  obtain ⟨fa, lv, ov, fq, D, a, b, hD, c, d1, e, h6, h7, h8, h9⟩ := h
  refine ⟨fa, lv, ov, fq, D, a.below hb, b.below hb, hD, c, d1, e, h6.trans (hb.mono h6.size), ho.mono h6.size, fun g hg => ?_, fun k cs e => ⟨(h9 k cs e).1.below hb, (h9 k cs e).2⟩⟩
  have h9 := ho.at g hg
  exact ⟨fun h10 => by have := a.flt g h10; omega, fun h10 => by have := b.flt2 g h10; omega⟩
/-- The law's own row is written. -/
theorem GP.write {g n c : Nat} {l2 : List Rc} (h : GP w wr la r f o W d O (.slice (some ⟨g, 0, none⟩) n c) prev bx) (hf : FT (fun i => i = g) (fun i => i = g) wr w') (ho : OwnL 39 3 Rc.cs w.heap.size w' (.slice (some ⟨g, 0, none⟩) n c) l2) : GP w w' la r f o W d O (.slice (some ⟨g, 0, none⟩) n c) l2 bx := by
  obtain ⟨fa, lv, ov, fq, D, a, b, hD, c1, d1, e, h6, h7, h8, h9⟩ := h
  have hg := h8 g rfl
  refine ⟨fa, lv, ov, fq, D, a.back (fun i hi => hf.block i (a.flt i hi) (fun e => hg.1 (e ▸ hi))) hf.size, b.back (fun i hi => hf.block i (b.flt2 i hi) (fun e => hg.2 (e ▸ hi))) hf.size, hD, c1, d1, e, h6.trans (hf.below h6.size (fun i e => by rw [e]; exact h7.at g rfl)), ho, h8, fun k cs e => ⟨(h9 k cs e).1.back (hf.block k (h9 k cs e).1.lt (fun e2 => ?_)), (h9 k cs e).2⟩⟩
  obtain ⟨cur, hc⟩ := h7.has g rfl
  exact BoxT.ne (t := 34) (t' := 39) (h9 k cs e).1 hc (by decide) e2
theorem GP.postA {fa : Nat → Prop} {lv ov : Value} {fq : Nat → Prop} {D : List Dx} (b : RG wr r lv ov fq D O) (hD : D.map Dx.pr = d) (c : ∀ i, fa i → ¬ RP r fq i) (d1 : ∀ i, fa i → w.heap.size ≤ i) (e : ∀ i, RP r fq i → w.heap.size ≤ i) (h6 : Below w.heap.size w wr) (h7 : OwnL 39 3 Rc.cs w.heap.size wr wv prev) (h8 : ∀ g, wv.ownBlock = some g → ¬ fa g ∧ ¬ RP r fq g) (h9 : ∀ k cs, bx = some (k, cs) → BoxT 34 wr k cs ∧ ¬ fa k ∧ ¬ RP r fq k)
    (hp : LPost wr w' la fa f' o' W') : GP w w' la r f' o' W' d O wv prev bx := by
  obtain ⟨fa', h1, h2⟩ := hp
  have hn : ∀ i, i < wr.heap.size → ¬ fa i → ¬ fa' i := fun i hi hq e => by
    rcases h2.sub i e with e | e
    · exact hq e
    · omega
  refine ⟨fa', lv, ov, fq, D, h1, b.back (fun i hi => h2.block i (b.flt2 i hi) (fun e => c i e hi)) h2.size, hD, fun i hi hj => hn i (b.flt2 i hj) (fun e => c i e hj) hi, fun i hi => ?_, e, h6.trans (h2.below h6.size d1), h7.back (fun g e => h2.block g (h7.lt g e) (h8 g e).1), fun g e => ⟨hn g (h7.lt g e) (h8 g e).1, (h8 g e).2⟩, fun k cs e => ⟨(h9 k cs e).1.back (h2.block k (h9 k cs e).1.lt (h9 k cs e).2.1), hn k (h9 k cs e).1.lt (h9 k cs e).2.1, (h9 k cs e).2.2⟩⟩
  rcases h2.sub i hi with e | e
  · exact d1 i e
  · have := h6.size; omega
theorem GP.postR {fa : Nat → Prop} {fq : Nat → Prop} (a : LA wr la fa f o W) (c : ∀ i, fa i → ¬ RP r fq i) (d1 : ∀ i, fa i → w.heap.size ≤ i) (e : ∀ i, RP r fq i → w.heap.size ≤ i) (h6 : Below w.heap.size w wr) (h7 : OwnL 39 3 Rc.cs w.heap.size wr wv prev) (h8 : ∀ g, wv.ownBlock = some g → ¬ fa g ∧ ¬ RP r fq g) (h9 : ∀ k cs, bx = some (k, cs) → BoxT 34 wr k cs ∧ ¬ fa k ∧ ¬ RP r fq k)
    (hp : RPost wr w' r fq d' O') : GP w w' la r f o W d' O' wv prev bx := by
  obtain ⟨lv', ov', fq', D', h1, h0, h2⟩ := hp
  have hn : ∀ i, i < wr.heap.size → ¬ RP r fq i → ¬ RP r fq' i := fun i hi hq e => by
    rcases h2.sub i e with e | e
    · exact hq e
    · omega
  refine ⟨fa, lv', ov', fq', D', a.back (fun i hi => h2.block i (a.flt i hi) (c i hi)) h2.size, h1, h0, fun i hi => hn i (a.flt i hi) (c i hi), d1, fun i hi => ?_, h6.trans (h2.below h6.size e), h7.back (fun g e => h2.block g (h7.lt g e) (h8 g e).2), fun g e => ⟨(h8 g e).1, hn g (h7.lt g e) (h8 g e).2⟩, fun k cs e => ⟨(h9 k cs e).1.back (h2.block k (h9 k cs e).1.lt (h9 k cs e).2.2), (h9 k cs e).2.1, hn k (h9 k cs e).1.lt (h9 k cs e).2.2⟩⟩
  rcases h2.sub i hi with e3 | e3
  · exact e i e3
  · have := h6.size; omega
theorem GP.stageA (h : GP w wr la r f o W d O wv prev bx) (hW : W ≤ 500000) {k : Int} (hk : In64 k) (n : Nat) {rv : Value} {rs : List Rc} {B : Nat} (hr : LSeg 3 Rc.cs B wr rv rs) (hB : B ≤ wr.heap.size) (hrl : rs.length ≤ 500000) :
    Calls Try.prog 11 #[.pointer (some ⟨la, 0, none⟩), .int .i64 k, .int .u64 (n : Int), rv] wr fun e w' => e = .returned (.int .i64 (stE f k n)) ∧ GP w w' la r (stF f k n rs) o (W + rs.length + 1) d O wv prev bx := by
  obtain ⟨fa, lv, ov, fq, D, a, b, hD, c, d1, e, h6, h7, h8, h9⟩ := h
  refine (Stage_LA a hW hk n hr hB hrl).mono ?_
  rintro e' w' ⟨rfl, hp⟩
  exact ⟨rfl, GP.postA b hD c d1 e h6 h7 h8 h9 hp⟩
theorem GP.commitA (h : GP w wr la r f o W d O wv prev bx) (hW : W ≤ 500000) {k : Int} (hk : In64 k) (n : Nat) :
    Calls Try.prog 13 #[.pointer (some ⟨la, 0, none⟩), .int .i64 k, .int .u64 (n : Int)] wr fun e w' => e = .returned (.int .i64 (cmE f k n)) ∧ GP w w' la r (cmF f k n) (o ++ cmO f k n) W d O wv prev bx := by
  obtain ⟨fa, lv, ov, fq, D, a, b, hD, c, d1, e, h6, h7, h8, h9⟩ := h
  refine (Commit_LA a hW hk n).mono ?_
  rintro e' w' ⟨rfl, hp⟩
  exact ⟨rfl, GP.postA b hD c d1 e h6 h7 h8 h9 hp⟩
theorem GP.abortA (h : GP w wr la r f o W d O wv prev bx) (hW : W ≤ 500000) {k : Int} (hk : In64 k) (n : Nat) :
    Calls Try.prog 15 #[.pointer (some ⟨la, 0, none⟩), .int .i64 k, .int .u64 (n : Int)] wr fun e w' => e = .returned (.tuple #[]) ∧ GP w w' la r (abF f k n) o W d O wv prev bx := by
  obtain ⟨fa, lv, ov, fq, D, a, b, hD, c, d1, e, h6, h7, h8, h9⟩ := h
  refine (Abort_LA a hW hk n).mono ?_
  rintro e' w' ⟨rfl, hp⟩
  exact ⟨rfl, GP.postA b hD c d1 e h6 h7 h8 h9 hp⟩
theorem lenD {D : List Dx} (hD : D.map Dx.pr = d) (hd : dw d ≤ 100000) : D.length ≤ 500000 := by
  have := dw_len d
  rw [← hD, List.length_map] at this
  rw [← hD] at hd; omega
theorem GP.stageR (h : GP w wr la r f o W d O wv prev bx) (hd : dw d ≤ 100000) (k : Int) (n : Nat) {rv : Value} {rs : List Rc} {B : Nat} (hr : LSeg 3 Rc.cs B wr rv rs) (hB : B ≤ wr.heap.size) (hrl : rs.length ≤ 500000) :
    Calls Try.prog 12 #[.pointer (some ⟨r, 0, none⟩), .int .i64 k, .int .u64 (n : Int), rv] wr fun e w' => (e = .returned (.int .i64 170) ∧ dSt d k n ∧ GP w w' la r f o W d O wv prev bx) ∨ (e = .returned (.int .i64 0) ∧ ¬ dSt d k n ∧ GP w w' la r f o W (d ++ [⟨k, n, rs, false⟩]) O wv prev bx) := by
  obtain ⟨fa, lv, ov, fq, D, a, b, hD, c, d1, e, h6, h7, h8, h9⟩ := h
  refine (rStage_any b (lenD hD hd) k n hr hB hrl).mono ?_
  rw [hD]
  rintro e' w' (⟨rfl, h1, h2⟩ | ⟨rfl, h1, h2⟩)
  · exact .inl ⟨rfl, h1, GP.below ⟨fa, lv, ov, fq, D, a, b, hD, c, d1, e, h6, h7, h8, h9⟩ h2⟩
  · exact .inr ⟨rfl, h1, GP.postR a c d1 e h6 h7 h8 h9 h2⟩
theorem GP.abortR (h : GP w wr la r f o W d O wv prev bx) (hd : dw d ≤ 100000) (k : Int) (n : Nat) :
    Calls Try.prog 16 #[.pointer (some ⟨r, 0, none⟩), .int .i64 k, .int .u64 (n : Int)] wr fun e w' => e = .returned (.tuple #[]) ∧ GP w w' la r f o W (dAb d k n) O wv prev bx := by
  obtain ⟨fa, lv, ov, fq, D, a, b, hD, c, d1, e, h6, h7, h8, h9⟩ := h
  refine (rAbort_any b (lenD hD hd) k n).mono ?_
  rw [hD]
  rintro e' w' ⟨rfl, h2⟩
  exact ⟨rfl, GP.postR a c d1 e h6 h7 h8 h9 h2⟩
theorem GP.commitR (h : GP w wr la r f o W d O wv prev bx) (hd : dw d ≤ 100000) (hO : O.length ≤ 100000) (k : Int) (n : Nat) :
    Calls Try.prog 14 #[.pointer (some ⟨r, 0, none⟩), .int .i64 k, .int .u64 (n : Int)] wr fun e w' => (e = .returned (.int .i64 0) ∧ n ≤ dLast d k ∧ GP w w' la r f o W d O wv prev bx) ∨ (e = .returned (.int .i64 171) ∧ ¬ n ≤ dLast d k ∧ ¬ dHas d k n ∧ GP w w' la r f o W d O wv prev bx) ∨ (e = .returned (.int .i64 0) ∧ ¬ n ≤ dLast d k ∧ dHas d k n ∧ GP w w' la r f o W (dMark d k n) (O ++ dNew d k n) wv prev bx) := by
  obtain ⟨fa, lv, ov, fq, D, a, b, hD, c, d1, e, h6, h7, h8, h9⟩ := h
  refine (rCommit_any b (lenD hD hd) k n (by
    rw [nwD_pr, hD, List.length_append]
    have := (dw_pick (hitP k n) d).1
    unfold dNew; omega)).mono ?_
  unfold CPost
  rw [hD]
  rintro e' w' (⟨rfl, h1, h2⟩ | ⟨rfl, h1, h2, h3⟩ | ⟨rfl, h1, h2, h3⟩)
  · exact .inl ⟨rfl, h1, GP.below ⟨fa, lv, ov, fq, D, a, b, hD, c, d1, e, h6, h7, h8, h9⟩ h2⟩
  · exact .inr (.inl ⟨rfl, h1, h2, GP.below ⟨fa, lv, ov, fq, D, a, b, hD, c, d1, e, h6, h7, h8, h9⟩ h3⟩)
  · exact .inr (.inr ⟨rfl, h1, h2, GP.postR a c d1 e h6 h7 h8 h9 h3⟩)
theorem GP.allA (h : GP w wr la r f o W d O wv prev bx) (hW : W ≤ 500000) : Calls Try.prog 18 #[.pointer (some ⟨la, 0, none⟩)] wr fun e w' => ∃ u, e = .returned u ∧ OwnL 39 3 Rc.cs wr.heap.size w' u o.flatten ∧ Below wr.heap.size wr w' := by
  obtain ⟨fa, lv, ov, fq, D, a, b⟩ := h
  exact All_LA a hW
theorem GP.lastA (h : GP w wr la r f o W d O wv prev bx) {k : Int} (hk : In64 k) : Calls Try.prog 19 #[.pointer (some ⟨la, 0, none⟩), .int .i64 k] wr fun e w' => e = .returned (.int .u64 ((f k).last : Int)) ∧ wr = w' := by
  obtain ⟨fa, lv, ov, fq, D, a, b⟩ := h
  exact Last_LA a hk
theorem GP.stagedA (h : GP w wr la r f o W d O wv prev bx) (hW : W ≤ 500000) {k : Int} (hk : In64 k) : Calls Try.prog 22 #[.pointer (some ⟨la, 0, none⟩), .int .i64 k] wr fun e w' => ∃ u, e = .returned u ∧ OwnL 32 1 u64cs wr.heap.size w' u ((f k).stg.map Prod.fst) ∧ Below wr.heap.size wr w' := by
  obtain ⟨fa, lv, ov, fq, D, a, b⟩ := h
  exact Staged_LA a hW hk
theorem GP.uptoA (h : GP w wr la r f o W d O wv prev bx) (hW : W ≤ 500000) {k : Int} (hk : In64 k) (n : Nat) : Calls Try.prog 24 #[.pointer (some ⟨la, 0, none⟩), .int .i64 k, .int .u64 (n : Int)] wr fun e w' => ∃ u, e = .returned u ∧ OwnL 39 3 Rc.cs wr.heap.size w' u (uptoS (f k) n) ∧ Below wr.heap.size wr w' := by
  obtain ⟨fa, lv, ov, fq, D, a, b⟩ := h
  exact Upto_LA a hW hk n
theorem GP.lastR (h : GP w wr la r f o W d O wv prev bx) (hd : dw d ≤ 100000) (k : Int) : Calls Try.prog 20 #[.pointer (some ⟨r, 0, none⟩), .int .i64 k] wr fun e w' => e = .returned (.int .u64 (dLast d k : Int)) ∧ Below wr.heap.size wr w' := by
  obtain ⟨fa, lv, ov, fq, D, a, b, hD, c⟩ := h
  have := rLast_any b (lenD hD hd) k
  rw [hD] at this; exact this
theorem GP.stagedR (h : GP w wr la r f o W d O wv prev bx) (hd : dw d ≤ 100000) (k : Int) : Calls Try.prog 23 #[.pointer (some ⟨r, 0, none⟩), .int .i64 k] wr fun e w' => ∃ u, e = .returned u ∧ OwnL 32 1 u64cs wr.heap.size w' u (dStg d k) ∧ Below wr.heap.size wr w' := by
  obtain ⟨fa, lv, ov, fq, D, a, b, hD, c⟩ := h
  have := rStaged_any b (lenD hD hd) k
  rw [hD] at this; exact this
theorem GP.uptoR (h : GP w wr la r f o W d O wv prev bx) (hd : dw d ≤ 100000) (k : Int) (n : Nat) : Calls Try.prog 25 #[.pointer (some ⟨r, 0, none⟩), .int .i64 k, .int .u64 (n : Int)] wr fun e w' => ∃ u, e = .returned u ∧ OwnL 39 3 Rc.cs wr.heap.size w' u (dUp d k n) ∧ Below wr.heap.size wr w' := by
  obtain ⟨fa, lv, ov, fq, D, a, b, hD, c⟩ := h
  have := rUpto_any b (lenD hD hd) k n (fun i x hx => by
    have h1 := dw_at hx
    have h2 := (dw_pick (fun x => decide (x.pa = k) && decide (x.n ≤ n)) ((D.take i).map Dx.pr)).1
    rw [hD] at h1
    unfold dUp; omega)
  rw [hD] at this; exact this
theorem GP.part (h : GP w wr la r f o W d O wv prev bx) (k : Int) (n : Nat) : (f k).stg.length ≤ W ∧ (uptoS (f k) n).length ≤ W := by
  obtain ⟨fa, lv, ov, fq, D, a, b⟩ := h
  exact a.part k n
theorem GP.stageS (h : GP w wr la r f' o W d O wv prev bx) (hs : Sim f d) (hd : dw d ≤ 100000) (k : Int) (n : Nat) {rv : Value} {rs : List Rc} {B : Nat} (hr : LSeg 3 Rc.cs B wr rv rs) (hB : B ≤ wr.heap.size) (hrl : rs.length ≤ 500000) :
    Calls Try.prog 12 #[.pointer (some ⟨r, 0, none⟩), .int .i64 k, .int .u64 (n : Int), rv] wr fun e w' => e = .returned (.int .i64 (stE f k n)) ∧ ∃ d', Sim (stF f k n rs) d' ∧ dw d' ≤ dw d + rs.length + 1 ∧ GP w w' la r f' o W d' O wv prev bx := by
  refine (h.stageR hd k n hr hB hrl).mono ?_
  rintro e w' (⟨rfl, h1, h2⟩ | ⟨rfl, h1, h2⟩)
  · obtain ⟨e1, e2⟩ := hs.stageNo rs h1
    rw [e1, e2]
    exact ⟨rfl, d, hs, by omega, h2⟩
  · obtain ⟨e1, e2⟩ := hs.stage rs h1
    rw [e1]
    refine ⟨rfl, _, e2, ?_, h2⟩
    rw [dw_app, dw_cons]
    show _ + (rs.length + 1 + 0) ≤ _
    omega
theorem GP.commitS (h : GP w wr la r f' o W d O wv prev bx) (hs : Sim f d) (hd : dw d ≤ 100000) (hO : O.length ≤ 100000) (k : Int) (n : Nat) :
    Calls Try.prog 14 #[.pointer (some ⟨r, 0, none⟩), .int .i64 k, .int .u64 (n : Int)] wr fun e w' => e = .returned (.int .i64 (cmE f k n)) ∧ ∃ d', Sim (cmF f k n) d' ∧ dw d' ≤ dw d ∧ GP w w' la r f' o W d' (O ++ (cmO f k n).flatten) wv prev bx := by
  refine (h.commitR hd hO k n).mono ?_
  rintro e w' (⟨rfl, h1, h2⟩ | ⟨rfl, h1, h2, h3⟩ | ⟨rfl, h1, h2, h3⟩)
  · obtain ⟨e1, e2, e3⟩ := hs.commit0 h1
    rw [e1, e2, e3, List.flatten_nil, List.append_nil]
    exact ⟨rfl, d, hs, Nat.le_refl _, h2⟩
  · obtain ⟨e1, e2, e3⟩ := hs.commit1 h1 h2
    rw [e1, e2, e3, List.flatten_nil, List.append_nil]
    exact ⟨rfl, d, hs, Nat.le_refl _, h3⟩
  · obtain ⟨e1, e2, e3⟩ := hs.commit2 h1 h2
    rw [e1, e3]
    exact ⟨rfl, _, e2, Nat.le_of_eq (dw_mark d k n), h3⟩
theorem GP.lastS (h : GP w wr la r f' o W d O wv prev bx) (hs : Sim f d) (hd : dw d ≤ 100000) (k : Int) : Calls Try.prog 20 #[.pointer (some ⟨r, 0, none⟩), .int .i64 k] wr fun e w' => e = .returned (.int .u64 ((f k).last : Int)) ∧ Below wr.heap.size wr w' := by
  have := h.lastR hd k
  rw [hs.last] at this; exact this
theorem GP.stagedS (h : GP w wr la r f' o W d O wv prev bx) (hs : Sim f d) (hd : dw d ≤ 100000) (k : Int) : Calls Try.prog 23 #[.pointer (some ⟨r, 0, none⟩), .int .i64 k] wr fun e w' => ∃ u, e = .returned u ∧ OwnL 32 1 u64cs wr.heap.size w' u ((f k).stg.map Prod.fst) ∧ Below wr.heap.size wr w' := by
  have := h.stagedR hd k
  rw [hs.staged] at this; exact this
theorem GP.uptoS (h : GP w wr la r f' o W d O wv prev bx) (hs : Sim f d) (hd : dw d ≤ 100000) (k : Int) (n : Nat) : Calls Try.prog 25 #[.pointer (some ⟨r, 0, none⟩), .int .i64 k, .int .u64 (n : Int)] wr fun e w' => ∃ u, e = .returned u ∧ OwnL 39 3 Rc.cs wr.heap.size w' u (uptoS (f k) n) ∧ Below wr.heap.size wr w' := by
  have := h.uptoR hd k n
  rw [hs.upto] at this; exact this
theorem GP.flat (h : GP w wr la r f o W d O wv prev bx) : o.flatten.length ≤ W := by
  obtain ⟨fa, lv, ov, fq, D, a, b⟩ := h
  exact a.flat
/-- What the document's log has out. -/
theorem GP.outR (h : GP w wr la r f o W d O wv prev bx) : ∃ lv ov, OwnL 39 3 Rc.cs 0 wr ov O ∧ BoxT 31 wr r #[lv, ov] := by
  obtain ⟨fa, lv, ov, fq, D, a, b, hD, c⟩ := h
  exact ⟨lv, ov, b.out, b.box⟩
end
theorem GP.start {w w1 w2 : World} {la : Nat} (hb : Below w.heap.size w w1) (h1 : KW w1 w2 la F0 [] 0) : GP w (w2.alloc (.cells #[.slice none 0 0, .slice none 0 0] 31)) la w2.heap.size F0 [] 0 [] [] (.slice none 0 0) [] none := by
  obtain ⟨fa, h5, h6, h7⟩ := h1
  have s1 := hb.size
  have s2 := h7.size
  have hb2 := below_box w2 (.cells #[.slice none 0 0, .slice none 0 0] 31)
  refine ⟨fa, .slice none 0 0, .slice none 0 0, fun _ => False, [], h5.below hb2, { box := BoxT.new _ _ _, row := OwnL.nil _ _ _ _ _, out := OwnL.nil _ _ _ _ _, oks := fun x hx => (List.not_mem_nil hx).elim, xf := fun x hx => (List.not_mem_nil hx).elim, lf := fun g e => (by cases e), of := fun g e => (by cases e), ap := fun x hx => (List.not_mem_nil hx).elim, flt := fun i hi => hi.elim, nr := fun e => e }, rfl, fun i e1 e2 => ?_, fun i e => by have := h6 i e; omega, fun i e => ?_, (hb.trans (h7.mono hb.size)).trans (hb2.mono (by omega)), OwnL.nil _ _ _ _ _, fun g e => by (cases e), fun k cs e => by cases e⟩
  · rcases e2 with rfl | e2
    · have := h5.flt _ e1; omega
    · exact e2
  · rcases e with rfl | e
    · omega
    · exact e.elim

end Go.Proofs.Yteafnohponbbeaa
