/-
  A log in the midst of a commit.
-/
import Derived.Test.YteafnohponbbeaaKCom
namespace Go.Proofs.Yteafnohponbbeaa
open Go.RowKit

theorem LG.backF {w w' : World} {l mm : Nat} {ov : Value} {fq : Nat → Prop} {L : List Pt} {O : List Tx} (h : LG w l mm ov fq L O) (hb : ∀ i, (i = l ∨ fq i) → w'.heap[i]? = w.heap[i]?) (hs : w.heap.size ≤ w'.heap.size) : LG w' l mm ov fq L O := by
  have hf : ∀ i, fq i → w'.heap[i]? = w.heap[i]? := fun i hi => hb i (.inr hi)
  have hx : ∀ x, TxOk w fq x → TxOk w' fq x := fun x hx => ⟨hx.row.back (fun g e => hf g (hx.fr g e)), hx.fr⟩
  exact { box := h.box.back (hb l (.inl rfl)), out := h.out.back (fun g e => hf g (h.ofr g e)), oks := fun x h1 => hx x (h.oks x h1)
          pts := fun p hp => by
            have h1 := h.pts p hp
            exact ⟨h1.cr.back (fun g e => hf g (h1.fr g (.inl e))), h1.sr.back (fun g e => hf g (h1.fr g (.inr e))), h1.fr, h1.cs, fun x h2 => hx x (h1.co x h2), fun x h2 => hx x (h1.so x h2)⟩
          ap := h.ap, ofr := h.ofr, flt := fun i hi => Nat.lt_of_lt_of_le (h.flt i hi) hs, nl := h.nl, nm := h.nm, ml := Nat.lt_of_lt_of_le h.ml hs, lm := h.lm }
/-- A log in the midst of a call that has a part in a box of its own. -/
structure LK (w W : World) (l mm : Nat) (ov : Value) (f0 fq : Nat → Prop) (L : List Pt) (O : List Tx) (cs : Array Value) : Prop where
  g : LG W l mm ov fq L O
  k : BoxT 65 W w.heap.size cs
  f : FT (FP l mm f0) (FP l mm fq) w W
  m : W.heap[mm]? = w.heap[mm]?
  n : ¬ fq w.heap.size
  ml : mm < w.heap.size
  ll : l < w.heap.size
section
variable {w W W' : World} {l mm : Nat} {ov : Value} {f0 fq : Nat → Prop} {L R : List Pt} {O : List Tx} {cs : Array Value}
theorem LK.below (h : LK w W l mm ov f0 fq L O cs) (hb : Below W.heap.size W W') : LK w W' l mm ov f0 fq L O cs :=
  ⟨h.g.below hb, h.k.below hb, h.f.trans (FT.of_below hb), (hb.block mm h.g.ml).trans h.m, h.n, h.ml, h.ll⟩
theorem LK.setK (h : LK w W l mm ov f0 fq L O cs) (j : Nat) (u : Value) : LK w (W.setCell ⟨w.heap.size, j, none⟩ u) l mm ov f0 fq L O (cs.setIfInBounds j u) := by
  have hs : (W.setCell ⟨w.heap.size, j, none⟩ u).heap.size = W.heap.size := by simp
  have hb : ∀ i, i ≠ w.heap.size → (W.setCell ⟨w.heap.size, j, none⟩ u).heap[i]? = W.heap[i]? := fun i hi => Below.heap_setCell W ⟨w.heap.size, j, none⟩ u i hi
  refine ⟨h.g.backF (fun i hi => hb i (fun e => ?_)) (by omega), h.k.set j u, ⟨h.f.os, h.f.tape, h.f.output, by rw [hs]; exact h.f.size, fun i hi hne => (hb i (by omega)).trans (h.f.block i hi hne), h.f.sub⟩, (hb mm (by have := h.ml; omega)).trans h.m, h.n, h.ml, h.ll⟩
  rcases hi with e2 | e2
  · have := h.ll; omega
  · exact h.n (e ▸ e2)
theorem LK.outA {ov' : Value} {x : Tx} (h : LK w W l mm ov f0 fq L O cs) (hg : W.grownBy W' ov.ownBlock) (ho : OwnL 29 1 Tx.c1 0 W' ov' (O ++ [x])) (hk : ∀ g, ov'.ownBlock = some g → ov.ownBlock = some g ∨ W.heap.size ≤ g) (hx : TxOk W fq x) :
    LK w (W'.setCell ⟨l, 1, none⟩ ov') l mm ov' f0 (fun i => fq i ∨ ov'.ownBlock = some i) L (O ++ [x]) cs := by
  have hG := h.g.addout hg ho hk hx
  have hs : (W'.setCell ⟨l, 1, none⟩ ov').heap.size = W'.heap.size := by simp
  have h29 : ∀ i, ov.ownBlock = some i → ∃ cur, BoxT 29 W i cur := fun i e => h.g.out.has i e
  have hkp : ∀ i, i < W.heap.size → i ≠ l → ov.ownBlock ≠ some i → (W'.setCell ⟨l, 1, none⟩ ov').heap[i]? = W.heap[i]? := fun i hi h1 h2 => by
    rw [Below.heap_setCell W' ⟨l, 1, none⟩ ov' i h1]
    exact hg.block i hi (fun e => h2 e.symm)
  have hK : (W'.setCell ⟨l, 1, none⟩ ov').heap[w.heap.size]? = W.heap[w.heap.size]? := hkp _ h.k.lt (by have := h.ll; omega) (fun e => h.n (h.g.ofr _ e))
  refine ⟨hG, h.k.back hK, ?_, (hkp mm h.g.ml h.g.lm.symm (fun e => h.g.nm (h.g.ofr mm e))).trans h.m, fun e => ?_, h.ml, h.ll⟩
  · have f1 : FT (FP l mm fq) (FP l mm fq) W W' := FT.grow hg (fun g e => .inr (.inr (h.g.ofr g e)))
    have f2 := f1.trans (FT.set W' (show FP l mm fq l from .inl rfl) 1 ov')
    refine h.f.trans (f2.to_ (fun i hi => ?_))
    rcases hi with e | e | e | e
    · exact .inl (.inl e)
    · exact .inl (.inr (.inl e))
    · exact .inl (.inr (.inr e))
    · rcases hk i e with e | e
      · exact .inl (.inr (.inr (h.g.ofr i e)))
      · exact .inr e
  · rcases e with e | e
    · exact h.n e
    · rcases hk _ e with e | e
      · exact h.n (h.g.ofr _ e)
      · have := h.k.lt; omega
theorem LK.comB {p : Pt} {v : Value} {x : Tx} {c1 c2 : Value} (h : LK w W l mm ov f0 fq (p :: R) O #[p.cv, c1, c2]) (hg : W.grownBy W' p.cv.ownBlock) (ho : Row 69 2 Tx.cs 0 W' v (p.com ++ [x])) (hk : ∀ g, v.ownBlock = some g → p.cv.ownBlock = some g ∨ W.heap.size ≤ g) (hx : TxOk W fq x) :
    LK w (W'.setCell ⟨w.heap.size, 0, none⟩ v) l mm ov f0 (fun i => fq i ∨ v.ownBlock = some i) ({ p with cv := v, com := p.com ++ [x] } :: R) O #[v, c1, c2] := by
  have hp := h.g.pts p (List.mem_cons_self ..)
  have hbl : ∀ i, i < W.heap.size → p.cv.ownBlock ≠ some i → W'.heap[i]? = W.heap[i]? := fun i hi hne => hg.block i hi (fun e => hne e.symm)
  have hty : ∀ i cur, BoxT 39 W i cur → W'.heap[i]? = W.heap[i]? := fun i cur hc => hbl i hc.lt (fun e => by
    obtain ⟨c2, h2⟩ := hp.cr.has i e
    exact BoxT.ne (t := 39) (t' := 69) hc h2 (by decide) rfl)
  have hx0 : ∀ y, TxOk W fq y → TxOk W' (fun i => fq i ∨ v.ownBlock = some i) y := fun y hy => hy.back (fun i e => .inl e) hty
  have hn' : ∀ i, (fq i ∨ v.ownBlock = some i) → fq i ∨ (W.heap.size ≤ i ∧ i < W'.heap.size) := fun i hi => by
    rcases hi with e | e
    · exact .inl e
    · rcases hk i e with e2 | e2
      · exact .inl (hp.fr i (.inl e2))
      · exact .inr ⟨e2, by obtain ⟨cur, hc⟩ := ho.has i e; exact hc.lt⟩
  have hp' : PtOk W' (fun i => fq i ∨ v.ownBlock = some i) { p with cv := v, com := p.com ++ [x] } := ⟨ho, hp.sr.back (fun g e => hbl g (h.g.flt g (hp.fr g (.inr e))) (fun e2 => hp.cs g e2 e)), fun g e => by
      rcases e with e | e
      · exact .inr e
      · exact .inl (hp.fr g (.inr e)), fun g e1 e2 => by
      rcases hk g e1 with e3 | e3
      · exact hp.cs g e3 e2
      · have := h.g.flt g (hp.fr g (.inr e2)); omega, fun y hy => by
      rcases List.mem_append.1 hy with hy | hy
      · exact hx0 y (hp.co y hy)
      · obtain rfl := List.mem_singleton.1 hy
        exact hx0 _ hx, fun y hy => hx0 y (hp.so y hy)⟩
  have G1 := h.g.swap hg.size (fun i hi hne => hbl i hi (fun e => hne (.inl e))) (fun i e => .inl e) hn' hp' (fun i e => by
    rcases e with e | e
    · rcases hk i e with e2 | e2
      · exact .inl (.inl e2)
      · exact .inr e2
    · exact .inl (.inr e))
  have hKn : p.cv.ownBlock ≠ some w.heap.size := fun e => h.n (hp.fr _ (.inl e))
  have hmn : p.cv.ownBlock ≠ some mm := fun e => h.g.nm (hp.fr _ (.inl e))
  have h1 : LK w W' l mm ov f0 (fun i => fq i ∨ v.ownBlock = some i) ({ p with cv := v, com := p.com ++ [x] } :: R) O #[p.cv, c1, c2] := by
    refine ⟨G1, h.k.back (hbl _ h.k.lt hKn), ?_, (hbl mm h.g.ml hmn).trans h.m, fun e => ?_, h.ml, h.ll⟩
    · have f1 : FT (FP l mm fq) (FP l mm fq) W W' := FT.grow hg (fun g e => .inr (.inr (hp.fr g (.inl e))))
      refine h.f.trans (f1.to_ (fun i hi => ?_))
      rcases hi with e | e | e
      · exact .inl (.inl e)
      · exact .inl (.inr (.inl e))
      · rcases hn' i e with e | ⟨e, _⟩
        · exact .inl (.inr (.inr e))
        · exact .inr e
    · rcases e with e | e
      · exact h.n e
      · rcases hk _ e with e | e
        · exact hKn e
        · have := h.k.lt; omega
  simpa using h1.setK 0 v
theorem LK.stgC {p : Pt} {v : Value} {S : List Tx} {c0 c1 c2 : Value} (h : LK w W l mm ov f0 fq (p :: R) O #[c0, c1, c2]) (hg : W.grownBy W' p.sv.ownBlock) (ho : Row 69 2 Tx.cs 0 W' v S) (hk : ∀ g, v.ownBlock = some g → p.sv.ownBlock = some g ∨ W.heap.size ≤ g) (hS : ∀ x ∈ S, x ∈ p.stg) (last : Nat) :
    LK w (W'.setCell ⟨w.heap.size, 1, none⟩ v) l mm ov f0 (fun i => fq i ∨ v.ownBlock = some i) ({ p with sv := v, stg := S, last := last } :: R) O #[c0, v, c2] := by
  have hp := h.g.pts p (List.mem_cons_self ..)
  have hM : StgM W W' p S v := ⟨FT.grow hg (fun g e => e), ho, hk⟩
  obtain ⟨G1, F1⟩ := hM.lg h.g hS last
  have hbl : ∀ i, i < W.heap.size → p.sv.ownBlock ≠ some i → W'.heap[i]? = W.heap[i]? := fun i hi hne => hg.block i hi (fun e => hne e.symm)
  have hKn : p.sv.ownBlock ≠ some w.heap.size := fun e => h.n (hp.fr _ (.inr e))
  have hmn : p.sv.ownBlock ≠ some mm := fun e => h.g.nm (hp.fr _ (.inr e))
  have h1 : LK w W' l mm ov f0 (fun i => fq i ∨ v.ownBlock = some i) ({ p with sv := v, stg := S, last := last } :: R) O #[c0, c1, c2] := by
    refine ⟨G1, h.k.back (hbl _ h.k.lt hKn), h.f.trans F1, (hbl mm h.g.ml hmn).trans h.m, fun e => ?_, h.ml, h.ll⟩
    rcases e with e | e
    · exact h.n e
    · rcases hk _ e with e | e
      · exact hKn e
      · have := h.k.lt; omega
  simpa using h1.setK 1 v
theorem sumw_kp (l : List Tx) : sumw (kp l) ≤ sumw l := sumw_filter _ l
end
theorem commit_lp {w : World} {l mm : Nat} {ov : Value} {fq : Nat → Prop} {f : Int → PS} {O : List Tx} {W : Nat} {k : Int} {p : Pt} {R : List Pt} (P : PickAt w l mm ov fq f O W k p R) {n k1 : Nat} (hq1 : p.stg.take k1 = p.stg.filter (fun x => decide (x.n ≤ n))) (hq2 : p.stg.drop k1 = p.stg.filter (fun x => decide (n < x.n))) (hn : p.last < n) (cv sv : Value) :
    LP ({ p with cv := cv, com := p.com ++ kp (p.stg.take k1), sv := sv, stg := p.stg.drop k1, last := n } :: R) (O ++ kp (p.stg.take k1)) W := by
  have hpp := P.pl.pp p (List.mem_cons_self ..)
  have hD : ∀ x ∈ kp (p.stg.take k1), p.last < x.n ∧ x.n ≤ n := fun x hx => by
    have h1 : x ∈ p.stg.take k1 := (List.mem_filter.1 hx).1
    rw [hq1] at h1
    obtain ⟨h2, h3⟩ := List.mem_filter.1 h1
    exact ⟨hpp.ls x h2, by simpa using h3⟩
  have hsum : sumw (p.stg.take k1) + sumw (p.stg.drop k1) = sumw p.stg := by rw [← sumw_append, List.take_append_drop]
  have hkp := sumw_kp (p.stg.take k1)
  refine ⟨P.pl.keys, fun q hq => ?_, ?_, fun q hq => ?_⟩
  · rcases List.mem_cons.1 hq with rfl | hq
    · refine ⟨hpp.key, ?_, ?_, fun x hx => ?_, fun x hx => ?_⟩
      · refine List.pairwise_append.2 ⟨hpp.rc, ?_, fun a ha b hb => ?_⟩
        · have : Ris (p.stg.take k1) := hpp.rs.sublist (List.take_sublist _ _)
          exact this.filter _
        · have h1 := hpp.cl a ha
          have h2 := hD b hb
          omega
      · exact hpp.rs.sublist (List.drop_sublist _ _)
      · show 0 < x.n ∧ x.n ≤ n
        rcases List.mem_append.1 hx with hx | hx
        · have := hpp.cl x hx; omega
        · have := hD x hx; omega
      · show n < x.n
        have h1 : x ∈ p.stg.drop k1 := hx
        rw [hq2] at h1
        simpa using (List.mem_filter.1 h1).2
    · exact P.pl.pp q (List.mem_cons_of_mem _ hq)
  · have := P.pl.wt
    rw [sumS_cons] at this ⊢
    rw [sumw_append]
    show _ + (sumw (p.stg.drop k1) + sumS R) ≤ _
    omega
  · rw [sumw_append]
    rcases List.mem_cons.1 hq with rfl | hq
    · have := P.pl.cw p (List.mem_cons_self ..)
      show sumw (p.com ++ kp (p.stg.take k1)) ≤ _
      rw [sumw_append]; omega
    · have := P.pl.cw q (List.mem_cons_of_mem _ hq); omega
theorem commit_ps (p : Pt) {n k1 : Nat} (hq1 : p.stg.take k1 = p.stg.filter (fun x => decide (x.n ≤ n))) (hq2 : p.stg.drop k1 = p.stg.filter (fun x => decide (n < x.n))) (cv sv : Value) :
    Pt.ps { p with cv := cv, com := p.com ++ kp (p.stg.take k1), sv := sv, stg := p.stg.drop k1, last := n } = commitS p.ps n := by
  unfold commitS dueS Pt.ps
  simp only
  rw [pr_filter, pr_filter2, pr_kept, hq1, hq2, List.map_append]

end Go.Proofs.Yteafnohponbbeaa
