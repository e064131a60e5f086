/-
  Texts in build order: SPyW.
-/
import Derived.Test.YtdoldohcimbdaaaGreatM38
import Derived.Test.YtdoldohcimbdaaaGreatM46
import Derived.Test.YtdoldohcimbdaaaGreatM48
import Derived.Test.YtdoldohcimbdaaaGreatM49
/-
  For StatePlays: the state and the document's operator side by side, as they lie.
-/
namespace Go.Proofs.YtdoldohcimbdaaaGreat
open Go.RowKit

structure PW (w W : World) (s o : Nat) (k size slide a : Int) (fp : Nat → Prop) (M : List Pn) (lv : Value) (l : List Pn) : Prop where
  sa : SA W s k size slide a fp M
  op : OpAt fp W o k size slide a lv l
  ns : ∀ i, fp i → w.heap.size + 1 ≤ i
  no : w.heap.size + 1 ≤ o
  oo : ¬ fp o
  bl : Below w.heap.size w W
  bx : BoxT 23 W w.heap.size #[.int .i64 k, .int .i64 size, .int .i64 slide]
theorem BoxT.back {t : TypeId} {w w' : World} {k : Nat} {cs : Array Value} (h : BoxT t w k cs) (hb : w'.heap[k]? = w.heap[k]?) : BoxT t w' k cs := by
  unfold BoxT at *
  rw [hb]; exact h
theorem BoxT.ne {t t' : TypeId} {w : World} {k k' : Nat} {cs cs' : Array Value} (h : BoxT t w k cs) (h' : BoxT t' w k' cs') (ht : t ≠ t') : k ≠ k' := fun e => by
  subst e
  unfold BoxT at h h'
  rw [h] at h'
  simp at h'
  exact ht h'.2
theorem LSeg.own_lt {W : World} {lv : Value} {l : List Pn} (h : LSeg 4 Pn.cs W.heap.size W lv l) (hne : l ≠ []) (b : Nat) (e : lv.ownBlock = some b) : b < W.heap.size := by
  obtain ⟨ao, cap, rfl, _, h | ⟨b', off, rfl, hb, _⟩⟩ := h
  · exact absurd h hne
  · obtain rfl : b' = b := Option.some.inj e
    exact hb
theorem OpAt.turn {W W' : World} {o : Nat} {k size slide a : Int} {fp fp' : Nat → Prop} {lv : Value} {l : List Pn} (h : OpAt fp W o k size slide a lv l) (hf : FT fp fp' W W') (oo : ¬ fp o) (hl : ∀ i, fp' i → i < W'.heap.size) : OpAt fp' W' o k size slide a lv l := by
  refine ⟨?_, h.seg.keep (fun hne b e => hf.block b (h.seg.own_lt hne b e) (h.nk hne b e)) hf.size, h.off, hl, fun hne b e e2 => ?_⟩
  · have h1 := h.box
    have hlt := h.box.lt
    unfold BoxT at *
    rw [hf.block o hlt oo]; exact h1
  · rcases hf.sub b e2 with e3 | e3
    · exact h.nk hne b e e3
    · have := h.seg.own_lt hne b e; omega
section
variable {w W W' : World} {s s' o : Nat} {k size slide a : Int} {fp fp' : Nat → Prop} {M M' l l' : List Pn} {lv lv' : Value}
theorem PW.turn (h : PW w W s o k size slide a fp M lv l) (hs : SA W' s k size slide a fp' M') (hf : FT fp fp' W W') : PW w W' s o k size slide a fp' M' lv l := by
  have h1 := h.bl.size
  have hol := h.op.box.lt
  refine ⟨hs, h.op.turn hf h.oo hs.flt, fun i hi => ?_, h.no, fun e => ?_, h.bl.trans (hf.below h1 (fun i hi => by have := h.ns i hi; omega)), ?_⟩
  · rcases hf.sub i hi with e | e
    · exact h.ns i e
    · have := h.bx.lt; omega
  · rcases hf.sub o e with e2 | e2
    · exact h.oo e2
    · omega
  · have hb := h.bx
    have hlt := h.bx.lt
    unfold BoxT at *
    rw [hf.block _ hlt (fun e => by have := h.ns _ e; omega)]
    exact hb
theorem PW.grow (h : PW w W s o k size slide a fp M lv l) (hb : Below W.heap.size W W') : PW w W' s o k size slide a fp M lv l :=
  ⟨h.sa.below hb, h.op.below hb, h.ns, h.no, h.oo, h.bl.trans (hb.mono h.bl.size), BoxT.below (t := 23) h.bx hb⟩
theorem PW.opt (h : PW w W s o k size slide a fp M lv l) (ho : OpAt fp W' o k size slide a lv' l') (hf : FT (at1 o) (at1 o) W W') : PW w W' s o k size slide a fp M lv' l' := by
  refine ⟨h.sa.beside hf (fun i hi e => h.oo (by have e2 : i = o := e; rw [← e2]; exact hi)), ho, h.ns, h.no, h.oo, h.bl.trans (hf.below h.bl.size (fun i hi => by have := h.no; have e2 : i = o := hi; omega)), ?_⟩
  have hb := h.bx
  have hlt := h.bx.lt
  unfold BoxT at *
  rw [hf.block _ hlt (fun e => by have := h.no; have e2 : w.heap.size = o := e; omega)]
  exact hb
theorem FT.set1 (W : World) (o j : Nat) (v : Value) : FT (at1 o) (at1 o) W (W.setCell ⟨o, j, none⟩ v) :=
  ⟨rfl, rfl, rfl, by simp, fun i _ hn => Below.heap_setCell W ⟨o, j, none⟩ _ i (fun e => hn e), fun _ h => .inl h⟩
theorem OpAt.same (h : OpAt fp W o k size slide a lv l) {j : Nat} {v : Value} (hv : (opCs k size slide a lv (-9223372036854775808) 0).setIfInBounds j v = opCs k size slide a lv (-9223372036854775808) 0) : OpAt fp (W.setCell ⟨o, j, none⟩ v) o k size slide a lv l := by
  have h1 := BoxT.set (t := 46) h.box j v
  rw [hv] at h1
  exact ⟨h1, h.seg.keep (fun hne b e => Below.heap_setCell W ⟨o, j, none⟩ _ b (fun e2 => h.off hne (by rw [e]; exact congrArg some e2))) (by simp), h.off, fun i hi => by have := h.kb i hi; simpa using this, h.nk⟩
theorem PW.mark (h : PW w W s o k size slide a fp M lv l) : PW w (W.setCell ⟨o, 11, none⟩ (.int .i64 (-9223372036854775808))) s o k size slide a fp M lv l := h.opt (h.op.same rfl) (FT.set1 _ _ _ _)
theorem PW.again (h : PW w W s o k size slide a fp M lv l) : PW w (W.setCell ⟨o, 10, none⟩ lv) s o k size slide a fp M lv l := h.opt (h.op.same rfl) (FT.set1 _ _ _ _)
theorem PW.lay (h : PW w W s o k size slide a fp M lv l) (hb : Below W.heap.size W W') (hs : LSeg 4 Pn.cs W'.heap.size W' lv' l') (hn : ∀ b, lv'.ownBlock = some b → W.heap.size ≤ b) : PW w (W'.setCell ⟨o, 10, none⟩ lv') s o k size slide a fp M lv' l' :=
  h.opt (h.op.lay hb hs hn) (FT.lay hb lv')
theorem PW.put (h : PW w W s o k size slide a fp M lv l) (hw : FitS k size slide a) (hs : In64 size) (hsl : In64 slide) (rk rt rv : Int) (hrk : In64 rk) (hrv : In64 rv) (ht : TimeOk rt) (hM : M.length ≤ 90000) (hap : Apart (sess k) M) :
    Calls Tryz.prog 10 #[.pointer (some ⟨s, 0, none⟩), .agg #[.int .i64 rk, .int .i64 rt, .int .i64 rv]] W fun e w' => e = .returned (.tuple #[]) ∧ ∃ fp' M', PW w w' s o k size slide a fp' M' lv l ∧ Comes (sess k) (jn a) (frS k size slide a ⟨rk, rt, rv⟩ ++ M) M' ∧ ∀ i, i < W.heap.size → ¬ fp i → w'.heap[i]? = W.heap[i]? := by
  refine (Put_any h.sa hs hsl ⟨rk, rt, rv⟩ hrk hrv (sps_fit hw ht) hM hap).mono ?_
  rintro e w' ⟨rfl, fp', M', h1, h2, h3⟩
  exact ⟨rfl, fp', M', h.turn h1 h2, h3, h2.block⟩
theorem PW.record (h : PW w W s o k size slide a fp M lv l) (hw : FitS k size slide a) (rk rt rv : Int) (ht : TimeOk rt) (hn : l.length ≤ 40000) (hap : Apart (sess k) l) (hfu : k = 3 → ∀ x ∈ l, x.f < x.t) :
    Calls Tryz.prog 11 #[.pointer (some ⟨o, 0, none⟩), .agg #[.int .i64 rk, .int .i64 rt, .int .i64 rv]] W fun e w' => ∃ u lv' l', e = .returned u ∧ PW w w' s o k size slide a fp M lv' l' ∧ Comes (sess k) (jn a) (frS k size slide a ⟨rk, rt, rv⟩ ++ l) l' := by
  have key : Calls Tryz.prog 11 #[.pointer (some ⟨o, 0, none⟩), .agg #[.int .i64 rk, .int .i64 rt, .int .i64 rv]] W (RcPost fp W o k size slide a (frS k size slide a ⟨rk, rt, rv⟩ ++ l)) := by
    have ho := h.op
    rcases hw.2.2 with ⟨h0, h1, h2⟩ | h0
    · subst h0 h1 h2
      exact rRecord_red ho rk rt rv hn hap
    · exact rRecord_win ho (by have := h0.1; omega) h0 rk rt rv ht hn hap hfu
  refine key.mono ?_
  rintro e w' ⟨u, lv', l', rfl, h1, h2, h3⟩
  exact ⟨u, lv', l', rfl, h.opt h1 h2, h3⟩
/-- What is fired, and what is left. -/
def outK (k mk : Int) (l : List Pn) : List Rc := if k = 0 ∧ mk ≠ 9223372036854775807 then [] else outF mk (srt l)
def leftK (k mk : Int) (l : List Pn) : List Pn := if k = 0 ∧ mk ≠ 9223372036854775807 then l else leftF mk (srt l)
def leftM (k mk : Int) (M : List Pn) : List Pn := if k = 0 ∧ mk ≠ 9223372036854775807 then M else leftF mk M
theorem Pp.fireK {i : Nat} (h : Pp k M l i) (mk : Int) : Pp k (leftM k mk M) (leftK k mk l) (i + 1) := by
  unfold leftM leftK
  split
  · exact h.next
  · exact h.fire mk
theorem PW.fires (h : PW w W s o k size slide a fp M lv l) (mk : Int) (hn : l.length ≤ 100000) :
    Calls Tryz.prog 12 #[.bool (k == 0), lv, .int .i64 mk] W fun e w' => ∃ u1 ua un uc, e = .returned (.tuple #[u1, .slice ua un uc]) ∧ OwnL 39 3 Rc.cs W.heap.size w' u1 (outK k mk l) ∧ Below W.heap.size W w' ∧ ∀ W', Below w'.heap.size w' W' → PW w (W'.setCell ⟨o, 10, none⟩ (.slice ua un uc)) s o k size slide a fp M (.slice ua un uc) (leftK k mk l) := by
  by_cases hi : k = 0 ∧ mk ≠ 9223372036854775807
  · obtain ⟨h0, h1⟩ := hi
    have hb : (k == 0) = true := by simpa using h0
    rw [hb]
    obtain ⟨ua, uc, e⟩ := h.op.seg.shapeOf
    refine (rFires_idle W lv h1).mono ?_
    rintro e2 w' ⟨rfl, rfl⟩
    unfold outK leftK
    rw [if_pos ⟨h0, h1⟩, if_pos ⟨h0, h1⟩]
    subst e
    exact ⟨_, ua, _, uc, rfl, OwnL.nil _ _ _ _ _, Below.refl _ _, fun W' hb' => (h.grow hb').again⟩
  · refine (rFires_any h.op.seg hn (k == 0) mk (fun e => ?_)).mono ?_
    · have h0 : k = 0 := by simpa using e
      by_cases h1 : mk = 9223372036854775807
      · exact h1
      · exact absurd ⟨h0, h1⟩ hi
    · rintro e w' ⟨u1, u2, rfl, o1, o2, b⟩
      obtain ⟨ua, uc, rfl⟩ := o2.shape
      unfold outK leftK
      rw [if_neg hi, if_neg hi]
      have hl1 : (outF mk (srt l)).length ≤ 100000 := Nat.le_trans (out_len _ _) (by rw [srt_len]; exact hn)
      have hl2 : (leftF mk (srt l)).length ≤ 100000 := Nat.le_trans (left_len _ _) (by rw [srt_len]; exact hn)
      exact ⟨u1, ua, _, uc, rfl, o1, b, fun W' hb' => h.lay (b.trans (hb'.mono b.size)) ((o2.seg Pn.cs_len (by omega)).on hb') (fun g e => o2.at g e)⟩
theorem PW.fire {i : Nat} {l0 : List Pn} (h : PW w W s o k size slide a fp M lv l0) (mk : Int) (hM : M.length ≤ 90000) (hp : Pp k M l i) :
    Calls Tryz.prog 14 #[.pointer (some ⟨s, 0, none⟩), .int .i64 mk] W fun e w' => ∃ u fp', e = .returned u ∧ LSeg 3 Rc.cs w'.heap.size w' u (outK k mk l) ∧ PW w w' s o k size slide a fp' (leftM k mk M) lv l0 ∧ ∀ i, i < W.heap.size → ¬ fp i → w'.heap[i]? = W.heap[i]? := by
  obtain ⟨m, om, fq, R, hst, hf⟩ := h.sa
  by_cases hi : k = 0 ∧ mk ≠ 9223372036854775807
  · refine (Fire_idle hst mk hi.1 hi.2).mono ?_
    rintro e w' ⟨rfl, b⟩
    unfold outK leftM
    rw [if_pos hi, if_pos hi]
    exact ⟨_, fp, rfl, LSeg.nil' _ _ _ _, h.grow b, fun i hi _ => b.block i hi⟩
  · have hl1 : (outF mk (srt l)).length ≤ 140737488355328 := by
      have := out_len mk (srt l)
      rw [srt_len, ← hp.pm.length_eq] at this
      omega
    by_cases h0 : k = 0
    · have h1 : mk = 9223372036854775807 := by
        by_cases h1 : mk = 9223372036854775807
        · exact h1
        · exact absurd ⟨h0, h1⟩ hi
      refine (Fire_red hst mk h0 h1 hM).mono ?_
      rintro e w' ⟨u, E, rfl, o1, h2, h3⟩
      subst h0
      rw [hp.outR] at o1
      unfold outK leftM
      rw [if_neg hi, if_neg hi]
      have hft : FT fp (FP s m fq) W w' := h3.congr hf (fun _ => Iff.rfl)
      exact ⟨u, FP s m fq, rfl, o1.seg Rc.cs_len hl1, h.turn ⟨m, om, fq, E, h2, fun _ => Iff.rfl⟩ hft, hft.block⟩
    · refine (Fire_win hst mk h0 hM).mono ?_
      rintro e w' ⟨u, E, rfl, o1, h2, h3⟩
      rw [hp.out] at o1
      unfold outK leftM
      rw [if_neg hi, if_neg hi]
      have hft : FT fp (FP s m fq) W w' := h3.congr hf (fun _ => Iff.rfl)
      exact ⟨u, FP s m fq, rfl, o1.seg Rc.cs_len hl1, h.turn ⟨m, om, fq, E, h2, fun _ => Iff.rfl⟩ hft, hft.block⟩
theorem OwnL.aside {t sz : Nat} {α : Type} {cs : α → List Value} {base : Nat} {u : Value} {L : List α} (h : OwnL t sz cs base W u L) (hk : ∀ i, i < W.heap.size → ¬ fp i → W'.heap[i]? = W.heap[i]?) (hf : ∀ i, fp i → i < base) : OwnL t sz cs base W' u L :=
  h.back (fun g e => hk g (h.lt g e) (fun e2 => by have := hf g e2; have := h.at g e; omega))
theorem PW.load {i : Nat} {W1 : World} (h : PW w W s o k size slide a fp M lv l) (hp : Pp k M l i) (hM : M.length ≤ 90000) {u : Value} (hr : Row 70 4 Pn.cs W.heap.size W1 u (srt M)) (hb : Below W.heap.size W W1) :
    Calls Tryz.prog 15 #[.pointer (some ⟨s, 0, none⟩), u] W1 fun e w' => e = .returned (.tuple #[]) ∧ ∃ fp' M', PW w w' s o k size slide a fp' M' lv l ∧ M.Perm M' := by
  have h1 := h.grow hb
  refine (Load_any h1.sa (hr.seg Pn.cs_len (by rw [srt_len]; omega)) (fun g e e2 => by have := hr.at g e; have := h.sa.flt g e2; omega) (fun x hx => ?_) (by rw [srt_len]; exact hM)).mono ?_
  · have hm := (srt_perm M).mem_iff.1 hx
    exact ⟨h.sa.ok x hm, (hp.gd x hm).2⟩
  · rintro e w' ⟨rfl, fp', M', h2, h3, h4⟩
    refine ⟨rfl, fp', M', h1.turn h2 h3, ?_⟩
    exact (srt_perm M).symm.trans (cu_self (hp.ap.perm (srt_perm M).symm) h4)
theorem PW.open_ {i : Nat} {W1 : World} (h : PW w W s o k size slide a fp M lv l) (hp : Pp k M l i) (hM : M.length ≤ 19000) {u : Value} (hr : OwnL 5 1 u8cs W.heap.size W1 u (wrB (srt M))) (hb : Below W.heap.size W W1) :
    Calls Tryz.prog 17 #[.agg #[.int .i64 k, .int .i64 size, .int .i64 slide], .int .i64 a, u] W1 fun e w' => ∃ s' fp' M', e = .returned (.tuple #[.pointer (some ⟨s', 0, none⟩), .int .i64 0]) ∧ PW w w' s' o k size slide a fp' M' lv l ∧ M.Perm M' := by
  have h1 := h.grow hb
  have hok : ∀ x ∈ srt M, PnOk x := fun x hx => h.sa.ok x ((srt_perm M).mem_iff.1 hx)
  obtain ⟨r1, r2⟩ := rd_wr hok (by rw [srt_len]; omega)
  have hap := hp.ap.perm (srt_perm M).symm
  have hne : wrB (srt M) ≠ [] := fun e => by have := congrArg List.length e; rw [wrB_len] at this; simp at this
  refine (Open_any k size slide a (ByS.of_own hr (wrB_lt _) hne) (by rw [wrB_len, srt_len]; omega) (fun e x hx => ?_)).mono ?_
  · rw [r2] at hx
    exact (hp.gd x ((srt_perm M).mem_iff.1 hx)).2 e
  · rintro e w' ⟨b1, ⟨rfl, h2 | ⟨N, h2, h3⟩⟩ | ⟨_, s', fp', M', rfl, h2, h3, h4, _⟩⟩
    · exact absurd r1 h2
    · rw [r2] at h2
      exact absurd (congrArg wrB (srt_of ((srt_perm N).trans (cu_self hap h2).symm) (srt_rising N))) (by rw [srt_self (srt_rising M)]; exact h3)
    · rw [r2] at h4
      have h5 := h1.grow b1
      have hlt := h1.op.box.lt
      refine ⟨s', fp', M', rfl, ⟨h2, ⟨h5.op.box, h5.op.seg, h5.op.off, h2.flt, fun hne b e e2 => ?_⟩, fun i hi => ?_, h5.no, fun e => ?_, h5.bl, h5.bx⟩, (srt_perm M).symm.trans (cu_self hap h4)⟩
      · have := h3 b e2; have := h1.op.seg.own_lt hne b e; omega
      · have := h3 i hi; have := h1.bx.lt; omega
      · have := h3 o e; omega
end
end Go.Proofs.YtdoldohcimbdaaaGreat
