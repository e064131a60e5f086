/-
  Texts in build order: SLawP, STimP, SLaw.
-/
import Derived.Test.YtdoldohcimbdaaaGreatM36
/-
  The spans of a time, plainly (pure).
-/
namespace Go.Proofs.YtdoldohcimbdaaaGreat
open Go.RowKit

theorem LSeg.on {α : Type} {sz : Nat} {cs : α → List Value} {w w' : World} {v : Value} {xs : List α} (h : LSeg sz cs w.heap.size w v xs) (hb : Below w.heap.size w w') : LSeg sz cs w'.heap.size w' v xs := (h.below hb).mono hb.size
theorem take_snoc {α : Type} {l : List α} {i : Nat} {r : α} (h : l[i]? = some r) : l.take (i + 1) = l.take i ++ [r] := by
  have hlt := lt_of_get h
  rw [List.getElem?_eq_getElem hlt] at h
  cases h
  exact List.take_succ_eq_append_getElem hlt
theorem fit_size {k size slide : Int} (h : FitW k size slide) : 1 ≤ size ∧ size ≤ 68719476736 := ⟨h.2.2.1, h.2.2.2.1⟩
/-- How many spans have a time. -/
def cntOf (size slide since : Int) : Nat := if size ≤ since then 0 else ((size - 1 - since) / slide + 1).toNat
theorem cnt_le {size slide t : Int} (hw : FitW 2 size slide) : cntOf size slide (sinceOf slide t) ≤ 64 := by
  obtain ⟨_, _, h1, _, ⟨_, h2, _, h3⟩ | ⟨h2, _⟩⟩ := hw
  · obtain ⟨k1, _⟩ := since_in (t := t) h2
    unfold cntOf
    split
    · omega
    · have : (size - 1 - sinceOf slide t) / slide ≤ (size - 1) / slide := Int.ediv_le_ediv (by omega) (by omega)
      omega
  · exact absurd rfl h2
theorem cnt_iff {size slide since : Int} (h2 : 1 ≤ slide) (j : Nat) : j < cntOf size slide since ↔ (j : Int) * slide < size - since := by
  unfold cntOf
  split
  · rename_i h
    have : 0 ≤ (j : Int) * slide := Int.mul_nonneg (by omega) (by omega)
    omega
  · rename_i h
    have h4 : (j : Int) ≤ (size - 1 - since) / slide ↔ (j : Int) * slide ≤ size - 1 - since := Int.le_ediv_iff_mul_le (by omega)
    have h5 : 0 ≤ (size - 1 - since) / slide := Int.ediv_nonneg (by omega) (by omega)
    omega
/-- The spans, the last one first. -/
def bkS (size slide s0 : Int) (c : Nat) : List Sp := (List.range c).map fun i : Nat => ⟨s0 - (i : Int) * slide, s0 - (i : Int) * slide + size⟩
theorem bkS_len (size slide s0 : Int) (c : Nat) : (bkS size slide s0 c).length = c := by simp [bkS]
theorem bkS_snoc (size slide s0 : Int) (c : Nat) : bkS size slide s0 (c + 1) = bkS size slide s0 c ++ [⟨s0 - (c : Int) * slide, s0 - (c : Int) * slide + size⟩] := by
  unfold bkS; rw [List.range_succ, List.map_append]; rfl
theorem span_no_wrap {size slide t since : Int} {c i : Nat} (ht : TimeOk t) (hs : 1 ≤ size ∧ size ≤ 68719476736) (h2 : 1 ≤ slide) (h0 : 0 ≤ since) (h1 : since < 68719476736) (hc : ((c : Int) - 1) * slide ≤ size - 1 - since) (hi : i < c) : spanAt size slide t since c i = ⟨t - since - ((c : Int) - 1 - (i : Int)) * slide, t - since - ((c : Int) - 1 - (i : Int)) * slide + size⟩ := by
  have hp : 0 ≤ ((c : Int) - 1 - (i : Int)) * slide ∧ ((c : Int) - 1 - (i : Int)) * slide ≤ ((c : Int) - 1) * slide := ⟨Int.mul_nonneg (by omega) (by omega), Int.mul_le_mul_of_nonneg_right (by omega) (by omega)⟩
  unfold spanAt
  unfold TimeOk at ht
  generalize ((c : Int) - 1 - (i : Int)) * slide = z at *
  generalize ((c : Int) - 1) * slide = y at *
  have e1 : wrap64 (t - since) = t - since := by unfold wrap64; omega
  have e2 : wrap64 (t - since - z) = t - since - z := by unfold wrap64; omega
  have e3 : wrap64 (t - since - z + size) = t - since - z + size := by unfold wrap64; omega
  rw [e1, e2, e3]
theorem spans_two {size slide t : Int} (hw : FitW 2 size slide) (ht : TimeOk t) : pSpans 2 size slide t = (bkS size slide (t - sinceOf slide t) (cntOf size slide (sinceOf slide t))).reverse := by
  have hs := fit_size hw
  have hcl := cnt_le (t := t) hw
  obtain ⟨_, _, _, _, ⟨_, h2, h3, _⟩ | ⟨h2, _⟩⟩ := hw
  · obtain ⟨k1, k2⟩ := since_in (t := t) h2
    unfold pSpans
    rw [if_neg (by omega), if_neg (by omega), if_pos rfl]
    unfold rgl
    rw [if_neg (by omega)]
    generalize sinceOf slide t = since at *
    by_cases h4 : size ≤ since
    · rw [if_pos h4]
      have : cntOf size slide since = 0 := by unfold cntOf; rw [if_pos h4]
      rw [this]; rfl
    · rw [if_neg h4]
      have ec : countOf size slide since = cntOf size slide since := by
        unfold countOf cntOf at *
        rw [if_neg h4] at *
        rw [Int.tdiv_eq_ediv_of_nonneg (by omega)]
        omega
      have hc := (count_in (slide := slide) h2 (show since < size by omega)).2.2
      rw [ec] at hc ⊢
      generalize cntOf size slide since = c at *
      apply List.ext_getElem
      · simp [bkS]
      · intro i h5 h6
        simp only [List.length_map, List.length_range] at h5
        rw [List.getElem_reverse]
        simp only [bkS, List.getElem_map, List.getElem_range, List.length_map, List.length_range]
        rw [span_no_wrap ht hs h2 k1 (by omega) hc h5]
        have e : (((c - 1 - i : Nat)) : Int) = (c : Int) - 1 - (i : Int) := by omega
        rw [e]
  · exact absurd rfl h2
theorem spans_one {size slide t : Int} (hw : FitW 1 size slide) (ht : TimeOk t) : pSpans 1 size slide t = [⟨t - sinceOf size t, t - sinceOf size t + size⟩] := by
  have hs := fit_size hw
  obtain ⟨k1, k2⟩ := since_in (t := t) hs.1
  unfold pSpans
  rw [if_neg (by omega), if_pos rfl]
  unfold rgl
  rw [if_neg (by omega), if_neg (by omega)]
  generalize sinceOf size t = since at *
  have e : countOf size size since = 1 := by
    unfold countOf
    rw [Int.tdiv_eq_ediv_of_nonneg (by omega), Int.ediv_eq_zero_of_lt (by omega) (by omega)]
    rfl
  rw [e]
  show [spanAt size size t since 1 0] = _
  rw [span_no_wrap ht hs hs.1 k1 (by omega) (by omega) (by omega)]
  have e2 : (((1 : Nat) : Int) - 1 - ((0 : Nat) : Int)) * size = 0 := by omega
  rw [e2, Int.sub_zero]
theorem spans_three {size slide t : Int} (hw : FitW 3 size slide) (ht : TimeOk t) : pSpans 3 size slide t = [⟨t, t + size⟩] := by
  have hs := fit_size hw
  unfold pSpans TimeOk at *
  rw [if_neg (by omega), if_neg (by omega), if_neg (by omega), if_pos rfl]
  have e : wrap64 (t + size) = t + size := by unfold wrap64; omega
  rw [e]
/-- Bounds of what is put. -/
def Bd (p : Pn) : Prop := -1152921504606846976 ≤ p.f ∧ p.f ≤ 1152921504606846976 ∧ -1152921504606846976 ≤ p.t ∧ p.t ≤ 1152921504606846976
theorem spans_bd {k size slide t : Int} (hw : FitW k size slide) (ht : TimeOk t) : ∀ s ∈ pSpans k size slide t, -1152921504606846976 ≤ s.f ∧ s.f ≤ 1152921504606846976 ∧ -1152921504606846976 ≤ s.t ∧ s.t ≤ 1152921504606846976 := by
  have hs := fit_size hw
  have hk : k = 1 ∨ k = 2 ∨ k = 3 := by obtain ⟨h1, h2, _⟩ := hw; omega
  have ht2 := ht
  unfold TimeOk at ht2
  rcases hk with rfl | rfl | rfl
  · rw [spans_one hw ht]
    obtain ⟨h1, h2⟩ := since_in (t := t) hs.1
    intro s h
    obtain rfl := List.mem_singleton.1 h
    dsimp only
    omega
  · rw [spans_two hw ht]
    have h2 : 1 ≤ slide ∧ slide ≤ 68719476736 := by obtain ⟨_, _, _, _, ⟨_, h2, h3, _⟩ | ⟨h2, _⟩⟩ := hw; exact ⟨h2, h3⟩; exact absurd rfl h2
    obtain ⟨h3, h4⟩ := since_in (t := t) h2.1
    intro s h
    rw [List.mem_reverse] at h
    unfold bkS at h
    obtain ⟨i, hi, rfl⟩ := List.mem_map.1 h
    have h5 := (cnt_iff (size := size) (since := sinceOf slide t) h2.1 i).1 (List.mem_range.1 hi)
    have h6 : 0 ≤ (i : Int) * slide := Int.mul_nonneg (by omega) (by omega)
    dsimp only
    generalize (i : Int) * slide = z at *
    omega
  · rw [spans_three hw ht]
    intro s h
    obtain rfl := List.mem_singleton.1 h
    dsimp only
    omega
theorem spans_full {k size slide : Int} {t : Int} (hw : FitW k size slide) (ht : TimeOk t) (hs : sess k = true) : ∀ s ∈ pSpans k size slide t, s.f < s.t := by
  have h3 : k = 3 := of_decide_eq_true hs
  obtain ⟨_, _, h1, h2, _⟩ := hw
  subst h3
  unfold pSpans TimeOk at *
  rw [if_neg (by omega), if_neg (by omega), if_neg (by omega), if_pos rfl]
  intro s h
  obtain rfl := List.mem_singleton.1 h
  show t < wrap64 (t + size)
  unfold wrap64; omega
/-- What a put record makes is fit for a state. -/
theorem sps_fit {k size slide a t : Int} (hw : FitS k size slide a) (ht : TimeOk t) : ∀ sp ∈ sps k size slide t, In64 sp.f ∧ In64 sp.t ∧ (k = 3 → sp.f < sp.t) := by
  intro sp hsp
  obtain ⟨_, _, ⟨rfl, rfl, rfl⟩ | hw⟩ := hw
  · unfold sps at hsp
    rw [if_pos rfl, List.mem_singleton] at hsp
    subst hsp
    unfold In64
    exact ⟨by dsimp only; omega, by dsimp only; omega, fun e => by cases e⟩
  · have hk0 : k ≠ 0 := by obtain ⟨h1, _⟩ := hw; omega
    unfold sps at hsp
    rw [if_neg hk0] at hsp
    have h1 := spans_bd hw ht sp hsp
    unfold In64
    exact ⟨by omega, by omega, fun e => spans_full hw ht (by subst e; rfl) sp hsp⟩
def allS (k size slide a : Int) (rs : List Rc) : List Pn := rs.flatMap (frS k size slide a)
theorem allS_snoc (k size slide a : Int) {rs : List Rc} {i : Nat} {r : Rc} (h : rs[i]? = some r) : allS k size slide a (rs.take (i + 1)) = allS k size slide a (rs.take i) ++ frS k size slide a r := by
  have hl := lt_of_get h
  have e : rs[i] = r := by rw [List.getElem?_eq_getElem hl] at h; exact Option.some.inj h
  unfold allS
  rw [List.take_succ_eq_append_getElem hl, e, List.flatMap_append]
  simp
theorem frS_len (k size slide a : Int) (r : Rc) : (frS k size slide a r).length ≤ 64 := by unfold frS; rw [List.length_map]; exact sps_len ..
theorem allS_len (k size slide a : Int) (rs : List Rc) : (allS k size slide a rs).length ≤ 64 * rs.length := by
  unfold allS
  induction rs with
  | nil => simp
  | cons r rs ih => have := frS_len k size slide a r; rw [List.flatMap_cons, List.length_append, List.length_cons]; omega
/-- A window's panes have bounded spans, a session's have a time. -/
def Fn (k : Int) (p : Pn) : Prop := Bd p ∧ (k = 3 → p.f < p.t)
theorem frS_fn {k size slide a : Int} (hw : FitW k size slide) {r : Rc} (ht : TimeOk r.t) : ∀ p ∈ frS k size slide a r, Fn k p := by
  intro p hp
  unfold frS at hp
  obtain ⟨sp, hsp, rfl⟩ := List.mem_map.1 hp
  have hk0 : k ≠ 0 := by obtain ⟨h1, _⟩ := hw; omega
  unfold sps at hsp
  rw [if_neg hk0] at hsp
  exact ⟨spans_bd hw ht sp hsp, fun e => spans_full hw ht (by subst e; rfl) sp hsp⟩
theorem Reds.fn {k : Int} {J : Int → Int → Int} {l m : List Pn} (h : Reds (sess k) J l m) (hl : ∀ p ∈ l, Fn k p) : ∀ p ∈ m, Fn k p :=
  Reds.keeps (P := Fn k) (fun x y _ hx hy => by
    unfold Fn Bd jp at *
    dsimp only at *
    refine ⟨by omega, fun e => ?_⟩
    have h1 := hx.2 e
    omega) h hl
theorem all_fn {k size slide a : Int} (hw : FitW k size slide) {rs : List Rc} (ht : ∀ r ∈ rs, TimeOk r.t) : ∀ p ∈ allS k size slide a rs, Fn k p := by
  intro p hp
  unfold allS at hp
  obtain ⟨r, hr, hp⟩ := List.mem_flatMap.1 hp
  exact frS_fn hw (ht r hr) p hp
end Go.Proofs.YtdoldohcimbdaaaGreat
/-
  Firing timer by timer (pure).
-/
namespace Go.Proofs.YtdoldohcimbdaaaGreat
open Go.RowKit

theorem next_le' : ∀ (M : List Pn) (u : Int), M.foldl (fun a x => min a (lastP x)) u ≤ u ∧ ∀ x ∈ M, M.foldl (fun a x => min a (lastP x)) u ≤ lastP x
  | [], u => ⟨Int.le_refl _, fun x hx => by cases hx⟩
  | y :: M, u => by
    have h := next_le' M (min u (lastP y))
    rw [List.foldl_cons]
    refine ⟨by have := h.1; omega, fun x hx => ?_⟩
    rcases List.mem_cons.1 hx with rfl | hx
    · have := h.1; omega
    · exact h.2 x hx
theorem next_le {M : List Pn} {x : Pn} (h : x ∈ M) : nextP M ≤ lastP x := (next_le' M _).2 x h
theorem next_at : ∀ (M : List Pn) (u : Int), M.foldl (fun a x => min a (lastP x)) u = u ∨ ∃ x ∈ M, lastP x = M.foldl (fun a x => min a (lastP x)) u
  | [], u => .inl rfl
  | y :: M, u => by
    rw [List.foldl_cons]
    rcases next_at M (min u (lastP y)) with h | ⟨x, hx, h⟩
    · rw [h]
      by_cases hc : u ≤ lastP y
      · exact .inl (by omega)
      · exact .inr ⟨y, List.mem_cons_self .., by omega⟩
    · exact .inr ⟨x, List.mem_cons_of_mem _ hx, h⟩
theorem last_max (x : Pn) : lastP x ≤ 9223372036854775807 := by unfold lastP wrap64; omega
theorem next_mem {M : List Pn} (h : M ≠ []) : ∃ x ∈ M, lastP x = nextP M := by
  rcases next_at M 9223372036854775807 with h1 | h1
  · obtain ⟨x, hx⟩ := List.exists_mem_of_ne_nil M h
    refine ⟨x, hx, ?_⟩
    have h2 := next_le hx
    have h3 := last_max x
    unfold nextP at *
    omega
  · exact h1
theorem ovr_last (mk : Int) (x : Pn) : ovr mk x = decide (lastP x ≤ mk) := rfl
/-- What is known behind so many timers: D was fired, Q is left. -/
structure TmI (k : Int) (M D Q : List Pn) (last : Int) (i : Nat) : Prop where
  perm : M.Perm (D ++ Q)
  due : ∀ x ∈ D, lastP x ≤ last
  later : ∀ x ∈ Q, last < lastP x
  cnt : i ≤ D.length
theorem tm_start {k : Int} {M : List Pn} (h : ∀ x ∈ M, Fn k x) : TmI k M [] M (-9223372036854775808) 0 :=
  ⟨.refl _, fun x hx => (by cases hx), fun x hx => by
    have := (h x hx).1
    unfold Bd at this
    unfold lastP wrap64
    omega, Nat.le_refl _⟩
theorem TmI.step {k : Int} {M D Q : List Pn} {last : Int} {i : Nat} (h : TmI k M D Q last i) (hne : Q ≠ []) : last < nextP Q ∧ TmI k M (D ++ Q.filter (ovr (nextP Q))) (leftF (nextP Q) Q) (nextP Q) (i + 1) ∧ 0 < (Q.filter (ovr (nextP Q))).length := by
  obtain ⟨x, hx, e⟩ := next_mem hne
  have hlt : last < nextP Q := by have := h.later x hx; omega
  have hpos : 0 < (Q.filter (ovr (nextP Q))).length := by
    refine List.length_pos_of_mem (a := x) (List.mem_filter.2 ⟨hx, ?_⟩)
    rw [ovr_last, decide_eq_true_eq]; omega
  refine ⟨hlt, ⟨?_, fun y hy => ?_, fun y hy => ?_, by rw [List.length_append]; have := h.cnt; omega⟩, hpos⟩
  · rw [List.append_assoc]
    exact h.perm.trans (List.Perm.append_left D (due_left _ _))
  · rcases List.mem_append.1 hy with hy | hy
    · have := h.due y hy; omega
    · have := (List.mem_filter.1 hy).2
      rw [ovr_last, decide_eq_true_eq] at this
      exact this
  · unfold leftF at hy
    have := (List.mem_filter.1 hy).2
    rw [ovr_last] at this
    simpa using this
def outT (Q : List Pn) : List Rc := outF (nextP Q) (srt (Q.filter (ovr (nextP Q))))
theorem outT_eq (Q : List Pn) : outT Q = (srt (Q.filter (ovr (nextP Q)))).map rcOf := by
  unfold outT outF
  rw [out_due (M := Q) (.refl _)]
theorem outT_len (Q : List Pn) : (outT Q).length = (Q.filter (ovr (nextP Q))).length := by rw [outT_eq, List.length_map, srt_len]
theorem outT_time {Q : List Pn} : ∀ r ∈ outT Q, r.t = nextP Q := by
  intro r hr
  rw [outT_eq] at hr
  obtain ⟨x, hx, rfl⟩ := List.mem_map.1 hr
  have h1 := List.mem_filter.1 ((srt_perm _).mem_iff.1 hx)
  have h2 := next_le h1.1
  have h3 := h1.2
  rw [ovr_last, decide_eq_true_eq] at h3
  show lastP x = nextP Q
  omega
/-- All at once. -/
theorem once_len {k : Int} {M N D : List Pn} {last : Int} {i : Nat} (h : TmI k M D [] last i) (hp : M.Perm N) : (outF last (srt (N.filter (ovr last)))).length = D.length ∧ leftF last N = [] := by
  have hD : M.Perm D := by simpa using h.perm
  have hall : ∀ x ∈ N, ovr last x = true := fun x hx => by
    rw [ovr_last, decide_eq_true_eq]
    exact h.due x (hD.mem_iff.1 (hp.mem_iff.2 hx))
  refine ⟨?_, ?_⟩
  · unfold outF
    rw [out_due (M := N) (.refl _), List.length_map, srt_len, List.filter_eq_self.2 hall]
    exact (hp.symm.trans hD).length_eq
  · unfold leftF
    rw [List.filter_eq_nil_iff]
    intro x hx
    rw [hall x hx]
    decide
end Go.Proofs.YtdoldohcimbdaaaGreat
/-
  Two states side by side.
-/
namespace Go.Proofs.YtdoldohcimbdaaaGreat
open Go.RowKit

structure T2 (w W : World) (s t : Nat) (k size slide a : Int) (fp fq : Nat → Prop) (M N : List Pn) : Prop where
  sa : SA W s k size slide a fp M
  ta : SA W t k size slide a fq N
  ns : ∀ i, fp i → w.heap.size ≤ i
  nt : ∀ i, fq i → w.heap.size ≤ i
  ap : ∀ i, fp i → ¬ fq i
  bl : Below w.heap.size w W
section
variable {w W W' : World} {s t : Nat} {k size slide a : Int} {fp fq fp' : Nat → Prop} {M N M' : List Pn}
theorem T2.swap (h : T2 w W s t k size slide a fp fq M N) : T2 w W t s k size slide a fq fp N M := ⟨h.ta, h.sa, h.nt, h.ns, fun i h1 h2 => h.ap i h2 h1, h.bl⟩
theorem T2.turn (h : T2 w W s t k size slide a fp fq M N) (hs : SA W' s k size slide a fp' M') (hf : FT fp fp' W W') : T2 w W' s t k size slide a fp' fq M' N := by
  have hz := h.bl.size
  have hap : ∀ i, fq i → ¬ fp i := fun i h1 h2 => h.ap i h2 h1
  exact ⟨hs, h.ta.beside hf hap, fun i hi => by
    rcases hf.sub i hi with e | e
    · exact h.ns i e
    · omega, h.nt, fun i h1 h2 => hf.apart h.ta.flt hap i h2 h1, h.bl.trans (hf.below hz h.ns)⟩
theorem T2.turn2 {N' : List Pn} {fq' : Nat → Prop} (h : T2 w W s t k size slide a fp fq M N) (hs : SA W' t k size slide a fq' N') (hf : FT fq fq' W W') : T2 w W' s t k size slide a fp fq' M N' := (h.swap.turn hs hf).swap
theorem T2.grow (h : T2 w W s t k size slide a fp fq M N) (hb : Below W.heap.size W W') : T2 w W' s t k size slide a fp fq M N :=
  ⟨h.sa.below hb, h.ta.below hb, h.ns, h.nt, h.ap, h.bl.trans (hb.mono h.bl.size)⟩
theorem SA.grown {W W' : World} {s : Nat} {k size slide a : Int} {fp : Nat → Prop} {M : List Pn} {r : Option Nat} (h : SA W s k size slide a fp M) (hg : W.grownBy W' r) (hn : ∀ g, r = some g → ¬ fp g) : SA W' s k size slide a fp M :=
  h.back (fun i hi => hg.block i (h.flt i hi) (fun e => hn i e.symm hi)) hg.size
theorem T2.grown {r : Option Nat} (h : T2 w W s t k size slide a fp fq M N) (hg : W.grownBy W' r) (hn : ∀ g, r = some g → ¬ fp g ∧ ¬ fq g) (hb : ∀ g, r = some g → w.heap.size ≤ g) : T2 w W' s t k size slide a fp fq M N :=
  ⟨h.sa.grown hg (fun g e => (hn g e).1), h.ta.grown hg (fun g e => (hn g e).2), h.ns, h.nt, h.ap, h.bl.grown hg h.bl.size hb⟩
end
theorem put_ok {W : World} {s : Nat} {k size slide a : Int} {fp : Nat → Prop} {M L : List Pn} (h : SA W s k size slide a fp M) (hw : FitS k size slide a) (hs : In64 size) (hsl : In64 slide) (rk rt rv : Int) (hrk : In64 rk) (hrv : In64 rv) (ht : TimeOk rt) (hM : M.length ≤ 90000) (hc : Comes (sess k) (jn a) L M) :
    Calls Tryz.prog 10 #[.pointer (some ⟨s, 0, none⟩), .agg #[.int .i64 rk, .int .i64 rt, .int .i64 rv]] W fun e w' => e = .returned (.tuple #[]) ∧ ∃ fp' M', SA w' s k size slide a fp' M' ∧ FT fp fp' W w' ∧ Comes (sess k) (jn a) (L ++ frS k size slide a ⟨rk, rt, rv⟩) M' := by
  refine (Put_any h hs hsl ⟨rk, rt, rv⟩ hrk hrv (sps_fit hw ht) hM hc.2).mono ?_
  rintro e w' ⟨rfl, fp', M', h1, h2, h3⟩
  exact ⟨rfl, fp', M', h1, h2, (Comes.step hc h3).perm List.perm_append_comm (.refl _)⟩
theorem fire_ok {W : World} {s : Nat} {k size slide a : Int} {fp : Nat → Prop} {M : List Pn} (h : SA W s k size slide a fp M) (mk : Int) (hk : k ≠ 0) (hM : M.length ≤ 90000) :
    Calls Tryz.prog 14 #[.pointer (some ⟨s, 0, none⟩), .int .i64 mk] W fun e w' => ∃ u fp', e = .returned u ∧ OwnL 39 3 Rc.cs W.heap.size w' u (outF mk (srt (M.filter (ovr mk)))) ∧ SA w' s k size slide a fp' (leftF mk M) ∧ FT fp fp' W w' := by
  obtain ⟨m, o, fq, R, hst, hf⟩ := h
  refine (Fire_win hst mk hk hM).mono ?_
  rintro e w' ⟨u, E, rfl, h1, h2, h3⟩
  exact ⟨u, FP s m fq, rfl, h1, ⟨m, o, fq, E, h2, fun _ => Iff.rfl⟩, h3.congr hf (fun _ => Iff.rfl)⟩
theorem next_no {W : World} {s : Nat} {k size slide a : Int} {fp : Nat → Prop} (h : SA W s k size slide a fp []) : Calls Tryz.prog 24 #[.pointer (some ⟨s, 0, none⟩)] W fun e w' => e = .returned (.tuple #[.int .i64 0, .bool false]) ∧ Below W.heap.size W w' := Next_any h
theorem next_yes {W : World} {s : Nat} {k size slide a : Int} {fp : Nat → Prop} {M : List Pn} (h : SA W s k size slide a fp M) (hM : M ≠ []) : Calls Tryz.prog 24 #[.pointer (some ⟨s, 0, none⟩)] W fun e w' => e = .returned (.tuple #[.int .i64 (nextP M), .bool true]) ∧ Below W.heap.size W w' := by
  have h1 := Next_any h
  rw [if_neg hM, decide_eq_true hM] at h1
  exact h1
theorem len_nil {W : World} {s : Nat} {k size slide a : Int} {fp : Nat → Prop} (h : SA W s k size slide a fp []) : Calls Tryz.prog 21 #[.pointer (some ⟨s, 0, none⟩)] W fun e w' => e = .returned (.int .i64 0) ∧ w' = W := Len_any h
theorem panes_nil {W : World} {s : Nat} {k size slide a : Int} {fp : Nat → Prop} (h : SA W s k size slide a fp []) : Calls Tryz.prog 16 #[.pointer (some ⟨s, 0, none⟩)] W fun e w' => ∃ ua uc, e = .returned (.slice ua 0 uc) ∧ Below W.heap.size W w' := by
  refine (Panes_any h (by simp)).mono ?_
  rintro e w' ⟨u, rfl, h1, h2⟩
  obtain ⟨ua, uc, rfl⟩ := h1.shape
  exact ⟨ua, uc, rfl, h2⟩
end Go.Proofs.YtdoldohcimbdaaaGreat
