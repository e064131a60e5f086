/-
  Texts in build order: SPyP.
-/
import Derived.Test.YtdoldohcimbdaaaGreatM37
import Derived.Test.YtdoldohcimbdaaaGreatM30
/-
  For StatePlays, plainly: what was written is read as it was; both sides' panes are the same up to their order.
-/
namespace Go.Proofs.YtdoldohcimbdaaaGreat
open Go.RowKit

theorem nOf_app (m : List Nat) : ∀ l : List Nat, nOf (l ++ m) = nOf l * 256 ^ m.length + nOf m := by
  induction m with
  | nil => intro l; simp [nOf]
  | cons x m ih =>
    intro l
    have h1 : l ++ x :: m = (l ++ [x]) ++ m := by simp
    have h2 : x :: m = [x] ++ m := rfl
    rw [h1, ih, nOf_snoc, h2, ih [x]]
    have h3 : nOf [x] = x := by simp [nOf]
    rw [h3, List.length_append, List.length_singleton, Nat.pow_add, Nat.pow_one, Nat.add_mul, Nat.mul_assoc, Nat.add_assoc]
theorem nOf_be (n : Nat) : ∀ k, nOf (be k n) = n % 256 ^ k := by
  intro k
  induction k with
  | zero => simp [be, nOf, Nat.mod_one]
  | succ k ih =>
    have h2 : be (k + 1) n = [n / 2 ^ (8 * k) % 256] ++ be k n := rfl
    have h3 : nOf [n / 2 ^ (8 * k) % 256] = n / 2 ^ (8 * k) % 256 := by simp [nOf]
    rw [h2, nOf_app, h3, ih, be_length, Nat.pow_mul, show (2 : Nat) ^ 8 = 256 by decide, Nat.pow_succ, Nat.mod_mul, Nat.mul_comm, Nat.add_comm]
theorem sbe_back {y : Int} (h : In64 y) : wrap64 (nOf (sbe y) : Int) = y := by
  unfold sbe
  rw [nOf_be, show (256 : Nat) ^ 8 = 18446744073709551616 by decide, IntKind.wrap_u64]
  unfold In64 at h
  unfold wrap64
  omega
theorem take8 (y : Int) (r : List Nat) : (sbe y ++ r).take 8 = sbe y := List.take_left' (sbe_len y)
theorem drop8 (y : Int) (r : List Nat) : (sbe y ++ r).drop 8 = r := List.drop_left' (sbe_len y)
theorem pOf_wb {x : Pn} (h : PnOk x) (r : List Nat) : pOf (wb x ++ r) = x := by
  have e : wb x ++ r = sbe x.k ++ (sbe x.f ++ (sbe x.t ++ (sbe x.a ++ r))) := by simp [wb]
  have d2 : ∀ l : List Nat, l.drop 16 = (l.drop 8).drop 8 := fun l => by rw [List.drop_drop]
  have d3 : ∀ l : List Nat, l.drop 24 = ((l.drop 8).drop 8).drop 8 := fun l => by rw [List.drop_drop, List.drop_drop]
  unfold pOf g8
  rw [e]
  simp only [Nat.zero_mul, List.drop_zero, Nat.one_mul, show 2 * 8 = 16 from rfl, show 3 * 8 = 24 from rfl]
  rw [d2, d3, drop8, drop8, drop8, take8, take8, take8, take8, sbe_back h.k, sbe_back h.f, sbe_back h.t, sbe_back h.a]
theorem flat_drop : ∀ (i : Nat) (L : List Pn), (L.flatMap wb).drop (i * 32) = (L.drop i).flatMap wb := by
  intro i
  induction i with
  | zero => intro L; simp
  | succ i ih =>
    intro L
    cases L with
    | nil => simp
    | cons x L =>
      rw [List.flatMap_cons, Nat.succ_mul, Nat.add_comm, ← List.drop_drop, List.drop_left' (wb_len x), ih, List.drop_succ_cons]
theorem rd_wr {L : List Pn} (h : ∀ x ∈ L, PnOk x) (hn : L.length ≤ 100000) : rdOk (wrB L) ∧ rdP (wrB L) = L := by
  have h4 : (wrB L).take 4 = be 4 L.length := List.take_left' (be_length 4 _)
  have hd : (wrB L).drop 4 = L.flatMap wb := List.drop_left' (be_length 4 _)
  have hN : rdN (wrB L) = L.length := by
    unfold rdN
    rw [h4, nOf_be, show (256 : Nat) ^ 4 = 4294967296 by decide]
    omega
  refine ⟨⟨by rw [wrB_len]; omega, by rw [wrB_len, hN]; omega⟩, ?_⟩
  apply List.ext_getElem?
  intro i
  unfold rdP
  rw [hN, hd, List.getElem?_map]
  by_cases hi : i < L.length
  · rw [List.getElem?_range hi, List.getElem?_eq_getElem hi, Option.map_some, flat_drop, List.drop_eq_getElem_cons hi, List.flatMap_cons, pOf_wb (h _ (List.getElem_mem hi))]
  · rw [List.getElem?_eq_none (by simpa using hi), List.getElem?_eq_none (by omega)]
    rfl
theorem cu {s : Bool} {a : Int} {L A B : List Pn} (h : Comes s (jn a) L A) (h' : Comes s (jn a) L B) : A.Perm B := Comes.unique (jn_comm a) (jn_assoc a) h h'
theorem cu_self {s : Bool} {a : Int} {L A : List Pn} (hl : Apart s L) (h : Comes s (jn a) L A) : L.Perm A := cu (Comes.refl hl) h
/-- How panes of a state of kind k are. -/
def Gd (k : Int) (p : Pn) : Prop := (k = 0 → p.f = -9223372036854775808 ∧ p.t = 2199023255553) ∧ (k = 3 → p.f < p.t)
theorem Gd.jp {k : Int} {J : Int → Int → Int} {x y : Pn} (hm : mt (sess k) x y) (hx : Gd k x) (hy : Gd k y) : Gd k (YtdoldohcimbdaaaGreat.jp J x y) := by
  refine ⟨fun h0 => ?_, fun h3 => jp_full hm (hx.2 h3) (hy.2 h3)⟩
  obtain ⟨a, b⟩ := hx.1 h0
  obtain ⟨c, d⟩ := hy.1 h0
  unfold YtdoldohcimbdaaaGreat.jp
  simp only
  rw [a, b, c, d]
  exact ⟨by omega, by omega⟩
theorem frS_gd {k size slide a : Int} (hw : FitS k size slide a) {r : Rc} (ht : TimeOk r.t) : ∀ p ∈ frS k size slide a r, Gd k p := by
  intro p hp
  unfold frS at hp
  obtain ⟨sp, hsp, rfl⟩ := List.mem_map.1 hp
  refine ⟨fun h0 => ?_, fun h3 => ?_⟩
  · unfold sps at hsp
    rw [if_pos h0] at hsp
    obtain rfl : sp = _ := by simpa using hsp
    exact ⟨rfl, rfl⟩
  · exact (sps_fit hw ht sp hsp).2.2 h3
/-- The panes of both sides behind i steps. -/
structure Pp (k : Int) (M l : List Pn) (i : Nat) : Prop where
  pm : M.Perm l
  ap : Apart (sess k) M
  gd : ∀ x ∈ M, Gd k x
  ln : M.length ≤ 64 * i
theorem Pp.next {k : Int} {M l : List Pn} {i : Nat} (h : Pp k M l i) : Pp k M l (i + 1) := ⟨h.pm, h.ap, h.gd, by have := h.ln; omega⟩
theorem Pp.put {k size slide a : Int} (hw : FitS k size slide a) {r : Rc} (ht : TimeOk r.t) {M l M' l' : List Pn} {i : Nat} (h : Pp k M l i) (h1 : Comes (sess k) (jn a) (frS k size slide a r ++ M) M') (h2 : Comes (sess k) (jn a) (frS k size slide a r ++ l) l') : Pp k M' l' (i + 1) := by
  refine ⟨cu (h1.perm (h.pm.append_left _) (.refl _)) h2, h1.2, ?_, ?_⟩
  · refine Reds.keeps (P := Gd k) (fun x y hm hx hy => Gd.jp hm hx hy) h1.1 (fun x hx => ?_)
    rcases List.mem_append.1 hx with hx | hx
    · exact frS_gd hw ht x hx
    · exact h.gd x hx
  · have e1 := h1.1.len
    rw [List.length_append] at e1
    have e2 := frS_len k size slide a r
    have := h.ln
    omega
theorem Pp.fire {k : Int} {M l : List Pn} {i : Nat} (h : Pp k M l i) (mk : Int) : Pp k (leftF mk M) (leftF mk (srt l)) (i + 1) := by
  refine ⟨(h.pm.trans (srt_perm l).symm).filter _, List.Pairwise.filter _ h.ap, fun x hx => h.gd x ((List.mem_filter.1 hx).1), ?_⟩
  have e1 := left_len mk M
  have := h.ln
  omega
theorem Pp.swap {k : Int} {M N l : List Pn} {i : Nat} (h : Pp k M l i) (hp : M.Perm N) : Pp k N l (i + 1) :=
  ⟨hp.symm.trans h.pm, h.ap.perm hp, fun x hx => h.gd x (hp.mem_iff.2 hx), by rw [← hp.length_eq]; have := h.ln; omega⟩
theorem Pp.srt {k : Int} {M l : List Pn} {i : Nat} (h : Pp k M l i) : YtdoldohcimbdaaaGreat.srt l = YtdoldohcimbdaaaGreat.srt M := srt_eq h.pm.symm
theorem Pp.out {k : Int} {M l : List Pn} {i : Nat} (h : Pp k M l i) (mk : Int) : outF mk (YtdoldohcimbdaaaGreat.srt (M.filter (ovr mk))) = outF mk (YtdoldohcimbdaaaGreat.srt l) := by
  unfold outF
  rw [out_due (.refl _), h.srt]
  congr 1
  exact (srt_of ((srt_perm M).filter _) (List.Pairwise.filter _ (srt_rising M))).symm
theorem Pp.outR {M l : List Pn} {i : Nat} (h : Pp 0 M l i) (mk : Int) : (outF mk (YtdoldohcimbdaaaGreat.srt (M.filter (ovr mk)))).map eT = outF mk (YtdoldohcimbdaaaGreat.srt l) := by
  rw [h.out, h.srt]
  unfold outF
  rw [List.map_map]
  refine List.map_congr_left (fun x hx => ?_)
  have hm : x ∈ M := (srt_perm M).mem_iff.1 ((List.mem_filter.1 hx).1)
  have := (h.gd x hm).1 rfl
  unfold rcOf eT
  simp only [Function.comp]
  rw [this.2, show wrap64 (2199023255553 - 1) = 2199023255552 by unfold wrap64; omega]
theorem be_lt (n : Nat) : ∀ k, ∀ x ∈ be k n, x < 256 := by
  intro k
  induction k with
  | zero => intro x hx; cases hx
  | succ k ih =>
    intro x hx
    rcases List.mem_cons.1 hx with rfl | hx
    · exact Nat.mod_lt _ (by decide)
    · exact ih x hx
theorem wrB_lt (L : List Pn) : ∀ x ∈ wrB L, x < 256 := by
  intro x hx
  rcases List.mem_append.1 hx with hx | hx
  · exact be_lt _ _ x hx
  · obtain ⟨p, _, hp⟩ := List.mem_flatMap.1 hx
    unfold wb sbe at hp
    simp only [List.mem_append] at hp
    rcases hp with ((hp | hp) | hp) | hp <;> exact be_lt _ _ x hp
theorem ByS.of_own {base : Nat} {w : World} {v : Value} {l : List Nat} (h : OwnL 5 1 u8cs base w v l) (hb : ∀ x ∈ l, x < 256) (hne : l ≠ []) : ByS w v l := by
  rcases h.2 with ⟨_, e⟩ | ⟨g, cap, cur, rfl, h2, h3, h4, h5, h6, h7⟩
  · exact absurd (List.length_eq_zero_iff.1 e) hne
  · refine ⟨_, cap, rfl, .inr ⟨g, 0, rfl, (Array.getElem?_eq_some_iff.1 h3).1, h4, by unfold maxLen at h5; omega, hb, fun i x hx => ?_⟩⟩
    have hbx : BoxT 5 w g cur := h3
    have h8 := flat_get u8cs_len l i 0 x (.int .u8 (x : Int)) hx rfl
    rw [← h7, List.getElem?_take] at h8
    split at h8
    · rw [Nat.mul_one, Nat.add_zero] at h8
      rw [hbx.cellAt, Nat.zero_add]
      simpa using h8
    · cases h8
end Go.Proofs.YtdoldohcimbdaaaGreat
