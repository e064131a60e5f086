/-
  States side by side; panes shared out by the parts of their keys (pure side of StateSplits).
-/
import Derived.Test.YtdoldohcimbdaaaSSpl
namespace Go.Proofs.Ytdoldohcimbdaaa
open Go.RowKit

theorem Red.filter {s : Bool} {J : Int → Int → Int} {P : Pn → Bool} (hP : ∀ x y : Pn, x.k = y.k → P x = P y) {l m : List Pn} (h : Red s J l m) : Reds s J (l.filter P) (m.filter P) := by
  obtain ⟨x, y, r, h1, h2, h3⟩ := h
  have e1 := hP x y h1.1
  have e2 : P (jp J x y) = P x := hP _ x rfl
  have h2' := h2.filter P
  have h3' := h3.filter P
  by_cases hx : P x = true
  · rw [List.filter_cons_of_pos hx, List.filter_cons_of_pos (e1 ▸ hx)] at h2'
    rw [List.filter_cons_of_pos (e2.trans hx)] at h3'
    exact .one ⟨x, y, _, h1, h2', h3'⟩
  · rw [List.filter_cons_of_neg hx, List.filter_cons_of_neg (e1 ▸ hx)] at h2'
    rw [List.filter_cons_of_neg (by rw [e2]; exact hx)] at h3'
    exact .of_perm (h2'.trans h3'.symm)
theorem Reds.filter {s : Bool} {J : Int → Int → Int} {P : Pn → Bool} (hP : ∀ x y : Pn, x.k = y.k → P x = P y) {l m : List Pn} (h : Reds s J l m) : Reds s J (l.filter P) (m.filter P) := by
  obtain ⟨n, h⟩ := h
  induction n generalizing l with
  | zero => exact .of_perm (List.Perm.filter P h)
  | succ n ih =>
    obtain ⟨q, h1, h2⟩ := h
    exact (h1.filter hP).trans (ih h2)
theorem Comes.filter {s : Bool} {J : Int → Int → Int} {P : Pn → Bool} (hP : ∀ x y : Pn, x.k = y.k → P x = P y) {l m : List Pn} (h : Comes s J l m) : Comes s J (l.filter P) (m.filter P) :=
  ⟨h.1.filter hP, List.Pairwise.filter _ h.2⟩
/-- Whether a pane is part j's. -/
def inP (par : Nat) (j : Nat) (x : Pn) : Bool := decide (prt (grp x.k) (par : Int) = (j : Int))
theorem inP_key (par j : Nat) : ∀ x y : Pn, x.k = y.k → inP par j x = inP par j y := fun x y h => by unfold inP; rw [h]
theorem ptL_get (L : List Pn) {par i j : Nat} (hj : j < par) : (ptL L par i)[j]? = some ((L.take i).filter (inP par j)) := by
  simp [ptL, hj]
  rfl
/-- The panes of the parts ahead of part i. -/
def toP (par i : Nat) (M : List Pn) : List Pn := M.filter fun x => decide (prt (grp x.k) (par : Int) < (i : Int))
theorem toP_zero {par : Nat} (h1 : 1 ≤ par) (h2 : par ≤ 4) (M : List Pn) : toP par 0 M = [] := by
  unfold toP
  rw [List.filter_eq_nil_iff]
  intro x _
  have := (prt_in (grp_lt x.k) h1 h2).1
  simp
  omega
theorem toP_all {par : Nat} (h1 : 1 ≤ par) (h2 : par ≤ 4) (M : List Pn) : toP par par M = M := by
  unfold toP
  rw [List.filter_eq_self]
  intro x _
  have := (prt_in (grp_lt x.k) h1 h2).2
  simp
  omega
theorem toP_step (par i : Nat) (M : List Pn) : (toP par i M ++ M.filter (inP par i)).Perm (toP par (i + 1) M) := by
  have h3 := List.filter_append_perm (fun x : Pn => decide (prt (grp x.k) (par : Int) < (i : Int))) (toP par (i + 1) M)
  unfold toP at h3 ⊢
  rw [List.filter_filter, List.filter_filter] at h3
  refine List.Perm.trans (.of_eq ?_) h3
  congr 1
  · apply List.filter_congr
    intro x _
    by_cases hx : prt (grp x.k) (par : Int) < (i : Int)
    · simp [hx]; omega
    · simp [hx]
  · apply List.filter_congr
    intro x _
    unfold inP
    by_cases hx : prt (grp x.k) (par : Int) = (i : Int)
    · simp [hx]; omega
    · by_cases hy : prt (grp x.k) (par : Int) < (i : Int)
      · simp [hx, hy]
      · simp [hx, hy]; omega
/-- What a mark fires. -/
def frd (k mk : Int) (x : Pn) : Bool := !(decide (k = 0) && !decide (mk = 9223372036854775807)) && ovr mk x
theorem frd_idle {mk : Int} (h : mk ≠ 9223372036854775807) (x : Pn) : frd 0 mk x = false := by simp [frd, h]
theorem frd_last (mk : Int) (h : mk = 9223372036854775807) (k : Int) (x : Pn) : frd k mk x = ovr mk x := by simp [frd, h]
theorem frd_win {k : Int} (h : k ≠ 0) (mk : Int) (x : Pn) : frd k mk x = ovr mk x := by simp [frd, h]
/-- The panes that stay. -/
def sty (k mk : Int) (M : List Pn) : List Pn := M.filter fun x => !frd k mk x
def cnt (k mk : Int) (M : List Pn) : Nat := (M.filter (frd k mk)).length
theorem cnt_perm {k mk : Int} {M N : List Pn} (h : M.Perm N) : cnt k mk M = cnt k mk N := (h.filter _).length_eq
theorem cnt_app (k mk : Int) (M N : List Pn) : cnt k mk (M ++ N) = cnt k mk M + cnt k mk N := by simp [cnt]
theorem sty_perm {k mk : Int} {M N : List Pn} (h : M.Perm N) : (sty k mk M).Perm (sty k mk N) := h.filter _
theorem sty_app (k mk : Int) (M N : List Pn) : sty k mk (M ++ N) = sty k mk M ++ sty k mk N := by simp [sty]
theorem sty_len (k mk : Int) (M : List Pn) : (sty k mk M).length ≤ M.length := List.length_filter_le ..
theorem cnt_le' (k mk : Int) (M : List Pn) : cnt k mk M ≤ M.length := List.length_filter_le ..
theorem filter_len_le {P : Pn → Bool} {M N : List Pn} (h : N.Perm (M.filter P)) : N.length ≤ M.length := by rw [h.length_eq]; exact List.length_filter_le ..
theorem frS_key {k size slide a : Int} {r : Rc} : ∀ x ∈ frS k size slide a r, x.k = r.k := by
  intro x hx
  unfold frS at hx
  obtain ⟨sp, _, rfl⟩ := List.mem_map.1 hx
  rfl
theorem frS_in {k size slide a : Int} {r : Rc} {par q : Nat} (h : prt (grp r.k) (par : Int) = (q : Int)) : (frS k size slide a r).filter (inP par q) = frS k size slide a r := by
  rw [List.filter_eq_self]
  intro x hx
  unfold inP
  rw [frS_key x hx, h]
  simp
theorem frS_out {k size slide a : Int} {r : Rc} {par q j : Nat} (h : prt (grp r.k) (par : Int) = (q : Int)) (hj : q ≠ j) : (frS k size slide a r).filter (inP par j) = [] := by
  rw [List.filter_eq_nil_iff]
  intro x hx
  unfold inP
  rw [frS_key x hx, h]
  simp
  omega
/-- The panes of the groups from the least one on. -/
def upG (M : List Pn) : Nat → List Pn
  | 0 => []
  | j + 1 => upG M j ++ gl M (j : Int)
theorem upG_perm (M : List Pn) : ∀ j, (upG M j).Perm (M.filter fun x => decide (grp x.k < j))
  | 0 => by
    rw [List.filter_eq_nil_iff.2 (fun x _ => by simp)]
    exact .refl _
  | j + 1 => by
    have h1 := upG_perm M j
    have h2 : (gl M (j : Int)).Perm (M.filter fun x => decide ((grp x.k : Int) = (j : Int))) := srt_perm _
    refine (h1.append h2).trans ?_
    have h3 := List.filter_append_perm (fun x : Pn => decide (grp x.k < j)) (M.filter fun x => decide (grp x.k < j + 1))
    rw [List.filter_filter, List.filter_filter] at h3
    have e1 : (M.filter fun x => decide (grp x.k < j) && decide (grp x.k < j + 1)) = M.filter fun x => decide (grp x.k < j) := by
      apply List.filter_congr
      intro x _
      by_cases hx : grp x.k < j
      · simp [hx]; omega
      · simp [hx]
    have e2 : (M.filter fun x => (!decide (grp x.k < j)) && decide (grp x.k < j + 1)) = M.filter fun x => decide ((grp x.k : Int) = (j : Int)) := by
      apply List.filter_congr
      intro x _
      by_cases hx : (grp x.k : Int) = (j : Int)
      · rw [decide_eq_true hx, decide_eq_false (by omega), decide_eq_true (by omega)]; rfl
      · rw [decide_eq_false hx]
        by_cases hy : grp x.k < j
        · rw [decide_eq_true hy]; rfl
        · rw [decide_eq_false (show ¬ grp x.k < j + 1 by omega)]; simp
    rw [e1, e2] at h3
    exact h3
theorem upG_all (M : List Pn) : (upG M 16).Perm M := by
  have h := upG_perm M 16
  rwa [List.filter_eq_self.2 (fun x _ => by have := grp_lt x.k; simp; omega)] at h
theorem upG_len (M : List Pn) (j : Nat) : (upG M j).length ≤ M.length := by
  rw [(upG_perm M j).length_eq]; exact List.length_filter_le ..

/-- A state in a list of states. -/
structure Stt where
  s : Nat
  fp : Nat → Prop
  M : List Pn
structure Sts (w W : World) (k size slide a : Int) (L : List Stt) : Prop where
  sa : ∀ x ∈ L, SA W x.s k size slide a x.fp x.M
  nw : ∀ x ∈ L, ∀ i, x.fp i → w.heap.size + 1 ≤ i
  ap : L.Pairwise fun x y => ∀ i, x.fp i → ¬ y.fp i
  bl : Below w.heap.size w W
  bx : BoxT 23 W w.heap.size #[.int .i64 k, .int .i64 size, .int .i64 slide]
/-- A block that no state has. -/
def Kp (W : World) (L : List Stt) (g : Nat) : Prop := g < W.heap.size ∧ ∀ x ∈ L, ¬ x.fp g
section
variable {w W W' : World} {k size slide a : Int} {L : List Stt}
theorem Sts.grow (h : Sts w W k size slide a L) (hb : Below W.heap.size W W') : Sts w W' k size slide a L :=
  ⟨fun x hx => (h.sa x hx).below hb, h.nw, h.ap, h.bl.trans (hb.mono h.bl.size), BoxT.below (t := 23) h.bx hb⟩
theorem Kp.grow {g : Nat} (h : Kp W L g) (hb : Below W.heap.size W W') : Kp W' L g := ⟨Nat.lt_of_lt_of_le h.1 hb.size, h.2⟩
theorem Kp.new (h : Sts w W k size slide a L) {g : Nat} (h1 : W.heap.size ≤ g) (h2 : g < W'.heap.size) : Kp W' L g :=
  ⟨h2, fun x hx e => by have := (h.sa x hx).flt g e; omega⟩
theorem Sts.grown {r : Option Nat} (h : Sts w W k size slide a L) (hg : W.grownBy W' r) (hn : ∀ g, r = some g → w.heap.size + 1 ≤ g ∧ Kp W L g) : Sts w W' k size slide a L :=
  ⟨fun x hx => (h.sa x hx).grown hg (fun g e => (hn g e).2.2 x hx), h.nw, h.ap, h.bl.grown hg h.bl.size (fun g e => by have := (hn g e).1; omega), by
    have h1 := h.bx
    have hlt := h.bx.lt
    unfold BoxT at *
    rw [hg.block _ hlt (fun e => by have := (hn _ e.symm).1; omega)]
    exact h1⟩
theorem Kp.grown {r : Option Nat} {g : Nat} (h : Kp W L g) (hg : W.grownBy W' r) : Kp W' L g := ⟨Nat.lt_of_lt_of_le h.1 hg.size, h.2⟩
/-- One state turns. -/
theorem Sts.turn (h : Sts w W k size slide a L) {q : Nat} {x : Stt} (hx : L[q]? = some x) {fp' : Nat → Prop} {M' : List Pn} (hs : SA W' x.s k size slide a fp' M') (hf : FT x.fp fp' W W') : Sts w W' k size slide a (L.set q ⟨x.s, fp', M'⟩) := by
  have hz := h.bl.size
  have hlt := h.bx.lt
  have hxm := List.mem_of_getElem? hx
  have hql := lt_of_get hx
  have hap : ∀ (i j : Nat) (y z : Stt), i < j → L[i]? = some y → L[j]? = some z → ∀ b, y.fp b → ¬ z.fp b := by
    intro i j y z hij hy hz
    have hi := lt_of_get hy
    have hj := lt_of_get hz
    have h1 := List.pairwise_iff_getElem.1 h.ap i j hi hj hij
    rw [List.getElem?_eq_getElem hi] at hy
    rw [List.getElem?_eq_getElem hj] at hz
    cases hy
    cases hz
    exact h1
  have hne : ∀ (j : Nat) (y : Stt), q ≠ j → L[j]? = some y → ∀ b, y.fp b → ¬ x.fp b := by
    intro j y hj hy b h1 h2
    rcases Nat.lt_or_gt_of_ne hj with e | e
    · exact hap q j x y e hx hy b h2 h1
    · exact hap j q y x e hy hx b h1 h2
  have hmem : ∀ y ∈ L.set q ⟨x.s, fp', M'⟩, y = ⟨x.s, fp', M'⟩ ∨ ∃ j, q ≠ j ∧ L[j]? = some y := by
    intro y hy
    obtain ⟨j, hj⟩ := List.mem_iff_getElem?.1 hy
    by_cases e : q = j
    · subst e
      rw [List.getElem?_set_self hql] at hj
      cases hj
      exact .inl rfl
    · rw [List.getElem?_set_ne e] at hj
      exact .inr ⟨j, e, hj⟩
  refine ⟨fun y hy => ?_, fun y hy i hi => ?_, ?_, h.bl.trans (hf.below hz (fun i hi => by have := h.nw x hxm i hi; omega)), ?_⟩
  · rcases hmem y hy with rfl | ⟨j, hj, hy⟩
    · exact hs
    · exact (h.sa y (List.mem_of_getElem? hy)).beside hf (hne j y hj hy)
  · rcases hmem y hy with rfl | ⟨j, hj, hy⟩
    · rcases hf.sub i hi with e | e
      · exact h.nw x hxm i e
      · omega
    · exact h.nw y (List.mem_of_getElem? hy) i hi
  · rw [List.pairwise_iff_getElem]
    intro i j hi hj hij
    rw [List.length_set] at hi hj
    have hgi := List.getElem?_eq_getElem hi
    have hgj := List.getElem?_eq_getElem hj
    rw [List.getElem_set, List.getElem_set]
    by_cases e1 : q = i
    · rw [if_pos e1, if_neg (by omega)]
      intro b h1 h2
      exact hf.apart (h.sa _ (List.getElem_mem hj)).flt (hne j _ (by omega) hgj) b h2 h1
    · rw [if_neg e1]
      by_cases e2 : q = j
      · rw [if_pos e2]
        exact hf.apart (h.sa _ (List.getElem_mem hi)).flt (hne i _ e1 hgi)
      · rw [if_neg e2]
        exact hap i j _ _ hij hgi hgj
  · have := h.bx
    unfold BoxT at *
    rw [hf.block _ hlt (fun e => by have := h.nw x hxm _ e; omega)]
    exact this
theorem Kp.turn {g : Nat} (h : Kp W L g) {q : Nat} {x : Stt} (hx : L[q]? = some x) {fp' : Nat → Prop} {M' : List Pn} (hf : FT x.fp fp' W W') : Kp W' (L.set q ⟨x.s, fp', M'⟩) g ∧ W'.heap[g]? = W.heap[g]? := by
  have hxm := List.mem_of_getElem? hx
  refine ⟨⟨Nat.lt_of_lt_of_le h.1 hf.size, fun y hy e => ?_⟩, hf.block g h.1 (h.2 x hxm)⟩
  rcases List.mem_or_eq_of_mem_set hy with hy | rfl
  · exact h.2 y hy e
  · rcases hf.sub g e with e | e
    · exact h.2 x hxm e
    · have := h.1; omega
/-- One state more. -/
theorem Sts.push (h : Sts w W k size slide a L) {s : Nat} {fp : Nat → Prop} {M : List Pn} (hs : SA W' s k size slide a fp M) (hn : ∀ i, fp i → W.heap.size ≤ i) (hb : Below W.heap.size W W') : Sts w W' k size slide a (L ++ [⟨s, fp, M⟩]) := by
  have h1 := h.grow hb
  have hlt := h.bx.lt
  refine ⟨fun x hx => ?_, fun x hx i hi => ?_, ?_, h1.bl, h1.bx⟩
  · rcases List.mem_append.1 hx with hx | hx
    · exact h1.sa x hx
    · obtain rfl := List.mem_singleton.1 hx; exact hs
  · rcases List.mem_append.1 hx with hx | hx
    · exact h1.nw x hx i hi
    · obtain rfl := List.mem_singleton.1 hx
      have := hn i hi
      omega
  · rw [List.pairwise_append]
    refine ⟨h.ap, List.pairwise_singleton .., fun x hx y hy i h1 h2 => ?_⟩
    obtain rfl := List.mem_singleton.1 hy
    have := (h.sa x hx).flt i h1
    have := hn i h2
    omega
theorem Kp.push {g : Nat} (h : Kp W L g) {s : Nat} {fp : Nat → Prop} {M : List Pn} (hn : ∀ i, fp i → W.heap.size ≤ i) (hb : Below W.heap.size W W') : Kp W' (L ++ [⟨s, fp, M⟩]) g :=
  ⟨Nat.lt_of_lt_of_le h.1 hb.size, fun x hx e => by
    rcases List.mem_append.1 hx with hx | hx
    · exact h.2 x hx e
    · obtain rfl := List.mem_singleton.1 hx
      have := hn g e
      have := h.1
      omega⟩
end
/-- Fire, of whatever window. -/
theorem fire_any {W : World} {s : Nat} {k size slide a : Int} {fp : Nat → Prop} {M : List Pn} (h : SA W s k size slide a fp M) (mk : Int) (hM : M.length ≤ 90000) :
    Calls Try.prog 24 #[.pointer (some ⟨s, 0, none⟩), .int .i64 mk] W fun e w' => ∃ ua uc fp', e = .returned (.slice ua (cnt k mk M) uc) ∧ SA w' s k size slide a fp' (sty k mk M) ∧ FT fp fp' W w' := by
  obtain ⟨m, o, fq, R, hst, hf⟩ := h
  have el : ∀ l : List Pn, (outF mk (srt (l.filter (ovr mk)))).length = (l.filter (ovr mk)).length := fun l => by
    unfold outF
    rw [List.length_map, out_due (.refl _), srt_len]
  by_cases hk : k = 0
  · by_cases hm : mk = 9223372036854775807
    · refine (Fire_red hst mk hk hm hM).mono ?_
      rintro e w' ⟨u, E, rfl, h1, h2, h3⟩
      obtain ⟨ua, uc, rfl⟩ := h1.shape
      rw [List.length_map, el]
      have e1 : cnt k mk M = (M.filter (ovr mk)).length := by unfold cnt; congr 1; exact List.filter_congr fun x _ => frd_last mk hm k x
      have e2 : sty k mk M = leftF mk M := by unfold sty leftF; exact List.filter_congr fun x _ => by rw [frd_last mk hm k x]
      rw [e1, e2]
      exact ⟨ua, uc, FP s m fq, rfl, ⟨m, o, fq, E, h2, fun _ => Iff.rfl⟩, h3.congr hf (fun _ => Iff.rfl)⟩
    · refine (Fire_idle hst mk hk hm).mono ?_
      rintro e w' ⟨rfl, h1⟩
      subst hk
      have e1 : cnt 0 mk M = 0 := by
        unfold cnt
        rw [List.filter_eq_nil_iff.2 (fun x _ => by rw [frd_idle hm x]; simp)]
        rfl
      have e2 : sty 0 mk M = M := by unfold sty; exact List.filter_eq_self.2 fun x _ => by rw [frd_idle hm x]; rfl
      rw [e1, e2]
      have hs : SA W s 0 size slide a fp M := ⟨m, o, fq, R, hst, hf⟩
      exact ⟨none, 0, fp, rfl, hs.below h1, FT.of_below h1⟩
  · refine (Fire_win hst mk hk hM).mono ?_
    rintro e w' ⟨u, E, rfl, h1, h2, h3⟩
    obtain ⟨ua, uc, rfl⟩ := h1.shape
    rw [el]
    have e1 : cnt k mk M = (M.filter (ovr mk)).length := by unfold cnt; congr 1; exact List.filter_congr fun x _ => frd_win hk mk x
    have e2 : sty k mk M = leftF mk M := by unfold sty leftF; exact List.filter_congr fun x _ => by rw [frd_win hk mk x]
    rw [e1, e2]
    exact ⟨ua, uc, FP s m fq, rfl, ⟨m, o, fq, E, h2, fun _ => Iff.rfl⟩, h3.congr hf (fun _ => Iff.rfl)⟩
/-- The states of the parts, beside the one of all: what came into each is what came into all, as far as it is its own. -/
structure TsI (k a : Int) (par : Nat) (A M : List Pn) (T : List Stt) : Prop where
  len : T.length = par
  cm : Comes (sess k) (jn a) A M
  each : ∀ (j : Nat) (x : Stt), T[j]? = some x → Comes (sess k) (jn a) (A.filter (inP par j)) x.M
theorem TsI.start {k a : Int} {par : Nat} {A M : List Pn} {T : List Stt} (hl : T.length = par) (hc : Comes (sess k) (jn a) A M) (he : ∀ (j : Nat) (x : Stt), T[j]? = some x → x.M.Perm ((srt M).filter (inP par j))) : TsI k a par A M T :=
  ⟨hl, hc, fun j x hx => (hc.filter (inP_key par j)).perm (.refl _) (((srt_perm M).filter _).symm.trans (he j x hx).symm)⟩
theorem TsI.perm {k a : Int} {par : Nat} {A M : List Pn} {T : List Stt} (h : TsI k a par A M T) {j : Nat} {x : Stt} (hx : T[j]? = some x) : x.M.Perm (M.filter (inP par j)) :=
  Comes.unique (jn_comm a) (jn_assoc a) (h.each j x hx) (h.cm.filter (inP_key par j))
theorem TsI.put {k size slide a : Int} {par q : Nat} {A M M' N' : List Pn} {T : List Stt} {r : Rc} (h : TsI k a par A M T) (hc : Comes (sess k) (jn a) (A ++ frS k size slide a r) M') (hq : prt (grp r.k) (par : Int) = (q : Int)) (hN : Comes (sess k) (jn a) (A.filter (inP par q) ++ frS k size slide a r) N') (s : Nat) (fp : Nat → Prop) :
    TsI k a par (A ++ frS k size slide a r) M' (T.set q ⟨s, fp, N'⟩) := by
  refine ⟨by rw [List.length_set]; exact h.len, hc, fun j x hx => ?_⟩
  rw [List.filter_append]
  by_cases e : q = j
  · subst e
    have hql : q < T.length := by have := lt_of_get hx; rwa [List.length_set] at this
    rw [List.getElem?_set_self hql] at hx
    cases hx
    rw [frS_in hq]
    exact hN
  · rw [List.getElem?_set_ne e] at hx
    rw [frS_out hq e, List.append_nil]
    exact h.each j x hx
theorem TsI.le {k a : Int} {par : Nat} {A M : List Pn} {T : List Stt} (h : TsI k a par A M T) : M.length ≤ A.length ∧ ∀ (j : Nat) (x : Stt), T[j]? = some x → x.M.length ≤ A.length :=
  ⟨h.cm.1.len, fun j x hx => Nat.le_trans (h.each j x hx).1.len (List.length_filter_le ..)⟩
theorem part_loads {k a : Int} {par j : Nat} {M N : List Pn} (hap : Apart (sess k) M) (h : Comes (sess k) (jn a) ((srt M).filter (inP par j)) N) : N.Perm ((srt M).filter (inP par j)) :=
  Comes.unique (jn_comm a) (jn_assoc a) h (Comes.refl (List.Pairwise.filter _ (hap.perm (srt_perm M).symm)))
/-- A pointer to a state. -/
def ptC (s : Nat) : List Value := [.pointer (some ⟨s, 0, none⟩)]
theorem ptC_len (s : Nat) : (ptC s).length = 1 := rfl
theorem ptC_one (s : Nat) : ∀ u ∈ ptC s, u.oneCell' = true := by intro u hu; simp [ptC] at hu; subst hu; rfl
theorem Try.infoPt : (Try.prog.info? 27).map (fun i => (i.zero, i.size, i.bytes)) = some (some (.pointer none), 1, 8) := by kernel_rfl
theorem LSeg.ptr {B : Nat} {w : World} {ao : Option Addr} {n cap : Nat} {xs : List Nat} (h : LSeg 1 ptC B w (.slice ao n cap) xs) {i : Nat} {x : Nat} (hx : xs[i]? = some x) : ∃ b o, ao = some ⟨b, o, none⟩ ∧ b < B ∧ w.cell? ⟨b, o + i, none⟩ = some (.pointer (some ⟨x, 0, none⟩)) := by
  obtain ⟨b, o, e, hb, _, hc⟩ := h.readAt hx
  have h1 := hc 0 (.pointer (some ⟨x, 0, none⟩)) rfl
  rw [Nat.mul_one, Nat.add_zero] at h1
  exact ⟨b, o, e, hb, h1⟩
theorem seg_ptr {w : World} {g t : Nat} (h : BoxT 27 w g #[.pointer (some ⟨t, 0, none⟩)]) : LSeg 1 ptC w.heap.size w (.slice (some ⟨g, 0, none⟩) 1 1) [t] := by
  refine ⟨_, 1, rfl, by simp, .inr ⟨g, 0, rfl, h.lt, fun i y hy j v hv => ?_⟩⟩
  have e0 : i = 0 := by have := lt_of_get hy; simp at this; exact this
  subst e0
  cases hy
  rw [h.cellAt]
  have hj : j < 1 := by have := lt_of_get hv; rwa [ptC_len] at this
  obtain rfl : j = 0 := by omega
  simpa [ptC] using hv
/-- The cells that a record's round reads. -/
def RS (W : World) (nb no : Nat) (rk rt rv : Int) (pb po s : Nat) : Prop := W.cell? ⟨nb, no, none⟩ = some (.int .i64 rk) ∧ W.cell? ⟨nb, no + 1, none⟩ = some (.int .i64 rt) ∧ W.cell? ⟨nb, no + 2, none⟩ = some (.int .i64 rv) ∧ W.cell? ⟨pb, po, none⟩ = some (.pointer (some ⟨s, 0, none⟩))
theorem RGroup_of {key gz : Int} (h : (grp key : Int) = gz) (w : World) : Calls Try.prog 20 #[.int .i64 key] w fun e w' => e = .returned (.int .i64 gz) ∧ w = w' := by
  subst h
  exact RGroup_any w key
theorem RPart_of {key gz par q : Int} (h : (grp key : Int) = gz) (hq : prt (grp key) par = q) (w : World) : Calls Try.prog 19 #[.int .i64 gz, .int .i64 par] w fun e w' => e = .returned (.int .i64 q) ∧ w = w' := by
  subst h
  subst hq
  exact RPart_any w _ par
theorem fire_of {W : World} {s : Nat} {k size slide a : Int} {fp : Nat → Prop} {M : List Pn} (h : SA W s k size slide a fp M) (mk : Int) (hM : M.length ≤ 90000) {c : Nat} (hc : cnt k mk M = c) :
    Calls Try.prog 24 #[.pointer (some ⟨s, 0, none⟩), .int .i64 mk] W fun e w' => ∃ ua uc fp', e = .returned (.slice ua c uc) ∧ SA w' s k size slide a fp' (sty k mk M) ∧ FT fp fp' W w' := by
  subst hc
  exact fire_any h mk hM
theorem cnt_step {k mk : Int} {par n : Nat} {M N : List Pn} (h : N.Perm (M.filter (inP par n))) : cnt k mk (toP par (n + 1) M) = cnt k mk (toP par n M) + cnt k mk N := by
  rw [← cnt_perm (toP_step par n M), cnt_app, cnt_perm h]
theorem sty_step {k mk : Int} {par n : Nat} {M N A : List Pn} (h : N.Perm (M.filter (inP par n))) (hA : A.Perm (sty k mk (toP par n M))) : (A ++ srt (sty k mk N)).Perm (sty k mk (toP par (n + 1) M)) := by
  refine List.Perm.trans ?_ (sty_perm (toP_step par n M))
  rw [sty_app]
  exact hA.append ((srt_perm _).trans (sty_perm h))
theorem map_set_s {T : List Stt} {q : Nat} {x : Stt} (hx : T[q]? = some x) (fp : Nat → Prop) (N : List Pn) : (T.set q ⟨x.s, fp, N⟩).map Stt.s = T.map Stt.s := by
  apply List.ext_getElem?
  intro j
  rw [List.getElem?_map, List.getElem?_map]
  by_cases e : q = j
  · subst e
    rw [List.getElem?_set_self (lt_of_get hx), hx]
    rfl
  · rw [List.getElem?_set_ne e]
end Go.Proofs.Ytdoldohcimbdaaa
