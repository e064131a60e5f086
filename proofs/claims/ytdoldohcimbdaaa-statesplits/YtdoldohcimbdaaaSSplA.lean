/-
  Split: the parts as they lie, its walk; states side by side.
-/
import Derived.Test.YtdoldohcimbdaaaSGrpP
namespace Go.Proofs.Ytdoldohcimbdaaa
open Go.RowKit

/-- The parts as they lie: the row of slices at G, each slice a row of its own, no two in one block. -/
structure Pts (base : Nat) (W : World) (G : Nat) (vs : List Value) (ls : List (List Pn)) : Prop where
  row : BoxT 44 W G vs.toArray
  len : vs.length = ls.length
  each : ∀ (j : Nat) (v : Value) (l : List Pn), vs[j]? = some v → ls[j]? = some l → OwnL 43 4 Pn.cs base W v l
  apart : ∀ (i j : Nat) (u v : Value) (g : Nat), i ≠ j → vs[i]? = some u → vs[j]? = some v → u.ownBlock = some g → v.ownBlock ≠ some g
  no : ∀ (j : Nat) (v : Value), vs[j]? = some v → v.ownBlock ≠ some G
theorem Pts.lt {base : Nat} {W : World} {G : Nat} {vs : List Value} {ls : List (List Pn)} (h : Pts base W G vs ls) {j : Nat} {v : Value} (hv : vs[j]? = some v) {g : Nat} (hg : v.ownBlock = some g) : g < W.heap.size := by
  obtain ⟨l, hl⟩ := get_of_lt (l := ls) (i := j) (by rw [← h.len]; exact lt_of_get hv)
  exact (h.each j v l hv hl).lt g hg
theorem Pts.below {base : Nat} {W W' : World} {G : Nat} {vs : List Value} {ls : List (List Pn)} (h : Pts base W G vs ls) (hb : Below W.heap.size W W') : Pts base W' G vs ls :=
  ⟨BoxT.below (t := 44) h.row hb, h.len, fun j v l hv hl => (h.each j v l hv hl).below hb, h.apart, h.no⟩
/-- One pane more in one part. -/
theorem Pts.push {base : Nat} {W W1 : World} {G : Nat} {vs : List Value} {ls : List (List Pn)} (h : Pts base W G vs ls) {q n : Nat} {v v' : Value} {l l' : List Pn} (hv : vs[q]? = some v) (hl : ls[q]? = some l) (ho : OwnL 43 4 Pn.cs base W1 v' l') (hg : W.grownBy W1 v.ownBlock) (hk : v'.ownBlock = v.ownBlock ∨ v'.ownBlock = some n) (hn : W.heap.size ≤ n) :
    Pts base (W1.setCell ⟨G, q, none⟩ v') G (vs.set q v') (ls.set q l') := by
  have hG := h.row.lt
  have hql := lt_of_get hv
  have hqm := lt_of_get hl
  have nG : v'.ownBlock ≠ some G := fun e => by
    rcases hk with hk | hk
    · exact h.no q v hv (hk ▸ e)
    · rw [hk] at e; cases e; omega
  have hr1 : BoxT 44 W1 G vs.toArray := by
    have h1 := h.row
    unfold BoxT at *
    rw [hg.block G hG (fun e => h.no q v hv e.symm)]
    exact h1
  have keep : ∀ {u : Value} {m : List Pn}, OwnL 43 4 Pn.cs base W1 u m → u.ownBlock ≠ some G → OwnL 43 4 Pn.cs base (W1.setCell ⟨G, q, none⟩ v') u m := fun {u m} hu hne =>
    hu.back (fun g e => Below.heap_setCell W1 ⟨G, q, none⟩ v' g (fun e2 => hne (by rw [e, e2])))
  have ap : ∀ (j : Nat) (u : Value) (g : Nat), q ≠ j → vs[j]? = some u → u.ownBlock = some g → v'.ownBlock ≠ some g := fun j u g hj hu e e2 => by
    rcases hk with hk | hk
    · exact h.apart q j v u g hj hv hu (hk ▸ e2) e
    · rw [hk] at e2
      cases e2
      have := h.lt hu e
      omega
  refine ⟨?_, by rw [List.length_set, List.length_set]; exact h.len, fun j u m hu hm => ?_, fun i j u u' g hij hu hu' e => ?_, fun j u hu => ?_⟩
  · have h2 := BoxT.set (t := 44) hr1 q v'
    rw [List.setIfInBounds_toArray] at h2
    exact h2
  · by_cases e : q = j
    · subst e
      rw [List.getElem?_set_self hql] at hu
      rw [List.getElem?_set_self hqm] at hm
      cases hu
      cases hm
      exact keep ho nG
    · rw [List.getElem?_set_ne e] at hu hm
      refine keep ((h.each j u m hu hm).back (fun g e2 => hg.block g (h.lt hu e2) (fun e3 => ?_))) (h.no j u hu)
      exact h.apart q j v u g e hv hu e3.symm e2
  · by_cases e1 : q = i
    · subst e1
      rw [List.getElem?_set_self hql] at hu
      cases hu
      rw [List.getElem?_set_ne hij] at hu'
      exact fun e3 => ap j u' g hij hu' e3 e
    · rw [List.getElem?_set_ne e1] at hu
      by_cases e2 : q = j
      · subst e2
        rw [List.getElem?_set_self hql] at hu'
        cases hu'
        exact ap i u g e1 hu e
      · rw [List.getElem?_set_ne e2] at hu'
        exact h.apart i j u u' g hij hu hu' e
  · by_cases e : q = j
    · subst e
      rw [List.getElem?_set_self hql] at hu
      cases hu
      exact nG
    · rw [List.getElem?_set_ne e] at hu
      exact h.no j u hu
end Go.Proofs.Ytdoldohcimbdaaa
namespace Go.Proofs.Ytdoldohcimbdaaa
open Go.RowKit

theorem wp_segL {α : Type} {t sl sz by_ : Nat} {z : Value} {cs : α → List Value} (hinfo : (Try.prog.info? t).map (fun i => (i.zero, i.size, i.bytes)) = some (some z, sz, by_)) (hund : Try.prog.underlying sl = some (.slice t)) (hz : z.cells.size = sz) (hsz : 0 < sz) (hby : by_ ≤ 100)
    (hcs : ∀ x, (cs x).length = sz) (h1c : ∀ x, ∀ u ∈ cs x, u.oneCell' = true) {w : World} {o : Oper} {a : Act} {K : Act → World → Prop} {Q : Exit → Act → World → Prop} (s x : Operand)
    (ho : o.op = .call { callee := .builtin .append, args := #[s, x], argTypes := #[sl, sl] }) (base : Nat) (v : Value) (xs : List α) (hs : a.eval s = v) (hown : OwnL t sz cs base w v xs)
    (B : Nat) (v2 : Value) (ys : List α) (hx : a.eval x = v2) (hseg : LSeg sz cs B w v2 ys) (hl : xs.length + ys.length ≤ 1000000) (hbase : base ≤ w.heap.size)
    (h : ∀ v' w', OwnL t sz cs base w' v' (xs ++ ys) → w.grownBy w' v.ownBlock → (v'.ownBlock = v.ownBlock ∨ v'.ownBlock = some w.heap.size) → K (a.put o.dst v') w') : Oper.wp Try.prog o a w K Q := by
  obtain ⟨v', w', hr, h2, h3, h4⟩ := run_segL hinfo hund hz hsz hby hcs h1c o.type base hown hseg hl hbase
  unfold Oper.wp execOp
  simp only [ho, resolve, invoke, builtin, Sem.run_bind, Sem.run_pure, Result.andThen_ok, List.map_toArray, List.map_cons, List.map_nil, hs, hx, hr]
  exact h v' w' h2 h3 h4
/-- The parts of the first panes. -/
def ptL (L : List Pn) (par i : Nat) : List (List Pn) := (List.range par).map fun j : Nat => (L.take i).filter fun x => decide (prt (grp x.k) (par : Int) = (j : Int))
theorem ptL_len (L : List Pn) (par i : Nat) : (ptL L par i).length = par := by simp [ptL]
theorem ptL_zero (L : List Pn) (par : Nat) : ptL L par 0 = List.replicate par [] := by
  unfold ptL
  apply List.ext_getElem?
  intro j
  simp [List.getElem?_replicate]
  split <;> simp_all
theorem prt_in {g par : Nat} (hg : g < 16) (h1 : 1 ≤ par) (h2 : par ≤ 4) : 0 ≤ prt (g : Int) (par : Int) ∧ prt (g : Int) (par : Int) < (par : Int) := by
  unfold prt
  rw [if_neg (by omega)]
  have hp : par = 1 ∨ par = 2 ∨ par = 3 ∨ par = 4 := by omega
  rcases hp with rfl | rfl | rfl | rfl <;> omega
theorem ptL_step {L : List Pn} {par i q : Nat} {x : Pn} (hx : L[i]? = some x) (hq : prt (grp x.k) (par : Int) = (q : Int)) (hql : q < par) : ∃ l, (ptL L par i)[q]? = some l ∧ ptL L par (i + 1) = (ptL L par i).set q (l ++ [x]) := by
  refine ⟨(L.take i).filter fun y => decide (prt (grp y.k) (par : Int) = (q : Int)), by simp [ptL, hql], ?_⟩
  apply List.ext_getElem?
  intro j
  have hts := take_snoc hx
  by_cases hj : j < par
  · by_cases e : q = j
    · subst e
      rw [List.getElem?_set_self (by rw [ptL_len]; exact hql)]
      simp [ptL, hj, hts, List.filter_append, hq]
    · rw [List.getElem?_set_ne e]
      have hne : ¬ prt (grp x.k) (par : Int) = (j : Int) := by rw [hq]; omega
      simp [ptL, hj, hts, List.filter_append, hne]
  · rw [List.getElem?_eq_none (by rw [ptL_len]; omega), List.getElem?_eq_none (by rw [List.length_set, ptL_len]; omega)]
theorem Try.infoSl : (Try.prog.info? 44).map (fun i => (i.zero, i.size, i.bytes)) = some (some (.slice none 0 0), 1, 24) := by kernel_rfl
theorem mkSl (w : World) (n : Nat) (hn : n ≤ 1000000) : (Instr.makeSlice 38 (.int .i64 (n : Int)) (.int .i64 (n : Int))).run Try.prog w = .ok (.slice (some ⟨w.heap.size, 0, none⟩) n n) (w.alloc (.cells (List.replicate n (Value.slice none 0 0)).toArray 44)) := by
  obtain ⟨i0, hi, hz0, hz1, hz2⟩ := info_parts Try.infoSl
  have := run_make (P := Try.prog) w 38 44 i0 (.slice none 0 0) (by kernel_rfl) hi hz0 .i64 .i64 (n : Int) (n : Int) (by omega) (Int.le_refl _) (by rw [hz2]; omega) (by omega)
  rw [hz1, Nat.mul_one, Int.toNat_natCast] at this
  have e : madeCells (Value.slice none 0 0).cells n = (List.replicate n (Value.slice none 0 0)).toArray := by
    apply Array.ext
    · simp [size_madeCells]
    · intro i h1 h2
      simp [madeCells, Value.cells, Nat.mod_one]
  rw [e] at this
  exact this
theorem Pts.start {base : Nat} {W : World} {G n : Nat} (h : BoxT 44 W G (List.replicate n (Value.slice none 0 0)).toArray) : Pts base W G (List.replicate n (.slice none 0 0)) (List.replicate n []) := by
  have hv : ∀ (i : Nat) (v : Value), (List.replicate n (Value.slice none 0 0))[i]? = some v → v = .slice none 0 0 := by
    intro i v h
    rw [List.getElem?_replicate] at h
    split at h
    · exact (Option.some.inj h).symm
    · cases h
  refine ⟨h, by simp, fun j v l hj hl => ?_, fun i j u v g _ hu _ e => ?_, fun j v hj e => ?_⟩
  · rw [List.getElem?_replicate] at hl
    split at hl
    · cases hl; rw [hv j v hj]; exact OwnL.nil _ _ _ _ _
    · cases hl
  · rw [hv i u hu] at e; cases e
  · rw [hv j v hj] at e; cases e
theorem Split_no (w : World) (ao : Option Addr) (n cap : Nat) (par : Int) (h : par < 1 ∨ 4 < par) : Calls Try.prog 16 #[.slice ao n cap, .int .i64 par] w fun e w' => e = .returned (.slice none 0 0) ∧ w' = w := by
  by_cases h1 : par < 1
  · go_enter Try.func16, Try.ntmps16
    go_wp2_with fail
    go_ret
    exact ⟨rfl, rfl⟩
  · have h2 : (4 : Int) < par := by omega
    go_enter Try.func16, Try.ntmps16
    go_wp2_with fail
    go_ret
    exact ⟨rfl, rfl⟩
end Go.Proofs.Ytdoldohcimbdaaa
namespace Go.Proofs.Ytdoldohcimbdaaa
open Go.RowKit

theorem Red.filter {s : Bool} {J : Int → Int → Int} {P : Pn → Bool} (hP : ∀ x y : Pn, x.k = y.k → P x = P y) {l m : List Pn} (h : Red s J l m) : Reds s J (l.filter P) (m.filter P) := by
  obtain ⟨x, y, r, h1, h2, h3⟩ := h
  have e1 := hP x y h1.1
  have e2 : P (jp J x y) = P x := hP _ x rfl
  have h2' := h2.filter P
  have h3' := h3.filter P
  by_cases hx : P x = true
  · rw [List.filter_cons_of_pos hx, List.filter_cons_of_pos (e1 ▸ hx)] at h2'
    rw [List.filter_cons_of_pos (e2.trans hx)] at h3'
    exact .one ⟨x, y, _, h1, h2', h3'⟩
  · rw [List.filter_cons_of_neg hx, List.filter_cons_of_neg (e1 ▸ hx)] at h2'
    rw [List.filter_cons_of_neg (by rw [e2]; exact hx)] at h3'
    exact .of_perm (h2'.trans h3'.symm)
theorem Reds.filter {s : Bool} {J : Int → Int → Int} {P : Pn → Bool} (hP : ∀ x y : Pn, x.k = y.k → P x = P y) {l m : List Pn} (h : Reds s J l m) : Reds s J (l.filter P) (m.filter P) := by
  obtain ⟨n, h⟩ := h
  induction n generalizing l with
  | zero => exact .of_perm (List.Perm.filter P h)
  | succ n ih =>
    obtain ⟨q, h1, h2⟩ := h
    exact (h1.filter hP).trans (ih h2)
theorem Comes.filter {s : Bool} {J : Int → Int → Int} {P : Pn → Bool} (hP : ∀ x y : Pn, x.k = y.k → P x = P y) {l m : List Pn} (h : Comes s J l m) : Comes s J (l.filter P) (m.filter P) :=
  ⟨h.1.filter hP, List.Pairwise.filter _ h.2⟩
/-- Whether a pane is part j's. -/
def inP (par : Nat) (j : Nat) (x : Pn) : Bool := decide (prt (grp x.k) (par : Int) = (j : Int))
theorem inP_key (par j : Nat) : ∀ x y : Pn, x.k = y.k → inP par j x = inP par j y := fun x y h => by unfold inP; rw [h]
theorem ptL_get (L : List Pn) {par i j : Nat} (hj : j < par) : (ptL L par i)[j]? = some ((L.take i).filter (inP par j)) := by
  simp [ptL, hj]
  rfl
/-- The panes of the parts ahead of part i. -/
def toP (par i : Nat) (M : List Pn) : List Pn := M.filter fun x => decide (prt (grp x.k) (par : Int) < (i : Int))
theorem toP_zero {par : Nat} (h1 : 1 ≤ par) (h2 : par ≤ 4) (M : List Pn) : toP par 0 M = [] := by
  unfold toP
  rw [List.filter_eq_nil_iff]
  intro x _
  have := (prt_in (grp_lt x.k) h1 h2).1
  simp
  omega
theorem toP_all {par : Nat} (h1 : 1 ≤ par) (h2 : par ≤ 4) (M : List Pn) : toP par par M = M := by
  unfold toP
  rw [List.filter_eq_self]
  intro x _
  have := (prt_in (grp_lt x.k) h1 h2).2
  simp
  omega
theorem toP_step (par i : Nat) (M : List Pn) : (toP par i M ++ M.filter (inP par i)).Perm (toP par (i + 1) M) := by
  have h3 := List.filter_append_perm (fun x : Pn => decide (prt (grp x.k) (par : Int) < (i : Int))) (toP par (i + 1) M)
  unfold toP at h3 ⊢
  rw [List.filter_filter, List.filter_filter] at h3
  refine List.Perm.trans (.of_eq ?_) h3
  congr 1
  · apply List.filter_congr
    intro x _
    by_cases hx : prt (grp x.k) (par : Int) < (i : Int)
    · simp [hx]; omega
    · simp [hx]
  · apply List.filter_congr
    intro x _
    unfold inP
    by_cases hx : prt (grp x.k) (par : Int) = (i : Int)
    · simp [hx]; omega
    · by_cases hy : prt (grp x.k) (par : Int) < (i : Int)
      · simp [hx, hy]
      · simp [hx, hy]; omega
/-- What a mark fires. -/
def frd (k mk : Int) (x : Pn) : Bool := !(decide (k = 0) && !decide (mk = 9223372036854775807)) && ovr mk x
theorem frd_idle {mk : Int} (h : mk ≠ 9223372036854775807) (x : Pn) : frd 0 mk x = false := by simp [frd, h]
theorem frd_last (mk : Int) (h : mk = 9223372036854775807) (k : Int) (x : Pn) : frd k mk x = ovr mk x := by simp [frd, h]
theorem frd_win {k : Int} (h : k ≠ 0) (mk : Int) (x : Pn) : frd k mk x = ovr mk x := by simp [frd, h]
/-- The panes that stay. -/
def sty (k mk : Int) (M : List Pn) : List Pn := M.filter fun x => !frd k mk x
def cnt (k mk : Int) (M : List Pn) : Nat := (M.filter (frd k mk)).length
theorem cnt_perm {k mk : Int} {M N : List Pn} (h : M.Perm N) : cnt k mk M = cnt k mk N := (h.filter _).length_eq
theorem cnt_app (k mk : Int) (M N : List Pn) : cnt k mk (M ++ N) = cnt k mk M + cnt k mk N := by simp [cnt]
theorem sty_perm {k mk : Int} {M N : List Pn} (h : M.Perm N) : (sty k mk M).Perm (sty k mk N) := h.filter _
theorem sty_app (k mk : Int) (M N : List Pn) : sty k mk (M ++ N) = sty k mk M ++ sty k mk N := by simp [sty]
theorem sty_len (k mk : Int) (M : List Pn) : (sty k mk M).length ≤ M.length := List.length_filter_le ..
theorem cnt_le' (k mk : Int) (M : List Pn) : cnt k mk M ≤ M.length := List.length_filter_le ..
theorem filter_len_le {P : Pn → Bool} {M N : List Pn} (h : N.Perm (M.filter P)) : N.length ≤ M.length := by rw [h.length_eq]; exact List.length_filter_le ..
theorem frS_key {k size slide a : Int} {r : Rc} : ∀ x ∈ frS k size slide a r, x.k = r.k := by
  intro x hx
  unfold frS at hx
  obtain ⟨sp, _, rfl⟩ := List.mem_map.1 hx
  rfl
theorem frS_in {k size slide a : Int} {r : Rc} {par q : Nat} (h : prt (grp r.k) (par : Int) = (q : Int)) : (frS k size slide a r).filter (inP par q) = frS k size slide a r := by
  rw [List.filter_eq_self]
  intro x hx
  unfold inP
  rw [frS_key x hx, h]
  simp
theorem frS_out {k size slide a : Int} {r : Rc} {par q j : Nat} (h : prt (grp r.k) (par : Int) = (q : Int)) (hj : q ≠ j) : (frS k size slide a r).filter (inP par j) = [] := by
  rw [List.filter_eq_nil_iff]
  intro x hx
  unfold inP
  rw [frS_key x hx, h]
  simp
  omega
/-- The panes of the groups from the least one on. -/
def upG (M : List Pn) : Nat → List Pn
  | 0 => []
  | j + 1 => upG M j ++ gl M (j : Int)
theorem upG_perm (M : List Pn) : ∀ j, (upG M j).Perm (M.filter fun x => decide (grp x.k < j))
  | 0 => by
    rw [List.filter_eq_nil_iff.2 (fun x _ => by simp)]
    exact .refl _
  | j + 1 => by
    have h1 := upG_perm M j
    have h2 : (gl M (j : Int)).Perm (M.filter fun x => decide ((grp x.k : Int) = (j : Int))) := srt_perm _
    refine (h1.append h2).trans ?_
    have h3 := List.filter_append_perm (fun x : Pn => decide (grp x.k < j)) (M.filter fun x => decide (grp x.k < j + 1))
    rw [List.filter_filter, List.filter_filter] at h3
    have e1 : (M.filter fun x => decide (grp x.k < j) && decide (grp x.k < j + 1)) = M.filter fun x => decide (grp x.k < j) := by
      apply List.filter_congr
      intro x _
      by_cases hx : grp x.k < j
      · simp [hx]; omega
      · simp [hx]
    have e2 : (M.filter fun x => (!decide (grp x.k < j)) && decide (grp x.k < j + 1)) = M.filter fun x => decide ((grp x.k : Int) = (j : Int)) := by
      apply List.filter_congr
      intro x _
      by_cases hx : (grp x.k : Int) = (j : Int)
      · rw [decide_eq_true hx, decide_eq_false (by omega), decide_eq_true (by omega)]; rfl
      · rw [decide_eq_false hx]
        by_cases hy : grp x.k < j
        · rw [decide_eq_true hy]; rfl
        · rw [decide_eq_false (show ¬ grp x.k < j + 1 by omega)]; simp
    rw [e1, e2] at h3
    exact h3
theorem upG_all (M : List Pn) : (upG M 16).Perm M := by
  have h := upG_perm M 16
  rwa [List.filter_eq_self.2 (fun x _ => by have := grp_lt x.k; simp; omega)] at h
theorem upG_len (M : List Pn) (j : Nat) : (upG M j).length ≤ M.length := by
  rw [(upG_perm M j).length_eq]; exact List.length_filter_le ..

/-- A state in a list of states. -/
structure Stt where
  s : Nat
  fp : Nat → Prop
  M : List Pn
structure Sts (w W : World) (k size slide a : Int) (L : List Stt) : Prop where
  sa : ∀ x ∈ L, SA W x.s k size slide a x.fp x.M
  nw : ∀ x ∈ L, ∀ i, x.fp i → w.heap.size + 1 ≤ i
  ap : L.Pairwise fun x y => ∀ i, x.fp i → ¬ y.fp i
  bl : Below w.heap.size w W
  bx : BoxT 23 W w.heap.size #[.int .i64 k, .int .i64 size, .int .i64 slide]
/-- A block that no state has. -/
def Kp (W : World) (L : List Stt) (g : Nat) : Prop := g < W.heap.size ∧ ∀ x ∈ L, ¬ x.fp g
section
variable {w W W' : World} {k size slide a : Int} {L : List Stt}
theorem Sts.grow (h : Sts w W k size slide a L) (hb : Below W.heap.size W W') : Sts w W' k size slide a L :=
  ⟨fun x hx => (h.sa x hx).below hb, h.nw, h.ap, h.bl.trans (hb.mono h.bl.size), BoxT.below (t := 23) h.bx hb⟩
theorem Kp.grow {g : Nat} (h : Kp W L g) (hb : Below W.heap.size W W') : Kp W' L g := ⟨Nat.lt_of_lt_of_le h.1 hb.size, h.2⟩
theorem Kp.new (h : Sts w W k size slide a L) {g : Nat} (h1 : W.heap.size ≤ g) (h2 : g < W'.heap.size) : Kp W' L g :=
  ⟨h2, fun x hx e => by have := (h.sa x hx).flt g e; omega⟩
theorem Sts.grown {r : Option Nat} (h : Sts w W k size slide a L) (hg : W.grownBy W' r) (hn : ∀ g, r = some g → w.heap.size + 1 ≤ g ∧ Kp W L g) : Sts w W' k size slide a L :=
  ⟨fun x hx => (h.sa x hx).grown hg (fun g e => (hn g e).2.2 x hx), h.nw, h.ap, h.bl.grown hg h.bl.size (fun g e => by have := (hn g e).1; omega), by
    have h1 := h.bx
    have hlt := h.bx.lt
    unfold BoxT at *
    rw [hg.block _ hlt (fun e => by have := (hn _ e.symm).1; omega)]
    exact h1⟩
theorem Kp.grown {r : Option Nat} {g : Nat} (h : Kp W L g) (hg : W.grownBy W' r) : Kp W' L g := ⟨Nat.lt_of_lt_of_le h.1 hg.size, h.2⟩
/-- One state turns. -/
theorem Sts.turn (h : Sts w W k size slide a L) {q : Nat} {x : Stt} (hx : L[q]? = some x) {fp' : Nat → Prop} {M' : List Pn} (hs : SA W' x.s k size slide a fp' M') (hf : FT x.fp fp' W W') : Sts w W' k size slide a (L.set q ⟨x.s, fp', M'⟩) := by
  have hz := h.bl.size
  have hlt := h.bx.lt
  have hxm := List.mem_of_getElem? hx
  have hql := lt_of_get hx
  have hap : ∀ (i j : Nat) (y z : Stt), i < j → L[i]? = some y → L[j]? = some z → ∀ b, y.fp b → ¬ z.fp b := by
    intro i j y z hij hy hz
    have hi := lt_of_get hy
    have hj := lt_of_get hz
    have h1 := List.pairwise_iff_getElem.1 h.ap i j hi hj hij
    rw [List.getElem?_eq_getElem hi] at hy
    rw [List.getElem?_eq_getElem hj] at hz
    cases hy
    cases hz
    exact h1
  have hne : ∀ (j : Nat) (y : Stt), q ≠ j → L[j]? = some y → ∀ b, y.fp b → ¬ x.fp b := by
    intro j y hj hy b h1 h2
    rcases Nat.lt_or_gt_of_ne hj with e | e
    · exact hap q j x y e hx hy b h2 h1
    · exact hap j q y x e hy hx b h1 h2
  have hmem : ∀ y ∈ L.set q ⟨x.s, fp', M'⟩, y = ⟨x.s, fp', M'⟩ ∨ ∃ j, q ≠ j ∧ L[j]? = some y := by
    intro y hy
    obtain ⟨j, hj⟩ := List.mem_iff_getElem?.1 hy
    by_cases e : q = j
    · subst e
      rw [List.getElem?_set_self hql] at hj
      cases hj
      exact .inl rfl
    · rw [List.getElem?_set_ne e] at hj
      exact .inr ⟨j, e, hj⟩
  refine ⟨fun y hy => ?_, fun y hy i hi => ?_, ?_, h.bl.trans (hf.below hz (fun i hi => by have := h.nw x hxm i hi; omega)), ?_⟩
  · rcases hmem y hy with rfl | ⟨j, hj, hy⟩
    · exact hs
    · exact (h.sa y (List.mem_of_getElem? hy)).beside hf (hne j y hj hy)
  · rcases hmem y hy with rfl | ⟨j, hj, hy⟩
    · rcases hf.sub i hi with e | e
      · exact h.nw x hxm i e
      · omega
    · exact h.nw y (List.mem_of_getElem? hy) i hi
  · rw [List.pairwise_iff_getElem]
    intro i j hi hj hij
    rw [List.length_set] at hi hj
    have hgi := List.getElem?_eq_getElem hi
    have hgj := List.getElem?_eq_getElem hj
    rw [List.getElem_set, List.getElem_set]
    by_cases e1 : q = i
    · rw [if_pos e1, if_neg (by omega)]
      intro b h1 h2
      exact hf.apart (h.sa _ (List.getElem_mem hj)).flt (hne j _ (by omega) hgj) b h2 h1
    · rw [if_neg e1]
      by_cases e2 : q = j
      · rw [if_pos e2]
        exact hf.apart (h.sa _ (List.getElem_mem hi)).flt (hne i _ e1 hgi)
      · rw [if_neg e2]
        exact hap i j _ _ hij hgi hgj
  · have := h.bx
    unfold BoxT at *
    rw [hf.block _ hlt (fun e => by have := h.nw x hxm _ e; omega)]
    exact this
theorem Kp.turn {g : Nat} (h : Kp W L g) {q : Nat} {x : Stt} (hx : L[q]? = some x) {fp' : Nat → Prop} {M' : List Pn} (hf : FT x.fp fp' W W') : Kp W' (L.set q ⟨x.s, fp', M'⟩) g ∧ W'.heap[g]? = W.heap[g]? := by
  have hxm := List.mem_of_getElem? hx
  refine ⟨⟨Nat.lt_of_lt_of_le h.1 hf.size, fun y hy e => ?_⟩, hf.block g h.1 (h.2 x hxm)⟩
  rcases List.mem_or_eq_of_mem_set hy with hy | rfl
  · exact h.2 y hy e
  · rcases hf.sub g e with e | e
    · exact h.2 x hxm e
    · have := h.1; omega
/-- One state more. -/
theorem Sts.push (h : Sts w W k size slide a L) {s : Nat} {fp : Nat → Prop} {M : List Pn} (hs : SA W' s k size slide a fp M) (hn : ∀ i, fp i → W.heap.size ≤ i) (hb : Below W.heap.size W W') : Sts w W' k size slide a (L ++ [⟨s, fp, M⟩]) := by
  have h1 := h.grow hb
  have hlt := h.bx.lt
  refine ⟨fun x hx => ?_, fun x hx i hi => ?_, ?_, h1.bl, h1.bx⟩
  · rcases List.mem_append.1 hx with hx | hx
    · exact h1.sa x hx
    · obtain rfl := List.mem_singleton.1 hx; exact hs
  · rcases List.mem_append.1 hx with hx | hx
    · exact h1.nw x hx i hi
    · obtain rfl := List.mem_singleton.1 hx
      have := hn i hi
      omega
  · rw [List.pairwise_append]
    refine ⟨h.ap, List.pairwise_singleton .., fun x hx y hy i h1 h2 => ?_⟩
    obtain rfl := List.mem_singleton.1 hy
    have := (h.sa x hx).flt i h1
    have := hn i h2
    omega
theorem Kp.push {g : Nat} (h : Kp W L g) {s : Nat} {fp : Nat → Prop} {M : List Pn} (hn : ∀ i, fp i → W.heap.size ≤ i) (hb : Below W.heap.size W W') : Kp W' (L ++ [⟨s, fp, M⟩]) g :=
  ⟨Nat.lt_of_lt_of_le h.1 hb.size, fun x hx e => by
    rcases List.mem_append.1 hx with hx | hx
    · exact h.2 x hx e
    · obtain rfl := List.mem_singleton.1 hx
      have := hn g e
      have := h.1
      omega⟩
end
/-- Fire, of whatever window. -/
theorem fire_any {W : World} {s : Nat} {k size slide a : Int} {fp : Nat → Prop} {M : List Pn} (h : SA W s k size slide a fp M) (mk : Int) (hM : M.length ≤ 90000) :
    Calls Try.prog 24 #[.pointer (some ⟨s, 0, none⟩), .int .i64 mk] W fun e w' => ∃ ua uc fp', e = .returned (.slice ua (cnt k mk M) uc) ∧ SA w' s k size slide a fp' (sty k mk M) ∧ FT fp fp' W w' := by
  obtain ⟨m, o, fq, R, hst, hf⟩ := h
  have el : ∀ l : List Pn, (outF mk (srt (l.filter (ovr mk)))).length = (l.filter (ovr mk)).length := fun l => by
    unfold outF
    rw [List.length_map, out_due (.refl _), srt_len]
  by_cases hk : k = 0
  · by_cases hm : mk = 9223372036854775807
    · refine (Fire_red hst mk hk hm hM).mono ?_
      rintro e w' ⟨u, E, rfl, h1, h2, h3⟩
      obtain ⟨ua, uc, rfl⟩ := h1.shape
      rw [List.length_map, el]
      have e1 : cnt k mk M = (M.filter (ovr mk)).length := by unfold cnt; congr 1; exact List.filter_congr fun x _ => frd_last mk hm k x
      have e2 : sty k mk M = leftF mk M := by unfold sty leftF; exact List.filter_congr fun x _ => by rw [frd_last mk hm k x]
      rw [e1, e2]
      exact ⟨ua, uc, FP s m fq, rfl, ⟨m, o, fq, E, h2, fun _ => Iff.rfl⟩, h3.congr hf (fun _ => Iff.rfl)⟩
    · refine (Fire_idle hst mk hk hm).mono ?_
      rintro e w' ⟨rfl, h1⟩
      subst hk
      have e1 : cnt 0 mk M = 0 := by
        unfold cnt
        rw [List.filter_eq_nil_iff.2 (fun x _ => by rw [frd_idle hm x]; simp)]
        rfl
      have e2 : sty 0 mk M = M := by unfold sty; exact List.filter_eq_self.2 fun x _ => by rw [frd_idle hm x]; rfl
      rw [e1, e2]
      have hs : SA W s 0 size slide a fp M := ⟨m, o, fq, R, hst, hf⟩
      exact ⟨none, 0, fp, rfl, hs.below h1, FT.of_below h1⟩
  · refine (Fire_win hst mk hk hM).mono ?_
    rintro e w' ⟨u, E, rfl, h1, h2, h3⟩
    obtain ⟨ua, uc, rfl⟩ := h1.shape
    rw [el]
    have e1 : cnt k mk M = (M.filter (ovr mk)).length := by unfold cnt; congr 1; exact List.filter_congr fun x _ => frd_win hk mk x
    have e2 : sty k mk M = leftF mk M := by unfold sty leftF; exact List.filter_congr fun x _ => by rw [frd_win hk mk x]
    rw [e1, e2]
    exact ⟨ua, uc, FP s m fq, rfl, ⟨m, o, fq, E, h2, fun _ => Iff.rfl⟩, h3.congr hf (fun _ => Iff.rfl)⟩
/-- The states of the parts, beside the one of all: what came into each is what came into all, as far as it is its own. -/
structure TsI (k a : Int) (par : Nat) (A M : List Pn) (T : List Stt) : Prop where
  len : T.length = par
  cm : Comes (sess k) (jn a) A M
  each : ∀ (j : Nat) (x : Stt), T[j]? = some x → Comes (sess k) (jn a) (A.filter (inP par j)) x.M
theorem TsI.start {k a : Int} {par : Nat} {A M : List Pn} {T : List Stt} (hl : T.length = par) (hc : Comes (sess k) (jn a) A M) (he : ∀ (j : Nat) (x : Stt), T[j]? = some x → x.M.Perm ((srt M).filter (inP par j))) : TsI k a par A M T :=
  ⟨hl, hc, fun j x hx => (hc.filter (inP_key par j)).perm (.refl _) (((srt_perm M).filter _).symm.trans (he j x hx).symm)⟩
theorem TsI.perm {k a : Int} {par : Nat} {A M : List Pn} {T : List Stt} (h : TsI k a par A M T) {j : Nat} {x : Stt} (hx : T[j]? = some x) : x.M.Perm (M.filter (inP par j)) :=
  Comes.unique (jn_comm a) (jn_assoc a) (h.each j x hx) (h.cm.filter (inP_key par j))
theorem TsI.put {k size slide a : Int} {par q : Nat} {A M M' N' : List Pn} {T : List Stt} {r : Rc} (h : TsI k a par A M T) (hc : Comes (sess k) (jn a) (A ++ frS k size slide a r) M') (hq : prt (grp r.k) (par : Int) = (q : Int)) (hN : Comes (sess k) (jn a) (A.filter (inP par q) ++ frS k size slide a r) N') (s : Nat) (fp : Nat → Prop) :
    TsI k a par (A ++ frS k size slide a r) M' (T.set q ⟨s, fp, N'⟩) := by
  refine ⟨by rw [List.length_set]; exact h.len, hc, fun j x hx => ?_⟩
  rw [List.filter_append]
  by_cases e : q = j
  · subst e
    have hql : q < T.length := by have := lt_of_get hx; rwa [List.length_set] at this
    rw [List.getElem?_set_self hql] at hx
    cases hx
    rw [frS_in hq]
    exact hN
  · rw [List.getElem?_set_ne e] at hx
    rw [frS_out hq e, List.append_nil]
    exact h.each j x hx
theorem TsI.le {k a : Int} {par : Nat} {A M : List Pn} {T : List Stt} (h : TsI k a par A M T) : M.length ≤ A.length ∧ ∀ (j : Nat) (x : Stt), T[j]? = some x → x.M.length ≤ A.length :=
  ⟨h.cm.1.len, fun j x hx => Nat.le_trans (h.each j x hx).1.len (List.length_filter_le ..)⟩
theorem part_loads {k a : Int} {par j : Nat} {M N : List Pn} (hap : Apart (sess k) M) (h : Comes (sess k) (jn a) ((srt M).filter (inP par j)) N) : N.Perm ((srt M).filter (inP par j)) :=
  Comes.unique (jn_comm a) (jn_assoc a) h (Comes.refl (List.Pairwise.filter _ (hap.perm (srt_perm M).symm)))
/-- A pointer to a state. -/
def ptC (s : Nat) : List Value := [.pointer (some ⟨s, 0, none⟩)]
theorem ptC_len (s : Nat) : (ptC s).length = 1 := rfl
theorem ptC_one (s : Nat) : ∀ u ∈ ptC s, u.oneCell' = true := by intro u hu; simp [ptC] at hu; subst hu; rfl
theorem Try.infoPt : (Try.prog.info? 27).map (fun i => (i.zero, i.size, i.bytes)) = some (some (.pointer none), 1, 8) := by kernel_rfl
theorem LSeg.ptr {B : Nat} {w : World} {ao : Option Addr} {n cap : Nat} {xs : List Nat} (h : LSeg 1 ptC B w (.slice ao n cap) xs) {i : Nat} {x : Nat} (hx : xs[i]? = some x) : ∃ b o, ao = some ⟨b, o, none⟩ ∧ b < B ∧ w.cell? ⟨b, o + i, none⟩ = some (.pointer (some ⟨x, 0, none⟩)) := by
  obtain ⟨b, o, e, hb, _, hc⟩ := h.readAt hx
  have h1 := hc 0 (.pointer (some ⟨x, 0, none⟩)) rfl
  rw [Nat.mul_one, Nat.add_zero] at h1
  exact ⟨b, o, e, hb, h1⟩
theorem seg_ptr {w : World} {g t : Nat} (h : BoxT 27 w g #[.pointer (some ⟨t, 0, none⟩)]) : LSeg 1 ptC w.heap.size w (.slice (some ⟨g, 0, none⟩) 1 1) [t] := by
  refine ⟨_, 1, rfl, by simp, .inr ⟨g, 0, rfl, h.lt, fun i y hy j v hv => ?_⟩⟩
  have e0 : i = 0 := by have := lt_of_get hy; simp at this; exact this
  subst e0
  cases hy
  rw [h.cellAt]
  have hj : j < 1 := by have := lt_of_get hv; rwa [ptC_len] at this
  obtain rfl : j = 0 := by omega
  simpa [ptC] using hv
/-- The cells that a record's round reads. -/
def RS (W : World) (nb no : Nat) (rk rt rv : Int) (pb po s : Nat) : Prop := W.cell? ⟨nb, no, none⟩ = some (.int .i64 rk) ∧ W.cell? ⟨nb, no + 1, none⟩ = some (.int .i64 rt) ∧ W.cell? ⟨nb, no + 2, none⟩ = some (.int .i64 rv) ∧ W.cell? ⟨pb, po, none⟩ = some (.pointer (some ⟨s, 0, none⟩))
theorem RGroup_of {key gz : Int} (h : (grp key : Int) = gz) (w : World) : Calls Try.prog 20 #[.int .i64 key] w fun e w' => e = .returned (.int .i64 gz) ∧ w = w' := by
  subst h
  exact RGroup_any w key
theorem RPart_of {key gz par q : Int} (h : (grp key : Int) = gz) (hq : prt (grp key) par = q) (w : World) : Calls Try.prog 19 #[.int .i64 gz, .int .i64 par] w fun e w' => e = .returned (.int .i64 q) ∧ w = w' := by
  subst h
  subst hq
  exact RPart_any w _ par
theorem fire_of {W : World} {s : Nat} {k size slide a : Int} {fp : Nat → Prop} {M : List Pn} (h : SA W s k size slide a fp M) (mk : Int) (hM : M.length ≤ 90000) {c : Nat} (hc : cnt k mk M = c) :
    Calls Try.prog 24 #[.pointer (some ⟨s, 0, none⟩), .int .i64 mk] W fun e w' => ∃ ua uc fp', e = .returned (.slice ua c uc) ∧ SA w' s k size slide a fp' (sty k mk M) ∧ FT fp fp' W w' := by
  subst hc
  exact fire_any h mk hM
theorem cnt_step {k mk : Int} {par n : Nat} {M N : List Pn} (h : N.Perm (M.filter (inP par n))) : cnt k mk (toP par (n + 1) M) = cnt k mk (toP par n M) + cnt k mk N := by
  rw [← cnt_perm (toP_step par n M), cnt_app, cnt_perm h]
theorem sty_step {k mk : Int} {par n : Nat} {M N A : List Pn} (h : N.Perm (M.filter (inP par n))) (hA : A.Perm (sty k mk (toP par n M))) : (A ++ srt (sty k mk N)).Perm (sty k mk (toP par (n + 1) M)) := by
  refine List.Perm.trans ?_ (sty_perm (toP_step par n M))
  rw [sty_app]
  exact hA.append ((srt_perm _).trans (sty_perm h))
theorem map_set_s {T : List Stt} {q : Nat} {x : Stt} (hx : T[q]? = some x) (fp : Nat → Prop) (N : List Pn) : (T.set q ⟨x.s, fp, N⟩).map Stt.s = T.map Stt.s := by
  apply List.ext_getElem?
  intro j
  rw [List.getElem?_map, List.getElem?_map]
  by_cases e : q = j
  · subst e
    rw [List.getElem?_set_self (lt_of_get hx), hx]
    rfl
  · rw [List.getElem?_set_ne e]
end Go.Proofs.Ytdoldohcimbdaaa
namespace Go.Proofs.Ytdoldohcimbdaaa
open Go.RowKit

theorem cell_back {W W' : World} {b o : Nat} (h : W'.heap[b]? = W.heap[b]?) : W'.cell? ⟨b, o, none⟩ = W.cell? ⟨b, o, none⟩ := by
  rw [World.cell?, World.cell?, h]
/-- The cells that a round reads. -/
def SC (W : World) (G q PB : Nat) (v : Value) (xk xf xt xa : Int) : Prop := W.cell? ⟨G, q, none⟩ = some v ∧ W.cell? ⟨PB, 0, none⟩ = some (.int .i64 xk) ∧ W.cell? ⟨PB, 1, none⟩ = some (.int .i64 xf) ∧ W.cell? ⟨PB, 2, none⟩ = some (.int .i64 xt) ∧ W.cell? ⟨PB, 3, none⟩ = some (.int .i64 xa)
theorem seg_one {w : World} {g : Nat} {x : Pn} (h : BoxT 43 w g #[.int .i64 x.k, .int .i64 x.f, .int .i64 x.t, .int .i64 x.a]) : LSeg 4 Pn.cs w.heap.size w (.slice (some ⟨g, 0, none⟩) 1 1) [x] := by
  refine ⟨_, 1, rfl, by simp, .inr ⟨g, 0, rfl, h.lt, fun i y hy j v hv => ?_⟩⟩
  have e0 : i = 0 := by have := lt_of_get hy; simp at this; exact this
  subst e0
  cases hy
  rw [h.cellAt]
  have hj : j < 4 := by have := lt_of_get hv; rwa [Pn.cs_len] at this
  have e4 : j = 0 ∨ j = 1 ∨ j = 2 ∨ j = 3 := by omega
  rcases e4 with rfl | rfl | rfl | rfl <;> simpa [Pn.cs] using hv
/-- The parts, the sorted row beside them. -/
structure SpI (w w2 wr : World) (G : Nat) (vs : List Value) (ls : List (List Pn)) : Prop where
  pts : Pts w2.heap.size wr G vs ls
  bl : Below w.heap.size w wr
  keep : ∀ b, b < w2.heap.size → b ≠ G → wr.heap[b]? = w2.heap[b]?
  sz : w2.heap.size ≤ wr.heap.size
def SpPost (w : World) (par : Nat) (L : List Pn) (e : Ending) (w' : World) : Prop := ∃ G vs, e = .returned (.slice (some ⟨G, 0, none⟩) par par) ∧ Pts w.heap.size w' G vs (ptL L par L.length) ∧ Below w.heap.size w w' ∧ w.heap.size ≤ G
theorem Pts.mono {base base' : Nat} {W : World} {G : Nat} {vs : List Value} {ls : List (List Pn)} (h : Pts base W G vs ls) (hb : base' ≤ base) : Pts base' W G vs ls :=
  ⟨h.row, h.len, fun j v l hv hl => (h.each j v l hv hl).mono hb, h.apart, h.no⟩
theorem Pts.cell {base : Nat} {W : World} {G : Nat} {vs : List Value} {ls : List (List Pn)} (h : Pts base W G vs ls) {q : Nat} {v : Value} (hv : vs[q]? = some v) : W.cell? ⟨G, q, none⟩ = some v := by
  rw [h.row.cellAt]
  simpa using hv
theorem SpI.push {w w2 wr W1 : World} {G : Nat} {vs : List Value} {ls : List (List Pn)} (h : SpI w w2 wr G vs ls) {W : World} (hb : Below wr.heap.size wr W) (hG : w.heap.size ≤ G) (hw2 : w.heap.size ≤ w2.heap.size) {q n : Nat} {v v' : Value} {l l' : List Pn} (hv : vs[q]? = some v) (hl : ls[q]? = some l) (ho : OwnL 43 4 Pn.cs w2.heap.size W1 v' l') (hg : W.grownBy W1 v.ownBlock) (hk : v'.ownBlock = v.ownBlock ∨ v'.ownBlock = some n) (hn : W.heap.size ≤ n) :
    SpI w w2 (W1.setCell ⟨G, q, none⟩ v') G (vs.set q v') (ls.set q l') := by
  have s1 := hb.size
  have s2 := hg.size
  have s3 := h.sz
  have hown := (h.pts.each q v l hv hl).at
  have hset : ∀ b, b ≠ G → (W1.setCell ⟨G, q, none⟩ v').heap[b]? = W1.heap[b]? := fun b hne => Below.heap_setCell W1 ⟨G, q, none⟩ v' b (fun e => hne (by rw [e]))
  have hgb : ∀ b, b < w2.heap.size → W1.heap[b]? = W.heap[b]? := fun b hlt => hg.block b (by omega) (fun e => by have := hown b e.symm; omega)
  refine ⟨(h.pts.below hb).push hv hl ho hg hk hn, ?_, fun b hlt hne => ?_, by simp; omega⟩
  · have h1 := h.bl.trans (hb.mono (by omega))
    have h2 : Below w.heap.size W W1 := Below.grown (Below.refl _ _) hg (by omega) (fun g e => by have := hown g e; omega)
    refine (h1.trans h2).trans ⟨rfl, rfl, rfl, by simp, fun i hi => hset i (by omega)⟩
  · rw [hset b hne, hgb b hlt, hb.block b (by omega)]
    exact h.keep b hlt hne
set_option maxHeartbeats 8000000 in
set_option maxRecDepth 100000 in
theorem Split_any {w : World} {v : Value} {l : List Pn} (hl : LSeg 4 Pn.cs w.heap.size w v l) (hn : l.length ≤ 90000) {par : Nat} (hp1 : 1 ≤ par) (hp2 : par ≤ 4) : Calls Try.prog 16 #[v, .int .i64 (par : Int)] w (SpPost w par (srt l)) := by
  obtain ⟨ao, cap, rfl⟩ := hl.shapeOf
  have hm := mkSl w par (by omega)
  rw [List.toArray_replicate] at hm
  have n1 : ¬ (par : Int) < 1 := by omega
  have n2 : ¬ (4 : Int) < (par : Int) := by omega
  have HB1 := hide (below_box w (.cells (Array.replicate par (Value.slice none 0 0)) 44))
  have HX1 := hide (BoxT.new 44 w (Array.replicate par (Value.slice none 0 0)))
  have HZ1 : Hid ((w.alloc (.cells (Array.replicate par (Value.slice none 0 0)) 44)).heap.size = w.heap.size + 1) := (show _ = _ by simp)
  have HL1 := hide (hl.on HB1.out)
  have HP1 := hide hp1
  have HP2 := hide hp2
  have hsl : (srt l).length = l.length := srt_len l
  clear hl
  go_enter Try.func16, Try.ntmps16
  go_upto_region 4 with fail
  generalize w.alloc (.cells (Array.replicate par (Value.slice none 0 0)) 44) = W1 at *
  have HSO := hide (Sort_any HL1.out (by omega))
  generalize srt l = L at *
  go_wp2_with (first | (go_at_call 34; refine HSO.out.mono ?_; rintro e w2 ⟨u, rfl, o3, b3⟩; have HR3 := hide o3; have B3 := hide b3; obtain ⟨ua, uc, rfl⟩ := o3.shape; clear o3 b3) | fail)
  have HI : Hid (SpI w w2 w2 w.heap.size (List.replicate par (.slice none 0 0)) (ptL L par 0)) := (show SpI _ _ _ _ _ _ from ⟨by rw [ptL_zero]; exact Pts.start (by rw [List.toArray_replicate]; exact BoxT.below (t := 44) HX1.out B3.out), HB1.out.trans (B3.out.mono HB1.out.size), fun _ _ _ => rfl, Nat.le_refl _⟩)
  have HW2 : Hid (w.heap.size + 1 ≤ w2.heap.size) := (show _ ≤ _ by have := HZ1.out; have := B3.out.size; omega)
  have HLT : Hid (∀ g, (Value.slice ua L.length uc).ownBlock = some g → w.heap.size + 1 ≤ g ∧ g < w2.heap.size) := (show ∀ g, _ from fun g e => by
    obtain ⟨cu, hcu⟩ := HR3.out.has g e
    have h1 := HR3.out.at g e
    have := HZ1.out
    exact ⟨by omega, hcu.lt⟩)
  have HSG := hide (HR3.out.seg Pn.cs_len (by omega))
  clear HSO HX1 HL1 HR3 HZ1 HB1 B3
  go_loopg [20] (L.length + 1) (fun gh iv wr => ∃ (i : Nat) (vs : List Value), iv = .int .i64 (i : Int) ∧ i ≤ L.length ∧ L.length + 1 ≤ gh + i ∧ Hid (SpI w w2 wr w.heap.size vs (ptL L par i)))
  case atStart => exact ⟨0, _, rfl, by omega, by omega, HI⟩
  case round =>
    clear HI
    obtain ⟨i, vs, rfl, hi, hg, HP⟩ := hrel
    obtain ⟨go, rfl⟩ : ∃ go, gk = go + 1 := ⟨gk - 1, by omega⟩
    by_cases hlt : i < L.length
    · obtain ⟨x, hx⟩ := get_of_lt hlt
      have bt : (i : Int) < (L.length : Int) := by omega
      obtain ⟨nb, no, rfl, nlt, e0, e1, e2, e3⟩ := (HSG.out.off (fun g e => HP.out.keep g (HLT.out g e).2 (fun e2 => by have := (HLT.out g e).1; omega)) HP.out.sz).pane hx
      obtain ⟨qz, hqz⟩ : ∃ qz, prt (grp x.k) (par : Int) = qz := ⟨_, rfl⟩
      have hqr := prt_in (grp_lt x.k) HP1.out HP2.out
      rw [hqz] at hqr
      obtain ⟨q, rfl⟩ : ∃ q : Nat, qz = (q : Int) := ⟨qz.toNat, by omega⟩
      have hql : q < par := by omega
      obtain ⟨m, hm1, hm2⟩ := ptL_step hx hqz hql
      have hvl : vs.length = par := by rw [HP.out.pts.len, ptL_len]
      obtain ⟨vq, hvq⟩ := get_of_lt (l := vs) (i := q) (by omega)
      have HO := hide (HP.out.pts.each q vq m hvq hm1)
      have HC := hide (HP.out.pts.cell hvq)
      have HML : Hid (m.length ≤ 90000) := (show _ ≤ _ by
        have h1 : m = (L.take i).filter (fun y => decide (prt (grp y.k) (par : Int) = (q : Int))) := by simp [ptL, hql] at hm1; exact hm1.symm
        rw [h1]
        refine Nat.le_trans (List.length_filter_le ..) ?_
        rw [List.length_take]
        omega)
      have HPL := hide hm2
      have HM1 := hide hm1
      have HVQ := hide hvq
      have HGR := hide (fun W => Group_any W x.k)
      have HPT := hide (fun W => Part_any W (grp x.k : Int) (par : Int))
      rw [hqz] at HPT
      obtain ⟨xk, xf, xt, xa⟩ := x
      simp only at e0 e1 e2 e3 HPL HGR HPT
      have HBX := hide (below_box wr (.cells #[.int .i64 xk, .int .i64 xf, .int .i64 xt, .int .i64 xa] 43))
      have HPX := hide (BoxT.new 43 wr #[.int .i64 xk, .int .i64 xf, .int .i64 xt, .int .i64 xa])
      have bq1 : (0 : Int) ≤ (q : Int) := by omega
      have bq2 : (q : Int) < (par : Int) := by omega
      obtain ⟨va, vc, rfl⟩ := HO.out.shape
      clear hm1 hm2 hvq hvl hx hqz hqr
      generalize (grp xk : Int) = gz at *
      go_upto_region 8 with (first
        | (go_at_call 36; refine (HGR.out _).mono ?_; rintro e w5 ⟨rfl, e5⟩; subst e5)
        | (go_at_call 35; refine (HPT.out _).mono ?_; rintro e w5 ⟨rfl, e5⟩; subst e5)
        | fail)
      clear HGR HPT
      generalize hWX : wr.alloc (.cells #[.int .i64 xk, .int .i64 xf, .int .i64 xt, .int .i64 xa] 43) = WX at *
      have HWX := hide hWX
      clear hWX
      have HO5 := hide (HO.out.below HBX.out)
      have HC5 : Hid (∀ W : World, W.heap[w.heap.size]? = WX.heap[w.heap.size]? → W.heap[wr.heap.size]? = WX.heap[wr.heap.size]? → SC W w.heap.size q wr.heap.size (.slice va m.length vc) xk xf xt xa) := (show ∀ W : World, _ from fun W h1 h2 => ⟨(cell_back h1).trans ((HP.out.pts.below HBX.out).cell HVQ.out), (cell_back h2).trans HPX.out.cells4.1, (cell_back h2).trans HPX.out.cells4.2.1, (cell_back h2).trans HPX.out.cells4.2.2.1, (cell_back h2).trans HPX.out.cells4.2.2.2⟩)
      refine wp_region_M (S := fun w' => SC w' w.heap.size q wr.heap.size (.slice va m.length vc) xk xf xt xa) (late := [10]) (by kernel_rfl) (HC5.out _ rfl rfl) (fun hHeld => ?_)
      (try simp only [List.size_toArray, List.length_cons, List.length_nil, Nat.zero_add, Nat.reduceAdd, Array.replicate, List.replicate])
      refine wpAnyM_take (i := 0) (oi := ⟨_, _, _, _, _, _⟩) (v := ?_) rfl (by kernel_rfl) (by kernel_rfl) (by kernel_rfl) (by kernel_rfl) (fun _ _ _ h => h) (Or.inl ⟨by rfl, ?_⟩) hHeld ?_
      rotate_left
      · (intro w' hSw; obtain ⟨s0, s1, s2, s3, s4⟩ := hSw; go_simp; try (with_reducible rfl))
      (try simp only [Act.put, List.setIfInBounds_toArray, List.set_cons_zero, List.set_cons_succ])
      refine wpAnyM_take (i := 1) (oi := ⟨_, _, _, _, _, _⟩) (v := ?_) rfl (by kernel_rfl) (by kernel_rfl) (by kernel_rfl) (by kernel_rfl) (fun _ _ _ h => h) (Or.inl ⟨by rfl, ?_⟩) hHeld ?_
      rotate_left
      · (intro w' hSw; obtain ⟨s0, s1, s2, s3, s4⟩ := hSw; go_simp; try (with_reducible rfl))
      (try simp only [Act.put, List.setIfInBounds_toArray, List.set_cons_zero, List.set_cons_succ])
      refine wpAnyM_take (i := 2) (oi := ⟨_, _, _, _, _, _⟩) (v := ?_) rfl (by kernel_rfl) (by kernel_rfl) (by kernel_rfl) (by kernel_rfl) (fun _ _ _ h => h) (Or.inl ⟨by rfl, ?_⟩) hHeld ?_
      rotate_left
      · (intro w' hSw; obtain ⟨s0, s1, s2, s3, s4⟩ := hSw; go_simp; try (with_reducible rfl))
      (try simp only [Act.put, List.setIfInBounds_toArray, List.set_cons_zero, List.set_cons_succ])
      refine wpAnyM_take (i := 3) (oi := ⟨_, _, _, _, _, _⟩) (v := ?_) rfl (by kernel_rfl) (by kernel_rfl) (by kernel_rfl) (by kernel_rfl) (fun _ _ _ h => h) (Or.inl ⟨by rfl, ?_⟩) hHeld ?_
      rotate_left
      · (intro w' hSw; obtain ⟨s0, s1, s2, s3, s4⟩ := hSw; go_simp; try (with_reducible rfl))
      (try simp only [Act.put, List.setIfInBounds_toArray, List.set_cons_zero, List.set_cons_succ])
      refine wpAnyM_take (i := 4) (oi := ⟨_, _, _, _, _, _⟩) (v := ?_) rfl (by kernel_rfl) (by kernel_rfl) (by kernel_rfl) (by kernel_rfl) (fun _ _ _ h => h) (Or.inl ⟨by rfl, ?_⟩) hHeld ?_
      rotate_left
      · (intro w' hSw; obtain ⟨s0, s1, s2, s3, s4⟩ := hSw; go_simp; try (with_reducible rfl))
      (try simp only [Act.put, List.setIfInBounds_toArray, List.set_cons_zero, List.set_cons_succ])
      refine wpAnyM_take (i := 5) (oi := ⟨_, _, _, _, _, _⟩) (v := ?_) rfl (by kernel_rfl) (by kernel_rfl) (by kernel_rfl) (by kernel_rfl) (fun _ _ _ h => h) (Or.inl ⟨by rfl, ?_⟩) hHeld ?_
      rotate_left
      · (intro w' hSw; obtain ⟨s0, s1, s2, s3, s4⟩ := hSw; go_simp; try (with_reducible rfl))
      (try simp only [Act.put, List.setIfInBounds_toArray, List.set_cons_zero, List.set_cons_succ])
      refine wpAnyM_take (i := 6) (oi := ⟨_, _, _, _, _, _⟩) (v := ?_) rfl (by kernel_rfl) (by kernel_rfl) (by kernel_rfl) (by kernel_rfl) (fun _ _ _ h => h) (Or.inl ⟨by rfl, ?_⟩) hHeld ?_
      rotate_left
      · (intro w' hSw; obtain ⟨s0, s1, s2, s3, s4⟩ := hSw; go_simp; try (with_reducible rfl))
      (try simp only [Act.put, List.setIfInBounds_toArray, List.set_cons_zero, List.set_cons_succ])
      refine wpAnyM_one (i := 7) (o := ⟨_, _, _, _, _, _⟩) (by kernel_rfl) rfl (fun K hK => ?_)
      go_simp
      have HB7 := hide (below_box WX (.cells #[.int .i64 xk, .int .i64 xf, .int .i64 xt, .int .i64 xa] 43)).drew
      have HX7 := hide (BoxT.new 43 WX #[.int .i64 xk, .int .i64 xf, .int .i64 xt, .int .i64 xa])
      generalize hW7 : (WX.alloc (.cells #[.int .i64 xk, .int .i64 xf, .int .i64 xt, .int .i64 xa] 43)).drew = W7 at *
      have HS7 : Hid (LSeg 4 Pn.cs W7.heap.size W7 (.slice (some ⟨WX.heap.size, 0, none⟩) 1 1) [⟨xk, xf, xt, xa⟩]) := (show LSeg _ _ _ _ _ _ by rw [← hW7]; exact seg_one HX7.out)
      have HG7 : Hid (w.heap.size < WX.heap.size ∧ wr.heap.size < WX.heap.size ∧ WX.heap.size < W7.heap.size ∧ w2.heap.size ≤ wr.heap.size) := (show _ from ⟨by have := HPX.out.lt; have := HW2.out; have := HP.out.sz; omega, HPX.out.lt, by rw [← hW7]; exact HX7.out.lt, HP.out.sz⟩)
      have HW7 := hide hW7
      clear hW7
      refine hK.out _ _ (HC5.out _ (HB7.out.block _ HG7.out.1) (HB7.out.block _ HG7.out.2.1)) (fun hHeld => ?_)
      clear hK K
      (try simp only [List.setIfInBounds_toArray, List.set_cons_zero, List.set_cons_succ])
      refine wpAnyM_one (i := 8) (o := ⟨_, _, _, _, _, _⟩) (by kernel_rfl) rfl (fun K hK => ?_)
      refine wp_segL Try.infoPn Try.underlying44 rfl (by decide) (by decide) Pn.cs_len Pn.cs_one _ _ rfl w2.heap.size _ m rfl (HO5.out.below HB7.out) _ _ [⟨xk, xf, xt, xa⟩] rfl HS7.out (by have := HML.out; simp; omega) (by have := HG7.out; omega) ?_
      intro v8 w8 h8 g8 k8
      (try simp only [Act.put, List.setIfInBounds_toArray, List.set_cons_zero, List.set_cons_succ])
      have HE8 : Hid (w8.heap[w.heap.size]? = WX.heap[w.heap.size]? ∧ w8.heap[wr.heap.size]? = WX.heap[wr.heap.size]?) := (show _ ∧ _ from ⟨(g8.block _ (by have := HG7.out; omega) (fun e => HP.out.pts.no q _ HVQ.out e.symm)).trans (HB7.out.block _ HG7.out.1), (g8.block _ (by have := HG7.out; omega) (fun e => by have := HO.out.lt _ e.symm; omega)).trans (HB7.out.block _ HG7.out.2.1)⟩)
      have hrow : BoxT 44 w8 w.heap.size vs.toArray := by
        have h1 := (HP.out.pts.below HBX.out).row
        unfold BoxT at *
        rw [HE8.out.1]
        exact h1
      have hcf := hrow.free q
      clear hrow
      obtain ⟨v8a, v8c, rfl⟩ := h8.shape
      have HPU := hide (HP.out.push (HBX.out.trans (HB7.out.mono (by have := HG7.out; omega))) (Nat.le_refl _) (by have := HW2.out; omega) HVQ.out HM1.out h8 g8 k8 (Nat.le_refl _))
      refine hK.out _ _ (HC5.out _ HE8.out.1 HE8.out.2) (fun hHeld => ?_)
      clear hK K h8 g8 k8 HE8
      (try simp only [List.setIfInBounds_toArray, List.set_cons_zero, List.set_cons_succ])
      refine wpAnyM_one (i := 9) (o := ⟨_, _, _, _, _, _⟩) (by kernel_rfl) rfl (fun K hK => ?_)
      go_simp
      refine hK.out _ _ hHeld (fun hHeld => ?_)
      clear hK K
      (try simp only [List.setIfInBounds_toArray, List.set_cons_zero, List.set_cons_succ])
      have hcx : w8.cell? ⟨w.heap.size, q, none⟩ = some (.slice va m.length vc) := hHeld.1
      refine wpAnyM_last (i := 10) (o := ⟨_, _, _, _, _, _⟩) (by kernel_rfl) (by kernel_rfl) rfl (fun K hK => ?_)
      go_simp
      refine hK.out _ _ ?_
      clear hK K
      (try simp only [List.setIfInBounds_toArray, List.set_cons_zero, List.set_cons_succ])
      refine wpAnyM_done (by kernel_rfl) ?_ _
      go_wp2_with fail
      go_roundg go
      case rel => exact ⟨i + 1, _, by go_num, by omega, by omega, (show SpI _ _ _ _ _ _ by
        rw [HPL.out]
        have h9 := HPU.out
        simp only [List.length_append, List.length_cons, List.length_nil, Nat.zero_add] at h9
        exact h9)⟩
      case measure => omega
    · obtain rfl : i = L.length := by omega
      have bt : ¬ ((L.length : Nat) : Int) < (L.length : Int) := by omega
      go_wp2_with fail
      go_ret
      exact ⟨w.heap.size, vs, rfl, HP.out.pts.mono (by have := HW2.out; omega), HP.out.bl, Nat.le_refl _⟩
end Go.Proofs.Ytdoldohcimbdaaa
