/-
  Texts in build order: SIns, SRep, SAddP, SAdd, SGathP, SGath, SLay, SPut, SNew, SEnd, SWFire, SFireP, SFire, SHelp, SLawP.
-/
import Derived.Test.YtpcbhcdpegbfjaaGreatM11
import Derived.Lib.Overlaps
import Derived.Lib.AppendZerosOnto
import Derived.Laws.NewBlocks
import Derived.Carry
/-
 slices.Insert of one span into a row of one's own.
-/
namespace Go.Proofs.YtpcbhcdpegbfjaaGreat
set_option maxHeartbeats 16000000
set_option maxRecDepth 100000
open Go.RowKit
theorem run_copy_sp (w : World) (ty g o dLen dCap : Nat) (a : Addr) (sLen sCap : Nat) (cur : Array Value) (cs : List Value) (hg : BoxT 72 w g cur) (m : Nat) (hm : m = Nat.min sLen dLen) (hn : cs.length = m * 2)
  (hsrc : ∀ j v, cs[j]? = some v → w.cell? (a.add j) = some v) (hfit : o + cs.length ≤ cur.size) (h1 : ∀ v ∈ cs, v.oneCell' = true) :
  (Builtin.copy_ #[74, 74] ty #[.slice (some ⟨g, o, none⟩) dLen dCap, .slice (some a) sLen sCap]).run Tryz.prog w = .ok (goInt m) (w.setCells g o cs) := by
 have hl := run_loadCells_list (P := Tryz.prog) w a cs hsrc
 have hst := run_storeCells_cells (P := Tryz.prog) g o cs 0 w (fun j hj => by rw [hg.cellAt, Array.getElem?_eq_getElem (by omega)]; rfl) (fun j _ => hg.free _) h1
 obtain ⟨i0, hi, _, hz1, _⟩ := info_parts Tryz.infoSp
 rw [hn] at hl
 simp [Builtin.copy_, run_underlying Tryz.underlying74, Builtin.lenOf, Builtin.firstCells, sizeOf, typeInfo, hi, hz1, ← hm, hl, hst]
theorem Tryz.sizeSp (w : World) : (Go.sizeOf 72).run Tryz.prog w = .ok 2 w := by
 obtain ⟨i0, hi, _, hz1, _⟩ := info_parts Tryz.infoSp
 simp [sizeOf, typeInfo, hi, hz1]
theorem run_overlaps_sp (w : World) {ga gb oa ob la ca lb cb : Nat} {cu cv : Array Value} (hne : ga ≠ gb) (ha : BoxT 72 w ga cu) (hb : BoxT 72 w gb cv) (hk : cv.size ≠ 0) : (callFunc 151 #[.slice (some ⟨ga, oa, none⟩) la ca, .slice (some ⟨gb, ob, none⟩) lb cb]).run Tryz.prog w = .ok (.value (.bool false)) w := by
 have hsa : w.shape? ga = some (72, cu.size) := by unfold BoxT at ha; simp [World.shape?, ha]
 have hsb : w.shape? gb = some (72, cv.size) := by unfold BoxT at hb; simp [World.shape?, hb]
 have h := Lib.run_overlaps_apart (P := Tryz.prog) w 74 4 72 Tryz.underlying74 2 Tryz.sizeSp ⟨ga, oa, none⟩ ⟨gb, ob, none⟩ la ca lb cb hne _ _ _ _ hsa hsb hk (ha.free _) (ha.free _)
 rw [run_callFunc_extern Tryz.func151 (by kernel_rfl) (by kernel_rfl) (by kernel_rfl) (e := Extern.SlicesOverlaps.overlaps #[74, 74] #[4]) (by kernel_rfl), h]
 rfl
theorem new2 (W : World) {n : Nat} (x : Sp) (h : BoxT 72 W n #[.int .i64 x.f, .int .i64 x.t]) (j : Nat) (u : Value) (hu : (Sp.cs x)[j]? = some u) : W.cell? ((⟨n, 0, none⟩ : Addr).add j) = some u := by
 rw [add_plain2, h.cellAt, Nat.zero_add]
 have hl := lt_of_get hu
 rw [Sp.cs_len] at hl
 match j, hu with
 | 0, hu | 1, hu => simp [Sp.cs] at hu; subst hu; rfl
theorem insert_end {w : World} {base : Nat} {s : Value} {l : List Sp} (ho : OwnL 72 2 Sp.cs base w s l) (hn : l.length ≤ 100000) (hbase : base ≤ w.heap.size) {gv : Nat} {x : Sp} (hv : BoxT 72 w gv #[.int .i64 x.f, .int .i64 x.t]) :
  Calls Tryz.prog 150 #[s, .int .i64 (l.length : Int), .slice (some ⟨gv, 0, none⟩) 1 1] w fun e w' => ∃ u, e = .returned u ∧ OwnL 72 2 Sp.cs base w' u (l ++ [x]) ∧ w.grownBy w' s.ownBlock ∧ (∀ g, u.ownBlock = some g → s.ownBlock = some g ∨ w.heap.size ≤ g) := by
 have HO := hide ho
 obtain ⟨ao, cap, rfl⟩ := ho.shape
 have hcap : l.length ≤ cap := by
  rcases ho.2 with ⟨e, h0⟩ | ⟨g, c, cur, e, _, _, h, _⟩
  ·have := congrArg (fun v => match v with | Value.slice _ n _ => n | _ => 0) e; simp at this; omega
  ·simp at e; omega
 have HN := hide (new2 w x hv)
 clear ho hv
 rcases Nat.lt_or_ge l.length cap with hc | hc
 ·have bc : (l.length : Int) ≤ (cap : Int) := by omega
  have hne : ¬ cap = l.length := by omega
  go_enter Tryz.func150, Tryz.ntmps150
  go_wp2_with (first | (at_builtin; refine app_L Tryz.infoSp Tryz.underlying74 rfl (by decide) (by decide) Sp.cs_len Sp.cs_one rfl _ _ rfl base _ l rfl HO.out _ _ x rfl HN.out (by omega) hbase ?_; intro v5 w5 h5 g5 k5) | fail)
  go_ret
  exact ⟨_, rfl, h5, g5, k5⟩
 ·obtain rfl : cap = l.length := by omega
  clear hc hcap
  go_enter Tryz.func150, Tryz.ntmps150
  go_wp2_with (first | (at_builtin; refine app_L Tryz.infoSp Tryz.underlying74 rfl (by decide) (by decide) Sp.cs_len Sp.cs_one rfl _ _ rfl base _ l rfl HO.out _ _ x rfl HN.out (by omega) hbase ?_; intro v5 w5 h5 g5 k5) | fail)
  go_ret
  exact ⟨_, rfl, h5, g5, k5⟩
theorem wp_copy_run {P : Program} {w : World} {ops : Array Oper} {rest : List Oper} {o : Oper} {a : Act} {Q : Exit → Act → World → Prop} (hgd : o.guard = none) (d s : Operand) (dT sT : TypeId)
  (ho : o.op = .call { callee := .builtin .copy, args := #[d, s], argTypes := #[dT, sT] }) (vd vs : Value) (hd : a.eval d = vd) (hs : a.eval s = vs) {r : Value} {w' : World} (hrun : (Builtin.copy_ #[dT, sT] o.type #[vd, vs]).run P w = .ok r w')
  (h : wpList P ops Q rest (a.put o.dst r) w') : wpList P ops Q (o :: rest) a w := by
 refine wpList_plain hgd fun K hK => ?_
 unfold Oper.wp
 simp [execOp, ho, resolve, invoke, builtin, hd, hs, hrun, Result.andThen]
 exact hK _ _ h
theorem step_copy_run {P : Program} {w : World} {ops : Array Oper} {o : Oper} {a : Act} {K : Act → World → Prop} {Q : Exit → Act → World → Prop} {E : Prop} (hgd : o.guard = none) (d s : Operand) (dT sT : TypeId)
  (ho : o.op = .call { callee := .builtin .copy, args := #[d, s], argTypes := #[dT, sT] }) (vd vs : Value) (hd : a.eval d = vd) (hs : a.eval s = vs) {r : Value} {w' : World} (hrun : (Builtin.copy_ #[dT, sT] o.type #[vd, vs]).run P w = .ok r w')
  (h : K (a.put o.dst r) w') : if Region.wanted o (yielded ops a.tmps) = true then Oper.wp P o a w K Q else E := by
 have hw : Region.wanted o (yielded ops a.tmps) = true := by simp [Region.wanted, hgd]
 rw [if_pos hw]
 unfold Oper.wp
 simp [execOp, ho, resolve, invoke, builtin, hd, hs, hrun, Result.andThen]
 exact h
theorem wp_append_run {P : Program} {w : World} {ops : Array Oper} {rest : List Oper} {o : Oper} {a : Act} {Q : Exit → Act → World → Prop} (hgd : o.guard = none) (d s : Operand) (dT sT : TypeId)
  (ho : o.op = .call { callee := .builtin .append, args := #[d, s], argTypes := #[dT, sT] }) (vd vs : Value) (hd : a.eval d = vd) (hs : a.eval s = vs) {r : Value} {w' : World} (hrun : (Builtin.append_ #[dT, sT] o.type #[vd, vs]).run P w = .ok r w')
  (h : wpList P ops Q rest (a.put o.dst r) w') : wpList P ops Q (o :: rest) a w := by
 refine wpList_plain hgd fun K hK => ?_
 unfold Oper.wp
 simp [execOp, ho, resolve, invoke, builtin, hd, hs, hrun, Result.andThen]
 exact hK _ _ h
theorem own_of_box {base : Nat} {w : World} {g cap n : Nat} {cur : Array Value} {L : List Sp} (hb : BoxT 72 w g cur) (hbase : base ≤ g) (hs : cur.size = cap * 2) (hnL : n = L.length) (hn : L.length ≤ cap) (hcap : cap ≤ maxLen) (hc : ∀ a x, L[a]? = some x → ∀ q u, (Sp.cs x)[q]? = some u → cur[a * 2 + q]? = some u) :
  OwnL 72 2 Sp.cs base w (.slice (some ⟨g, 0, none⟩) n cap) L := by
 subst hnL
 refine ⟨by rw [flat_size Sp.cs_len], .inr ⟨g, cap, cur, rfl, hbase, hb, hn, hcap, hs, ?_⟩⟩
 apply List.ext_getElem?
 intro a
 rw [List.getElem?_take]
 by_cases ha : a < L.length * 2
 ·rw [if_pos ha, Array.getElem?_toList]
  obtain ⟨x, hx⟩ := get_of_lt (show a / 2 < L.length by omega)
  have hm2 : a % 2 < x.cs.length := by rw [Sp.cs_len]; omega
  obtain ⟨u, hu⟩ := get_of_lt hm2
  have h1 := flat_get Sp.cs_len L (a / 2) (a % 2) x u hx hu
  have h2 := hc (a / 2) x hx (a % 2) u hu
  rw [show a / 2 * 2 + a % 2 = a by omega] at h1 h2
  rw [h1, h2]
 ·rw [if_neg ha, List.getElem?_eq_none (by rw [flat_size Sp.cs_len]; omega)]
theorem own_cells {base : Nat} {w : World} {g n cap : Nat} {l : List Sp} (h : OwnL 72 2 Sp.cs base w (.slice (some ⟨g, 0, none⟩) n cap) l) : ∃ cur, n = l.length ∧ base ≤ g ∧ BoxT 72 w g cur ∧ l.length ≤ cap ∧ cap ≤ maxLen ∧ cur.size = cap * 2 ∧ ∀ a x, l[a]? = some x → ∀ q u, (Sp.cs x)[q]? = some u → cur[a * 2 + q]? = some u := by
 rcases h.2 with ⟨e, _⟩ | ⟨g', c, cur, e, h1, h2, h3, h4, h5, h6⟩
 ·cases e
 ·simp only [Value.slice.injEq, Option.some.injEq, Addr.mk.injEq, and_true] at e
  obtain ⟨rfl, e2, rfl⟩ := e
  refine ⟨cur, e2, h1, h2, h3, h4, h5, fun a x hx q u hu => ?_⟩
  have h7 := flat_get Sp.cs_len l a q x u hx hu
  rw [← h6, List.getElem?_take] at h7
  split at h7
  ·simpa using h7
  ·cases h7
theorem ins_get {l : List Sp} {i j : Nat} (hij : i ≤ j) (hjl : j ≤ l.length) {x y : Sp} {a : Nat} (h : (l.take i ++ x :: l.drop j)[a]? = some y) : (a < i ∧ l[a]? = some y) ∨ (a = i ∧ y = x) ∨ (i < a ∧ l[j + (a - i - 1)]? = some y) := by
 have hl : (l.take i).length = i := by rw [List.length_take]; omega
 by_cases h1 : a < i
 ·rw [List.getElem?_append_left (by omega), List.getElem?_take, if_pos h1] at h
  exact .inl ⟨h1, h⟩
 ·rw [List.getElem?_append_right (by omega), hl] at h
  by_cases h2 : a = i
  ·subst h2
   simp at h
   exact .inr (.inl ⟨rfl, h.symm⟩)
  ·obtain ⟨k, rfl⟩ : ∃ k, a = i + (k + 1) := ⟨a - i - 1, by omega⟩
   rw [show i + (k + 1) - i = k + 1 by omega, List.getElem?_cons_succ, List.getElem?_drop] at h
   exact .inr (.inr ⟨by omega, by rw [show i + (k + 1) - i - 1 = k by omega]; exact h⟩)
theorem drop_flat {l : List Sp} {j : Nat} {cur : Array Value} (hc : ∀ a x, l[a]? = some x → ∀ q u, (Sp.cs x)[q]? = some u → cur[a * 2 + q]? = some u) (b : Nat) (v : Value) (h : ((l.drop j).flatMap Sp.cs)[b]? = some v) : cur[j * 2 + b]? = some v := by
 have hlt := lt_of_get h
 rw [flat_size Sp.cs_len] at hlt
 obtain ⟨x, hx⟩ := get_of_lt (show b / 2 < (l.drop j).length by omega)
 have hm2 : b % 2 < x.cs.length := by rw [Sp.cs_len]; omega
 obtain ⟨u, hu⟩ := get_of_lt hm2
 have h1 := flat_get Sp.cs_len (l.drop j) (b / 2) (b % 2) x u hx hu
 rw [show b / 2 * 2 + b % 2 = b by omega, h] at h1
 cases h1
 rw [List.getElem?_drop] at hx
 have h2 := hc (j + b / 2) x hx (b % 2) v hu
 rw [show (j + b / 2) * 2 + b % 2 = j * 2 + b by omega] at h2
 exact h2
theorem flat_one (l : List Sp) : ∀ v ∈ l.flatMap Sp.cs, v.oneCell' = true := by
 intro v hv
 obtain ⟨x, _, hx⟩ := List.mem_flatMap.1 hv
 exact Sp.cs_one x v hx
theorem ins_cells {l : List Sp} {i j : Nat} (hij : i ≤ j) (hjl : j ≤ l.length) {x : Sp} {cur cur2 : Array Value} (hc : ∀ a x, l[a]? = some x → ∀ q u, (Sp.cs x)[q]? = some u → cur[a * 2 + q]? = some u)
  (h1 : ∀ b, b < i * 2 → cur2[b]? = cur[b]?) (h2 : ∀ b u, (Sp.cs x)[b]? = some u → cur2[i * 2 + b]? = some u) (h3 : ∀ b v, ((l.drop j).flatMap Sp.cs)[b]? = some v → cur2[(i + 1) * 2 + b]? = some v) :
  ∀ a y, (l.take i ++ x :: l.drop j)[a]? = some y → ∀ q u, (Sp.cs y)[q]? = some u → cur2[a * 2 + q]? = some u := by
 intro a y hy q u hu
 have hq := lt_of_get hu
 rw [Sp.cs_len] at hq
 rcases ins_get hij hjl hy with ⟨e1, e2⟩ | ⟨rfl, rfl⟩ | ⟨e1, e2⟩
 ·rw [h1 _ (by omega)]; exact hc a y e2 q u hu
 ·exact h2 q u hu
 ·have e3 : (l.drop j)[a - i - 1]? = some y := by rw [List.getElem?_drop]; exact e2
  have e4 := flat_get Sp.cs_len (l.drop j) (a - i - 1) q y u e3 hu
  have e5 := h3 _ _ e4
  rw [show (i + 1) * 2 + ((a - i - 1) * 2 + q) = a * 2 + q by omega] at e5
  exact e5
theorem insert_room {w : World} {base g cap : Nat} {l : List Sp} (ho : OwnL 72 2 Sp.cs base w (.slice (some ⟨g, 0, none⟩) l.length cap) l) (hn : l.length ≤ 100000) {gv : Nat} {x : Sp} (hv : BoxT 72 w gv #[.int .i64 x.f, .int .i64 x.t]) (hgv : g ≠ gv) {i : Nat} (hi : i < l.length) (hr : l.length + 1 ≤ cap) :
  Calls Tryz.prog 150 #[.slice (some ⟨g, 0, none⟩) l.length cap, .int .i64 (i : Int), .slice (some ⟨gv, 0, none⟩) 1 1] w fun e w' => e = .returned (.slice (some ⟨g, 0, none⟩) (l.length + 1) cap) ∧ OwnL 72 2 Sp.cs base w' (.slice (some ⟨g, 0, none⟩) (l.length + 1) cap) (l.take i ++ x :: l.drop i) ∧ w.grownBy w' (some g) := by
 obtain ⟨cur, _, hbg, hb, hlc, hcm, hsz, hc⟩ := own_cells ho
 have hl1 : ((l.drop i).flatMap Sp.cs).length = (l.length - i) * 2 := by rw [flat_size Sp.cs_len, List.length_drop]
 have hov : (callFunc 151 #[.slice (some ⟨gv, 0, none⟩) 1 1, .slice (some ⟨g, (i + 1) * 2, none⟩) (l.length - i) (cap - (i + 1))]).run Tryz.prog w = .ok (.value (.bool false)) w := run_overlaps_sp w (fun e => hgv e.symm) hv hb (by omega)
 have hcp1 : ∀ ty dc sc, (Builtin.copy_ #[74, 74] ty #[.slice (some ⟨g, (i + 1) * 2, none⟩) (l.length - i) dc, .slice (some ⟨g, i * 2, none⟩) (l.length + 1 - i) sc]).run Tryz.prog w.drew = .ok (goInt (l.length - i : Nat)) (w.drew.setCells g ((i + 1) * 2) ((l.drop i).flatMap Sp.cs)) := fun ty dc sc =>
  run_copy_sp w.drew ty g ((i + 1) * 2) (l.length - i) dc ⟨g, i * 2, none⟩ (l.length + 1 - i) sc cur _ hb.drew (l.length - i) (by simp only [Nat.min_def]; split <;> omega) hl1
   (fun j v hj => by rw [add_plain2, hb.drew.cellAt]; exact drop_flat hc j v hj) (by rw [hl1, hsz]; omega) (flat_one _)
 have hb1 := hb.drew.setCells (j := (i + 1) * 2) ((l.drop i).flatMap Sp.cs)
 have hg1 := grown_setCells g ((l.drop i).flatMap Sp.cs) w.drew ((i + 1) * 2)
 have hv1 : BoxT 72 (w.drew.setCells g ((i + 1) * 2) ((l.drop i).flatMap Sp.cs)) gv #[.int .i64 x.f, .int .i64 x.t] := hv.drew.grown hg1 (fun e => hgv e.symm)
 obtain ⟨W1, hW1⟩ : ∃ W1, W1 = w.drew.setCells g ((i + 1) * 2) ((l.drop i).flatMap Sp.cs) := ⟨_, rfl⟩
 rw [← hW1] at hcp1 hb1 hg1 hv1
 have hcp2 : ∀ ty dc, (Builtin.copy_ #[74, 74] ty #[.slice (some ⟨g, i * 2, none⟩) (l.length + 1 - i) dc, .slice (some ⟨gv, 0, none⟩) 1 1]).run Tryz.prog W1 = .ok (goInt 1) (W1.setCells g (i * 2) (Sp.cs x)) := fun ty dc =>
  run_copy_sp W1 ty g (i * 2) (l.length + 1 - i) dc ⟨gv, 0, none⟩ 1 1 _ _ hb1 1 (by simp only [Nat.min_def]; split <;> omega) (Sp.cs_len x) (new2 W1 x hv1) (by rw [setL_size, Sp.cs_len, hsz]; omega) (Sp.cs_one x)
 have HB2 := hide (hb1.setCells (j := i * 2) (Sp.cs x))
 have HG2 := hide (grownBy_trans (show w.grownBy W1 (some g) from ⟨hg1.os, hg1.tape, hg1.output, hg1.size, hg1.block⟩) (grown_setCells g (Sp.cs x) W1 (i * 2)))
 have HC := hide hc
 have HS := hide hsz
 have HL1 := hide hl1
 clear hb1 hg1 hv1 hv hc ho hl1 hb hsz
 generalize hn' : l.length = n at *
 have z1 : ¬ ((i : Int) = (n : Int)) := by omega
 have z2 : ¬ ((cap : Int) < (n : Int) + 1) := by omega
 have z3 : (i : Int) ≤ (n : Int) := by omega
 have z4 : (n : Int) + 1 ≤ (cap : Int) := by omega
 have z5 : ((n : Int) + 1).toNat = n + 1 := by omega
 have z6 : (0 : Int) ≤ (i : Int) + 1 := by omega
 have z7 : ((i : Int) + 1).toNat = i + 1 := by omega
 have z8 : ¬ (cap = i + 1) := by omega
 have z9 : ¬ (cap = i) := by omega
 have z10 : (i : Int) + 1 ≤ (n : Int) + 1 := by omega
 have z11 : (i : Int) ≤ (n : Int) + 1 := by omega
 have z12 : n + 1 - (i + 1) = n - i := by omega
 have z13 : (n : Int) ≤ (cap : Int) := by omega
 have zw : IntKind.i64.wrap ((i : Int) + 1) = (i : Int) + 1 := by rw [IntKind.wrap_i64]; omega
 have HLN := hide hn'
 clear hn'
 clear hW1
 go_enter Tryz.func150, Tryz.ntmps150
 go_wp2_with (first | simp only [hov] | fail)
 refine wp_region_M (S := fun _ => True) (late := []) (by kernel_rfl) trivial (fun hH => ?_)
 (try simp only [nr, Nat.reduceAdd])
 refine tkA 0 hH ?_; simp only [nm]; refine tkA 1 hH ?_; simp only [nm]; refine tkA 2 hH ?_; simp only [nm]; refine tkA 3 hH ?_; simp only [nm]; refine tkA 4 hH ?_; simp only [nm]; refine tkA 5 hH ?_; simp only [nm]; refine tkA 6 hH ?_; simp only [nm]; refine tkA 7 hH ?_; simp only [nm]
 refine tkO 8 fun K hK => ?_
 refine step_copy_run rfl _ _ 74 74 rfl _ _ rfl rfl (hcp1 _ _ _) ?_
 refine hK.out _ _ trivial (fun hH => ?_)
 clear hK K
 (try simp only [nm])
 refine wpAnyM_done (by kernel_rfl) ?_ _
 go_wp2_with (first | (at_builtin; refine wp_copy_run rfl _ _ 74 74 rfl _ _ rfl rfl (hcp2 _ _) ?_) | fail)
 go_ret
 refine ⟨rfl, ?_, HG2.out⟩
 refine own_of_box HB2.out hbg (by rw [setL_size, setL_size]; exact HS.out) ?_ ?_ hcm (ins_cells (Nat.le_refl i) (by rw [HLN.out]; omega) HC.out ?_ ?_ ?_)
 ·simp [HLN.out]; omega
 ·simp [HLN.out]; omega
 ·intro b hb
  rw [setL_out _ _ _ _ (.inl hb), setL_out _ _ _ _ (.inl (by omega))]
 ·intro b u hu
  exact setL_in _ _ _ _ _ (by rw [setL_size, Sp.cs_len, HS.out]; omega) hu
 ·intro b v hv
  rw [setL_out _ _ _ _ (.inr (by rw [Sp.cs_len]; omega))]
  exact setL_in _ _ _ _ _ (by rw [HL1.out, HS.out]; omega) hv
theorem insert_grow {w : World} {base g cap : Nat} {l : List Sp} (ho : OwnL 72 2 Sp.cs base w (.slice (some ⟨g, 0, none⟩) l.length cap) l) (hn : l.length ≤ 100000) (hbase : base ≤ w.heap.size) {gv : Nat} {x : Sp} (hv : BoxT 72 w gv #[.int .i64 x.f, .int .i64 x.t]) {i : Nat} (hi : i < l.length) (hr : ¬ l.length + 1 ≤ cap) :
  Calls Tryz.prog 150 #[.slice (some ⟨g, 0, none⟩) l.length cap, .int .i64 (i : Int), .slice (some ⟨gv, 0, none⟩) 1 1] w fun e w' => ∃ u, e = .returned u ∧ OwnL 72 2 Sp.cs base w' u (l.take i ++ x :: l.drop i) ∧ w.grownBy w' none ∧ u.ownBlock = some w.heap.size := by
 obtain ⟨cur, _, hbg, hb, hlc, hcm, hsz, hc⟩ := own_cells ho
 have hl1 : ((l.drop i).flatMap Sp.cs).length = (l.length - i) * 2 := by rw [flat_size Sp.cs_len, List.length_drop]
 have hl0 : ((l.take i).flatMap Sp.cs).length = i * 2 := by rw [flat_size Sp.cs_len, List.length_take]; omega
 obtain ⟨i0, hi0, hz0, hzs, hzb⟩ := info_parts Tryz.infoSp
 have hcap : cap = l.length := by omega
 subst hcap
 have htk : ∀ (j : Nat) (v : Value), ((l.take i).flatMap Sp.cs)[j]? = some v → cur[j]? = some v := fun j v hj => by
  have e : (l.take i).flatMap Sp.cs ++ (l.drop i).flatMap Sp.cs = l.flatMap Sp.cs := by rw [← List.flatMap_append, List.take_append_drop]
  have h2 : (l.flatMap Sp.cs)[j]? = some v := by rw [← e, List.getElem?_append_left (lt_of_get hj)]; exact hj
  have h3 := drop_flat (j := 0) hc j v (by simpa using h2)
  simpa using h3
 have hold : (Builtin.firstCells i0.size i (.slice (some ⟨g, 0, none⟩) i l.length)).run Tryz.prog w.drew = .ok ((l.take i).flatMap Sp.cs).toArray w.drew := by
  rw [hzs]
  exact run_firstCells_some w.drew 2 i ⟨g, 0, none⟩ i l.length ((l.take i).flatMap Sp.cs) hl0 (fun j v hj => by
   rw [add_plain2, hb.drew.cellAt, Nat.zero_add]; exact htk j v hj)
 have hfit : Builtin.nextslicecap (i + (l.length + 1 - i)) l.length * i0.bytes ≤ 281474976710656 := by
  rw [show i + (l.length + 1 - i) = l.length + 1 by omega, hzb]
  exact growslice_fits (by omega) (by omega)
 obtain ⟨G, hG⟩ : ∃ G, G = grownCap w (l.length + 1) l.length 72 := ⟨_, rfl⟩
 obtain ⟨ROW, hROW⟩ : ∃ ROW : Array Value, ROW = ((l.take i).flatMap Sp.cs).toArray ++ Builtin.zeroCells (Value.agg #[.int .i64 0, .int .i64 0]).cells (l.length + 1 - i) ++ Builtin.zeroCells (Value.agg #[.int .i64 0, .int .i64 0]).cells (G - (l.length + 1)) := ⟨_, rfl⟩
 have hGn : l.length + 1 ≤ G := by rw [hG]; exact grownCap_ge w _ _ _
 have hG63 : G ≤ maxLen := by rw [hG]; exact grownCap_le_maxLen w _ _ _ (by unfold maxLen; omega)
 have hrz : ∀ ty, (Builtin.append_ #[74, 3] ty #[.slice (some ⟨g, 0, none⟩) i l.length, .int .i64 ((l.length : Int) + 1 - (i : Int))]).run Tryz.prog w = .ok (.slice (some ⟨w.heap.size, 0, none⟩) (l.length + 1) G) (w.drew.alloc (.cells ROW 72)) := fun ty => by
  have h := Lib.run_append_grow_zeros w 74 3 ty 72 i0 _ .i64 .i64 Tryz.underlying74 Tryz.underlying3 hi0 hz0 (some ⟨g, 0, none⟩) i l.length ((l.take i).flatMap Sp.cs) hold (l.length + 1 - i) (by omega) (by omega) (by omega) (by omega) (by rw [hzb]; omega) hfit
  rw [show i + (l.length + 1 - i) = l.length + 1 by omega, ← hG, ← hROW] at h
  rw [show (l.length : Int) + 1 - (i : Int) = ((l.length + 1 - i : Nat) : Int) by omega]
  exact h
 have hRs : ROW.size = G * 2 := by
  rw [hROW]
  simp [Builtin.zeroCells, Value.cells, hl0]
  omega
 have hRt : ∀ b : Nat, b < i * 2 → ROW[b]? = cur[b]? := fun b hb' => by
  obtain ⟨v, hv'⟩ := get_of_lt (show b < ((l.take i).flatMap Sp.cs).length by omega)
  rw [htk b v hv', hROW, Array.append_assoc, Array.getElem?_append_left (by simpa [hl0] using hb')]
  simpa using hv'
 have hne : g ≠ w.heap.size := fun e => by have := hb.lt; omega
 have hcpA : ∀ (W : World), BoxT 72 W w.heap.size ROW → BoxT 72 W gv #[.int .i64 x.f, .int .i64 x.t] → ∀ ty dc, (Builtin.copy_ #[74, 74] ty #[.slice (some ⟨w.heap.size, i * 2, none⟩) (l.length + 1 - i) dc, .slice (some ⟨gv, 0, none⟩) 1 1]).run Tryz.prog W = .ok (goInt 1) (W.setCells w.heap.size (i * 2) (Sp.cs x)) := fun W h1 h2 ty dc =>
  run_copy_sp W ty w.heap.size (i * 2) (l.length + 1 - i) dc ⟨gv, 0, none⟩ 1 1 _ _ h1 1 (by simp only [Nat.min_def]; split <;> omega) (Sp.cs_len x) (new2 W x h2) (by rw [hRs, Sp.cs_len]; omega) (Sp.cs_one x)
 have hcpB : ∀ (W : World), BoxT 72 W w.heap.size (setL ROW (i * 2) (Sp.cs x)) → BoxT 72 W g cur → ∀ ty dc sc, (Builtin.copy_ #[74, 74] ty #[.slice (some ⟨w.heap.size, (i + 1) * 2, none⟩) (l.length - i) dc, .slice (some ⟨g, i * 2, none⟩) (l.length - i) sc]).run Tryz.prog W = .ok (goInt (l.length - i : Nat)) (W.setCells w.heap.size ((i + 1) * 2) ((l.drop i).flatMap Sp.cs)) := fun W h1 h2 ty dc sc =>
  run_copy_sp W ty w.heap.size ((i + 1) * 2) (l.length - i) dc ⟨g, i * 2, none⟩ (l.length - i) sc _ _ h1 (l.length - i) (by simp only [Nat.min_def]; split <;> omega) hl1
   (fun j v hj => by rw [add_plain2, h2.cellAt]; exact drop_flat hc j v hj) (by rw [hl1, setL_size, hRs]; omega) (flat_one _)
 have hgv' : gv ≠ w.heap.size := fun e => by have := hv.lt; omega
 have HA := hide hcpA
 have HB := hide hcpB
 have HW1 : Hid (BoxT 72 (w.alloc (.cells ROW 72)).drew w.heap.size ROW) := BoxT.new_at (t := 72) (w := w) rfl
 have HW2 : Hid (BoxT 72 (w.alloc (.cells ROW 72)).drew gv #[.int .i64 x.f, .int .i64 x.t]) := BoxT.alloc (t := 72) hv _
 have HW3 : Hid (BoxT 72 (w.alloc (.cells ROW 72)).drew g cur) := BoxT.alloc (t := 72) hb _
 have HC := hide hc
 have HRS := hide hRs
 have HRT := hide hRt
 have HL1 := hide hl1
 clear hb hc hv ho hl0 hl1 htk hold hfit hG hROW hRs hRt hcpA hcpB hi0 hz0 hzs hzb
 generalize hn' : l.length = n at *
 have z1 : ¬ ((i : Int) = (n : Int)) := by omega
 have z2 : (n : Int) < (n : Int) + 1 := by omega
 have z3 : (i : Int) ≤ (n : Int) := by omega
 have z6 : (0 : Int) ≤ (i : Int) + 1 := by omega
 have z7 : ((i : Int) + 1).toNat = i + 1 := by omega
 have z8 : ¬ (G = i + 1) := by omega
 have z9 : ¬ (G = i) := by omega
 have z10 : (i : Int) + 1 ≤ (n : Int) + 1 := by omega
 have z11 : (i : Int) ≤ (n : Int) + 1 := by omega
 have z12 : n + 1 - (i + 1) = n - i := by omega
 have z14 : ¬ (n = i) := by omega
 have zw : IntKind.i64.wrap ((i : Int) + 1) = (i : Int) + 1 := by rw [IntKind.wrap_i64]; omega
 have HLN := hide hn'
 clear hn'
 go_enter Tryz.func150, Tryz.ntmps150
 have hcpa := HA.out _ HW1.out HW2.out
 go_wp2_with (first | (at_builtin; refine wp_append_run rfl _ _ 74 3 rfl _ _ rfl rfl (hrz _) ?_) | fail)
 have hb1 := HW1.out.setCells (j := i * 2) (Sp.cs x)
 have hg1 := grown_setCells w.heap.size (Sp.cs x) (w.alloc (.cells ROW 72)).drew (i * 2)
 have hg3 := HW3.out.grown hg1 hne
 have hcp := HB.out _ hb1.drew hg3.drew
 have HG1 := hide hg1
 have HB1 := hide hb1
 clear hb1 hg1 hg3
 refine wp_region_M (S := fun _ => True) (late := []) (by kernel_rfl) trivial (fun hH => ?_)
 (try simp only [nr, Nat.reduceAdd])
 refine tkA 0 hH ?_; simp only [nm]; refine tkA 1 hH ?_; simp only [nm]; refine tkA 2 hH ?_; simp only [nm]; refine tkA 3 hH ?_; simp only [nm]; refine tkA 4 hH ?_; simp only [nm]; refine tkA 5 hH ?_; simp only [nm]; refine tkA 6 hH ?_; simp only [nm]; refine tkA 7 hH ?_; simp only [nm]
 refine tkO 8 fun K hK => ?_
 refine step_copy_run rfl _ _ 74 74 rfl _ _ rfl rfl (hcp _ _ _) ?_
 refine hK.out _ _ trivial (fun hH => ?_)
 clear hK K
 (try simp only [nm])
 refine wpAnyM_done (by kernel_rfl) ?_ _
 go_wp2_with fail
 go_ret
 have hb2 := HB1.out.drew.setCells (j := (i + 1) * 2) ((l.drop i).flatMap Sp.cs)
 have hg2 := grown_setCells w.heap.size ((l.drop i).flatMap Sp.cs) ((w.alloc (.cells ROW 72)).drew.setCells w.heap.size (i * 2) (Sp.cs x)).drew ((i + 1) * 2)
 refine ⟨_, rfl, ?_, ?_, rfl⟩
 ·refine own_of_box hb2 hbase (by rw [setL_size, setL_size]; exact HRS.out) ?_ ?_ hG63 (ins_cells (Nat.le_refl i) (by rw [HLN.out]; omega) HC.out ?_ ?_ ?_)
  ·simp [HLN.out]; omega
  ·simp [HLN.out]; omega
  ·intro b hb
   rw [setL_out _ _ _ _ (.inl (by omega)), setL_out _ _ _ _ (.inl hb)]
   exact HRT.out b hb
  ·intro b u hu
   have := lt_of_get hu
   rw [Sp.cs_len] at this
   rw [setL_out _ _ _ _ (.inl (by omega))]
   exact setL_in _ _ _ _ _ (by rw [Sp.cs_len, HRS.out]; omega) hu
  ·intro b v hv
   exact setL_in _ _ _ _ _ (by rw [HL1.out, setL_size, HRS.out]; omega) hv
 ·have h0 := grownBy_alloc' w (.cells ROW 72) none
  exact ⟨hg2.os.trans (HG1.out.os.trans h0.os), hg2.tape.trans (HG1.out.tape.trans h0.tape), hg2.output.trans (HG1.out.output.trans h0.output), Nat.le_trans h0.size (Nat.le_trans HG1.out.size hg2.size), fun k hk hk' => (hg2.block k (Nat.lt_of_lt_of_le (Nat.lt_of_lt_of_le hk h0.size) HG1.out.size) (fun e => by cases e; omega)).trans ((HG1.out.block k (Nat.lt_of_lt_of_le hk h0.size) (fun e => by cases e; omega)).trans (h0.block k hk hk'))⟩
end Go.Proofs.YtpcbhcdpegbfjaaGreat
/-
 slices.Replace of a part of a row of one's own by one span.
-/
namespace Go.Proofs.YtpcbhcdpegbfjaaGreat
set_option maxHeartbeats 16000000
set_option maxRecDepth 100000
open Go.RowKit
def RPost (base : Nat) (w : World) (s : Value) (L : List Sp) (e : Ending) (w' : World) : Prop := ∃ u, e = .returned u ∧ OwnL 72 2 Sp.cs base w' u L ∧ w.grownBy w' s.ownBlock ∧ (∀ g, u.ownBlock = some g → s.ownBlock = some g ∨ w.heap.size ≤ g)
theorem insert_any {w : World} {base : Nat} {s : Value} {l : List Sp} (ho : OwnL 72 2 Sp.cs base w s l) (hn : l.length ≤ 100000) (hbase : base ≤ w.heap.size) {gv : Nat} {x : Sp} (hv : BoxT 72 w gv #[.int .i64 x.f, .int .i64 x.t]) (hgv : s.ownBlock ≠ some gv) {i : Nat} (hi : i ≤ l.length) :
  Calls Tryz.prog 150 #[s, .int .i64 (i : Int), .slice (some ⟨gv, 0, none⟩) 1 1] w (RPost base w s (l.take i ++ x :: l.drop i)) := by
 by_cases h1 : i = l.length
 ·subst h1
  rw [List.take_of_length_le (Nat.le_refl _), List.drop_of_length_le (Nat.le_refl _)]
  exact insert_end ho hn hbase hv
 ·rcases ho.2 with ⟨rfl, h0⟩ | ⟨g, cap, cur, rfl, _⟩
  ·omega
  ·by_cases hr : l.length + 1 ≤ cap
   ·refine (insert_room ho hn hv (fun e => hgv (by rw [e]; rfl)) (by omega) hr).mono ?_
    rintro e w' ⟨rfl, h2, h3⟩
    exact ⟨_, rfl, h2, h3, fun g e => .inl e⟩
   ·refine (insert_grow ho hn hbase hv (by omega) hr).mono ?_
    rintro e w' ⟨u, rfl, h2, h3, h4⟩
    exact ⟨u, rfl, h2, ⟨h3.os, h3.tape, h3.output, h3.size, fun k hk _ => h3.block k hk (by simp)⟩, fun g e => .inr (by rw [h4] at e; cases e; exact Nat.le_refl _)⟩
theorem run_app_room (w : World) (ty g n cap gv : Nat) (x : Sp) {cur : Array Value} (hg : BoxT 72 w g cur) (hs : cur.size = cap * 2) (hr : n + 1 ≤ cap) (hv : BoxT 72 w gv #[.int .i64 x.f, .int .i64 x.t]) :
  (Builtin.append_ #[74, 74] ty #[.slice (some ⟨g, 0, none⟩) n cap, .slice (some ⟨gv, 0, none⟩) 1 1]).run Tryz.prog w = .ok (.slice (some ⟨g, 0, none⟩) (n + 1) cap) (w.setCells g (n * 2) (Sp.cs x)) := by
 have hl := run_loadCells_list (P := Tryz.prog) w ⟨gv, 0, none⟩ (Sp.cs x) (new2 w x hv)
 have hst := run_storeCells_cells (P := Tryz.prog) g (n * 2) (Sp.cs x) 0 w (fun j hj => by rw [Sp.cs_len] at hj; rw [hg.cellAt, Array.getElem?_eq_getElem (by omega)]; rfl) (fun j _ => hg.free _) (Sp.cs_one x)
 obtain ⟨i0, hi, _, hz1, _⟩ := info_parts Tryz.infoSp
 rw [Sp.cs_len] at hl
 simp [Builtin.append_, run_underlying Tryz.underlying74, Builtin.lenOf, Builtin.firstCells, sizeOf, typeInfo, hi, hz1, hl, hr, add_plain2, hst]
theorem run_clear_none (w : World) (ty : Nat) (a : Option Addr) (c : Nat) : (Builtin.clear_ #[74] ty #[.slice a 0 c]).run Tryz.prog w = .ok (.tuple #[]) w := by
 cases a <;> simp [Builtin.clear_, run_underlying Tryz.underlying74]
theorem replace_ins {w : World} {base : Nat} {s : Value} {l : List Sp} (ho : OwnL 72 2 Sp.cs base w s l) (hn : l.length ≤ 100000) (hbase : base ≤ w.heap.size) {gv : Nat} {x : Sp} (hv : BoxT 72 w gv #[.int .i64 x.f, .int .i64 x.t]) (hgv : s.ownBlock ≠ some gv) {i : Nat} (hi : i ≤ l.length) :
  Calls Tryz.prog 139 #[s, .int .i64 (i : Int), .int .i64 (i : Int), .slice (some ⟨gv, 0, none⟩) 1 1] w (RPost base w s (l.take i ++ x :: l.drop i)) := by
 have HI := hide (insert_any ho hn hbase hv hgv hi)
 obtain ⟨ao, cap, rfl⟩ := ho.shape
 have hcap : l.length ≤ cap := by
  rcases ho.2 with ⟨e, h0⟩ | ⟨g, c, cur, e, _, _, h, _⟩
  ·have := congrArg (fun v => match v with | Value.slice _ n _ => n | _ => 0) e; simp at this; omega
  ·simp at e; omega
 have bc : (i : Int) ≤ (l.length : Int) := by omega
 have bd : (i : Int) ≤ (cap : Int) := by omega
 clear ho hv
 by_cases hc : cap = i
 ·subst hc
  obtain rfl : l.length = cap := by omega
  go_enter Tryz.func139, Tryz.ntmps139
  go_wp2_with (first | (go_at_call 150; refine HI.out.mono ?_; rintro e w' ⟨u, rfl, h2, h3, h4⟩) | fail)
  go_ret
  exact ⟨u, rfl, h2, h3, h4⟩
 ·go_enter Tryz.func139, Tryz.ntmps139
  go_wp2_with (first | (go_at_call 150; refine HI.out.mono ?_; rintro e w' ⟨u, rfl, h2, h3, h4⟩) | fail)
  go_ret
  exact ⟨u, rfl, h2, h3, h4⟩
theorem replace_end {w : World} {base g cap : Nat} {l : List Sp} (ho : OwnL 72 2 Sp.cs base w (.slice (some ⟨g, 0, none⟩) l.length cap) l) (hn : l.length ≤ 100000) {gv : Nat} {x : Sp} (hv : BoxT 72 w gv #[.int .i64 x.f, .int .i64 x.t]) {i : Nat} (hi : i < l.length) :
  Calls Tryz.prog 139 #[.slice (some ⟨g, 0, none⟩) l.length cap, .int .i64 (i : Int), .int .i64 (l.length : Int), .slice (some ⟨gv, 0, none⟩) 1 1] w (RPost base w (.slice (some ⟨g, 0, none⟩) l.length cap) (l.take i ++ [x])) := by
 obtain ⟨cur, _, hbg, hb, hlc, hcm, hsz, hc⟩ := own_cells ho
 have hap : ∀ ty, (Builtin.append_ #[74, 74] ty #[.slice (some ⟨g, 0, none⟩) i cap, .slice (some ⟨gv, 0, none⟩) 1 1]).run Tryz.prog w = .ok (.slice (some ⟨g, 0, none⟩) (i + 1) cap) (w.setCells g (i * 2) (Sp.cs x)) := fun ty => run_app_room w ty g i cap gv x hb hsz (by omega) hv
 have hb1 := hb.setCells (j := i * 2) (Sp.cs x)
 have hg1 := grown_setCells g (Sp.cs x) w (i * 2)
 obtain ⟨W1, hW1⟩ : ∃ W1, W1 = w.setCells g (i * 2) (Sp.cs x) := ⟨_, rfl⟩
 rw [← hW1] at hap hb1 hg1
 have hcells : ∀ cur2 : Array Value, (∀ b, b < (i + 1) * 2 → cur2[b]? = (setL cur (i * 2) (Sp.cs x))[b]?) → ∀ a y, (l.take i ++ [x])[a]? = some y → ∀ q u, (Sp.cs y)[q]? = some u → cur2[a * 2 + q]? = some u := by
  intro cur2 h2
  have := ins_cells (l := l) (i := i) (j := l.length) (x := x) (cur := cur) (cur2 := cur2) (by omega) (Nat.le_refl _) hc (fun b hb' => by rw [h2 b (by omega), setL_out _ _ _ _ (.inl hb')]) (fun b u hu => by
   have := lt_of_get hu
   rw [Sp.cs_len] at this
   rw [h2 _ (by omega)]
   exact setL_in _ _ _ _ _ (by rw [Sp.cs_len, hsz]; omega) hu) (fun b v hv' => by rw [List.drop_of_length_le (Nat.le_refl _)] at hv'; simp at hv')
  rwa [List.drop_of_length_le (Nat.le_refl _)] at this
 have hlen : (l.take i ++ [x]).length = i + 1 := by rw [List.length_append, List.length_take]; simp; omega
 have HO1 : Hid (OwnL 72 2 Sp.cs base W1 (.slice (some ⟨g, 0, none⟩) (i + 1) cap) (l.take i ++ [x])) := own_of_box hb1 hbg (by rw [setL_size]; exact hsz) hlen.symm (by rw [hlen]; omega) hcm (hcells _ (fun _ _ => rfl))
 have hclr : i + 1 < l.length → ∀ ty c, (Builtin.clear_ #[74] ty #[.slice (some ⟨g, (i + 1) * 2, none⟩) (l.length - (i + 1)) c]).run Tryz.prog W1 = .ok (.tuple #[]) (W1.setCells g ((i + 1) * 2) (List.replicate ((l.length - (i + 1)) * 2) (.int .i64 0))) := fun h ty c =>
  run_clear_sp W1 ty g ((i + 1) * 2) (l.length - (i + 1)) c (by omega) (fun a ha => by
   rw [hb1.cellAt, Array.getElem?_eq_getElem (show (i + 1) * 2 + a < _ by rw [setL_size, hsz]; omega)]; rfl) (fun a _ => hb1.free _)
 have HO2 : Hid (OwnL 72 2 Sp.cs base (W1.setCells g ((i + 1) * 2) (List.replicate ((l.length - (i + 1)) * 2) (.int .i64 0))) (.slice (some ⟨g, 0, none⟩) (i + 1) cap) (l.take i ++ [x])) := own_of_box (hb1.setCells (j := (i + 1) * 2) _) hbg (by rw [setL_size, setL_size]; exact hsz) hlen.symm (by rw [hlen]; omega) hcm (hcells _ (fun b hb' => setL_out _ _ _ _ (.inl hb')))
 have HG1 := hide hg1
 have HG2 := hide (grownBy_trans hg1 (grown_setCells g (List.replicate ((l.length - (i + 1)) * 2) (.int .i64 0)) W1 ((i + 1) * 2)))
 generalize (l.take i ++ [x]) = L at *
 clear hb hc hv ho hsz hb1 hg1 hcells hlen hW1
 generalize l.length = n at *
 have z1 : ¬ ((i : Int) = (n : Int)) := by omega
 have z3 : (i : Int) ≤ (n : Int) := by omega
 have z4 : (n : Int) ≤ (cap : Int) := by omega
 have z5 : (i : Int) ≤ (cap : Int) := by omega
 have z9 : ¬ (cap = i) := by omega
 by_cases hlt : i + 1 < n
 ·have hclr2 := hclr hlt
  clear hclr
  have z6 : (i : Int) + 1 < (n : Int) := by omega
  have z7 : ((i : Int) + 1).toNat = i + 1 := by omega
  have z8 : ¬ (cap = i + 1) := by omega
  have z10 : (i : Int) + 1 ≤ (n : Int) := by omega
  have z11 : (0 : Int) ≤ (i : Int) + 1 := by omega
  go_enter Tryz.func139, Tryz.ntmps139
  go_wp2_with (first | (at_builtin; refine wp_append_run rfl _ _ 74 74 rfl _ _ rfl rfl (hap _) ?_) | fail)
  go_ret
  exact ⟨_, rfl, HO2.out, HG2.out, fun g e => .inl e⟩
 ·have z6 : ¬ ((i : Int) + 1 < (n : Int)) := by omega
  clear hclr
  go_enter Tryz.func139, Tryz.ntmps139
  go_wp2_with (first | (at_builtin; refine wp_append_run rfl _ _ 74 74 rfl _ _ rfl rfl (hap _) ?_) | fail)
  go_ret
  exact ⟨_, rfl, HO1.out, HG1.out, fun g e => .inl e⟩
theorem replace_mid {w : World} {base g cap : Nat} {l : List Sp} (ho : OwnL 72 2 Sp.cs base w (.slice (some ⟨g, 0, none⟩) l.length cap) l) (hn : l.length ≤ 100000) {gv : Nat} {x : Sp} (hv : BoxT 72 w gv #[.int .i64 x.f, .int .i64 x.t]) {i j : Nat} (hi : i < j) (hj : j < l.length) :
  Calls Tryz.prog 139 #[.slice (some ⟨g, 0, none⟩) l.length cap, .int .i64 (i : Int), .int .i64 (j : Int), .slice (some ⟨gv, 0, none⟩) 1 1] w (RPost base w (.slice (some ⟨g, 0, none⟩) l.length cap) (l.take i ++ x :: l.drop j)) := by
 obtain ⟨cur, _, hbg, hb, hlc, hcm, hsz, hc⟩ := own_cells ho
 obtain ⟨T, hT⟩ : ∃ T, T = i + 1 + (l.length - j) := ⟨_, rfl⟩
 have hl1 : ((l.drop j).flatMap Sp.cs).length = (l.length - j) * 2 := by rw [flat_size Sp.cs_len, List.length_drop]
 have hcp1 : ∀ ty dc, (Builtin.copy_ #[74, 74] ty #[.slice (some ⟨g, i * 2, none⟩) (T - i) dc, .slice (some ⟨gv, 0, none⟩) 1 1]).run Tryz.prog w.drew = .ok (goInt 1) (w.drew.setCells g (i * 2) (Sp.cs x)) := fun ty dc =>
  run_copy_sp w.drew ty g (i * 2) (T - i) dc ⟨gv, 0, none⟩ 1 1 _ _ hb.drew 1 (by simp only [Nat.min_def]; split <;> omega) (Sp.cs_len x) (new2 w.drew x hv.drew) (by rw [Sp.cs_len, hsz]; omega) (Sp.cs_one x)
 have hb1 := hb.drew.setCells (j := i * 2) (Sp.cs x)
 have hg1 := grown_setCells g (Sp.cs x) w.drew (i * 2)
 obtain ⟨W1, hW1⟩ : ∃ W1, W1 = w.drew.setCells g (i * 2) (Sp.cs x) := ⟨_, rfl⟩
 rw [← hW1] at hcp1 hb1 hg1
 have hcp2 : ∀ ty dc sc, (Builtin.copy_ #[74, 74] ty #[.slice (some ⟨g, (i + 1) * 2, none⟩) (l.length - j) dc, .slice (some ⟨g, j * 2, none⟩) (l.length - j) sc]).run Tryz.prog W1.drew = .ok (goInt (l.length - j : Nat)) (W1.drew.setCells g ((i + 1) * 2) ((l.drop j).flatMap Sp.cs)) := fun ty dc sc =>
  run_copy_sp W1.drew ty g ((i + 1) * 2) (l.length - j) dc ⟨g, j * 2, none⟩ (l.length - j) sc _ _ hb1.drew (l.length - j) (by simp only [Nat.min_def]; split <;> omega) hl1
   (fun b v hb' => by
    have := lt_of_get hb'
    rw [add_plain2, hb1.drew.cellAt, setL_out _ _ _ _ (.inr (by rw [Sp.cs_len]; omega))]; exact drop_flat hc b v hb') (by rw [hl1, setL_size, hsz]; omega) (flat_one _)
 have hb2 := hb1.drew.setCells (j := (i + 1) * 2) ((l.drop j).flatMap Sp.cs)
 have hg2 := grown_setCells g ((l.drop j).flatMap Sp.cs) W1.drew ((i + 1) * 2)
 obtain ⟨W2, hW2⟩ : ∃ W2, W2 = W1.drew.setCells g ((i + 1) * 2) ((l.drop j).flatMap Sp.cs) := ⟨_, rfl⟩
 rw [← hW2] at hcp2 hb2 hg2
 have hcells : ∀ cur3 : Array Value, (∀ b, b < T * 2 → cur3[b]? = (setL (setL cur (i * 2) (Sp.cs x)) ((i + 1) * 2) ((l.drop j).flatMap Sp.cs))[b]?) → ∀ a y, (l.take i ++ x :: l.drop j)[a]? = some y → ∀ q u, (Sp.cs y)[q]? = some u → cur3[a * 2 + q]? = some u := by
  intro cur3 h3
  refine ins_cells (l := l) (cur := cur) (by omega) (by omega) hc (fun b hb' => ?_) (fun b u hu => ?_) (fun b v hv' => ?_)
  ·rw [h3 b (by omega), setL_out _ _ _ _ (.inl (by omega)), setL_out _ _ _ _ (.inl hb')]
  ·have := lt_of_get hu
   rw [Sp.cs_len] at this
   rw [h3 _ (by omega), setL_out _ _ _ _ (.inl (by omega))]
   exact setL_in _ _ _ _ _ (by rw [Sp.cs_len, hsz]; omega) hu
  ·have := lt_of_get hv'
   rw [h3 _ (by omega)]
   exact setL_in _ _ _ _ _ (by rw [hl1, setL_size, hsz]; omega) hv'
 have hlen : (l.take i ++ x :: l.drop j).length = T := by rw [List.length_append, List.length_take, List.length_cons, List.length_drop, hT]; omega
 have hgw : w.grownBy W2 (some g) := grownBy_trans (show w.grownBy W1 (some g) from ⟨hg1.os, hg1.tape, hg1.output, hg1.size, hg1.block⟩) ⟨hg2.os, hg2.tape, hg2.output, hg2.size, hg2.block⟩
 have HO1 : Hid (OwnL 72 2 Sp.cs base W2 (.slice (some ⟨g, 0, none⟩) T cap) (l.take i ++ x :: l.drop j)) := own_of_box hb2 hbg (by rw [setL_size, setL_size]; exact hsz) hlen.symm (by rw [hlen]; omega) hcm (hcells _ (fun _ _ => rfl))
 have hclr : T < l.length → ∀ ty c, (Builtin.clear_ #[74] ty #[.slice (some ⟨g, T * 2, none⟩) (l.length - T) c]).run Tryz.prog W2 = .ok (.tuple #[]) (W2.setCells g (T * 2) (List.replicate ((l.length - T) * 2) (.int .i64 0))) := fun h ty c =>
  run_clear_sp W2 ty g (T * 2) (l.length - T) c (by omega) (fun a ha => by
   rw [hb2.cellAt, Array.getElem?_eq_getElem (show T * 2 + a < _ by rw [setL_size, setL_size, hsz]; omega)]; rfl) (fun a _ => hb2.free _)
 have HO2 : Hid (OwnL 72 2 Sp.cs base (W2.setCells g (T * 2) (List.replicate ((l.length - T) * 2) (.int .i64 0))) (.slice (some ⟨g, 0, none⟩) T cap) (l.take i ++ x :: l.drop j)) := own_of_box (hb2.setCells (j := T * 2) _) hbg (by rw [setL_size, setL_size, setL_size]; exact hsz) hlen.symm (by rw [hlen]; omega) hcm (hcells _ (fun b hb' => setL_out _ _ _ _ (.inl hb')))
 have HG1 := hide hgw
 have HG2 := hide (grownBy_trans hgw (grown_setCells g (List.replicate ((l.length - T) * 2) (.int .i64 0)) W2 (T * 2)))
 generalize (l.take i ++ x :: l.drop j) = L at *
 clear hb hc hv ho hsz hb1 hg1 hb2 hg2 hcells hlen hW1 hW2 hgw hl1
 generalize l.length = n at *
 have z1 : ¬ ((i : Int) = (j : Int)) := by omega
 have z2 : ¬ ((j : Int) = (n : Int)) := by omega
 have z3 : (i : Int) ≤ (j : Int) := by omega
 have z4 : (j : Int) ≤ (cap : Int) := by omega
 have z5 : (i : Int) ≤ (cap : Int) := by omega
 have z6 : (j : Int) ≤ (n : Int) := by omega
 have z9 : ¬ (cap = i) := by omega
 have z10 : ¬ (cap = j) := by omega
 have z11 : IntKind.i64.wrap ((i : Int) + 1) = (i : Int) + 1 := by rw [IntKind.wrap_i64]; omega
 have z12 : IntKind.i64.wrap ((i : Int) + 1 + ((n - j : Nat) : Int)) = (T : Int) := by rw [IntKind.wrap_i64]; omega
 have z13 : ¬ ((cap : Int) < (T : Int)) := by omega
 have z14 : (T : Int) ≤ (cap : Int) := by omega
 have z15 : (i : Int) + 1 ≤ (j : Int) := by omega
 have z16 : (i : Int) ≤ (T : Int) := by omega
 have z17 : (0 : Int) ≤ (i : Int) + 1 := by omega
 have z18 : (i : Int) + 1 ≤ (T : Int) := by omega
 have z19 : ((i : Int) + 1).toNat = i + 1 := by omega
 have z20 : ¬ (cap = i + 1) := by omega
 have z21 : T - (i + 1) = n - j := by omega
 have z22 : (T : Int) ≤ (n : Int) := by omega
 by_cases hlt : T < n
 ·have hclr2 := hclr hlt
  clear hclr
  have z23 : ¬ (cap = T) := by omega
  have HT := hide hT
  clear hT
  go_enter Tryz.func139, Tryz.ntmps139
  go_wp2_with fail
  refine wp_region_M (S := fun _ => True) (late := []) (by kernel_rfl) trivial (fun hH => ?_)
  (try simp only [nr, Nat.reduceAdd])
  refine tkA 0 hH ?_; simp only [nm]; refine tkA 1 hH ?_; simp only [nm]; refine tkA 2 hH ?_; simp only [nm]; refine tkA 3 hH ?_; simp only [nm]; refine tkA 4 hH ?_; simp only [nm]; refine tkA 5 hH ?_; simp only [nm]; refine tkA 6 hH ?_; simp only [nm]; refine tkA 7 hH ?_; simp only [nm]; refine tkA 8 hH ?_; simp only [nm]; refine tkA 9 hH ?_; simp only [nm]; refine tkA 10 hH ?_; simp only [nm]; refine tkA 11 hH ?_; simp only [nm]; refine tkA 12 hH ?_; simp only [nm]
  refine wpAnyM_done (by kernel_rfl) ?_ _
  go_wp2_with fail
  refine wp_region_M (S := fun _ => True) (late := []) (by kernel_rfl) trivial (fun hH => ?_)
  (try simp only [nr, Nat.reduceAdd])
  refine tkA 0 hH ?_; simp only [nm]; refine tkA 1 hH ?_; simp only [nm]; refine tkA 2 hH ?_; simp only [nm]; refine tkA 3 hH ?_; simp only [nm]; refine tkA 4 hH ?_; simp only [nm]; refine tkA 5 hH ?_; simp only [nm]; refine tkA 6 hH ?_; simp only [nm]; refine tkA 7 hH ?_; simp only [nm]; refine tkA 8 hH ?_; simp only [nm]
  refine tkO 9 fun K hK => ?_
  refine step_copy_run rfl _ _ 74 74 rfl _ _ rfl rfl (hcp2 _ _ _) ?_
  refine hK.out _ _ trivial (fun hH => ?_)
  clear hK K
  (try simp only [nm])
  refine wpAnyM_done (by kernel_rfl) ?_ _
  go_wp2_with fail
  go_ret
  exact ⟨_, rfl, HO2.out, HG2.out, fun g e => .inl e⟩
 ·obtain rfl : n = T := by omega
  have hclr0 : ∀ ty a c, (Builtin.clear_ #[74] ty #[.slice a 0 c]).run Tryz.prog W2 = .ok (.tuple #[]) W2 := fun ty a c => run_clear_none W2 ty a c
  have z24 : n - n = 0 := Nat.sub_self n
  have HT := hide hT
  clear hclr hT
  by_cases hcn : cap = n
  ·subst hcn
   go_enter Tryz.func139, Tryz.ntmps139
   go_wp2_with fail
   refine wp_region_M (S := fun _ => True) (late := []) (by kernel_rfl) trivial (fun hH => ?_)
   (try simp only [nr, Nat.reduceAdd])
   refine tkA 0 hH ?_; simp only [nm]; refine tkA 1 hH ?_; simp only [nm]; refine tkA 2 hH ?_; simp only [nm]; refine tkA 3 hH ?_; simp only [nm]; refine tkA 4 hH ?_; simp only [nm]; refine tkA 5 hH ?_; simp only [nm]; refine tkA 6 hH ?_; simp only [nm]; refine tkA 7 hH ?_; simp only [nm]; refine tkA 8 hH ?_; simp only [nm]; refine tkA 9 hH ?_; simp only [nm]; refine tkA 10 hH ?_; simp only [nm]; refine tkA 11 hH ?_; simp only [nm]; refine tkA 12 hH ?_; simp only [nm]
   refine wpAnyM_done (by kernel_rfl) ?_ _
   go_wp2_with fail
   refine wp_region_M (S := fun _ => True) (late := []) (by kernel_rfl) trivial (fun hH => ?_)
   (try simp only [nr, Nat.reduceAdd])
   refine tkA 0 hH ?_; simp only [nm]; refine tkA 1 hH ?_; simp only [nm]; refine tkA 2 hH ?_; simp only [nm]; refine tkA 3 hH ?_; simp only [nm]; refine tkA 4 hH ?_; simp only [nm]; refine tkA 5 hH ?_; simp only [nm]; refine tkA 6 hH ?_; simp only [nm]; refine tkA 7 hH ?_; simp only [nm]; refine tkA 8 hH ?_; simp only [nm]
   refine tkO 9 fun K hK => ?_
   refine step_copy_run rfl _ _ 74 74 rfl _ _ rfl rfl (hcp2 _ _ _) ?_
   refine hK.out _ _ trivial (fun hH => ?_)
   clear hK K
   (try simp only [nm])
   refine wpAnyM_done (by kernel_rfl) ?_ _
   go_wp2_with fail
   go_ret
   exact ⟨_, rfl, HO1.out, HG1.out, fun g e => .inl e⟩
  ·go_enter Tryz.func139, Tryz.ntmps139
   go_wp2_with fail
   refine wp_region_M (S := fun _ => True) (late := []) (by kernel_rfl) trivial (fun hH => ?_)
   (try simp only [nr, Nat.reduceAdd])
   refine tkA 0 hH ?_; simp only [nm]; refine tkA 1 hH ?_; simp only [nm]; refine tkA 2 hH ?_; simp only [nm]; refine tkA 3 hH ?_; simp only [nm]; refine tkA 4 hH ?_; simp only [nm]; refine tkA 5 hH ?_; simp only [nm]; refine tkA 6 hH ?_; simp only [nm]; refine tkA 7 hH ?_; simp only [nm]; refine tkA 8 hH ?_; simp only [nm]; refine tkA 9 hH ?_; simp only [nm]; refine tkA 10 hH ?_; simp only [nm]; refine tkA 11 hH ?_; simp only [nm]; refine tkA 12 hH ?_; simp only [nm]
   refine wpAnyM_done (by kernel_rfl) ?_ _
   go_wp2_with fail
   refine wp_region_M (S := fun _ => True) (late := []) (by kernel_rfl) trivial (fun hH => ?_)
   (try simp only [nr, Nat.reduceAdd])
   refine tkA 0 hH ?_; simp only [nm]; refine tkA 1 hH ?_; simp only [nm]; refine tkA 2 hH ?_; simp only [nm]; refine tkA 3 hH ?_; simp only [nm]; refine tkA 4 hH ?_; simp only [nm]; refine tkA 5 hH ?_; simp only [nm]; refine tkA 6 hH ?_; simp only [nm]; refine tkA 7 hH ?_; simp only [nm]; refine tkA 8 hH ?_; simp only [nm]
   refine tkO 9 fun K hK => ?_
   refine step_copy_run rfl _ _ 74 74 rfl _ _ rfl rfl (hcp2 _ _ _) ?_
   refine hK.out _ _ trivial (fun hH => ?_)
   clear hK K
   (try simp only [nm])
   refine wpAnyM_done (by kernel_rfl) ?_ _
   go_wp2_with fail
   go_ret
   exact ⟨_, rfl, HO1.out, HG1.out, fun g e => .inl e⟩
theorem replace_any {w : World} {base : Nat} {s : Value} {l : List Sp} (ho : OwnL 72 2 Sp.cs base w s l) (hn : l.length ≤ 100000) (hbase : base ≤ w.heap.size) {gv : Nat} {x : Sp} (hv : BoxT 72 w gv #[.int .i64 x.f, .int .i64 x.t]) (hgv : s.ownBlock ≠ some gv) {i j : Nat} (hij : i ≤ j) (hj : j ≤ l.length) :
  Calls Tryz.prog 139 #[s, .int .i64 (i : Int), .int .i64 (j : Int), .slice (some ⟨gv, 0, none⟩) 1 1] w (RPost base w s (l.take i ++ x :: l.drop j)) := by
 by_cases h1 : i = j
 ·subst h1
  exact replace_ins ho hn hbase hv hgv hj
 ·rcases ho.2 with ⟨rfl, h0⟩ | ⟨g, cap, cur, rfl, _⟩
  ·omega
  ·by_cases h2 : j = l.length
   ·subst h2
    rw [List.drop_of_length_le (Nat.le_refl _)]
    exact replace_end ho hn hv (by omega)
   ·exact replace_mid ho hn hv (by omega) (by omega)
end Go.Proofs.YtpcbhcdpegbfjaaGreat
/-
 One more span among a key's sessions: those that it overlaps are neighbours.
-/
namespace Go.Proofs.YtpcbhcdpegbfjaaGreat
open Go.RowKit
def jsp (s x : Sp) : Sp := ⟨min s.f x.f, max s.t x.t⟩
def whl (s : Sp) (l : List Sp) (a b : Nat) : Sp := ((l.take b).drop a).foldl jsp s
theorem whl_self (s : Sp) (l : List Sp) (a : Nat) : whl s l a a = s := by
 unfold whl
 rw [List.drop_of_length_le (by rw [List.length_take]; omega)]; rfl
theorem whl_step {s : Sp} {l : List Sp} {a b : Nat} {x : Sp} (hab : a ≤ b) (hx : l[b]? = some x) : whl s l a (b + 1) = jsp (whl s l a b) x := by
 unfold whl
 have hb := lt_of_get hx
 have e : l[b] = x := by rw [List.getElem?_eq_getElem hb] at hx; exact Option.some.inj hx
 rw [List.take_succ_eq_append_getElem hb, e, List.drop_append_of_le_length (by rw [List.length_take]; omega), List.foldl_append]; rfl
structure AddR (l : List Sp) (f t : Int) (a b : Nat) : Prop where
 ab : a ≤ b
 bl : b ≤ l.length
 lo : ∀ i x, i < a → l[i]? = some x → x.t ≤ f
 mi : ∀ i x, a ≤ i → i < b → l[i]? = some x → f < x.t ∧ x.f < t
 hi : ∀ i x, b ≤ i → l[i]? = some x → t ≤ x.f
theorem rise_get {l : List Sp} (h : l.Pairwise fun a b => a.t ≤ b.f) {i j : Nat} {x y : Sp} (hij : i < j) (hx : l[i]? = some x) (hy : l[j]? = some y) : x.t ≤ y.f := by
 have h1 := lt_of_get hx
 have h2 := lt_of_get hy
 rw [List.getElem?_eq_getElem h1] at hx
 rw [List.getElem?_eq_getElem h2] at hy
 cases hx; cases hy
 exact List.pairwise_iff_getElem.1 h i j h1 h2 hij
theorem wp_lookM {P : Program} {w : World} {ops : Array Oper} {rest : List Oper} {o : Oper} {a : Act} {Q : Exit → Act → World → Prop} (hg : o.guard = none) (m x : Operand) (t : TypeId) (c : Bool) (hop : o.op = Op.lookup t m x c) (mv kv : Value) (hm : a.eval m = mv) (hx : a.eval x = kv) {v : Value} (hrun : (Instr.lookup t mv kv c).run P w = .ok v w)
  (h : wpList P ops Q rest (a.put o.dst v) w) : wpList P ops Q (o :: rest) a w := by
 refine wpList_plain hg fun K' hK' => ?_
 unfold Oper.wp
 simp [execOp, hop, hm, hx, hrun, Result.andThen]
 exact hK' _ _ h
theorem wp_putM {P : Program} {w : World} {ops : Array Oper} {rest : List Oper} {o : Oper} {a : Act} {Q : Exit → Act → World → Prop} (hg : o.guard = none) (m x v : Operand) (t : TypeId) (hop : o.op = Op.mapUpdate t m x v) (mv kv vv : Value) (hm : a.eval m = mv) (hx : a.eval x = kv) (hv : a.eval v = vv) {w' : World} (hrun : (Instr.mapUpdate t mv kv vv).run P w = .ok () w')
  (h : wpList P ops Q rest (a.put o.dst undef) w') : wpList P ops Q (o :: rest) a w := by
 refine wpList_plain hg fun K' hK' => ?_
 unfold Oper.wp
 simp [execOp, hop, hm, hx, hv, hrun, Result.andThen]
 exact hK' _ _ h
def RowOf (R R0 : List SRow) (k : Int) (v : Value) (l : List Sp) : Prop := (R = R0 ∧ (∀ r ∈ R, r.k ≠ k) ∧ v = .slice none 0 0 ∧ l = []) ∨ R.Perm (⟨k, v, l⟩ :: R0)
theorem rowOf (R : List SRow) (k : Int) : ∃ R0 v l, RowOf R R0 k v l := by
 by_cases h : ∃ r ∈ R, r.k = k
 ·obtain ⟨r, hr, rfl⟩ := h
  obtain ⟨u, v, rfl⟩ := List.append_of_mem hr
  exact ⟨u ++ v, r.v, r.l, .inr List.perm_middle⟩
 ·exact ⟨R, .slice none 0 0, [], .inl ⟨rfl, fun r hr e => h ⟨r, hr, e⟩, rfl, rfl⟩⟩
theorem Tryz.zeroRow (w : World) : (zeroValue 74).run Tryz.prog w = .ok (.slice none 0 0) w := by kernel_rfl
theorem OM.look {w : World} {o : Nat} {fq : Nat → Prop} {R R0 : List SRow} (h : OM w o fq R) {k : Int} (hk : In64 k) {v : Value} {l : List Sp} (hr : RowOf R R0 k v l) : (Instr.lookup 115 (.map (some o)) (.int .i64 k) false).run Tryz.prog w = .ok v w := by
 rcases hr with ⟨rfl, h1, rfl, rfl⟩ | hp
 ·exact h.op.look_miss Tryz.lawI Tryz.underlying115 (Tryz.zeroRow w) (keyI hk) (fun p hp e => by
   obtain ⟨r, hr, rfl⟩ := List.mem_map.1 hp
   simp [sEnt] at e
   exact h1 r hr e) false
 ·exact h.op.look_hit Tryz.lawI Tryz.underlying115 (keyI hk) (R := R0.map sEnt) (by have := hp.map sEnt; rwa [List.map_cons] at this) false
theorem OM.row {w : World} {o : Nat} {fq : Nat → Prop} {R R0 : List SRow} (h : OM w o fq R) {k : Int} {v : Value} {l : List Sp} (hr : RowOf R R0 k v l) : OwnL 72 2 Sp.cs 0 w v l := by
 rcases hr with ⟨rfl, h1, rfl, rfl⟩ | hp
 ·exact OwnL.nil _ _ _ _ _
 ·exact (h.rows _ (hp.mem_iff.2 (List.mem_cons_self ..))).1
theorem OM.rowIn {w : World} {o : Nat} {fq : Nat → Prop} {R R0 : List SRow} (h : OM w o fq R) {k : Int} {v : Value} {l : List Sp} (hr : RowOf R R0 k v l) : ∀ g, v.ownBlock = some g → fq g := by
 rcases hr with ⟨rfl, h1, rfl, rfl⟩ | hp
 ·intro g e; cases e
 ·exact h.fr _ (hp.mem_iff.2 (List.mem_cons_self ..))
theorem OM.store {w w1 : World} {o : Nat} {fq : Nat → Prop} {R R0 : List SRow} (h : OM w o fq R) {k : Int} (hk : In64 k) {v v' : Value} {l l' : List Sp} (hr : RowOf R R0 k v l) (hg : w.grownBy w1 v.ownBlock) (ho : OwnL 72 2 Sp.cs 0 w1 v' l') (hl : l' ≠ []) (hin : ∀ g, v'.ownBlock = some g → v.ownBlock = some g ∨ w.heap.size ≤ g) :
  ∃ w', (Instr.mapUpdate 115 (.map (some o)) (.int .i64 k) v').run Tryz.prog w1 = .ok () w' ∧ OM w' o (fun i => fq i ∨ v'.ownBlock = some i) (⟨k, v', l'⟩ :: R0) ∧ MTurn w1 w' o := by
 have hov : ∀ g, v.ownBlock = some g → g ≠ o := fun g e e' => by
  obtain ⟨cu, hcu⟩ := (h.row hr).has g e
  obtain ⟨es, ck, hes⟩ := h.op.isMap
  rw [e', hes] at hcu; cases hcu
 have ho1 : MapAt Tryz.prog 2 w1 o (R.map sEnt) := h.op.back (hg.block o h.op.lt (fun e => hov o e.symm rfl))
 have hov' : ∀ g, v'.ownBlock = some g → g ≠ o := fun g e e' => by
  obtain ⟨cu, hcu⟩ := ho.has g e
  obtain ⟨es, ck, hes⟩ := ho1.isMap
  rw [e', hes] at hcu; cases hcu
 have h0 : ∃ w', (Instr.mapUpdate 115 (.map (some o)) (.int .i64 k) v').run Tryz.prog w1 = .ok () w' ∧ MapAt Tryz.prog 2 w' o ((⟨k, v', l'⟩ :: R0 : List SRow).map sEnt) ∧ MTurn w1 w' o := by
  rcases hr with ⟨rfl, h1, rfl, rfl⟩ | hp
  ·exact ho1.store_new Tryz.lawI Tryz.underlying115 (keyI hk) (fun p hp e => by
    obtain ⟨r, hr, rfl⟩ := List.mem_map.1 hp
    simp [sEnt] at e
    exact h1 r hr e)
  ·exact ho1.store_old Tryz.lawI Tryz.underlying115 (keyI hk) (R := R0.map sEnt) (by have := hp.map sEnt; rwa [List.map_cons] at this)
 have hsub : ∀ r ∈ R0, r ∈ R := fun r hm => by
  rcases hr with ⟨rfl, _⟩ | hp
  ·exact hm
  ·exact hp.mem_iff.2 (List.mem_cons_of_mem _ hm)
 have hne : ∀ r ∈ R0, ∀ g, r.v.ownBlock = some g → v.ownBlock ≠ some g := fun r hm g e e' => by
  rcases hr with ⟨rfl, _, rfl, _⟩ | hp
  ·cases e'
  ·have hap := h.apart.perm hp (fun e => e.symm)
   exact (List.pairwise_cons.1 hap).1 r hm (e'.trans e.symm)
 have hR0 : R0.Pairwise fun a b => a.v.ownBlock ≠ b.v.ownBlock := by
  rcases hr with ⟨rfl, _⟩ | hp
  ·exact h.apart
  ·exact (List.pairwise_cons.1 (h.apart.perm hp (fun e => e.symm))).2
 obtain ⟨w', hrun, hm, ht⟩ := h0
 refine ⟨w', hrun, ⟨hm, fun r hrm => ?_, fun r hrm g e => ?_, List.pairwise_cons.2 ⟨fun r hrm e => ?_, hR0⟩, .inl h.fo, fun i hi => ?_⟩, ht⟩
 ·rcases List.mem_cons.1 hrm with rfl | hrm
  ·exact ⟨ho.back (fun g e => ht.other (hov' g e)), hl, hk⟩
  ·obtain ⟨q1, q2, q3⟩ := h.rows r (hsub r hrm)
   refine ⟨q1.back (fun g e => ?_), q2, q3⟩
   have hgo : g ≠ o := fun e' => by
    obtain ⟨cu, hcu⟩ := q1.has g e
    obtain ⟨es, ck, hes⟩ := h.op.isMap
    rw [e', hes] at hcu; cases hcu
   rw [ht.other hgo]
   exact hg.block g (q1.lt g e) (fun e' => hne r hrm g e e'.symm)
 ·rcases List.mem_cons.1 hrm with rfl | hrm
  ·exact .inr e
  ·exact .inl (h.fr r (hsub r hrm) g e)
 ·cases hb : r.v.ownBlock with
  | none =>
   obtain ⟨q1, q2, _⟩ := h.rows r (hsub r hrm)
   rcases q1.2 with ⟨_, q4⟩ | ⟨g, c, cu, q4, _⟩
   ·exact q2 (List.length_eq_zero_iff.1 q4)
   ·rw [q4] at hb; cases hb
  | some g =>
   rw [hb] at e
   rcases hin g e with e2 | e2
   ·exact hne r hrm g hb e2
   ·have := (h.rows r (hsub r hrm)).1.lt g hb; omega
 ·rw [ht.size]
  rcases hi with hi | hi
  ·exact Nat.lt_of_lt_of_le (h.flt i hi) hg.size
  ·exact ho.lt i hi
end Go.Proofs.YtpcbhcdpegbfjaaGreat
/-
 add: one more span of a key, walked.
-/
namespace Go.Proofs.YtpcbhcdpegbfjaaGreat
set_option maxHeartbeats 16000000
set_option maxRecDepth 100000
open Go.RowKit
structure AI (w wr : World) (o : Nat) (fq : Nat → Prop) (R : List SRow) (v : Value) (f t : Int) : Prop where
 bel : Below w.heap.size w wr
 bf : BoxT 72 wr w.heap.size #[.int .i64 f, .int .i64 t]
 br : BoxT 72 wr (w.heap.size + 1) #[.int .i64 0, .int .i64 0]
 bl : BoxT 74 wr (w.heap.size + 1 + 1) #[v]
 om : OM wr o fq R
theorem AI.below {w wr w' : World} {o : Nat} {fq : Nat → Prop} {R : List SRow} {v : Value} {f t : Int} (h : AI w wr o fq R v f t) (hb : Below wr.heap.size wr w') : AI w w' o fq R v f t :=
 ⟨h.bel.trans (hb.mono h.bel.size), BoxT.below (t := 72) h.bf hb, BoxT.below (t := 72) h.br hb, BoxT.below (t := 74) h.bl hb, h.om.below hb⟩
theorem AI.grown {w wr w' : World} {o : Nat} {fq : Nat → Prop} {R : List SRow} {v : Value} {f t : Int} {K : Nat} (h : AI w wr o fq R v f t) (hg : wr.grownBy w' (some K)) (hK : w.heap.size + 1 + 1 < K) (hlt : ∀ i, fq i → i < w.heap.size) : AI w w' o fq R v f t := by
 refine ⟨h.bel.grown hg h.bel.size (fun k e => by cases e; omega), h.bf.grown hg (by omega), h.br.grown hg (by omega), h.bl.grown hg (by omega), h.om.back (fun i hi => hg.block i (h.om.flt i hi) (fun e => by cases e; have := hlt _ hi; omega)) hg.size⟩
theorem lsegNil {B : Nat} {w : World} {ao : Option Addr} {n c : Nat} (hn : n = 0) : LSeg 2 Sp.cs B w (.slice ao n c) ([] : List Sp) := by subst hn; exact ⟨ao, c, rfl, by simp, .inl rfl⟩
theorem seg_mid {w : World} {base g cap : Nat} {l : List Sp} (h : OwnL 72 2 Sp.cs base w (.slice (some ⟨g, 0, none⟩) l.length cap) l) {a b : Nat} (hab : a ≤ b) (hbl : b ≤ l.length) (hn : l.length ≤ 100000) (c : Nat) : LSeg 2 Sp.cs w.heap.size w (.slice (some ⟨g, a * 2, none⟩) (b - a) c) ((l.take b).drop a) := by
 obtain ⟨cur, _, _, hb, _, _, _, hc⟩ := own_cells h
 have hl : ((l.take b).drop a).length = b - a := by rw [List.length_drop, List.length_take]; omega
 refine ⟨some ⟨g, a * 2, none⟩, c, by rw [hl], by rw [hl]; omega, .inr ⟨g, a * 2, rfl, hb.lt, fun i x hx j u hu => ?_⟩⟩
 rw [List.getElem?_drop, List.getElem?_take] at hx
 split at hx
 ·have := hc (a + i) x hx j u hu
  rw [hb.cellAt, show a * 2 + i * 2 + j = (a + i) * 2 + j by omega]; exact this
 ·cases hx
theorem add_fin {w wr w5 w6 w7 : World} {o : Nat} {fq : Nat → Prop} {R R0 : List SRow} {V : Value} {l L : List Sp} {k f t : Int} {KW : Nat} {wf wt : Int} (HH : OM w o fq R) (hr : RowOf R R0 k V l) (A5 : AI w w5 o fq R V f t) (hKW : w.heap.size + 1 + 1 < KW) (W5 : BoxT 72 w5 KW #[.int .i64 wf, .int .i64 wt]) {u v5 : Value} {ys : List Sp} (o5 : OwnL 72 2 Sp.cs w.heap.size w5 v5 ys) (hs5 : w.heap.size + 1 + 1 < wr.heap.size) (k5 : v5.ownBlock = none ∨ v5.ownBlock = some wr.heap.size)
  (h3 : (w5.alloc (.cells #[.int .i64 wf, .int .i64 wt] 72)).grownBy w6 V.ownBlock) (h4 : ∀ g, u.ownBlock = some g → V.ownBlock = some g ∨ (w5.alloc (.cells #[.int .i64 wf, .int .i64 wt] 72)).heap.size ≤ g)
  (om7 : OM w7 o (fun i => fq i ∨ u.ownBlock = some i) (⟨k, u, L⟩ :: R0)) (mt7 : MTurn w6 w7 o) :
  BoxT 72 w7 KW #[.int .i64 wf, .int .i64 wt] ∧ (∀ j, w7.frozen? ⟨w.heap.size + 1, j, none⟩ = false) ∧ w7.cell? ⟨w.heap.size + 1, 0, none⟩ = some (.int .i64 0) ∧ w7.cell? ⟨w.heap.size + 1, 1, none⟩ = some (.int .i64 0) ∧
  ∀ x y, BoxT 72 ((w7.setCell ⟨w.heap.size + 1, 0, none⟩ x).setCell ⟨w.heap.size + 1, 1, none⟩ y) (w.heap.size + 1) #[x, y] ∧ OwnL 72 2 Sp.cs w.heap.size ((w7.setCell ⟨w.heap.size + 1, 0, none⟩ x).setCell ⟨w.heap.size + 1, 1, none⟩ y) v5 ys ∧
   OM ((w7.setCell ⟨w.heap.size + 1, 0, none⟩ x).setCell ⟨w.heap.size + 1, 1, none⟩ y) o (fun i => fq i ∨ u.ownBlock = some i) (⟨k, u, L⟩ :: R0) ∧ FT fq (fun i => fq i ∨ u.ownBlock = some i) w ((w7.setCell ⟨w.heap.size + 1, 0, none⟩ x).setCell ⟨w.heap.size + 1, 1, none⟩ y) := by
 have hV : ∀ g, V.ownBlock = some g → g < w.heap.size := fun g e => HH.flt g (HH.rowIn hr g e)
 have ho : o < w.heap.size := HH.flt o HH.fo
 have hsz5 := A5.bel.size
 have hW5s : (w5.alloc (.cells #[.int .i64 wf, .int .i64 wt] 72)).heap.size = w5.heap.size + 1 := by simp
 have stay : ∀ i, w.heap.size ≤ i → i < w5.heap.size → w7.heap[i]? = w5.heap[i]? := fun i h1 h2' => by
  rw [mt7.other (by omega), h3.block i (by omega) (fun e => by have := hV i e.symm; omega)]
  exact Below.heap_alloc w5 _ i h2'
 have hbr : BoxT 72 w7 (w.heap.size + 1) #[.int .i64 0, .int .i64 0] := by have := A5.br; unfold BoxT at *; rw [stay _ (by omega) A5.br.lt]; exact this
 obtain ⟨c0, c1⟩ := hbr.cells2
 have hltW := W5.lt
 have hbl5 := A5.bl.lt
 refine ⟨by have h := W5; unfold BoxT at h ⊢; rw [stay _ (by omega) hltW]; exact h, fun j => hbr.free j, c0, c1, fun x y => ?_⟩
 have g8 : w7.grownBy ((w7.setCell ⟨w.heap.size + 1, 0, none⟩ x).setCell ⟨w.heap.size + 1, 1, none⟩ y) (some (w.heap.size + 1)) := grownBy_trans (grownBy_set _ _ _ _) (grownBy_set _ _ _ _)
 have s7 : w7.heap.size = w6.heap.size := mt7.size
 have s6 := h3.size
 refine ⟨?_, ?_, ?_, ?_⟩
 ·have := (hbr.set 0 x).set 1 y
  simpa using this
 ·refine o5.back (fun g e => ?_)
  have e1 : g = wr.heap.size := by
   rcases k5 with e2 | e2
   ·rw [e2] at e; cases e
   ·rw [e2] at e; exact (Option.some.inj e).symm
  have e2 := o5.lt g e
  rw [g8.block g (by omega) (fun e => by cases e; omega), stay g (by omega) e2]
 ·refine om7.back (fun i hi => g8.block i (om7.flt i hi) (fun e => ?_)) g8.size
  cases e
  rcases hi with hi | hi
  ·have := HH.flt _ hi; omega
  ·rcases h4 _ hi with e | e
   ·have := hV _ e; omega
   ·omega
 ·refine ⟨g8.os.trans (mt7.grown.os.trans (h3.os.trans A5.bel.os)), g8.tape.trans (mt7.grown.tape.trans (h3.tape.trans A5.bel.tape)), g8.output.trans (mt7.grown.output.trans (h3.output.trans A5.bel.output)), by have := g8.size; omega, fun i hi hn => ?_, fun i hi => ?_⟩
  ·rw [g8.block i (by omega) (fun e => by cases e; omega), mt7.other (fun e => hn (by rw [e]; exact HH.fo)), h3.block i (by omega) (fun e => hn (HH.rowIn hr i e.symm)), Below.heap_alloc w5 _ i (by omega)]
   exact A5.bel.block i hi
  ·rcases hi with hi | hi
   ·exact .inl hi
   ·rcases h4 i hi with e | e
    ·exact .inl (HH.rowIn hr i e)
    ·exact .inr (by omega)
theorem oadd_any {w : World} {o : Nat} {fq : Nat → Prop} {R R0 : List SRow} {v : Value} {l : List Sp} {k f t : Int} (h : OM w o fq R) (hk : In64 k) (hr : RowOf R R0 k v l) (hf : f < t) (hrise : l.Pairwise fun a b => a.t ≤ b.f) (hfull : ∀ s ∈ l, s.f < s.t) (hn : l.length ≤ 100000) :
  Calls Tryz.prog 124 #[.map (some o), .int .i64 k, .agg #[.int .i64 f, .int .i64 t]] w fun e w' => ∃ a b gv v', AddR l f t a b ∧ e = .returned (.tuple #[(whl ⟨f, t⟩ l a b).val, gv]) ∧ OwnL 72 2 Sp.cs w.heap.size w' gv ((l.take b).drop a) ∧
   OM w' o (fun i => fq i ∨ v'.ownBlock = some i) (⟨k, v', l.take a ++ whl ⟨f, t⟩ l a b :: l.drop b⟩ :: R0) ∧ FT fq (fun i => fq i ∨ v'.ownBlock = some i) w w' := by
 obtain ⟨ao, cap, rfl⟩ := (h.row hr).shape
 have HR := hide hr
 have HRI := hide hrise
 have HFU := hide hfull
 have hb3 : Below w.heap.size w (((w.alloc (.cells #[.int .i64 f, .int .i64 t] 72)).alloc (.cells #[.int .i64 0, .int .i64 0] 72)).alloc (.cells #[.slice ao l.length cap] 74)) := (below_box2 w _ _).alloc (by simp; omega) _
 have hb2 := below_box2 w (.cells #[.int .i64 f, .int .i64 t] 72) (.cells #[.int .i64 0, .int .i64 0] 72)
 have HLK := hide ((h.below hb2).look hk hr)
 have HA : Hid (AI w (((w.alloc (.cells #[.int .i64 f, .int .i64 t] 72)).alloc (.cells #[.int .i64 0, .int .i64 0] 72)).alloc (.cells #[.slice ao l.length cap] 74)) o fq R (.slice ao l.length cap) f t) :=
  ⟨hb3, BoxT.alloc (t := 72) (BoxT.alloc (t := 72) (BoxT.new _ _ _) _) _, BoxT.alloc (t := 72) (BoxT.new_at (t := 72) (by simp)) _, BoxT.new_at (t := 74) (by simp), h.below hb3⟩
 obtain ⟨W0, hW0⟩ : ∃ W0, W0 = ((w.alloc (.cells #[.int .i64 f, .int .i64 t] 72)).alloc (.cells #[.int .i64 0, .int .i64 0] 72)).alloc (.cells #[.slice ao l.length cap] 74) := ⟨_, rfl⟩
 rw [← hW0] at HA
 have HSE := hide (Search_any (w := W0) (n := l.length) (by omega) 138 #[.pointer (some ⟨w.heap.size + 1 + 1, 0, none⟩), .pointer (some ⟨w.heap.size, 0, none⟩)] (fun i => match l[i]? with | some x => decide (x.t > f) | none => false)
  (fun a b hab hbn hq => by
   obtain ⟨y, hy⟩ := get_of_lt hbn
   obtain ⟨x, hx⟩ := get_of_lt (Nat.lt_of_le_of_lt hab hbn)
   simp only [hx, hy, decide_eq_true_eq] at hq ⊢
   rcases Nat.eq_or_lt_of_le hab with e | e
   ·subst e; rw [hx] at hy; cases hy; exact hq
   ·have h1 := rise_get hrise e hx hy
    have h2 := hfull y (List.mem_of_getElem? hy)
    omega) (fun args W => by kernel_rfl) (fun w1 hb i hi => by
   obtain ⟨x, hx⟩ := get_of_lt hi
   have hA := HA.out.below hb
   have := addC_any (w := w1) hA.bl hA.bf ((hA.om.row hr).seg Sp.cs_len (by omega)) hx
   simpa [hx] using this))
 have hmf : ∀ (fn : Fn) (first cap : Array Value) (w : World), (Instr.makeFunc fn first cap).run Tryz.prog w = .ok (.func fn first cap) w := fun _ _ _ _ => rfl
 have d1 : ¬ t ≤ f := by omega
 have HF := hide hf
 have HH := hide h
 clear h hr hrise hfull hb2 hb3 hf
 go_enter Tryz.func124, Tryz.ntmps124
 go_wp2_with (first | (at_lookup; refine wp_lookM rfl _ _ 115 false rfl _ _ rfl rfl HLK.out ?_) | (go_at_call 137; rw [← hW0]; refine HSE.out.mono ?_; rintro e w1 ⟨⟨a, rfl, hal, hlo, hhi⟩, b1⟩; have A1 := hide (HA.out.below b1); have HLO := hide hlo; have HHI := hide hhi; clear hlo hhi b1; obtain ⟨y0, y1⟩ := A1.out.bf.cells2) | fail)
 have HW : Hid (BoxT 72 (w1.alloc (.cells #[.int .i64 f, .int .i64 t] 72)) w1.heap.size #[.int .i64 (whl ⟨f, t⟩ l a a).f, .int .i64 (whl ⟨f, t⟩ l a a).t]) := (show BoxT _ _ _ _ by rw [whl_self]; exact BoxT.new _ _ _)
 have HA2 := hide (A1.out.below (below_box w1 (.cells #[.int .i64 f, .int .i64 t] 72)))
 have HSZ := hide A1.out.bel.size
 have HS3 : Hid (w.heap.size + 1 + 1 < w1.heap.size) := A1.out.bl.lt
 clear y0 y1 HSE HLK hW0 HA A1
 go_loopg [11] (l.length + 1) (fun gh ev wr => ∃ b : Nat, ev = .int .i64 (b : Int) ∧ a ≤ b ∧ b ≤ l.length ∧ l.length + 1 ≤ gh + b ∧ Hid (∀ i x, a ≤ i → i < b → l[i]? = some x → x.f < t) ∧ Hid (AI w wr o fq R (.slice ao l.length cap) f t) ∧ Hid (BoxT 72 wr w1.heap.size #[.int .i64 (whl ⟨f, t⟩ l a b).f, .int .i64 (whl ⟨f, t⟩ l a b).t]))
 case atStart => exact ⟨a, rfl, Nat.le_refl _, hal, by omega, (show ∀ i x, _ from fun i x h1 h2 => by omega), HA2, HW⟩
 case round =>
  clear HA2 HW
  obtain ⟨b, rfl, hab, hbl, hg, HM, GA, GW⟩ := hrel
  obtain ⟨go, rfl⟩ : ∃ go, gk = go + 1 := ⟨gk - 1, by omega⟩
  have q0 : wr.cell? ⟨w.heap.size + 1 + 1, 0, none⟩ = some (.slice ao l.length cap) := by have := GA.out.bl.cellAt 0; simpa using this
  obtain ⟨q1, q2⟩ := GA.out.bf.cells2
  have HDONE : Hid (∀ bb : Bool, bb = false → (b = l.length ∨ ∃ x, l[b]? = some x ∧ ¬ x.f < t) → AddR l f t a b) := fun _ _ hend => by
   refine ⟨hab, hbl, fun i x hi hx => ?_, fun i x h1 h2 hx => ⟨?_, HM.out i x h1 h2 hx⟩, fun i x hi hx => ?_⟩
   ·have := HLO.out i hi; simp only [hx, decide_eq_false_iff_not] at this; omega
   ·have := HHI.out i h1 (lt_of_get hx); simp only [hx, decide_eq_true_eq] at this; omega
   ·rcases hend with e | ⟨y, hy, hyt⟩
    ·have := lt_of_get hx; omega
    ·rcases Nat.eq_or_lt_of_le hi with e | e
     ·subst e; rw [hx] at hy; cases hy; omega
     ·have h1 := rise_get HRI.out e hy hx
      have h2 := HFU.out y (List.mem_of_getElem? hy)
      omega
  by_cases hlt : b < l.length
  ·obtain ⟨x, hx⟩ := get_of_lt hlt
   have bt : (b : Int) < (l.length : Int) := by omega
   obtain ⟨nb, no, rfl, nlt, e0, e1⟩ := ((GA.out.om.row HR.out).seg Sp.cs_len (by omega)).span hx
   have hz : decide ((b : Int) < (l.length : Int)) = true := decide_eq_true bt
   by_cases hxt : x.f < t
   ·have HX := hide hx
    clear hx
    obtain ⟨xf, xt⟩ := x
    simp only at e0 e1 hxt
    have hzt : decide (xf < t) = true := decide_eq_true hxt
    obtain ⟨g0, g1⟩ := GW.out.cells2
    have HWS := hide (whl_step (s := ⟨f, t⟩) hab HX.out)
    generalize whl ⟨f, t⟩ l a b = wh at *
    obtain ⟨hf, ht⟩ := wh
    simp only at g0 g1
    have gz := fun j => GW.out.free j
    have hnb : nb ≠ w1.heap.size := fun e => by
     have h1 := GA.out.om.rowIn HR.out nb rfl
     have h2 := HH.out.flt nb h1
     have := HSZ.out
     omega
    go_upto_region 6 with fail
    refine wp_region_M (S := fun w' => w'.cell? ⟨w.heap.size + 1 + 1, 0, none⟩ = some (.slice (some ⟨nb, no, none⟩) l.length cap) ∧ w'.cell? ⟨nb, no + b * 2, none⟩ = some (.int .i64 xf) ∧ w'.cell? ⟨w.heap.size, 1, none⟩ = some (.int .i64 t)) (late := []) (by kernel_rfl) (⟨q0, e0, q2⟩) (fun hH => ?_)
    (try simp only [nr, Nat.reduceAdd])
    refine tkA 0 hH ?_; simp only [nm]; refine tkA 1 hH ?_; simp only [nm]; refine tkA 2 hH ?_; simp only [nm]; refine tkA 3 hH ?_; simp only [nm]; refine tkA 4 hH ?_; simp only [nm]; refine tkA 5 hH ?_; simp only [nm]; refine tkA 6 hH ?_; simp only [nm]; refine tkA 7 hH ?_; simp only [nm]; refine tkA 8 hH ?_; simp only [nm]; refine tkA 9 hH ?_; simp only [nm]; refine tkA 10 hH ?_; simp only [nm]; refine tkA 11 hH ?_; simp only [nm]; refine tkA 12 hH ?_; simp only [nm]; refine tkA 13 hH ?_; simp only [nm]
    refine wpAnyM_done (by kernel_rfl) ?_ _
    go_wp2_with fail
    refine wp_region_M (S := fun w' => w'.cell? ⟨w.heap.size + 1 + 1, 0, none⟩ = some (.slice (some ⟨nb, no, none⟩) l.length cap) ∧ w'.cell? ⟨nb, no + b * 2, none⟩ = some (.int .i64 xf) ∧ w'.cell? ⟨nb, no + b * 2 + 1, none⟩ = some (.int .i64 xt) ∧ w'.cell? ⟨w1.heap.size, 0, none⟩ = some (.int .i64 hf) ∧ w'.cell? ⟨w1.heap.size, 1, none⟩ = some (.int .i64 ht)) (late := [17]) (by kernel_rfl) (⟨q0, e0, e1, g0, g1⟩) (fun hH => ?_)
    (try simp only [nr, Nat.reduceAdd])
    refine tkA 0 hH ?_; simp only [nm]; refine tkA 1 hH ?_; simp only [nm]; refine tkA 2 hH ?_; simp only [nm]; refine tkA 3 hH ?_; simp only [nm]; refine tkA 4 hH ?_; simp only [nm]; refine tkA 5 hH ?_; simp only [nm]; refine tkA 6 hH ?_; simp only [nm]; refine tkA 7 hH ?_; simp only [nm]; refine tkA 8 hH ?_; simp only [nm]; refine tkA 9 hH ?_; simp only [nm]; refine tkA 10 hH ?_; simp only [nm]; refine tkA 11 hH ?_; simp only [nm]; refine tkA 12 hH ?_; simp only [nm]; refine tkA 13 hH ?_; simp only [nm]; refine tkA 14 hH ?_; simp only [nm]; refine tkA 15 hH ?_; simp only [nm]; refine tkA 16 hH ?_; simp only [nm]
    refine wpAnyM_last (i := 17) (o := ⟨_, _, _, _, _, _⟩) (by kernel_rfl) (by kernel_rfl) rfl (fun K hK => ?_)
    go_simp
    refine hK.out _ _ ?_
    clear hK K
    (try simp only [nm])
    refine wpAnyM_done (by kernel_rfl) ?_ _
    go_wp2_with fail
    go_roundg go
    case rel =>
     have hgr := grownBy_trans (grownBy_set wr w1.heap.size 0 (.int .i64 (min hf xf))) (grownBy_set _ w1.heap.size 1 (.int .i64 (max ht xt)))
     refine ⟨b + 1, by go_num, by omega, by omega, by omega, (show ∀ i x, _ from fun i x h1 h2 hx => ?_), (GA.out.grown hgr HS3.out HH.out.flt).below ((Below.refl _ _).drew.drew), ?_⟩
     ·by_cases e : i = b
      ·subst e; rw [HX.out] at hx; cases hx; exact hxt
      ·exact HM.out i x h1 (by omega) hx
     ·show BoxT _ _ _ _
      rw [HWS.out]
      have := (GW.out.set 0 (.int .i64 (min hf xf))).set 1 (.int .i64 (max ht xt))
      simp at this
      exact this
    case measure => omega
   ·have HADD := hide (HDONE.out false rfl (.inr ⟨x, hx, by omega⟩))
    clear hx HDONE
    obtain ⟨xf, xt⟩ := x
    simp only at e0 e1 hxt
    have hzt : decide (xf < t) = false := decide_eq_false hxt
    go_upto_region 6 with fail
    refine wp_region_M (S := fun w' => w'.cell? ⟨w.heap.size + 1 + 1, 0, none⟩ = some (.slice (some ⟨nb, no, none⟩) l.length cap) ∧ w'.cell? ⟨nb, no + b * 2, none⟩ = some (.int .i64 xf) ∧ w'.cell? ⟨w.heap.size, 1, none⟩ = some (.int .i64 t)) (late := []) (by kernel_rfl) (⟨q0, e0, q2⟩) (fun hH => ?_)
    (try simp only [nr, Nat.reduceAdd])
    refine tkA 0 hH ?_; simp only [nm]; refine tkA 1 hH ?_; simp only [nm]; refine tkA 2 hH ?_; simp only [nm]; refine tkA 3 hH ?_; simp only [nm]; refine tkA 4 hH ?_; simp only [nm]; refine tkA 5 hH ?_; simp only [nm]; refine tkA 6 hH ?_; simp only [nm]; refine tkA 7 hH ?_; simp only [nm]; refine tkA 8 hH ?_; simp only [nm]; refine tkA 9 hH ?_; simp only [nm]; refine tkA 10 hH ?_; simp only [nm]; refine tkA 11 hH ?_; simp only [nm]; refine tkA 12 hH ?_; simp only [nm]; refine tkA 13 hH ?_; simp only [nm]
    refine wpAnyM_done (by kernel_rfl) ?_ _
    have hno : no = 0 := by
     rcases (GA.out.om.row HR.out).2 with ⟨e, _⟩ | ⟨g, c, cur, e, _⟩ <;> simp at e
     exact e.1.2
    subst hno
    have hlc : l.length ≤ cap := by
     obtain ⟨_, _, _, _, hlc, _⟩ := own_cells (GA.out.om.row HR.out)
     exact hlc
    have hca : ¬ cap = a := fun e => by omega
    have HYS : Hid ((l.take b).drop a = [] ++ ((l.take b).drop a)) := (show _ = _ by rfl)
    have HSG := hide (seg_mid (GA.out.om.row HR.out) hab hbl hn (cap - a))
    have HSW : Hid (w.heap.size + 1 + 1 < wr.heap.size) := GA.out.bl.lt
    have HBS : Hid (w.heap.size ≤ wr.drew.heap.size) := GA.out.bel.size
    have HPU : Hid (∀ w5 : World, wr.drew.grownBy w5 none → AI w w5 o fq R (.slice (some ⟨nb, 0, none⟩) l.length cap) f t ∧ BoxT 72 w5 w1.heap.size #[.int .i64 (whl ⟨f, t⟩ l a b).f, .int .i64 (whl ⟨f, t⟩ l a b).t]) := fun w5 h2 => ⟨(GA.out.below (Below.refl _ _).drew).below ⟨h2.os, h2.tape, h2.output, h2.size, fun k hk => h2.block k hk (by simp)⟩, BoxT.below (t := 72) (w := wr.drew) GW.out ⟨h2.os, h2.tape, h2.output, h2.size, fun k hk => h2.block k hk (by simp)⟩⟩
    have bi1 : (a : Int) ≤ (b : Int) := by omega
    have bi2 : (b : Int) ≤ (cap : Int) := by omega
    have bi3 : (a : Int) ≤ (cap : Int) := by omega
    generalize hWH : whl ⟨f, t⟩ l a b = WH at *
    have HWH := hide hWH
    clear hWH
    obtain ⟨wf, wt⟩ := WH
    go_wp2_with (first | (at_builtin; refine app_segL Tryz.infoSp Tryz.underlying74 rfl (by decide) (by decide) Sp.cs_len Sp.cs_one rfl _ _ rfl w.heap.size _ [] rfl (OwnL.nil _ _ _ _ _) wr.heap.size _ ((l.take b).drop a) rfl HSG.out (by rw [List.length_nil, List.length_drop, List.length_take]; omega) HBS.out ?_; intro v5 w5 o5 g5 k5; obtain ⟨a5, u5⟩ := HPU.out w5 g5; have O5 := hide o5; have A5 := hide a5; have U5 := hide u5; have K5 := hide k5; clear o5 g5 a5 k5; obtain ⟨p0, p1⟩ := u5.cells2; clear u5; have p2 : w5.cell? ⟨w.heap.size + 1 + 1, 0, none⟩ = some (.slice (some ⟨nb, 0, none⟩) l.length cap) := (by have := A5.out.bl.cellAt 0; simpa using this); have HB5 := hide (below_box w5 (.cells #[.int .i64 wf, .int .i64 wt] 72)); have HREP := hide (replace_any (w := w5.alloc (.cells #[.int .i64 wf, .int .i64 wt] 72)) (base := 0) (x := ⟨wf, wt⟩) ((A5.out.om.row HR.out).below HB5.out) hn (Nat.zero_le _) (BoxT.new 72 w5 _) (fun e => by have := (A5.out.om.row HR.out).lt _ e; omega) hab hbl)) | (go_at_call 139; refine HREP.out.mono ?_; rintro e w6 ⟨u, rfl, h2, h3, h4⟩; obtain ⟨w7, hrun7, om7, mt7⟩ := (A5.out.om.below HB5.out).store hk HR.out h3 h2 (by simp) h4; have HFIN := hide (add_fin HH.out HR.out A5.out (Nat.lt_of_lt_of_le HS3.out (Nat.le_refl _)) U5.out O5.out HSW.out K5.out h3 h4 om7 mt7); clear om7 mt7 h2 h3 h4; obtain ⟨s0, s1⟩ := HFIN.out.1.cells2; have s2 := HFIN.out.2.1; have s3 := HFIN.out.2.2.1; have s4 := HFIN.out.2.2.2.1) | (at_mapUpdate; refine wp_putM rfl _ _ _ 115 rfl _ _ _ rfl rfl rfl hrun7 ?_) | fail)
    obtain ⟨f1, f2, f3, f4⟩ := HFIN.out.2.2.2.2 (.int .i64 wf) (.int .i64 wt)
    obtain ⟨r0, r1⟩ := f1.cells2
    exact bodyPost_ret (v := .tuple #[.agg #[.int .i64 wf, .int .i64 wt], v5]) (by simp [results, Tryz.results124, go_sem, r0, r1]) rfl ⟨a, b, v5, u, HADD.out, by rw [HWH.out]; rfl, by rw [HYS.out]; exact f2, by rw [HWH.out]; exact f3, f4⟩
  ·have HADD := hide (HDONE.out false rfl (.inl (by omega)))
   clear HDONE
   have bt : ¬ (b : Int) < (l.length : Int) := by omega
   have hz : decide ((b : Int) < (l.length : Int)) = false := decide_eq_false bt
   go_upto_region 6 with fail
   refine wp_region_M (S := fun w' => w'.cell? ⟨w.heap.size + 1 + 1, 0, none⟩ = some (.slice ao l.length cap)) (late := []) (by kernel_rfl) (q0) (fun hH => ?_)
   (try simp only [nr, Nat.reduceAdd])
   refine tkA 0 hH ?_; simp only [nm]; refine tkA 1 hH ?_; simp only [nm]; refine tkA 2 hH ?_; simp only [nm]; refine tkA 3 hH ?_; simp only [nm]; refine tkA 4 hH ?_; simp only [nm]; refine tkU 5 hH ?_; simp only [nm]; refine tkU 6 hH ?_; simp only [nm]; refine tkU 7 hH ?_; simp only [nm]; refine tkU 8 hH ?_; simp only [nm]; refine tkU 9 hH ?_; simp only [nm]; refine tkU 10 hH ?_; simp only [nm]; refine tkU 11 hH ?_; simp only [nm]; refine tkU 12 hH ?_; simp only [nm]; refine tkA 13 hH ?_; simp only [nm]
   refine wpAnyM_done (by kernel_rfl) ?_ _
   have hlc : l.length ≤ cap := by
    rcases (GA.out.om.row HR.out).2 with ⟨e, h0⟩ | ⟨g, c, cur, e, _, _, h, _⟩
    ·have := congrArg (fun v => match v with | Value.slice _ n _ => n | _ => 0) e; simp at this; omega
    ·simp at e; omega
   by_cases hca : cap = a
   ·have hca' : a = cap := hca.symm
    subst hca'
    have HYS : Hid ((l.take b).drop a = [] ++ ([] : List Sp)) := (show _ = _ by rw [List.drop_of_length_le (by rw [List.length_take]; omega)]; rfl)
    have HSW : Hid (w.heap.size + 1 + 1 < wr.heap.size) := GA.out.bl.lt
    have HBS : Hid (w.heap.size ≤ wr.drew.heap.size) := GA.out.bel.size
    have HPU : Hid (∀ w5 : World, wr.drew.grownBy w5 none → AI w w5 o fq R (.slice ao l.length a) f t ∧ BoxT 72 w5 w1.heap.size #[.int .i64 (whl ⟨f, t⟩ l a b).f, .int .i64 (whl ⟨f, t⟩ l a b).t]) := fun w5 h2 => ⟨(GA.out.below (Below.refl _ _).drew).below ⟨h2.os, h2.tape, h2.output, h2.size, fun k hk => h2.block k hk (by simp)⟩, BoxT.below (t := 72) (w := wr.drew) GW.out ⟨h2.os, h2.tape, h2.output, h2.size, fun k hk => h2.block k hk (by simp)⟩⟩
    have bi1 : (a : Int) ≤ (b : Int) := by omega
    have bi2 : (b : Int) ≤ (a : Int) := by omega
    have bi3 : (b : Int) ≤ (a : Int) := by omega
    generalize hWH : whl ⟨f, t⟩ l a b = WH at *
    have HWH := hide hWH
    clear hWH
    obtain ⟨wf, wt⟩ := WH
    go_wp2_with (first | (at_builtin; refine app_segL Tryz.infoSp Tryz.underlying74 rfl (by decide) (by decide) Sp.cs_len Sp.cs_one rfl _ _ rfl w.heap.size _ [] rfl (OwnL.nil _ _ _ _ _) wr.heap.size _ ([] : List Sp) rfl (lsegNil (by omega)) (by simp) HBS.out ?_; intro v5 w5 o5 g5 k5; obtain ⟨a5, u5⟩ := HPU.out w5 g5; have O5 := hide o5; have A5 := hide a5; have U5 := hide u5; have K5 := hide k5; clear o5 g5 a5 k5; obtain ⟨p0, p1⟩ := u5.cells2; clear u5; have p2 : w5.cell? ⟨w.heap.size + 1 + 1, 0, none⟩ = some (.slice ao l.length a) := (by have := A5.out.bl.cellAt 0; simpa using this); have HB5 := hide (below_box w5 (.cells #[.int .i64 wf, .int .i64 wt] 72)); have HREP := hide (replace_any (w := w5.alloc (.cells #[.int .i64 wf, .int .i64 wt] 72)) (base := 0) (x := ⟨wf, wt⟩) ((A5.out.om.row HR.out).below HB5.out) hn (Nat.zero_le _) (BoxT.new 72 w5 _) (fun e => by have := (A5.out.om.row HR.out).lt _ e; omega) hab hbl)) | (go_at_call 139; refine HREP.out.mono ?_; rintro e w6 ⟨u, rfl, h2, h3, h4⟩; obtain ⟨w7, hrun7, om7, mt7⟩ := (A5.out.om.below HB5.out).store hk HR.out h3 h2 (by simp) h4; have HFIN := hide (add_fin HH.out HR.out A5.out (Nat.lt_of_lt_of_le HS3.out (Nat.le_refl _)) U5.out O5.out HSW.out K5.out h3 h4 om7 mt7); clear om7 mt7 h2 h3 h4; obtain ⟨s0, s1⟩ := HFIN.out.1.cells2; have s2 := HFIN.out.2.1; have s3 := HFIN.out.2.2.1; have s4 := HFIN.out.2.2.2.1) | (at_mapUpdate; refine wp_putM rfl _ _ _ 115 rfl _ _ _ rfl rfl rfl hrun7 ?_) | fail)
    obtain ⟨f1, f2, f3, f4⟩ := HFIN.out.2.2.2.2 (.int .i64 wf) (.int .i64 wt)
    obtain ⟨r0, r1⟩ := f1.cells2
    exact bodyPost_ret (v := .tuple #[.agg #[.int .i64 wf, .int .i64 wt], v5]) (by simp [results, Tryz.results124, go_sem, r0, r1]) rfl ⟨a, b, v5, u, HADD.out, by rw [HWH.out]; rfl, by rw [HYS.out]; exact f2, by rw [HWH.out]; exact f3, f4⟩
   ·obtain ⟨g, rfl⟩ : ∃ g, ao = some ⟨g, 0, none⟩ := by
     rcases (GA.out.om.row HR.out).2 with ⟨e, h0⟩ | ⟨g, c, cur, e, _⟩
     ·simp at e; omega
     ·simp at e; exact ⟨g, e.1⟩
    have HYS : Hid ((l.take b).drop a = [] ++ ((l.take b).drop a)) := (show _ = _ by rfl)
    have HSG := hide (seg_mid (GA.out.om.row HR.out) hab hbl hn (cap - a))
    have HSW : Hid (w.heap.size + 1 + 1 < wr.heap.size) := GA.out.bl.lt
    have HBS : Hid (w.heap.size ≤ wr.drew.heap.size) := GA.out.bel.size
    have HPU : Hid (∀ w5 : World, wr.drew.grownBy w5 none → AI w w5 o fq R (.slice (some ⟨g, 0, none⟩) l.length cap) f t ∧ BoxT 72 w5 w1.heap.size #[.int .i64 (whl ⟨f, t⟩ l a b).f, .int .i64 (whl ⟨f, t⟩ l a b).t]) := fun w5 h2 => ⟨(GA.out.below (Below.refl _ _).drew).below ⟨h2.os, h2.tape, h2.output, h2.size, fun k hk => h2.block k hk (by simp)⟩, BoxT.below (t := 72) (w := wr.drew) GW.out ⟨h2.os, h2.tape, h2.output, h2.size, fun k hk => h2.block k hk (by simp)⟩⟩
    have bi1 : (a : Int) ≤ (b : Int) := by omega
    have bi2 : (b : Int) ≤ (cap : Int) := by omega
    have bi3 : (a : Int) ≤ (cap : Int) := by omega
    generalize hWH : whl ⟨f, t⟩ l a b = WH at *
    have HWH := hide hWH
    clear hWH
    obtain ⟨wf, wt⟩ := WH
    go_wp2_with (first | (at_builtin; refine app_segL Tryz.infoSp Tryz.underlying74 rfl (by decide) (by decide) Sp.cs_len Sp.cs_one rfl _ _ rfl w.heap.size _ [] rfl (OwnL.nil _ _ _ _ _) wr.heap.size _ ((l.take b).drop a) rfl HSG.out (by rw [List.length_nil, List.length_drop, List.length_take]; omega) HBS.out ?_; intro v5 w5 o5 g5 k5; obtain ⟨a5, u5⟩ := HPU.out w5 g5; have O5 := hide o5; have A5 := hide a5; have U5 := hide u5; have K5 := hide k5; clear o5 g5 a5 k5; obtain ⟨p0, p1⟩ := u5.cells2; clear u5; have p2 : w5.cell? ⟨w.heap.size + 1 + 1, 0, none⟩ = some (.slice (some ⟨g, 0, none⟩) l.length cap) := (by have := A5.out.bl.cellAt 0; simpa using this); have HB5 := hide (below_box w5 (.cells #[.int .i64 wf, .int .i64 wt] 72)); have HREP := hide (replace_any (w := w5.alloc (.cells #[.int .i64 wf, .int .i64 wt] 72)) (base := 0) (x := ⟨wf, wt⟩) ((A5.out.om.row HR.out).below HB5.out) hn (Nat.zero_le _) (BoxT.new 72 w5 _) (fun e => by have := (A5.out.om.row HR.out).lt _ e; omega) hab hbl)) | (go_at_call 139; refine HREP.out.mono ?_; rintro e w6 ⟨u, rfl, h2, h3, h4⟩; obtain ⟨w7, hrun7, om7, mt7⟩ := (A5.out.om.below HB5.out).store hk HR.out h3 h2 (by simp) h4; have HFIN := hide (add_fin HH.out HR.out A5.out (Nat.lt_of_lt_of_le HS3.out (Nat.le_refl _)) U5.out O5.out HSW.out K5.out h3 h4 om7 mt7); clear om7 mt7 h2 h3 h4; obtain ⟨s0, s1⟩ := HFIN.out.1.cells2; have s2 := HFIN.out.2.1; have s3 := HFIN.out.2.2.1; have s4 := HFIN.out.2.2.2.1) | (at_mapUpdate; refine wp_putM rfl _ _ _ 115 rfl _ _ _ rfl rfl rfl hrun7 ?_) | fail)
    obtain ⟨f1, f2, f3, f4⟩ := HFIN.out.2.2.2.2 (.int .i64 wf) (.int .i64 wt)
    obtain ⟨r0, r1⟩ := f1.cells2
    exact bodyPost_ret (v := .tuple #[.agg #[.int .i64 wf, .int .i64 wt], v5]) (by simp [results, Tryz.results124, go_sem, r0, r1]) rfl ⟨a, b, v5, u, HADD.out, by rw [HWH.out]; rfl, by rw [HYS.out]; exact f2, by rw [HWH.out]; exact f3, f4⟩
end Go.Proofs.YtpcbhcdpegbfjaaGreat
/-
 A session takes in all that it overlaps: the pure side.
-/
namespace Go.Proofs.YtpcbhcdpegbfjaaGreat
open Go.RowKit
theorem fold_lo {c : Int} (g : List Sp) : ∀ s : Sp, c ≤ s.f → (∀ x ∈ g, c ≤ x.f) → c ≤ (g.foldl jsp s).f := by
 induction g with
 | nil => intro s h _; exact h
 | cons x g ih => intro s h h2; exact ih _ (by have := h2 x (List.mem_cons_self ..); simp only [jsp]; omega) (fun y hy => h2 y (List.mem_cons_of_mem _ hy))
theorem fold_hi {c : Int} (g : List Sp) : ∀ s : Sp, s.t ≤ c → (∀ x ∈ g, x.t ≤ c) → (g.foldl jsp s).t ≤ c := by
 induction g with
 | nil => intro s h _; exact h
 | cons x g ih => intro s h h2; exact ih _ (by have := h2 x (List.mem_cons_self ..); simp only [jsp]; omega) (fun y hy => h2 y (List.mem_cons_of_mem _ hy))
theorem fold_over (g : List Sp) : ∀ s : Sp, (g.foldl jsp s).f ≤ s.f ∧ s.t ≤ (g.foldl jsp s).t := by
 induction g with
 | nil => intro s; exact ⟨Int.le_refl _, Int.le_refl _⟩
 | cons x g ih => intro s; have := ih (jsp s x); simp only [jsp] at this ⊢; simp only [List.foldl_cons]; simp only [jsp]; omega
theorem part_mem {l : List Sp} {a b : Nat} {x : Sp} (h : x ∈ (l.take b).drop a) : ∃ i, a ≤ i ∧ i < b ∧ l[i]? = some x := by
 obtain ⟨j, hj⟩ := List.getElem?_of_mem h
 rw [List.getElem?_drop, List.getElem?_take] at hj
 split at hj
 ·exact ⟨a + j, by omega, by omega, hj⟩
 ·cases hj
theorem mem_part {l : List Sp} {a b i : Nat} {x : Sp} (h1 : a ≤ i) (h2 : i < b) (hx : l[i]? = some x) : ((l.take b).drop a)[i - a]? = some x := by
 rw [List.getElem?_drop, List.getElem?_take, show a + (i - a) = i by omega, if_pos h2]; exact hx
structure GI (M : List Pn) (k : Int) (gone : List Sp) (i : Nat) (G N : List Pn) : Prop where
 all : M.Perm (G ++ N)
 len : G.length = i
 sp : ∀ (q : Nat) (x : Pn) (s : Sp), G[q]? = some x → gone[q]? = some s → x.k = k ∧ x.f = s.f ∧ x.t = s.t
def Places (M : List Pn) : Prop := M.Pairwise fun x y => ¬ (x.k = y.k ∧ x.f = y.f ∧ x.t = y.t)
theorem places_of {w : World} {m : Nat} {M : List Pn} (h : MapAt Tryz.prog 150 w m (M.map pEnt)) : Places M := by
 have h1 := h.nodup
 rw [List.map_map] at h1
 have h2 := List.pairwise_map.1 h1
 exact h2.imp (fun hne e => hne (by simp only [Function.comp, pEnt, plV]; rw [e.1, e.2.1, e.2.2]))
theorem Places.perm {M N : List Pn} (h : Places M) (hp : M.Perm N) : Places N := List.Pairwise.perm h hp (fun h1 h2 => h1 ⟨h2.1.symm, h2.2.1.symm, h2.2.2.symm⟩)
theorem GI.next {M : List Pn} {k : Int} {gone : List Sp} {i : Nat} {G N : List Pn} (h : GI M k gone i G N) (hdn : ∀ s ∈ gone, ∃ x ∈ M, x.k = k ∧ x.f = s.f ∧ x.t = s.t) (hfull : ∀ s ∈ gone, s.f < s.t) (hrise : gone.Pairwise fun a b => a.t ≤ b.f) {s : Sp} (hs : gone[i]? = some s) :
  ∃ x N', x.k = k ∧ x.f = s.f ∧ x.t = s.t ∧ x ∈ M ∧ N.Perm (x :: N') ∧ GI M k gone (i + 1) (G ++ [x]) N' := by
 obtain ⟨x, hx, e1, e2, e3⟩ := hdn s (List.mem_of_getElem? hs)
 rcases List.mem_append.1 (h.all.mem_iff.1 hx) with hg | hn
 ·exfalso
  obtain ⟨q, hq⟩ := List.getElem?_of_mem hg
  have hql := lt_of_get hq
  rw [h.len] at hql
  obtain ⟨s', hs'⟩ := get_of_lt (show q < gone.length by have := lt_of_get hs; omega)
  have h1 := h.sp q x s' hq hs'
  have h2 := rise_get hrise hql hs' hs
  have h3 := hfull s' (List.mem_of_getElem? hs')
  omega
 ·obtain ⟨u, v, rfl⟩ := List.append_of_mem hn
  refine ⟨x, u ++ v, e1, e2, e3, hx, List.perm_middle, ⟨?_, by simp [h.len], fun q y s' hy hs' => ?_⟩⟩
  ·refine h.all.trans ?_
   rw [List.append_assoc]
   exact List.Perm.append_left G List.perm_middle
  ·by_cases hq : q < G.length
   ·rw [List.getElem?_append_left hq] at hy; exact h.sp q y s' hy hs'
   ·have hq2 : q = G.length := by have := lt_of_get hy; simp at this; omega
    subst hq2
    simp at hy
    subst hy
    rw [h.len, hs] at hs'
    cases hs'
    exact ⟨e1, e2, e3⟩
theorem GI.spans {M : List Pn} {k : Int} {gone : List Sp} {G N : List Pn} (h : GI M k gone gone.length G N) : G.map (fun x => (⟨x.f, x.t⟩ : Sp)) = gone := by
 apply List.ext_getElem?
 intro q
 rw [List.getElem?_map]
 by_cases hq : q < gone.length
 ·obtain ⟨s, hs⟩ := get_of_lt hq
  obtain ⟨x, hx⟩ := get_of_lt (show q < G.length by rw [h.len]; exact hq)
  have := h.sp q x s hx hs
  rw [hx, hs]
  cases s
  simp_all
 ·have hl := h.len
  rw [List.getElem?_eq_none (show gone.length ≤ q by omega), List.getElem?_eq_none (show G.length ≤ q by omega)]; rfl
theorem fold_reds {J : Int → Int → Int} (fr : Pn) (N O : List Pn) : ∀ wh : Pn, Over fr wh → (∀ x ∈ O, mt true fr x) → Reds true J (wh :: (O ++ N)) (O.foldl (jp J) wh :: N) := by
 induction O with
 | nil => intro wh _ _; exact .refl _
 | cons p O ih =>
  intro wh hw hO
  have h1 := Reds.pair (J := J) (O ++ N) (hw.meets (hO p (List.mem_cons_self ..)))
  exact h1.trans (ih (jp J wh p) (hw.jp p) fun x hx => hO x (List.mem_cons_of_mem _ hx))
theorem fold_val {J : Int → Int → Int} (hc : ∀ x y, J x y = J y x) (G : List Pn) : ∀ p : Pn, G.foldl (jp J) p = ⟨p.k, ((G.map (fun x => (⟨x.f, x.t⟩ : Sp))).foldl jsp ⟨p.f, p.t⟩).f, ((G.map (fun x => (⟨x.f, x.t⟩ : Sp))).foldl jsp ⟨p.f, p.t⟩).t, G.foldl (fun a x => J x.a a) p.a⟩ := by
 induction G with
 | nil => intro p; rfl
 | cons x G ih =>
  intro p
  rw [List.foldl_cons, ih]
  simp only [List.map_cons, List.foldl_cons, jp, jsp]
  rw [hc p.a x.a]
theorem gath_pure {w : World} {s m o : Nat} {size slide ag : Int} {fq : Nat → Prop} {M : List Pn} {R R0 : List SRow} {k f t c : Int} {v v' : Value} {l : List Sp} {a b : Nat} {G N : List Pn} (h : StAt w s m o 3 size slide ag fq M R) (hr : RowOf R R0 k v l) (hf : f < t) (hA : AddR l f t a b) (hG : GI M k ((l.take b).drop a) ((l.take b).drop a).length G N) :
  Comes true (jn ag) (⟨k, f, t, c⟩ :: M) (G.foldl (jp (jn ag)) ⟨k, f, t, c⟩ :: N) ∧ (∀ y ∈ N, ¬ (y.k = k ∧ y.f = (whl ⟨f, t⟩ l a b).f ∧ y.t = (whl ⟨f, t⟩ l a b).t)) ∧
  (G.foldl (jp (jn ag)) ⟨k, f, t, c⟩ = ⟨k, (whl ⟨f, t⟩ l a b).f, (whl ⟨f, t⟩ l a b).t, G.foldl (fun a x => jn ag x.a a) c⟩) ∧ Inv 3 (G.foldl (jp (jn ag)) ⟨k, f, t, c⟩ :: N) (⟨k, v', l.take a ++ whl ⟨f, t⟩ l a b :: l.drop b⟩ :: R0) := by
 have hpl := places_of h.mp
 have hkeys : (R.map SRow.k).Nodup := by
  have h1 := h.om.op.nodup
  rw [List.map_map] at h1
  have h2 := List.pairwise_map.1 h1
  exact List.pairwise_map.2 (h2.imp (fun hne e => hne (by simp only [Function.comp, sEnt]; rw [e])))
 have hlrow : ∀ sp ∈ l, sp.f < sp.t ∧ ∃ x ∈ M, x.k = k ∧ x.f = sp.f ∧ x.t = sp.t := fun sp hsp => by
  rcases hr with ⟨_, _, _, rfl⟩ | hp
  ·cases hsp
  ·exact h.inv.dn _ (hp.mem_iff.2 (List.mem_cons_self ..)) sp hsp
 have hrise : l.Pairwise fun a b => a.t ≤ b.f := by
  rcases hr with ⟨_, _, _, rfl⟩ | hp
  ·exact .nil
  ·exact h.inv.rise _ (hp.mem_iff.2 (List.mem_cons_self ..))
 have hR0 : ∀ r ∈ R0, r ∈ R ∧ r.k ≠ k := fun r hr0 => by
  rcases hr with ⟨rfl, h1, _, _⟩ | hp
  ·exact ⟨hr0, h1 r hr0⟩
  ·refine ⟨hp.mem_iff.2 (List.mem_cons_of_mem _ hr0), fun e => ?_⟩
   have h2 : ((⟨k, v, l⟩ :: R0).map SRow.k).Nodup := (hp.map SRow.k).nodup_iff.1 hkeys
   rw [List.map_cons, List.nodup_cons] at h2
   exact h2.1 (List.mem_map.2 ⟨r, hr0, e⟩)
 have hup : ∀ x ∈ M, x.f < x.t → x.k = k → (⟨x.f, x.t⟩ : Sp) ∈ l := fun x hx hlt hk => by
  obtain ⟨r, h1, h2, h3⟩ := h.inv.up rfl x hx hlt
  rcases hr with ⟨rfl, h4, _, _⟩ | hp
  ·exact absurd (h2.trans hk) (h4 r h1)
  ·rcases List.mem_cons.1 (hp.mem_iff.1 h1) with rfl | h5
   ·exact h3
   ·exact absurd (h2.trans hk) (hR0 r h5).2
 have hGm : ∀ x ∈ G, x ∈ M ∧ ∃ i, a ≤ i ∧ i < b ∧ l[i]? = some (⟨x.f, x.t⟩ : Sp) ∧ x.k = k := fun x hx => by
  refine ⟨hG.all.mem_iff.2 (List.mem_append_left _ hx), ?_⟩
  obtain ⟨q, hq⟩ := List.getElem?_of_mem hx
  have hql := lt_of_get hq
  rw [hG.len] at hql
  obtain ⟨sp, hsp⟩ := get_of_lt hql
  have h1 := hG.sp q x sp hq hsp
  obtain ⟨i, i1, i2, i3⟩ := part_mem (List.mem_of_getElem? hsp)
  refine ⟨i, i1, i2, ?_, h1.1⟩
  rw [i3, h1.2.1, h1.2.2]
 have hNm : ∀ x ∈ N, x ∈ M := fun x hx => hG.all.mem_iff.2 (List.mem_append_right _ hx)
 have hmeet : ∀ x ∈ G, mt true ⟨k, f, t, c⟩ x := fun x hx => by
  obtain ⟨hxm, i, i1, i2, i3, i4⟩ := hGm x hx
  have h1 := hA.mi i _ i1 i2 i3
  have h2 := (hlrow _ (List.mem_of_getElem? i3)).1
  exact ⟨i4.symm, .inl ⟨rfl, by simp only at h1 h2 ⊢; omega, hf, by simp only at h1 h2 ⊢; omega, h2⟩⟩
 have hGN : ∀ x ∈ N, ∀ y ∈ G, ¬ (x.k = y.k ∧ x.f = y.f ∧ x.t = y.t) := fun x hx y hy e => by
  have h1 := hpl.perm hG.all
  have h2 := (List.pairwise_append.1 h1).2.2 y hy x hx
  exact h2 ⟨e.1.symm, e.2.1.symm, e.2.2.symm⟩
 have hout : ∀ x ∈ N, x.k = k → x.f < x.t → ∃ i, (i < a ∨ b ≤ i) ∧ l[i]? = some (⟨x.f, x.t⟩ : Sp) := fun x hx hk hlt => by
  obtain ⟨i, hi⟩ := List.getElem?_of_mem (hup x (hNm x hx) hlt hk)
  refine ⟨i, ?_, hi⟩
  by_cases h1 : i < a
  ·exact .inl h1
  ·by_cases h2 : b ≤ i
   ·exact .inr h2
   ·exfalso
    have h3 := mem_part (a := a) (b := b) (by omega) (by omega) hi
    obtain ⟨y, hy⟩ := get_of_lt (show i - a < G.length by rw [hG.len]; exact lt_of_get h3)
    have h4 := hG.sp _ y _ hy h3
    exact hGN x hx y (List.mem_of_getElem? hy) ⟨hk.trans h4.1.symm, h4.2.1.symm, h4.2.2.symm⟩
 have hno : ∀ x ∈ N, ¬ mt true ⟨k, f, t, c⟩ x := fun x hx hm => by
  obtain ⟨e1, ⟨_, e2⟩ | ⟨e2, _⟩⟩ := hm
  ·simp only at e1 e2
   obtain ⟨i, hi, hl⟩ := hout x hx e1.symm e2.2.2.2
   rcases hi with hi | hi
   ·have := hA.lo i _ hi hl; simp only at this; omega
   ·have := hA.hi i _ hi hl; simp only at this; omega
  ·cases e2
 have hMap : Apart true M := by
  have h1 : ∀ x ∈ M, ∀ y ∈ M, mt true x y → x.k = y.k ∧ x.f = y.f ∧ x.t = y.t := fun x hx y hy hm => by
   obtain ⟨e1, ⟨_, e2⟩ | ⟨e2, _⟩⟩ := hm
   ·obtain ⟨r, r1, r2, r3⟩ := h.inv.up rfl x hx e2.2.1
    obtain ⟨r', q1, q2, q3⟩ := h.inv.up rfl y hy e2.2.2.2
    have hrr : r' = r := by
     obtain ⟨u1, u2, rfl⟩ := List.append_of_mem r1
     have h2 : ((r :: (u1 ++ u2)).map SRow.k).Nodup := (List.perm_middle.map SRow.k).nodup_iff.1 hkeys
     rw [List.map_cons, List.nodup_cons] at h2
     rcases List.mem_cons.1 (List.perm_middle.mem_iff.1 q1) with e | e
     ·exact e
     ·exact absurd (List.mem_map.2 ⟨r', e, by omega⟩) h2.1
    subst hrr
    obtain ⟨i, hi⟩ := List.getElem?_of_mem r3
    obtain ⟨j, hj⟩ := List.getElem?_of_mem q3
    rcases Nat.lt_trichotomy i j with e | e | e
    ·have := rise_get (h.inv.rise r' r1) e hi hj; simp only at this; omega
    ·subst e; rw [hi] at hj; simp at hj; exact ⟨e1, hj.1, hj.2⟩
    ·have := rise_get (h.inv.rise r' r1) e hj hi; simp only at this; omega
   ·cases e2
  exact List.Pairwise.imp_of_mem (fun hx hy hne hm => hne (h1 _ hx _ hy hm)) hpl
 have hNap : Apart true N := ((List.pairwise_append.1 (hMap.perm hG.all)).2.1)
 have hspans := hG.spans
 have hwh : G.foldl (jp (jn ag)) ⟨k, f, t, c⟩ = ⟨k, (whl ⟨f, t⟩ l a b).f, (whl ⟨f, t⟩ l a b).t, G.foldl (fun a x => jn ag x.a a) c⟩ := by
  rw [fold_val (jn_comm ag), hspans]; rfl
 have hov := fold_over ((l.take b).drop a) ⟨f, t⟩
 have hwf : (whl ⟨f, t⟩ l a b).f ≤ f ∧ t ≤ (whl ⟨f, t⟩ l a b).t := hov
 have hNpl : ∀ y ∈ N, ¬ (y.k = k ∧ y.f = (whl ⟨f, t⟩ l a b).f ∧ y.t = (whl ⟨f, t⟩ l a b).t) := fun y hy e => by
  exact hno y hy ⟨e.1.symm, .inl ⟨rfl, by show f < y.t; omega, hf, by show y.f < t; omega, by omega⟩⟩
 refine And.intro (And.intro ?_ ?_) (And.intro hNpl (And.intro hwh ?_))
 ·exact (fold_reds (J := jn ag) ⟨k, f, t, c⟩ N G _ (Over.refl _) hmeet).perm (.cons _ hG.all.symm) (.refl _)
 ·refine List.pairwise_cons.2 ⟨fun x hx hm => ?_, hNap⟩
  by_cases hxf : x.f < x.t
  ·refine sess_away (J := jn ag) ⟨k, f, t, c⟩ x hxf G _ (Over.refl _) hmeet (fun y hy hmy => ?_) (hno x hx) hm
   have h1 := (List.pairwise_append.1 (hMap.perm hG.all)).2.2 y hy x hx
   exact h1 (mt_symm hmy)
  ·obtain ⟨_, ⟨_, e2⟩ | ⟨e2, _⟩⟩ := hm
   ·exact hxf e2.2.2.2
   ·cases e2
 ·rw [hwh]
  refine ⟨fun e => absurd rfl e, fun _ x hx hlt => ?_, fun r hrm sp hsp => ?_, fun r hrm => ?_⟩
  ·rcases List.mem_cons.1 hx with rfl | hx
   ·exact ⟨_, List.mem_cons_self .., rfl, List.mem_append_right _ (List.mem_cons_self ..)⟩
   ·by_cases hk : x.k = k
    ·obtain ⟨i, hi, hl⟩ := hout x hx hk hlt
     refine ⟨_, List.mem_cons_self .., hk.symm, ?_⟩
     rcases hi with hi | hi
     ·refine List.mem_append_left _ (List.mem_of_getElem? (i := i) ?_)
      rw [List.getElem?_take, if_pos hi]; exact hl
     ·refine List.mem_append_right _ (List.mem_cons_of_mem _ (List.mem_of_getElem? (i := i - b) ?_))
      rw [List.getElem?_drop, show b + (i - b) = i by omega]; exact hl
    ·obtain ⟨r, r1, r2, r3⟩ := h.inv.up rfl x (hNm x hx) hlt
     refine ⟨r, List.mem_cons_of_mem _ ?_, r2, r3⟩
     rcases hr with ⟨rfl, _⟩ | hp
     ·exact r1
     ·rcases List.mem_cons.1 (hp.mem_iff.1 r1) with rfl | e
      ·exact absurd r2.symm hk
      ·exact e
  ·rcases List.mem_cons.1 hrm with rfl | hrm
   ·have hold : ∀ i, (i < a ∨ b ≤ i) → l[i]? = some sp → sp.f < sp.t ∧ ∃ x ∈ (⟨k, (whl ⟨f, t⟩ l a b).f, (whl ⟨f, t⟩ l a b).t, G.foldl (fun a x => jn ag x.a a) c⟩ :: N : List Pn), x.k = k ∧ x.f = sp.f ∧ x.t = sp.t := fun i hi hl => by
     obtain ⟨h1, x, h2, h3⟩ := hlrow sp (List.mem_of_getElem? hl)
     refine ⟨h1, x, List.mem_cons_of_mem _ ?_, h3⟩
     rcases List.mem_append.1 (hG.all.mem_iff.1 h2) with hg | hn
     ·exfalso
      obtain ⟨_, j, j1, j2, j3, _⟩ := hGm x hg
      have e : (⟨x.f, x.t⟩ : Sp) = sp := by cases sp; simp_all
      rw [e] at j3
      rcases Nat.lt_trichotomy i j with u | u | u
      ·have := rise_get hrise u hl j3; omega
      ·omega
      ·have := rise_get hrise u j3 hl; omega
     ·exact hn
    rcases List.mem_append.1 hsp with hsp | hsp
    ·obtain ⟨i, hi⟩ := List.getElem?_of_mem hsp
     rw [List.getElem?_take] at hi
     split at hi
     ·exact hold i (.inl (by assumption)) hi
     ·cases hi
    ·rcases List.mem_cons.1 hsp with rfl | hsp
     ·exact ⟨by omega, _, List.mem_cons_self .., rfl, rfl, rfl⟩
     ·obtain ⟨i, hi⟩ := List.getElem?_of_mem hsp
      rw [List.getElem?_drop] at hi
      exact hold (b + i) (.inr (by omega)) hi
   ·obtain ⟨h1, x, h2, h3⟩ := h.inv.dn r (hR0 r hrm).1 sp hsp
    refine ⟨h1, x, List.mem_cons_of_mem _ ?_, h3⟩
    rcases List.mem_append.1 (hG.all.mem_iff.1 h2) with hg | hn
    ·obtain ⟨_, _, _, _, _, e⟩ := hGm x hg
     exact absurd (h3.1.symm.trans e) (hR0 r hrm).2
    ·exact hn
  ·rcases List.mem_cons.1 hrm with rfl | hrm
   ·have hloF : ∀ y ∈ l.take a, y.t ≤ (whl ⟨f, t⟩ l a b).f := fun y hy => by
     obtain ⟨i, hi⟩ := List.getElem?_of_mem hy
     rw [List.getElem?_take] at hi
     split at hi
     ·next hia =>
      refine fold_lo _ _ (hA.lo i y hia hi) (fun z hz => ?_)
      obtain ⟨j, j1, j2, j3⟩ := part_mem hz
      exact rise_get hrise (by omega) hi j3
     ·cases hi
    have hhiT : ∀ z ∈ l.drop b, (whl ⟨f, t⟩ l a b).t ≤ z.f := fun z hz => by
     obtain ⟨i, hi⟩ := List.getElem?_of_mem hz
     rw [List.getElem?_drop] at hi
     refine fold_hi _ _ (hA.hi _ z (by omega) hi) (fun y hy => ?_)
     obtain ⟨j, j1, j2, j3⟩ := part_mem hy
     exact rise_get hrise (by omega) j3 hi
    refine List.pairwise_append.2 ⟨hrise.sublist (List.take_sublist ..), List.pairwise_cons.2 ⟨hhiT, hrise.sublist (List.drop_sublist ..)⟩, fun y hy z hz => ?_⟩
    rcases List.mem_cons.1 hz with rfl | hz
    ·exact hloF y hy
    ·have h1 := hloF y hy
     have h2 := hhiT z hz
     omega
   ·exact h.inv.rise r (hR0 r hrm).1
end Go.Proofs.YtpcbhcdpegbfjaaGreat
/-
 gathered: a session with all that it overlaps, walked.
-/
namespace Go.Proofs.YtpcbhcdpegbfjaaGreat
set_option maxHeartbeats 16000000
set_option maxRecDepth 100000
open Go.RowKit
theorem GI.ex {M : List Pn} {k : Int} {gone : List Sp} (hdn : ∀ s ∈ gone, ∃ x ∈ M, x.k = k ∧ x.f = s.f ∧ x.t = s.t) (hfull : ∀ s ∈ gone, s.f < s.t) (hrise : gone.Pairwise fun a b => a.t ≤ b.f) (i : Nat) : i ≤ gone.length → ∃ G N, GI M k gone i G N := by
 induction i with
 | zero => intro _; exact ⟨[], M, .refl _, rfl, fun q x s h => by simp at h⟩
 | succ i ih =>
  intro hi
  obtain ⟨G, N, h⟩ := ih (by omega)
  obtain ⟨s, hs⟩ := get_of_lt (show i < gone.length by omega)
  obtain ⟨x, N', _, _, _, _, _, h2⟩ := h.next hdn hfull hrise hs
  exact ⟨_, _, h2⟩
theorem GI.le {M : List Pn} {k : Int} {gone : List Sp} {i : Nat} {G N : List Pn} (h : GI M k gone i G N) : i ≤ M.length := by
 have := h.all.length_eq
 rw [List.length_append, h.len] at this
 omega
structure GS (w wr : World) (s m o : Nat) (size slide ag : Int) (fq fq' : Nat → Prop) (R' : List SRow) (N : List Pn) (gv : Value) (gone : List Sp) (KW : Nat) (k f t c wf wt : Int) : Prop where
 box : BoxT 117 wr s #[.int .i64 3, .int .i64 size, .int .i64 slide, .int .i64 ag, .map (some m), .map (some o)]
 mp : MapAt Tryz.prog 150 wr m (N.map pEnt)
 om : OM wr o fq' R'
 ft : FT (FP s m fq) (FP s m fq') w wr
 bp : BoxT 79 wr w.heap.size #[.int .i64 k, .int .i64 f, .int .i64 t, .int .i64 c]
 br : BoxT 79 wr (w.heap.size + 1) #[.int .i64 0, .int .i64 0, .int .i64 0, .int .i64 0]
 bw : BoxT 72 wr KW #[.int .i64 wf, .int .i64 wt]
 gn : OwnL 72 2 Sp.cs w.heap.size wr gv gone
 ns : ¬ fq' s
 nm : ¬ fq' m
 n1 : ¬ fq' w.heap.size
 n2 : ¬ fq' (w.heap.size + 1)
 sl : s < w.heap.size
 ml : m < w.heap.size
section
variable {w wr w' : World} {s m o : Nat} {size slide ag : Int} {fq fq' : Nat → Prop} {R' : List SRow} {N : List Pn} {gv : Value} {gone : List Sp} {KW : Nat} {k f t c wf wt : Int}
theorem GS.below (h : GS w wr s m o size slide ag fq fq' R' N gv gone KW k f t c wf wt) (hb : Below wr.heap.size wr w') : GS w w' s m o size slide ag fq fq' R' N gv gone KW k f t c wf wt :=
 {h with box := BoxT.below (t := 117) h.box hb, mp := h.mp.back (hb.block _ h.mp.lt), om := h.om.below hb, ft := h.ft.trans (FT.of_below hb), bp := BoxT.below (t := 79) h.bp hb, br := BoxT.below (t := 79) h.br hb, bw := BoxT.below (t := 72) h.bw hb, gn := h.gn.below hb }
theorem GS.cells (h : GS w wr s m o size slide ag fq fq' R' N gv gone KW k f t c wf wt) : wr.cell? ⟨s, 3, none⟩ = some (.int .i64 ag) ∧ wr.cell? ⟨s, 4, none⟩ = some (.map (some m)) ∧ wr.cell? ⟨w.heap.size, 0, none⟩ = some (.int .i64 k) ∧ wr.cell? ⟨w.heap.size, 3, none⟩ = some (.int .i64 c) := by
 have h1 := h.box
 have h2 := h.bp
 unfold BoxT at h1 h2
 simp [World.cell?, h1, h2]
theorem GS.acc (h : GS w wr s m o size slide ag fq fq' R' N gv gone KW k f t c wf wt) (c' : Int) : GS w (wr.setCell ⟨w.heap.size, 3, none⟩ (.int .i64 c')) s m o size slide ag fq fq' R' N gv gone KW k f t c' wf wt := by
 have hg := grownBy_set wr w.heap.size 3 (.int .i64 c')
 have ho : ∀ i, i ≠ w.heap.size → i < wr.heap.size → (wr.setCell ⟨w.heap.size, 3, none⟩ (.int .i64 c')).heap[i]? = wr.heap[i]? := fun i hi hl => hg.block i hl (fun e => hi (by cases e; rfl))
 have hsl := h.sl
 have hml := h.ml
 have hKW : KW ≠ w.heap.size := fun e => by
  have h1 := h.bw
  have h2 := h.bp
  unfold BoxT at h1 h2
  rw [e, h2] at h1
  simp at h1
 have hgv : ∀ g, gv.ownBlock = some g → g ≠ w.heap.size := fun g e e' => by
  obtain ⟨cu, hcu⟩ := h.gn.has g e
  have h2 := h.bp
  unfold BoxT at h2
  rw [e', h2] at hcu
  simp at hcu
 refine { h with box := h.box.grown hg (by omega), mp := h.mp.back (ho m (by omega) h.mp.lt), om := h.om.back (fun i hi => ho i (fun e => h.n1 (e ▸ hi)) (h.om.flt i hi)) hg.size, ft := ⟨hg.os.trans h.ft.os, hg.tape.trans h.ft.tape, hg.output.trans h.ft.output, Nat.le_trans h.ft.size hg.size, fun i hi hn => (ho i (by omega) (Nat.lt_of_lt_of_le hi h.ft.size)).trans (h.ft.block i hi hn), h.ft.sub⟩, bp := ?_, br := h.br.grown hg (by omega), bw := h.bw.grown hg hKW, gn := h.gn.back (fun g e => ho g (hgv g e) (h.gn.lt g e)) }
 have := h.bp.set 3 (.int .i64 c')
 simpa using this
theorem GS.del (h : GS w wr s m o size slide ag fq fq' R' N gv gone KW k f t c wf wt) {N' : List Pn} (hm : MapAt Tryz.prog 150 w' m (N'.map pEnt)) (ht : MTurn wr w' m) : GS w w' s m o size slide ag fq fq' R' N' gv gone KW k f t c wf wt := by
 have hg := ht.grown
 have ho : ∀ i, i ≠ m → w'.heap[i]? = wr.heap[i]? := fun i hi => ht.other hi
 have nb : ∀ {ty : TypeId} {i : Nat} {cs : Array Value}, BoxT ty wr i cs → i ≠ m := fun {ty i cs} hb e => by
  obtain ⟨es, ck, h1⟩ := h.mp.isMap
  unfold BoxT at hb
  rw [e, h1] at hb
  cases hb
 have bk : ∀ {ty : TypeId} {i : Nat} {cs : Array Value}, BoxT ty wr i cs → BoxT ty w' i cs := fun {ty i cs} hb => by
  have h1 := ho i (nb hb)
  unfold BoxT at *
  rw [h1]; exact hb
 refine { h with box := bk h.box, mp := hm, om := h.om.back (fun i hi => ho i (fun e => h.nm (e ▸ hi))) hg.size, ft := ⟨hg.os.trans h.ft.os, hg.tape.trans h.ft.tape, hg.output.trans h.ft.output, Nat.le_trans h.ft.size hg.size, fun i hi hn => (ho i (fun e => hn (.inr (.inl e)))).trans (h.ft.block i hi hn), h.ft.sub⟩, bp := bk h.bp, br := bk h.br, bw := bk h.bw, gn := h.gn.back (fun g e => ?_) }
 obtain ⟨cu, hcu⟩ := h.gn.has g e
 exact ho g (nb (ty := 72) (cs := cu) hcu)
end
theorem cell_alloc {w : World} {a : Addr} {v : Value} (h : w.cell? a = some v) (o : Obj) : (w.alloc o).cell? a = some v := by
 have hl : a.block < w.heap.size := by
  rcases Nat.lt_or_ge a.block w.heap.size with h1 | h1
  ·exact h1
  ·rw [World.cell?, Array.getElem?_eq_none h1] at h; cases h
 rw [World.cell?] at h ⊢
 rw [Below.heap_alloc w o _ hl]; exact h
theorem cell_set2 {w : World} {a : Addr} {v : Value} {K : Nat} (h : w.cell? a = some v) (hK : a.block ≠ K) (x y : Value) : ((w.setCell ⟨K, 0, none⟩ x).setCell ⟨K, 1, none⟩ y).cell? a = some v := by
 have hl : a.block < w.heap.size := by
  rcases Nat.lt_or_ge a.block w.heap.size with h1 | h1
  ·exact h1
  ·rw [World.cell?, Array.getElem?_eq_none h1] at h; cases h
 have hg := grownBy_trans (grownBy_set w K 0 x) (grownBy_set _ K 1 y)
 rw [World.cell?] at h ⊢
 rw [hg.block _ hl (fun e => hK (by cases e; rfl))]; exact h
def S1 (s o K : Nat) (k f t : Int) (w' : World) : Prop := w'.cell? ⟨s, 5, none⟩ = some (.map (some o)) ∧ w'.cell? ⟨K, 0, none⟩ = some (.int .i64 k) ∧ w'.cell? ⟨K, 1, none⟩ = some (.int .i64 f) ∧ w'.cell? ⟨K, 2, none⟩ = some (.int .i64 t)
theorem S1.alloc {s o K : Nat} {k f t : Int} {w' : World} (h : S1 s o K k f t w') (ob : Obj) : S1 s o K k f t (w'.alloc ob) := ⟨cell_alloc h.1 _, cell_alloc h.2.1 _, cell_alloc h.2.2.1 _, cell_alloc h.2.2.2 _⟩
theorem S1.set {s o K Q : Nat} {k f t : Int} {w' : World} (h : S1 s o K k f t w') (h1 : s ≠ Q) (h2 : K ≠ Q) (x y : Value) : S1 s o K k f t ((w'.setCell ⟨Q, 0, none⟩ x).setCell ⟨Q, 1, none⟩ y) := ⟨cell_set2 h.1 h1 _ _, cell_set2 h.2.1 h2 _ _, cell_set2 h.2.2.1 h2 _ _, cell_set2 h.2.2.2 h2 _ _⟩
def S6 (s m K P : Nat) (ag c xk xf xt xa : Int) (w' : World) : Prop := w'.cell? ⟨s, 3, none⟩ = some (.int .i64 ag) ∧ w'.cell? ⟨s, 4, none⟩ = some (.map (some m)) ∧ w'.cell? ⟨P, 0, none⟩ = some (.int .i64 xk) ∧ w'.cell? ⟨P, 1, none⟩ = some (.int .i64 xf) ∧ w'.cell? ⟨P, 2, none⟩ = some (.int .i64 xt) ∧ w'.cell? ⟨K, 3, none⟩ = some (.int .i64 c) ∧ (Instr.lookup 113 (.map (some m)) (.agg #[.int .i64 xk, .int .i64 xf, .int .i64 xt]) false).run Tryz.prog w' = .ok (.int .i64 xa) w'
theorem Turned.setB (k b : Nat) (w : World) (j : Nat) (u : Value) : Turned k b w (w.setCell ⟨b, j, none⟩ u) :=
 ⟨rfl, rfl, rfl, by simp, fun i _ _ h1 => Below.heap_setCell w ⟨b, j, none⟩ u i h1⟩
theorem GS.fin {w wr w' : World} {s m o : Nat} {size slide ag : Int} {fq fq' : Nat → Prop} {R' : List SRow} {N : List Pn} {gv : Value} {gone : List Sp} {KW : Nat} {k f t c wf wt : Int} (h : GS w wr s m o size slide ag fq fq' R' N gv gone KW k f t c wf wt) (hT : Turned w.heap.size (w.heap.size + 1) wr w') :
  BoxT 117 w' s #[.int .i64 3, .int .i64 size, .int .i64 slide, .int .i64 ag, .map (some m), .map (some o)] ∧ MapAt Tryz.prog 150 w' m (N.map pEnt) ∧ OM w' o fq' R' ∧ FT (FP s m fq) (FP s m fq') w w' := by
 have hsl := h.sl
 have hml := h.ml
 refine ⟨?_, h.mp.back (hT.block m h.mp.lt (by omega) (by omega)), h.om.back (fun i hi => hT.block i (h.om.flt i hi) (fun e => h.n1 (e ▸ hi)) (fun e => h.n2 (e ▸ hi))) hT.size, ⟨hT.os.trans h.ft.os, hT.tape.trans h.ft.tape, hT.output.trans h.ft.output, Nat.le_trans h.ft.size hT.size, fun i hi hn => (hT.block i (Nat.lt_of_lt_of_le hi h.ft.size) (by omega) (by omega)).trans (h.ft.block i hi hn), h.ft.sub⟩⟩
 have h1 := h.box
 have h2 := hT.block s h1.lt (by omega) (by omega)
 unfold BoxT at *
 rw [h2]; exact h1
def S7 (s m P : Nat) (xk xf xt : Int) (w' : World) : Prop := w'.cell? ⟨s, 4, none⟩ = some (.map (some m)) ∧ w'.cell? ⟨P, 0, none⟩ = some (.int .i64 xk) ∧ w'.cell? ⟨P, 1, none⟩ = some (.int .i64 xf) ∧ w'.cell? ⟨P, 2, none⟩ = some (.int .i64 xt)
theorem step_del_run {P : Program} {w : World} {ops : Array Oper} {o : Oper} {a : Act} {K : Act → World → Prop} {Q : Exit → Act → World → Prop} {E : Prop} (hgd : o.guard = none) (m x : Operand) (t k : TypeId) (hop : o.op = Op.call { callee := Callee.builtin Builtin.delete, args := #[m, x], argTypes := #[t, k] }) (mv kv : Value) (hm : a.eval m = mv) (hx : a.eval x = kv) {w' : World} (hrun : (Builtin.delete_ #[t, k] o.type #[mv, kv]).run P w = .ok (.tuple #[]) w')
  (h : K (a.put o.dst (.tuple #[])) w') : if Region.wanted o (yielded ops a.tmps) = true then Oper.wp P o a w K Q else E := by
 have hw : Region.wanted o (yielded ops a.tmps) = true := by simp [Region.wanted, hgd]
 rw [if_pos hw]
 unfold Oper.wp
 simp [execOp, hop, resolve, invoke, builtin, hm, hx, hrun, Result.andThen]
 exact h
theorem step_put_run {P : Program} {w : World} {ops : Array Oper} {o : Oper} {a : Act} {K : Act → World → Prop} {Q : Exit → Act → World → Prop} {E : Prop} (hgd : o.guard = none) (m x v : Operand) (t : TypeId) (hop : o.op = Op.mapUpdate t m x v) (mv kv vv : Value) (hm : a.eval m = mv) (hx : a.eval x = kv) (hv : a.eval v = vv) {w' : World} (hrun : (Instr.mapUpdate t mv kv vv).run P w = .ok () w')
  (h : K (a.put o.dst undef) w') : if Region.wanted o (yielded ops a.tmps) = true then Oper.wp P o a w K Q else E := by
 have hw : Region.wanted o (yielded ops a.tmps) = true := by simp [Region.wanted, hgd]
 rw [if_pos hw]
 unfold Oper.wp
 simp [execOp, hop, hm, hx, hv, hrun, Result.andThen]
 exact h
theorem GS.start {w W1 Wa w2 w3 : World} {s m o : Nat} {size slide ag : Int} {fq : Nat → Prop} {M : List Pn} {R R' : List SRow} {gv v' : Value} {gone : List Sp} {KW : Nat} {k f t c wf wt : Int} (h : StAt w s m o 3 size slide ag fq M R)
  (hW1 : W1 = (w.alloc (.cells #[.int .i64 k, .int .i64 f, .int .i64 t, .int .i64 c] 79)).alloc (.cells #[.int .i64 0, .int .i64 0, .int .i64 0, .int .i64 0] 79)) (hWa : Below W1.heap.size W1 Wa)
  (hom : OM w2 o (fun i => fq i ∨ v'.ownBlock = some i) R') (hft : FT fq (fun i => fq i ∨ v'.ownBlock = some i) Wa w2) (hgn : OwnL 72 2 Sp.cs Wa.heap.size w2 gv gone)
  (h3 : w2.grownBy w3 (some KW)) (hKW : W1.heap.size ≤ KW) (hKv : KW < Wa.heap.size ∨ w2.heap.size ≤ KW) (hbw : BoxT 72 w3 KW #[.int .i64 wf, .int .i64 wt]) :
  GS w w3 s m o size slide ag fq (fun i => fq i ∨ v'.ownBlock = some i) R' M gv gone KW k f t c wf wt := by
 have hb1 : Below w.heap.size w W1 := by rw [hW1]; exact below_box2 w _ _
 have hs1 : W1.heap.size = w.heap.size + 2 := by rw [hW1]; simp
 have hp1 : BoxT 79 W1 w.heap.size #[.int .i64 k, .int .i64 f, .int .i64 t, .int .i64 c] := by rw [hW1]; exact BoxT.alloc (t := 79) (BoxT.new _ _ _) _
 have hp2 : BoxT 79 W1 (w.heap.size + 1) #[.int .i64 0, .int .i64 0, .int .i64 0, .int .i64 0] := by rw [hW1]; exact BoxT.new_at (t := 79) (by simp)
 have hsl := h.box.lt
 have hml := h.mp.lt
 have sa := hWa.size
 have s2 := hft.size
 have s3 := h3.size
 have nq : ∀ i, w.heap.size ≤ i → ¬ fq i := fun i hi e => by have := h.om.flt i e; omega
 have st : ∀ i, i < w.heap.size + 2 → ¬ fq i → w3.heap[i]? = W1.heap[i]? := fun i hi hn => by
  rw [h3.block i (by omega) (fun e => by cases e; omega), hft.block i (by omega) hn]
  exact hWa.block i (by omega)
 have bx : ∀ {ty : TypeId} {i : Nat} {cs : Array Value}, BoxT ty W1 i cs → i < w.heap.size + 2 → ¬ fq i → BoxT ty w3 i cs := fun {ty i cs} hb hi hn => by
  unfold BoxT at *
  rw [st i hi hn]; exact hb
 have nv : ∀ i, i < Wa.heap.size → ¬ fq i → ¬ (fq i ∨ v'.ownBlock = some i) := fun i hi hn e => by
  rcases hft.sub i e with e | e
  ·exact hn e
  ·omega
 have nK : ∀ i, (fq i ∨ v'.ownBlock = some i) → i ≠ KW := fun i hi e => by
  subst e
  rcases hKv with e2 | e2
  ·exact nv _ e2 (nq _ (by omega)) hi
  ·have := hom.flt _ hi; omega
 exact
  {box := bx (BoxT.below (t := 117) h.box hb1) (by omega) h.ns
   mp := (h.mp.back (hb1.block m h.mp.lt)).back (st m (by omega) h.nm)
   om := hom.back (fun i hi => h3.block i (hom.flt i hi) (fun e => nK i hi (by cases e; rfl))) s3
   ft := ⟨h3.os.trans (hft.os.trans (hWa.os.trans hb1.os)), h3.tape.trans (hft.tape.trans (hWa.tape.trans hb1.tape)), h3.output.trans (hft.output.trans (hWa.output.trans hb1.output)), by omega, fun i hi hn => by
    rw [st i (by omega) (fun e => hn (.inr (.inr e)))]; exact hb1.block i hi, fun i hi => by
    rcases hi with e | e | e
    ·exact .inl (.inl e)
    ·exact .inl (.inr (.inl e))
    ·rcases hft.sub i e with e | e
     ·exact .inl (.inr (.inr e))
     ·exact .inr (by omega)⟩
   bp := bx hp1 (by omega) (nq _ (Nat.le_refl _))
   br := bx hp2 (by omega) (nq _ (by omega))
   bw := hbw
   gn := (hgn.mono (by omega)).back (fun g e => h3.block g (hgn.lt g e) (fun e' => by
    cases e'
    rcases hKv with e2 | e2
    ·have := hgn.at _ e; omega
    ·have := hgn.lt _ e; omega))
   ns := nv s (by omega) h.ns, nm := nv m (by omega) h.nm, n1 := nv _ (by omega) (nq _ (Nat.le_refl _)), n2 := nv _ (by omega) (nq _ (by omega)), sl := hsl, ml := hml }
def GPost (w : World) (s m o : Nat) (size slide ag : Int) (fq : Nat → Prop) (M : List Pn) (R : List SRow) (k f t c : Int) (e : Ending) (w' : World) : Prop := ∃ a b l v v' R0 G N, RowOf R R0 k v l ∧ AddR l f t a b ∧ GI M k ((l.take b).drop a) ((l.take b).drop a).length G N ∧
   e = .returned (.agg #[.int .i64 k, .int .i64 (whl ⟨f, t⟩ l a b).f, .int .i64 (whl ⟨f, t⟩ l a b).t, .int .i64 (G.foldl (fun a x => jn ag x.a a) c)]) ∧
   BoxT 117 w' s #[.int .i64 3, .int .i64 size, .int .i64 slide, .int .i64 ag, .map (some m), .map (some o)] ∧ MapAt Tryz.prog 150 w' m (N.map pEnt) ∧ OM w' o (fun i => fq i ∨ v'.ownBlock = some i) (⟨k, v', l.take a ++ whl ⟨f, t⟩ l a b :: l.drop b⟩ :: R0) ∧ FT (FP s m fq) (FP s m (fun i => fq i ∨ v'.ownBlock = some i)) w w' ∧ ¬ (fq s ∨ v'.ownBlock = some s) ∧ ¬ (fq m ∨ v'.ownBlock = some m)
theorem gathered_any {w : World} {s m o : Nat} {size slide ag : Int} {fq : Nat → Prop} {M : List Pn} {R : List SRow} {k f t c : Int} (h : StAt w s m o 3 size slide ag fq M R) (hk : In64 k) (hf : f < t) (hM : M.length ≤ 100000) :
  Calls Tryz.prog 113 #[.pointer (some ⟨s, 0, none⟩), .agg #[.int .i64 k, .int .i64 f, .int .i64 t, .int .i64 c]] w (GPost w s m o size slide ag fq M R k f t c) := by
 obtain ⟨R0, v, l, hr⟩ := rowOf R k
 have hlrow : ∀ sp ∈ l, sp.f < sp.t ∧ ∃ x ∈ M, x.k = k ∧ x.f = sp.f ∧ x.t = sp.t := fun sp hsp => by
  rcases hr with ⟨_, _, _, rfl⟩ | hp
  ·cases hsp
  ·exact h.inv.dn _ (hp.mem_iff.2 (List.mem_cons_self ..)) sp hsp
 have hrise : l.Pairwise fun a b => a.t ≤ b.f := by
  rcases hr with ⟨_, _, _, rfl⟩ | hp
  ·exact .nil
  ·exact h.inv.rise _ (hp.mem_iff.2 (List.mem_cons_self ..))
 have hll : l.length ≤ M.length := by
  obtain ⟨G, N, hg⟩ := GI.ex (M := M) (k := k) (fun sp hsp => (hlrow sp hsp).2) (fun sp hsp => (hlrow sp hsp).1) hrise l.length (Nat.le_refl _)
  exact hg.le
 have hb1 := below_box2 w (.cells #[.int .i64 k, .int .i64 f, .int .i64 t, .int .i64 c] 79) (.cells #[.int .i64 0, .int .i64 0, .int .i64 0, .int .i64 0] 79)
 obtain ⟨W1, hW1⟩ : ∃ W1, W1 = ((w.alloc (.cells #[.int .i64 k, .int .i64 f, .int .i64 t, .int .i64 c] 79)).alloc (.cells #[.int .i64 0, .int .i64 0, .int .i64 0, .int .i64 0] 79)) := ⟨_, rfl⟩
 rw [← hW1] at hb1
 have hst := h.below (fun i hi => hb1.block i (h.flt i hi)) hb1.size
 have HADD : Hid (∀ w', Below W1.heap.size W1 w' → Calls Tryz.prog 124 #[.map (some o), .int .i64 k, .agg #[.int .i64 f, .int .i64 t]] w' fun e w'' => ∃ a b gv v', AddR l f t a b ∧ e = .returned (.tuple #[(whl ⟨f, t⟩ l a b).val, gv]) ∧ OwnL 72 2 Sp.cs w'.heap.size w'' gv ((l.take b).drop a) ∧ OM w'' o (fun i => fq i ∨ v'.ownBlock = some i) (⟨k, v', l.take a ++ whl ⟨f, t⟩ l a b :: l.drop b⟩ :: R0) ∧ FT fq (fun i => fq i ∨ v'.ownBlock = some i) w' w'') := fun w' hb => oadd_any (hst.om.below hb) hk hr hf hrise (fun sp hsp => (hlrow sp hsp).1) (by omega)
 obtain ⟨_, _, _, _, _, y5⟩ := hst.cells
 have hpb : BoxT 79 W1 w.heap.size #[.int .i64 k, .int .i64 f, .int .i64 t, .int .i64 c] := by rw [hW1]; exact BoxT.alloc (t := 79) (BoxT.new _ _ _) _
 obtain ⟨x0, x1, x2, _⟩ := hpb.cells4
 have hs1 : W1.heap.size = w.heap.size + 2 := by rw [hW1]; simp
 have HS1 : Hid (S1 s o w.heap.size k f t W1) := ⟨y5, x0, x1, x2⟩
 have HKC : Hid (∀ Wa w' v', Below W1.heap.size W1 Wa → FT fq (fun i => fq i ∨ v' = some i) Wa w' → S1 s o w.heap.size k f t w') := fun Wa w' v' hba hft => by
  have hsl := h.box.lt
  have sa := hba.size
  have nq : ∀ i, w.heap.size ≤ i → ¬ fq i := fun i hi e => by have := h.om.flt i e; omega
  have c5 : BoxT 117 w' s #[.int .i64 3, .int .i64 size, .int .i64 slide, .int .i64 ag, .map (some m), .map (some o)] := by have hbx := hst.box; unfold BoxT at *; rw [hft.block s (by omega) h.ns, hba.block s (by omega)]; exact hbx
  have cp : BoxT 79 w' w.heap.size #[.int .i64 k, .int .i64 f, .int .i64 t, .int .i64 c] := by unfold BoxT at *; rw [hft.block w.heap.size (by omega) (nq _ (Nat.le_refl _)), hba.block _ (by omega)]; exact hpb
  exact ⟨by rw [c5.cellAt]; rfl, by rw [cp.cellAt]; rfl, by rw [cp.cellAt]; rfl, by rw [cp.cellAt]; rfl⟩
 have HSL := hide h.box.lt
 have HST := hide h
 have HLR := hide hlrow
 have HRI := hide hrise
 have HR := hide hr
 have HB1 := hide hb1
 have HW1 := hide hW1
 have HSZ := hide hs1
 clear h hst hr hlrow hrise hb1 hpb y5 x0 x1 x2 hs1
 go_enter Tryz.func113, Tryz.ntmps113
 go_upto_region 1 with fail
 rw [← hW1]
 clear hW1
 go_cut [5, 6] from 10 to 21 (fun p5 p6 wc => ∃ (a b KW : Nat) (gv v' : Value), p5 = .pointer (some ⟨KW, 0, none⟩) ∧ p6 = gv ∧ Hid (AddR l f t a b) ∧ Hid (GS w wc s m o size slide ag fq (fun i => fq i ∨ v'.ownBlock = some i) (⟨k, v', l.take a ++ whl ⟨f, t⟩ l a b :: l.drop b⟩ :: R0) M gv ((l.take b).drop a) KW k f t c (whl ⟨f, t⟩ l a b).f (whl ⟨f, t⟩ l a b).t))
 case first =>
  refine wp_region_M (S := fun w' => S1 s o w.heap.size k f t w') (late := []) (by kernel_rfl) HS1.out (fun hH => ?_)
  (try simp only [nr, Nat.reduceAdd])
  refine tkM 0 ?_ ?_ hH ?_
  rotate_left
  ·(intro w' hSw; unfold S1 at hSw; go_simp; try (with_reducible rfl))
  (try simp only [nm])
  refine tkM 1 ?_ ?_ hH ?_
  rotate_left
  ·(intro w' hSw; unfold S1 at hSw; go_simp; try (with_reducible rfl))
  (try simp only [nm])
  refine tkM 2 ?_ ?_ hH ?_
  rotate_left
  ·(intro w' hSw; unfold S1 at hSw; go_simp; try (with_reducible rfl))
  (try simp only [nm])
  refine tkM 3 ?_ ?_ hH ?_
  rotate_left
  ·(intro w' hSw; unfold S1 at hSw; go_simp; try (with_reducible rfl))
  (try simp only [nm])
  refine tkM 4 ?_ ?_ hH ?_
  rotate_left
  ·(intro w' hSw; unfold S1 at hSw; go_simp; try (with_reducible rfl))
  (try simp only [nm])
  refine tkM 5 ?_ ?_ hH ?_
  rotate_left
  ·(intro w' hSw; unfold S1 at hSw; go_simp; try (with_reducible rfl))
  (try simp only [nm])
  refine tkM 6 ?_ ?_ hH ?_
  rotate_left
  ·(intro w' hSw; unfold S1 at hSw; go_simp; try (with_reducible rfl))
  (try simp only [nm])
  refine tkM 7 ?_ ?_ hH ?_
  rotate_left
  ·(intro w' hSw; unfold S1 at hSw; go_simp; try (with_reducible rfl))
  (try simp only [nm])
  refine wpAnyM_two (i := 8) (j := 12) (oi := ⟨_, _, _, _, _, _⟩) (oj := ⟨_, _, _, _, _, _⟩) (by kernel_rfl) rfl rfl (fun K hK => ?_) (fun K hK => ?_)
  ·go_simp
   go_at_call 124
   refine (HADD.out W1.drew (Below.refl _ _).drew).mono ?_
   rintro e w2 ⟨a, b, gv, v', hA, rfl, hgn, hom, hft⟩
   have HA := hide hA
   have HK2 := hide (HKC.out _ _ _ (Below.refl _ _).drew hft)
   have HG := hide (And.intro hgn (And.intro hom hft))
   refine hK.out _ _ HK2.out (fun hH => ?_)
   clear hK K hA hgn hom hft
   unfold Sp.val
   generalize hWH : whl ⟨f, t⟩ l a b = WH at *
   have HWH := hide hWH
   clear hWH
   obtain ⟨wf, wt⟩ := WH
   simp only
   (try simp only [nm])
   refine tkM 9 ?_ ?_ hH ?_
   rotate_left
   ·(intro w' hSw; unfold S1 at hSw; go_simp; try (with_reducible rfl))
   (try simp only [nm])
   refine tkM 10 ?_ ?_ hH ?_
   rotate_left
   ·(intro w' hSw; unfold S1 at hSw; go_simp; try (with_reducible rfl))
   (try simp only [nm])
   refine tkM 11 ?_ ?_ hH ?_
   rotate_left
   ·(intro w' hSw; unfold S1 at hSw; go_simp; try (with_reducible rfl))
   (try simp only [nm])
   refine tkO 12 fun K hK => ?_
   go_simp
   refine hK.out _ _ (HK2.out.alloc _) (fun hH => ?_)
   clear hK K
   (try simp only [nm])
   refine tkO 13 fun K hK => ?_
   go_simp
   refine hK.out _ _ (HK2.out.alloc _) (fun hH => ?_)
   clear hK K
   (try simp only [nm])
   refine tkM 14 ?_ ?_ hH ?_
   rotate_left
   ·(intro w' hSw; unfold S1 at hSw; go_simp; try (with_reducible rfl))
   (try simp only [nm])
   refine wpAnyM_done (by kernel_rfl) ?_ _
   go_wp2_with fail
   go_meet
   case rel => exact ⟨a, b, w2.heap.size, gv, v', rfl, rfl, HA, (show GS _ _ _ _ _ _ _ _ _ _ _ _ _ _ _ _ _ _ _ _ _ by rw [HWH.out]; exact GS.start HST.out HW1.out (Below.refl _ _).drew HG.out.2.1 HG.out.2.2 HG.out.1 (grownBy_alloc' w2 _ _) (by have := HG.out.2.2.size; exact this) (.inr (Nat.le_refl _)) (BoxT.new _ _ _))⟩
  ·go_simp
   refine hK.out _ _ (HS1.out.alloc _) (fun hH => ?_)
   clear hK K
   (try simp only [nm])
   have HBA : Hid (Below W1.heap.size W1 (W1.alloc (.cells #[.int .i64 0, .int .i64 0] 72)).drew) := (below_box W1 _).drew
   refine tkO 8 fun K hK => ?_
   go_simp
   go_at_call 124
   refine (HADD.out _ HBA.out).mono ?_
   rintro e w2 ⟨a, b, gv, v', hA, rfl, hgn, hom, hft⟩
   have HA := hide hA
   have HK2 := hide (HKC.out _ _ _ HBA.out hft)
   have hbz : BoxT 72 w2 W1.heap.size #[.int .i64 0, .int .i64 0] := by
    have h1 : BoxT 72 (W1.alloc (.cells #[.int .i64 0, .int .i64 0] 72)).drew W1.heap.size #[.int .i64 0, .int .i64 0] := BoxT.new _ _ _
    have h2 := hft.block W1.heap.size (by simp [World.drew]) (fun e => by have := HST.out.om.flt _ e; have := HSZ.out; omega)
    unfold BoxT at *
    rw [h2]; exact h1
   have HBZ := hide hbz
   obtain ⟨z0, z1⟩ := hbz.cells2
   have zf := fun j => hbz.free j
   clear hbz
   have HG := hide (And.intro hgn (And.intro hom hft))
   refine hK.out _ _ HK2.out (fun hH => ?_)
   clear hK K hA hgn hom hft
   unfold Sp.val
   generalize hWH : whl ⟨f, t⟩ l a b = WH at *
   have HWH := hide hWH
   clear hWH
   obtain ⟨wf, wt⟩ := WH
   simp only
   (try simp only [nm])
   refine tkM 9 ?_ ?_ hH ?_
   rotate_left
   ·(intro w' hSw; unfold S1 at hSw; go_simp; try (with_reducible rfl))
   (try simp only [nm])
   refine tkM 10 ?_ ?_ hH ?_
   rotate_left
   ·(intro w' hSw; unfold S1 at hSw; go_simp; try (with_reducible rfl))
   (try simp only [nm])
   refine tkM 11 ?_ ?_ hH ?_
   rotate_left
   ·(intro w' hSw; unfold S1 at hSw; go_simp; try (with_reducible rfl))
   (try simp only [nm])
   refine tkO 13 fun K hK => ?_
   go_simp
   refine hK.out _ _ (HK2.out.set (by have := HSL.out; have := HSZ.out; omega) (by have := HSZ.out; omega) _ _) (fun hH => ?_)
   clear hK K
   (try simp only [nm])
   refine tkM 14 ?_ ?_ hH ?_
   rotate_left
   ·(intro w' hSw; unfold S1 at hSw; go_simp; try (with_reducible rfl))
   (try simp only [nm])
   refine wpAnyM_done (by kernel_rfl) ?_ _
   go_wp2_with fail
   go_meet
   case rel => exact ⟨a, b, W1.heap.size, gv, v', rfl, rfl, HA, (show GS _ _ _ _ _ _ _ _ _ _ _ _ _ _ _ _ _ _ _ _ _ by rw [HWH.out]; exact GS.start HST.out HW1.out HBA.out HG.out.2.1 HG.out.2.2 HG.out.1 (grownBy_trans (grownBy_set _ _ _ _) (grownBy_set _ _ _ _)) (Nat.le_refl _) (.inl (by simp [World.drew])) (by have := (HBZ.out.set 0 (.int .i64 wf)).set 1 (.int .i64 wt); simpa using this))⟩
 case rest =>
  obtain ⟨a, b, KW, gv, v', rfl, rfl, HA, HGS⟩ := hcut
  obtain ⟨gone, hgone⟩ : ∃ gone, gone = (l.take b).drop a := ⟨_, rfl⟩
  have HGO := hide hgone
  rw [← hgone] at HGS
  have hsub : ∀ sp ∈ gone, sp ∈ l := fun sp hsp => by rw [hgone] at hsp; exact List.mem_of_mem_take (List.mem_of_mem_drop hsp)
  have HDN : Hid (∀ sp ∈ gone, ∃ x ∈ M, x.k = k ∧ x.f = sp.f ∧ x.t = sp.t) := fun sp hsp => (HLR.out sp (hsub sp hsp)).2
  have HFU : Hid (∀ sp ∈ gone, sp.f < sp.t) := fun sp hsp => (HLR.out sp (hsub sp hsp)).1
  have HRG : Hid (gone.Pairwise fun a b => a.t ≤ b.f) := (show List.Pairwise _ _ by rw [hgone]; exact (HRI.out.sublist (List.take_sublist ..)).sublist (List.drop_sublist ..))
  have hgl : gone.length ≤ 100000 := by
   obtain ⟨G, N, hg⟩ := GI.ex HDN.out HFU.out HRG.out gone.length (Nat.le_refl _)
   exact Nat.le_trans hg.le hM
  clear hgone hsub
  obtain ⟨ga, gc, rfl⟩ := HGS.out.gn.shape
  generalize hWH : whl ⟨f, t⟩ l a b = WH at *
  have HWH := hide hWH
  clear hWH
  obtain ⟨wf, wt⟩ := WH
  generalize hRR : (⟨k, v', l.take a ++ (⟨wf, wt⟩ : Sp) :: l.drop b⟩ :: R0 : List SRow) = RR at *
  have HRR := hide hRR
  clear hRR
  generalize hFQ : (fun i => fq i ∨ v'.ownBlock = some i) = FQ at *
  have HFQ := hide hFQ
  clear hFQ
  simp only at HGS
  go_wp2_with fail
  go_loopg [24] (gone.length + 1) (fun gh iv wr => ∃ (i : Nat) (G N : List Pn), iv = .int .i64 (i : Int) ∧ i ≤ gone.length ∧ gone.length + 1 ≤ gh + i ∧ Hid (GI M k gone i G N) ∧ Hid (GS w wr s m o size slide ag fq FQ RR N (.slice ga gone.length gc) gone KW k f t (G.foldl (fun a x => jn ag x.a a) c) wf wt))
  case atStart => exact ⟨0, [], M, rfl, by omega, by omega, ⟨.refl _, rfl, fun q x s h => by simp at h⟩, HGS⟩
  case round =>
   clear HGS
   obtain ⟨i, G, N, rfl, hi, hg, HGI, HG⟩ := hrel
   obtain ⟨go, rfl⟩ : ∃ go, gk = go + 1 := ⟨gk - 1, by omega⟩
   by_cases hlt : i < gone.length
   ·obtain ⟨sp, hsp⟩ := get_of_lt hlt
    have bt : (i : Int) < (gone.length : Int) := by omega
    obtain ⟨nb, no, rfl, nlt, e0, e1⟩ := (HG.out.gn.seg Sp.cs_len (by omega)).span hsp
    obtain ⟨x, N', x1, x2, x3, x4, hN, hGI⟩ := HGI.out.next HDN.out HFU.out HRG.out hsp
    have HN := hide hN
    have HGI2 := hide hGI
    have hpx := HST.out.ok x x4
    have HPX := hide hpx
    clear hN hGI hsp x4 hpx
    obtain ⟨xk, xf, xt, xa⟩ := x
    obtain ⟨sf, sto⟩ := sp
    simp only at x1 x2 x3 e0 e1
    subst x1 x2 x3
    have HFO : Hid ((G ++ [(⟨xk, xf, xt, xa⟩ : Pn)]).foldl (fun a x => jn ag x.a a) c = jn ag xa (G.foldl (fun a x => jn ag x.a a) c)) := (show _ = _ by rw [List.foldl_append]; rfl)
    generalize hC : G.foldl (fun a x => jn ag x.a a) c = C at *
    clear hC
    obtain ⟨WB, hWB⟩ : ∃ WB, WB = (wr.alloc (.cells #[.int .i64 xf, .int .i64 xt] 72)).alloc (.cells #[.int .i64 xk, .int .i64 xf, .int .i64 xt] 150) := ⟨_, rfl⟩
    have hbb : Below wr.heap.size wr WB := by rw [hWB]; exact below_box2 wr _ _
    have HGB := hide (HG.out.below hbb)
    have hpl : BoxT 150 WB (wr.heap.size + 1) #[.int .i64 xk, .int .i64 xf, .int .i64 xt] := by rw [hWB]; exact BoxT.new_at (t := 150) (by simp)
    have HPL := hide hpl
    clear hbb hpl
    obtain ⟨c3, c4, cc0, cc3⟩ := HG.out.cells
    have HMG : Hid (∀ w', Below WB.heap.size WB w' → Calls Tryz.prog 114 #[.int .i64 ag, .int .i64 xa, .int .i64 C] w' fun e w'' => e = .returned (.int .i64 (jn ag xa C)) ∧ Below WB.heap.size WB w'') := fun w' hb => (Merge_any w' ag xa C).mono (by rintro e w'' ⟨rfl, h2⟩; exact ⟨rfl, hb.trans (h2.mono hb.size)⟩)
    generalize hJ : jn ag xa C = J at *
    clear hJ
    have HKC2 : Hid (∀ w', Below WB.heap.size WB w' → S6 s m w.heap.size (wr.heap.size + 1) ag C xk xf xt xa w') := fun w' hb => by
     have h1 := HGB.out.below hb
     obtain ⟨d3, d4, _, d3'⟩ := h1.cells
     have h2 := BoxT.below (t := 150) HPL.out hb
     obtain ⟨p0, p1, p2⟩ := h2.cells3
     obtain ⟨lk, hlk⟩ := HPX.out.key
     exact ⟨d3, d4, p0, p1, p2, d3', h1.mp.look_hit Tryz.lawPl Tryz.underlying113 hlk (R := N'.map pEnt) (by have := HN.out.map pEnt; rwa [List.map_cons] at this) false⟩
    have cc0' := cell_alloc cc0 (.cells #[.int .i64 xf, .int .i64 xt] 72)
    go_upto_region 6 with fail
    rw [← hWB]
    clear hWB
    refine wp_region_M (S := fun w' => S6 s m w.heap.size (wr.heap.size + 1) ag C xk xf xt xa w') (late := [14]) (by kernel_rfl) (HKC2.out _ (Below.refl _ _).drew) (fun hH => ?_)
    (try simp only [nr, Nat.reduceAdd])
    refine tkM 0 ?_ ?_ hH ?_
    rotate_left
    ·(intro w' hSw; unfold S6 at hSw; go_simp; try (with_reducible rfl))
    (try simp only [nm])
    refine tkM 1 ?_ ?_ hH ?_
    rotate_left
    ·(intro w' hSw; unfold S6 at hSw; go_simp; try (with_reducible rfl))
    (try simp only [nm])
    refine tkM 2 ?_ ?_ hH ?_
    rotate_left
    ·(intro w' hSw; unfold S6 at hSw; go_simp; try (with_reducible rfl))
    (try simp only [nm])
    refine tkM 3 ?_ ?_ hH ?_
    rotate_left
    ·(intro w' hSw; unfold S6 at hSw; go_simp; try (with_reducible rfl))
    (try simp only [nm])
    refine tkM 4 ?_ ?_ hH ?_
    rotate_left
    ·(intro w' hSw; unfold S6 at hSw; go_simp; try (with_reducible rfl))
    (try simp only [nm])
    refine tkM 5 ?_ ?_ hH ?_
    rotate_left
    ·(intro w' hSw; unfold S6 at hSw; go_simp; try (with_reducible rfl))
    (try simp only [nm])
    refine tkM 6 ?_ ?_ hH ?_
    rotate_left
    ·(intro w' hSw; unfold S6 at hSw; go_simp; try (with_reducible rfl))
    (try simp only [nm])
    refine tkM 7 ?_ ?_ hH ?_
    rotate_left
    ·(intro w' hSw; unfold S6 at hSw; go_simp; try (with_reducible rfl))
    (try simp only [nm])
    refine tkM 8 ?_ ?_ hH ?_
    rotate_left
    ·(intro w' hSw; unfold S6 at hSw; go_simp; try (with_reducible rfl))
    (try simp only [nm])
    refine tkM 9 ?_ ?_ hH ?_
    rotate_left
    ·(intro w' hSw; unfold S6 at hSw; go_simp; try (with_reducible rfl))
    (try simp only [nm])
    refine tkM 10 ?_ ?_ hH ?_
    rotate_left
    ·(intro w' hSw; unfold S6 at hSw; go_simp; try (with_reducible rfl))
    (try simp only [nm])
    refine tkM 11 ?_ ?_ hH ?_
    rotate_left
    ·(intro w' hSw; unfold S6 at hSw; go_simp; try (with_reducible rfl))
    (try simp only [nm])
    refine tkO 12 fun K hK => ?_
    go_simp
    go_at_call 114
    refine (HMG.out _ (Below.refl _ _).drew).mono ?_
    rintro e w3 ⟨rfl, b3⟩
    have B3 := hide b3
    refine hK.out _ _ (HKC2.out _ b3) (fun hH => ?_)
    clear hK K b3
    (try simp only [nm])
    refine tkM 13 ?_ ?_ hH ?_
    rotate_left
    ·(intro w' hSw; unfold S6 at hSw; go_simp; try (with_reducible rfl))
    (try simp only [nm])
    have G3 := hide (HGB.out.below B3.out)
    have hf3 := fun j => G3.out.bp.free j
    have hc3 : w3.cell? ⟨w.heap.size, 3, none⟩ = some (.int .i64 C) := G3.out.cells.2.2.2
    refine wpAnyM_last (i := 14) (o := ⟨_, _, _, _, _, _⟩) (by kernel_rfl) (by kernel_rfl) rfl (fun K hK => ?_)
    go_simp
    refine hK.out _ _ ?_
    clear hK K
    (try simp only [nm])
    refine wpAnyM_done (by kernel_rfl) ?_ _
    have G4 := hide (G3.out.acc J)
    have P4 : Hid (BoxT 150 (w3.setCell ⟨w.heap.size, 3, none⟩ (.int .i64 J)) (wr.heap.size + 1) #[.int .i64 xk, .int .i64 xf, .int .i64 xt]) := (BoxT.below (t := 150) HPL.out B3.out).grown (grownBy_set _ _ _ _) (by have := HG.out.bp.lt; omega)
    clear hf3 hc3 hH
    generalize hw4 : w3.setCell ⟨w.heap.size, 3, none⟩ (.int .i64 J) = w4 at *
    clear hw4
    go_upto_region 7 with fail
    obtain ⟨lk, hlk⟩ := HPX.out.key
    obtain ⟨w5, hrun5, hm5, ht5⟩ := (G4.out.below ((Below.refl _ _).drew)).mp.drop_hit Tryz.lawPl Tryz.underlying113 hlk (R := N'.map pEnt) (by have := HN.out.map pEnt; rwa [List.map_cons] at this) 0
    obtain ⟨_, e4, _, _⟩ := G4.out.cells
    obtain ⟨p0, p1, p2⟩ := P4.out.cells3
    have hS7 : S7 s m (wr.heap.size + 1) xk xf xt w5 := by
     have g5 := (G4.out.below ((Below.refl _ _).drew)).del hm5 ht5
     have hne : wr.heap.size + 1 ≠ m := fun e => by have := HG.out.ml; have := HG.out.ft.size; omega
     have hp : BoxT 150 w5 (wr.heap.size + 1) #[.int .i64 xk, .int .i64 xf, .int .i64 xt] := by have h1 := P4.out; unfold BoxT at *; rw [ht5.other hne]; exact h1
     obtain ⟨q0, q1, q2⟩ := hp.cells3
     exact ⟨g5.cells.2.1, q0, q1, q2⟩
    have HS7 := hide hS7
    have G5 := hide ((G4.out.below ((Below.refl _ _).drew)).del hm5 ht5)
    clear hS7 hm5 ht5
    refine wp_region_M (S := fun w' => S7 s m (wr.heap.size + 1) xk xf xt w') (late := []) (by kernel_rfl) ⟨e4, p0, p1, p2⟩ (fun hH => ?_)
    (try simp only [nr, Nat.reduceAdd])
    refine tkM 0 ?_ ?_ hH ?_
    rotate_left
    ·(intro w' hSw; unfold S7 at hSw; go_simp; try (with_reducible rfl))
    (try simp only [nm])
    refine tkM 1 ?_ ?_ hH ?_
    rotate_left
    ·(intro w' hSw; unfold S7 at hSw; go_simp; try (with_reducible rfl))
    (try simp only [nm])
    refine tkM 2 ?_ ?_ hH ?_
    rotate_left
    ·(intro w' hSw; unfold S7 at hSw; go_simp; try (with_reducible rfl))
    (try simp only [nm])
    refine tkM 3 ?_ ?_ hH ?_
    rotate_left
    ·(intro w' hSw; unfold S7 at hSw; go_simp; try (with_reducible rfl))
    (try simp only [nm])
    refine tkM 4 ?_ ?_ hH ?_
    rotate_left
    ·(intro w' hSw; unfold S7 at hSw; go_simp; try (with_reducible rfl))
    (try simp only [nm])
    refine tkO 5 fun K hK => ?_
    refine step_del_run rfl _ _ 113 150 rfl _ _ rfl rfl hrun5 ?_
    refine hK.out _ _ HS7.out (fun hH => ?_)
    clear hK K
    (try simp only [nm])
    refine wpAnyM_done (by kernel_rfl) ?_ _
    go_wp2_with fail
    go_roundg go
    case rel => exact ⟨i + 1, G ++ [⟨xk, xf, xt, xa⟩], N', by go_num, by omega, by omega, HGI2, (show GS _ _ _ _ _ _ _ _ _ _ _ _ _ _ _ _ _ _ _ _ _ by rw [HFO.out]; exact G5.out)⟩
    case measure => omega
   ·obtain rfl : i = gone.length := by omega
    have bt : ¬ ((gone.length : Nat) : Int) < (gone.length : Int) := by omega
    obtain ⟨c0, c1, c2, c3⟩ := HG.out.bp.cells4
    obtain ⟨r0, r1, r2, r3⟩ := HG.out.br.cells4
    obtain ⟨u0, u1⟩ := HG.out.bw.cells2
    have hfp := fun j => HG.out.bp.free j
    have hfr := fun j => HG.out.br.free j
    have hKW : ¬ KW = w.heap.size := fun e => by
     have h1 := HG.out.bw
     have h2 := HG.out.bp
     unfold BoxT at h1 h2
     rw [e, h2] at h1
     simp at h1
    generalize hC : G.foldl (fun a x => jn ag x.a a) c = C at *
    have HC := hide hC
    clear hC
    go_wp2_with fail
    obtain ⟨Wf, hWf⟩ : ∃ Wf, Wf = (((((wr.setCell ⟨w.heap.size, 1, none⟩ (.int .i64 wf)).setCell ⟨w.heap.size, 2, none⟩ (.int .i64 wt)).setCell ⟨w.heap.size + 1, 0, none⟩ (.int .i64 k)).setCell ⟨w.heap.size + 1, 1, none⟩ (.int .i64 wf)).setCell ⟨w.heap.size + 1, 2, none⟩ (.int .i64 wt)).setCell ⟨w.heap.size + 1, 3, none⟩ (.int .i64 C) := ⟨_, rfl⟩
    rw [← hWf]
    have hT : Turned w.heap.size (w.heap.size + 1) wr Wf := by
     rw [hWf]
     exact ((((((Turned.set _ _ _ _ _).trans (Turned.set _ _ _ _ _)).trans (Turned.setB _ _ _ _ _)).trans (Turned.setB _ _ _ _ _)).trans (Turned.setB _ _ _ _ _)).trans (Turned.setB _ _ _ _ _))
    have hbr : BoxT 79 Wf (w.heap.size + 1) #[.int .i64 k, .int .i64 wf, .int .i64 wt, .int .i64 C] := by
     rw [hWf]
     have h1 : BoxT 79 ((wr.setCell ⟨w.heap.size, 1, none⟩ (.int .i64 wf)).setCell ⟨w.heap.size, 2, none⟩ (.int .i64 wt)) (w.heap.size + 1) #[.int .i64 0, .int .i64 0, .int .i64 0, .int .i64 0] := (HG.out.br.other _ _ (by omega)).other _ _ (by omega)
     have := (((h1.set 0 (.int .i64 k)).set 1 (.int .i64 wf)).set 2 (.int .i64 wt)).set 3 (.int .i64 C)
     simpa using this
    obtain ⟨q0, q1, q2, q3⟩ := hbr.cells4
    have hfin := HG.out.fin hT
    refine bodyPost_ret (v := .agg #[.int .i64 k, .int .i64 wf, .int .i64 wt, .int .i64 C]) (by simp [results, Tryz.results113, go_sem, q0, q1, q2, q3]) rfl ⟨a, b, l, v, v', R0, G, N, HR.out, HA.out, by rw [← HGO.out]; exact HGI.out, by rw [HWH.out, HC.out], hfin.1, hfin.2.1, by rw [HWH.out, HRR.out, HFQ.out]; exact hfin.2.2.1, by rw [HFQ.out]; exact hfin.2.2.2, ?_, ?_⟩
    ·have := HG.out.ns; rw [← HFQ.out] at this; exact this
    ·have := HG.out.nm; rw [← HFQ.out] at this; exact this
end Go.Proofs.YtpcbhcdpegbfjaaGreat
/-
 lay: a pane becomes one with what lies at its place; a session's, with all that it overlaps.
-/
namespace Go.Proofs.YtpcbhcdpegbfjaaGreat
set_option maxHeartbeats 16000000
set_option maxRecDepth 100000
open Go.RowKit
def sess (k : Int) : Bool := decide (k = 3)
theorem whl_in {l : List Sp} {f t : Int} {a b : Nat} (hf : In64 f) (ht : In64 t) (hl : ∀ sp ∈ l, In64 sp.f ∧ In64 sp.t) : In64 (whl ⟨f, t⟩ l a b).f ∧ In64 (whl ⟨f, t⟩ l a b).t := by
 have h : ∀ (g : List Sp) (s : Sp), In64 s.f → In64 s.t → (∀ x ∈ g, In64 x.f ∧ In64 x.t) → In64 (g.foldl jsp s).f ∧ In64 (g.foldl jsp s).t := by
  intro g
  induction g with
  | nil => intro s h1 h2 _; exact ⟨h1, h2⟩
  | cons x g ih =>
   intro s h1 h2 h3
   have hx := h3 x (List.mem_cons_self ..)
   exact ih _ (by unfold In64 at *; simp only [jsp]; omega) (by unfold In64 at *; simp only [jsp]; omega) (fun y hy => h3 y (List.mem_cons_of_mem _ hy))
 exact h _ _ hf ht (fun x hx => hl x (List.mem_of_mem_take (List.mem_of_mem_drop hx)))
theorem foldJ_in {ag : Int} (G : List Pn) : ∀ c, In64 c → (∀ x ∈ G, In64 x.a) → In64 (G.foldl (fun a x => jn ag x.a a) c) := by
 induction G with
 | nil => intro c h _; exact h
 | cons x G ih => intro c h h2; exact ih _ (jn_in (h2 x (List.mem_cons_self ..)) h) (fun y hy => h2 y (List.mem_cons_of_mem _ hy))
theorem Inv.plain {kd : Int} {M : List Pn} {R : List SRow} (h : Inv kd M R) (hkd : kd ≠ 3) (M' : List Pn) : Inv kd M' R := by
 have hR := h.none hkd
 subst hR
 exact ⟨fun _ => rfl, fun e => absurd e hkd, fun r hr => (by cases hr), fun r hr => (by cases hr)⟩
structure LI (w wr : World) (s m o : Nat) (kd size slide ag : Int) (fq fq' : Nat → Prop) (N : List Pn) (R' : List SRow) (k f t c : Int) : Prop where
 box : BoxT 117 wr s #[.int .i64 kd, .int .i64 size, .int .i64 slide, .int .i64 ag, .map (some m), .map (some o)]
 mp : MapAt Tryz.prog 150 wr m (N.map pEnt)
 om : OM wr o fq' R'
 ft : FT (FP s m fq) (FP s m fq') w wr
 bp : BoxT 79 wr w.heap.size #[.int .i64 k, .int .i64 f, .int .i64 t, .int .i64 c]
 ns : ¬ fq' s
 nm : ¬ fq' m
 n1 : ¬ fq' w.heap.size
 sl : s < w.heap.size
 ml : m < w.heap.size
section
variable {w wr w' : World} {s m o : Nat} {kd size slide ag : Int} {fq fq' : Nat → Prop} {R' : List SRow} {N : List Pn} {k f t c : Int}
theorem LI.below (h : LI w wr s m o kd size slide ag fq fq' N R' k f t c) (hb : Below wr.heap.size wr w') : LI w w' s m o kd size slide ag fq fq' N R' k f t c :=
 {h with box := BoxT.below (t := 117) h.box hb, mp := h.mp.back (hb.block _ h.mp.lt), om := h.om.below hb, ft := h.ft.trans (FT.of_below hb), bp := BoxT.below (t := 79) h.bp hb }
theorem LI.cells (h : LI w wr s m o kd size slide ag fq fq' N R' k f t c) : wr.cell? ⟨s, 3, none⟩ = some (.int .i64 ag) ∧ wr.cell? ⟨s, 4, none⟩ = some (.map (some m)) ∧ wr.cell? ⟨w.heap.size, 3, none⟩ = some (.int .i64 c) := by
 have h1 := h.box
 have h2 := h.bp
 unfold BoxT at h1 h2
 simp [World.cell?, h1, h2]
theorem LI.set (h : LI w wr s m o kd size slide ag fq fq' N R' k f t c) (hg : wr.grownBy w' (some w.heap.size)) {k' f' t' c' : Int} (hb : BoxT 79 w' w.heap.size #[.int .i64 k', .int .i64 f', .int .i64 t', .int .i64 c']) : LI w w' s m o kd size slide ag fq fq' N R' k' f' t' c' := by
 have ho : ∀ i, i ≠ w.heap.size → i < wr.heap.size → w'.heap[i]? = wr.heap[i]? := fun i hi hl => hg.block i hl (fun e => hi (by cases e; rfl))
 have hsl := h.sl
 have hml := h.ml
 exact { h with box := h.box.grown hg (by omega), mp := h.mp.back (ho m (by omega) h.mp.lt), om := h.om.back (fun i hi => ho i (fun e => h.n1 (e ▸ hi)) (h.om.flt i hi)) hg.size, ft := ⟨hg.os.trans h.ft.os, hg.tape.trans h.ft.tape, hg.output.trans h.ft.output, Nat.le_trans h.ft.size hg.size, fun i hi hn => (ho i (by omega) (Nat.lt_of_lt_of_le hi h.ft.size)).trans (h.ft.block i hi hn), h.ft.sub⟩, bp := hb }
theorem LI.fin (h : LI w wr s m o kd size slide ag fq fq' N R' k f t c) {N' : List Pn} (hm : MapAt Tryz.prog 150 w' m (N'.map pEnt)) (ht : MTurn wr w' m) (hok : ∀ x ∈ N', PnOk x) (hinv : Inv kd N' R') : StAt w' s m o kd size slide ag fq' N' R' ∧ FT (FP s m fq) (FP s m fq') w w' := by
 have hg := ht.grown
 have ho : ∀ i, i ≠ m → w'.heap[i]? = wr.heap[i]? := fun i hi => ht.other hi
 have hsm : s ≠ m := fun e => by
  obtain ⟨es, ck, h1⟩ := h.mp.isMap
  have h2 := h.box
  unfold BoxT at h2
  rw [e, h1] at h2
  cases h2
 refine ⟨⟨?_, hm, h.om.back (fun i hi => ho i (fun e => h.nm (e ▸ hi))) hg.size, hok, h.ns, h.nm, hinv⟩, ⟨hg.os.trans h.ft.os, hg.tape.trans h.ft.tape, hg.output.trans h.ft.output, Nat.le_trans h.ft.size hg.size, fun i hi hn => (ho i (fun e => hn (.inr (.inl e)))).trans (h.ft.block i hi hn), h.ft.sub⟩⟩
 have h1 := ho s hsm
 have h2 := h.box
 unfold BoxT at *
 rw [h1]; exact h2
end
def L4 (s m P : Nat) (k f t xa : Int) (is : Bool) (w' : World) : Prop := w'.cell? ⟨s, 4, none⟩ = some (.map (some m)) ∧ w'.cell? ⟨P, 0, none⟩ = some (.int .i64 k) ∧ w'.cell? ⟨P, 1, none⟩ = some (.int .i64 f) ∧ w'.cell? ⟨P, 2, none⟩ = some (.int .i64 t) ∧ (Instr.lookup 113 (.map (some m)) (.agg #[.int .i64 k, .int .i64 f, .int .i64 t]) true).run Tryz.prog w' = .ok (.tuple #[.int .i64 xa, .bool is]) w'
def L6 (s K : Nat) (ag c : Int) (w' : World) : Prop := w'.cell? ⟨s, 3, none⟩ = some (.int .i64 ag) ∧ w'.cell? ⟨K, 3, none⟩ = some (.int .i64 c)
def L7 (s m P K : Nat) (k f t c : Int) (w' : World) : Prop := w'.cell? ⟨s, 4, none⟩ = some (.map (some m)) ∧ w'.cell? ⟨P, 0, none⟩ = some (.int .i64 k) ∧ w'.cell? ⟨P, 1, none⟩ = some (.int .i64 f) ∧ w'.cell? ⟨P, 2, none⟩ = some (.int .i64 t) ∧ w'.cell? ⟨K, 3, none⟩ = some (.int .i64 c)
theorem Tryz.zeroI (w : World) : (zeroValue 2).run Tryz.prog w = .ok (.int .i64 0) w := by kernel_rfl
def LPost (w : World) (s m o : Nat) (kd size slide ag : Int) (fq : Nat → Prop) (M : List Pn) (p : Pn) (e : Ending) (w' : World) : Prop := e = .returned (.tuple #[]) ∧ ∃ fq' M' R', StAt w' s m o kd size slide ag fq' M' R' ∧ FT (FP s m fq) (FP s m fq') w w' ∧ Comes (sess kd) (jn ag) (p :: M) M'
theorem lay_plain {w : World} {s m o : Nat} {kd size slide ag : Int} {fq : Nat → Prop} {M : List Pn} {R : List SRow} (h : StAt w s m o kd size slide ag fq M R) (hkd : kd ≠ 3) {k f t c : Int} (hp : PnOk ⟨k, f, t, c⟩) :
  Calls Tryz.prog 99 #[.pointer (some ⟨s, 0, none⟩), .agg #[.int .i64 k, .int .i64 f, .int .i64 t, .int .i64 c]] w (LPost w s m o kd size slide ag fq M ⟨k, f, t, c⟩) := by
 have hb1 := below_box w (.cells #[.int .i64 k, .int .i64 f, .int .i64 t, .int .i64 c] 79)
 have HL : Hid (LI w (w.alloc (.cells #[.int .i64 k, .int .i64 f, .int .i64 t, .int .i64 c] 79)) s m o kd size slide ag fq fq M R k f t c) :=
  ⟨BoxT.below (t := 117) h.box hb1, h.mp.back (hb1.block m h.mp.lt), h.om.below hb1, FT.of_below hb1, BoxT.new _ _ _, h.ns, h.nm, fun e => by have := h.om.flt _ e; omega, h.box.lt, h.mp.lt⟩
 have HKEY := hide (keyPl hp.k hp.f hp.t)
 have HST := hide h
 have HP := hide hp
 have hk1 : (w.alloc (.cells #[.int .i64 k, .int .i64 f, .int .i64 t, .int .i64 c] 79)).cell? ⟨s, 0, none⟩ = some (.int .i64 kd) := by have := HL.out.box.cellAt 0; simpa using this
 have d3 : ¬ kd = 3 := hkd
 obtain ⟨fq', hfq⟩ : ∃ fq', fq' = fq := ⟨_, rfl⟩
 obtain ⟨N, hN⟩ : ∃ N, N = M := ⟨_, rfl⟩
 obtain ⟨R', hR⟩ : ∃ R', R' = R := ⟨_, rfl⟩
 have HEQ := hide (And.intro hfq (And.intro hN hR))
 have hsess : sess kd = false := decide_eq_false hkd
 have HSE := hide hsess
 rw [show LI w (w.alloc (.cells #[.int .i64 k, .int .i64 f, .int .i64 t, .int .i64 c] 79)) s m o kd size slide ag fq fq M R k f t c = LI w (w.alloc (.cells #[.int .i64 k, .int .i64 f, .int .i64 t, .int .i64 c] 79)) s m o kd size slide ag fq fq' N R' k f t c by rw [hfq, hN, hR]] at HL
 clear h hb1 hfq hN hR hsess hp
 by_cases hx : ∃ x ∈ N, x.k = k ∧ x.f = f ∧ x.t = t
 ·obtain ⟨x, hxN, x1, x2, x3⟩ := hx
  obtain ⟨u, v, huv⟩ := List.append_of_mem hxN
  obtain ⟨xk, xf, xt, xa⟩ := x
  simp only at x1 x2 x3
  have e1 := x1.symm
  have e2 := x2.symm
  have e3 := x3.symm
  clear x1 x2 x3
  subst e1 e2 e3
  obtain ⟨N0, hN0⟩ : ∃ N0, N0 = u ++ v := ⟨_, rfl⟩
  have HN0 : Hid (N.Perm (⟨k, f, t, xa⟩ :: N0)) := (show List.Perm _ _ by rw [huv, hN0]; exact List.perm_middle)
  clear huv hN0 hxN
  go_enter Tryz.func99, Tryz.ntmps99
  obtain ⟨b0, b1, b2, b3⟩ := HL.out.bp.cells4
  have HPO := hide (fun w' => placeOf_any w' ⟨k, f, t, c⟩)
  unfold Pn.val plV at HPO
  simp only at HPO
  go_upto_region 4 with (first | (go_at_call 104; refine (HPO.out _).mono ?_; rintro e w3 ⟨rfl, b3'⟩; have H3 := hide (HL.out.below b3'); clear b3') | fail)
  obtain ⟨W4, hW4⟩ : ∃ W4, W4 = w3.alloc (.cells #[.int .i64 k, .int .i64 f, .int .i64 t] 150) := ⟨_, rfl⟩
  rw [← hW4]
  have H4 : Hid (LI w W4 s m o kd size slide ag fq fq' N R' k f t c) := (show LI _ _ _ _ _ _ _ _ _ _ _ _ _ _ _ _ _ by rw [hW4]; exact H3.out.below (below_box w3 _))
  have P4 : Hid (BoxT 150 W4 w3.heap.size #[.int .i64 k, .int .i64 f, .int .i64 t]) := (show BoxT _ _ _ _ by rw [hW4]; exact BoxT.new _ _ _)
  clear hW4 b0 b1 b2 b3 HPO
  have HK4 : Hid (∀ w', Below W4.heap.size W4 w' → L4 s m w3.heap.size k f t xa true w') := fun w' hb => by
   have h1 := H4.out.below hb
   obtain ⟨p0, p1, p2⟩ := (BoxT.below (t := 150) P4.out hb).cells3
   obtain ⟨lk, hlk⟩ := HKEY.out
   exact ⟨h1.cells.2.1, p0, p1, p2, h1.mp.look_hit Tryz.lawPl Tryz.underlying113 hlk (R := N0.map pEnt) (by have := HN0.out.map pEnt; rwa [List.map_cons] at this) true⟩
  refine wp_region_M (S := fun w' => L4 s m w3.heap.size k f t xa true w') (late := []) (by kernel_rfl) (HK4.out _ (Below.refl _ _).drew) (fun hH => ?_)
  (try simp only [nr, Nat.reduceAdd])
  refine tkM 0 ?_ ?_ hH ?_
  rotate_left
  ·(intro w' hSw; unfold L4 at hSw; go_simp; try (with_reducible rfl))
  (try simp only [nm])
  refine tkM 1 ?_ ?_ hH ?_
  rotate_left
  ·(intro w' hSw; unfold L4 at hSw; go_simp; try (with_reducible rfl))
  (try simp only [nm])
  refine tkM 2 ?_ ?_ hH ?_
  rotate_left
  ·(intro w' hSw; unfold L4 at hSw; go_simp; try (with_reducible rfl))
  (try simp only [nm])
  refine tkM 3 ?_ ?_ hH ?_
  rotate_left
  ·(intro w' hSw; unfold L4 at hSw; go_simp; try (with_reducible rfl))
  (try simp only [nm])
  refine tkM 4 ?_ ?_ hH ?_
  rotate_left
  ·(intro w' hSw; unfold L4 at hSw; go_simp; try (with_reducible rfl))
  (try simp only [nm])
  refine tkM 5 ?_ ?_ hH ?_
  rotate_left
  ·(intro w' hSw; unfold L4 at hSw; go_simp; try (with_reducible rfl))
  (try simp only [nm])
  refine tkM 6 ?_ ?_ hH ?_
  rotate_left
  ·(intro w' hSw; unfold L4 at hSw; go_simp; try (with_reducible rfl))
  (try simp only [nm])
  refine tkM 7 ?_ ?_ hH ?_
  rotate_left
  ·(intro w' hSw; unfold L4 at hSw; go_simp; try (with_reducible rfl))
  (try simp only [nm])
  refine tkM 8 ?_ ?_ hH ?_
  rotate_left
  ·(intro w' hSw; unfold L4 at hSw; go_simp; try (with_reducible rfl))
  (try simp only [nm])
  refine tkM 9 ?_ ?_ hH ?_
  rotate_left
  ·(intro w' hSw; unfold L4 at hSw; go_simp; try (with_reducible rfl))
  (try simp only [nm])
  refine tkM 10 ?_ ?_ hH ?_
  rotate_left
  ·(intro w' hSw; unfold L4 at hSw; go_simp; try (with_reducible rfl))
  (try simp only [nm])
  refine wpAnyM_done (by kernel_rfl) ?_ _
  go_upto_region 6 with fail
  have HMG : Hid (∀ w', Below W4.heap.size W4 w' → Calls Tryz.prog 114 #[.int .i64 ag, .int .i64 xa, .int .i64 c] w' fun e w'' => e = .returned (.int .i64 (jn ag xa c)) ∧ Below W4.heap.size W4 w'') := fun w' hb => (Merge_any w' ag xa c).mono (by rintro e w'' ⟨rfl, h2⟩; exact ⟨rfl, hb.trans (h2.mono hb.size)⟩)
  generalize hJ : jn ag xa c = J at *
  have HJ := hide hJ
  clear hJ
  have HK6 : Hid (∀ w', Below W4.heap.size W4 w' → L6 s w.heap.size ag c w') := fun w' hb => ⟨(H4.out.below hb).cells.1, (H4.out.below hb).cells.2.2⟩
  refine wp_region_M (S := fun w' => L6 s w.heap.size ag c w') (late := [9]) (by kernel_rfl) (HK6.out _ ((Below.refl _ _).drew.drew)) (fun hH => ?_)
  (try simp only [nr, Nat.reduceAdd])
  refine tkM 0 ?_ ?_ hH ?_
  rotate_left
  ·(intro w' hSw; unfold L6 at hSw; go_simp; try (with_reducible rfl))
  (try simp only [nm])
  refine tkM 1 ?_ ?_ hH ?_
  rotate_left
  ·(intro w' hSw; unfold L6 at hSw; go_simp; try (with_reducible rfl))
  (try simp only [nm])
  refine tkM 2 ?_ ?_ hH ?_
  rotate_left
  ·(intro w' hSw; unfold L6 at hSw; go_simp; try (with_reducible rfl))
  (try simp only [nm])
  refine tkM 3 ?_ ?_ hH ?_
  rotate_left
  ·(intro w' hSw; unfold L6 at hSw; go_simp; try (with_reducible rfl))
  (try simp only [nm])
  refine tkM 4 ?_ ?_ hH ?_
  rotate_left
  ·(intro w' hSw; unfold L6 at hSw; go_simp; try (with_reducible rfl))
  (try simp only [nm])
  refine tkM 5 ?_ ?_ hH ?_
  rotate_left
  ·(intro w' hSw; unfold L6 at hSw; go_simp; try (with_reducible rfl))
  (try simp only [nm])
  refine tkM 6 ?_ ?_ hH ?_
  rotate_left
  ·(intro w' hSw; unfold L6 at hSw; go_simp; try (with_reducible rfl))
  (try simp only [nm])
  refine tkO 7 fun K hK => ?_
  go_simp
  go_at_call 114
  refine (HMG.out _ ((Below.refl _ _).drew.drew)).mono ?_
  rintro e w5 ⟨rfl, b5⟩
  have B5 := hide b5
  refine hK.out _ _ (HK6.out _ b5) (fun hH => ?_)
  clear hK K b5
  (try simp only [nm])
  refine tkM 8 ?_ ?_ hH ?_
  rotate_left
  ·(intro w' hSw; unfold L6 at hSw; go_simp; try (with_reducible rfl))
  (try simp only [nm])
  have H5 := hide (H4.out.below B5.out)
  have hf5 := fun j => H5.out.bp.free j
  have hc5 : w5.cell? ⟨w.heap.size, 3, none⟩ = some (.int .i64 c) := H5.out.cells.2.2
  refine wpAnyM_last (i := 9) (o := ⟨_, _, _, _, _, _⟩) (by kernel_rfl) (by kernel_rfl) rfl (fun K hK => ?_)
  go_simp
  refine hK.out _ _ ?_
  clear hK K
  (try simp only [nm])
  refine wpAnyM_done (by kernel_rfl) ?_ _
  have H6 := hide (H5.out.set (grownBy_set w5 w.heap.size 3 (.int .i64 J)) (k' := k) (f' := f) (t' := t) (c' := J) (by have := H5.out.bp.set 3 (.int .i64 J); simpa using this))
  have P6 : Hid (BoxT 150 (w5.setCell ⟨w.heap.size, 3, none⟩ (.int .i64 J)) w3.heap.size #[.int .i64 k, .int .i64 f, .int .i64 t]) := (BoxT.below (t := 150) P4.out B5.out).grown (grownBy_set _ _ _ _) (by have := H3.out.bp.lt; omega)
  clear hf5 hc5 hH
  generalize hw6 : w5.setCell ⟨w.heap.size, 3, none⟩ (.int .i64 J) = w6 at *
  clear hw6
  go_upto_region 7 with fail
  have H7 := hide (H6.out.below ((Below.refl _ _).drew))
  obtain ⟨lk, hlk⟩ := HKEY.out
  obtain ⟨w7, hrun7, hm7, ht7⟩ := H7.out.mp.store_old (v := .int .i64 J) Tryz.lawPl Tryz.underlying113 hlk (R := N0.map pEnt) (by have := HN0.out.map pEnt; rwa [List.map_cons] at this)
  obtain ⟨_, e4, e3⟩ := H6.out.cells
  obtain ⟨p0, p1, p2⟩ := P6.out.cells3
  have hL7 : L7 s m w3.heap.size w.heap.size k f t J w7 := by
   have hne : ∀ {ty : TypeId} {i : Nat} {cs : Array Value}, BoxT ty w6.drew i cs → BoxT ty w7 i cs := fun {ty i cs} hb => by
    have h1 : i ≠ m := fun e => by
     obtain ⟨es, ck, h1⟩ := H7.out.mp.isMap
     unfold BoxT at hb
     rw [e, h1] at hb
     cases hb
    have h2 := ht7.other h1
    unfold BoxT at *
    rw [h2]; exact hb
   have q1 := hne H7.out.box
   have q2 := hne H7.out.bp
   have q3 := hne (ty := 150) P6.out
   obtain ⟨r0, r1, r2⟩ := q3.cells3
   obtain ⟨_, _, _, r3⟩ := q2.cells4
   exact ⟨by rw [q1.cellAt]; rfl, r0, r1, r2, r3⟩
  have HL7 := hide hL7
  have HM7 := hide (And.intro hm7 ht7)
  clear hL7 hm7 ht7
  refine wp_region_M (S := fun w' => L7 s m w3.heap.size w.heap.size k f t J w') (late := []) (by kernel_rfl) ⟨e4, p0, p1, p2, e3⟩ (fun hH => ?_)
  (try simp only [nr, Nat.reduceAdd])
  refine tkM 0 ?_ ?_ hH ?_
  rotate_left
  ·(intro w' hSw; unfold L7 at hSw; go_simp; try (with_reducible rfl))
  (try simp only [nm])
  refine tkM 1 ?_ ?_ hH ?_
  rotate_left
  ·(intro w' hSw; unfold L7 at hSw; go_simp; try (with_reducible rfl))
  (try simp only [nm])
  refine tkM 2 ?_ ?_ hH ?_
  rotate_left
  ·(intro w' hSw; unfold L7 at hSw; go_simp; try (with_reducible rfl))
  (try simp only [nm])
  refine tkM 3 ?_ ?_ hH ?_
  rotate_left
  ·(intro w' hSw; unfold L7 at hSw; go_simp; try (with_reducible rfl))
  (try simp only [nm])
  refine tkM 4 ?_ ?_ hH ?_
  rotate_left
  ·(intro w' hSw; unfold L7 at hSw; go_simp; try (with_reducible rfl))
  (try simp only [nm])
  refine tkM 5 ?_ ?_ hH ?_
  rotate_left
  ·(intro w' hSw; unfold L7 at hSw; go_simp; try (with_reducible rfl))
  (try simp only [nm])
  refine tkM 6 ?_ ?_ hH ?_
  rotate_left
  ·(intro w' hSw; unfold L7 at hSw; go_simp; try (with_reducible rfl))
  (try simp only [nm])
  refine tkO 7 fun K hK => ?_
  refine step_put_run rfl _ _ _ 113 rfl _ _ _ rfl rfl rfl hrun7 ?_
  refine hK.out _ _ HL7.out (fun hH => ?_)
  clear hK K
  (try simp only [nm])
  refine wpAnyM_done (by kernel_rfl) ?_ _
  go_wp2_with fail
  go_end0
  obtain ⟨e1, e2, e3⟩ := HEQ.out
  subst e1 e2 e3
  have hnew : (⟨k, f, t, J⟩ :: N0 : List Pn).map pEnt = (plV ⟨k, f, t, c⟩, .int .i64 J) :: N0.map pEnt := rfl
  have hxok := HST.out.ok ⟨k, f, t, xa⟩ (HN0.out.mem_iff.2 (List.mem_cons_self ..))
  obtain ⟨q1, q2⟩ := H7.out.fin (N' := ⟨k, f, t, J⟩ :: N0) (by rw [hnew]; exact HM7.out.1) HM7.out.2 (fun y hy => by
   rcases List.mem_cons.1 hy with rfl | hy
   ·exact ⟨HP.out.k, HP.out.f, HP.out.t, by rw [← HJ.out]; exact jn_in hxok.a HP.out.a⟩
   ·exact HST.out.ok y (HN0.out.mem_iff.2 (List.mem_cons_of_mem _ hy))) (HST.out.inv.plain hkd _)
  refine ⟨rfl, _, _, _, q1, q2, ?_⟩
  rw [HSE.out]
  have hpl := (places_of HST.out.mp).perm HN0.out
  have hm : mt false ⟨k, f, t, c⟩ ⟨k, f, t, xa⟩ := ⟨rfl, .inr ⟨rfl, rfl, rfl⟩⟩
  have hj : jp (jn ag) ⟨k, f, t, c⟩ ⟨k, f, t, xa⟩ = ⟨k, f, t, J⟩ := by
   rw [← HJ.out]
   refine Pn.same rfl ?_ ?_ ?_ <;> simp only [jp]
   ·omega
   ·omega
   ·exact jn_comm _ _ _
  have hr := Reds.pair (J := jn ag) N0 hm
  rw [hj] at hr
  refine ⟨hr.perm (.cons _ HN0.out.symm) (.refl _), ?_⟩
  have hpa := List.pairwise_cons.1 hpl
  refine List.pairwise_cons.2 ⟨fun y hy hmy => ?_, hpa.2.imp (fun hne hmy => hne ?_)⟩
  ·obtain ⟨m1, ⟨m2, _⟩ | ⟨_, m2, m3⟩⟩ := hmy
   ·cases m2
   ·exact hpa.1 y hy ⟨m1, m2, m3⟩
  ·obtain ⟨m1, ⟨m2, _⟩ | ⟨_, m2, m3⟩⟩ := hmy
   ·cases m2
   ·exact ⟨m1, m2, m3⟩
 ·have HNO : Hid (∀ p ∈ N.map pEnt, p.1 ≠ (.agg #[.int .i64 k, .int .i64 f, .int .i64 t] : Value)) := fun p hp e => by
   obtain ⟨y, hy, rfl⟩ := List.mem_map.1 hp
   simp [pEnt, plV] at e
   exact hx ⟨y, hy, e⟩
  have HX := hide hx
  clear hx
  go_enter Tryz.func99, Tryz.ntmps99
  obtain ⟨b0, b1, b2, b3⟩ := HL.out.bp.cells4
  have HPO := hide (fun w' => placeOf_any w' ⟨k, f, t, c⟩)
  unfold Pn.val plV at HPO
  simp only at HPO
  go_upto_region 4 with (first | (go_at_call 104; refine (HPO.out _).mono ?_; rintro e w3 ⟨rfl, b3'⟩; have H3 := hide (HL.out.below b3'); clear b3') | fail)
  obtain ⟨W4, hW4⟩ : ∃ W4, W4 = w3.alloc (.cells #[.int .i64 k, .int .i64 f, .int .i64 t] 150) := ⟨_, rfl⟩
  rw [← hW4]
  have H4 : Hid (LI w W4 s m o kd size slide ag fq fq' N R' k f t c) := (show LI _ _ _ _ _ _ _ _ _ _ _ _ _ _ _ _ _ by rw [hW4]; exact H3.out.below (below_box w3 _))
  have P4 : Hid (BoxT 150 W4 w3.heap.size #[.int .i64 k, .int .i64 f, .int .i64 t]) := (show BoxT _ _ _ _ by rw [hW4]; exact BoxT.new _ _ _)
  clear hW4 b0 b1 b2 b3 HPO
  have HK4 : Hid (∀ w', Below W4.heap.size W4 w' → L4 s m w3.heap.size k f t 0 false w') := fun w' hb => by
   have h1 := H4.out.below hb
   obtain ⟨p0, p1, p2⟩ := (BoxT.below (t := 150) P4.out hb).cells3
   obtain ⟨lk, hlk⟩ := HKEY.out
   exact ⟨h1.cells.2.1, p0, p1, p2, h1.mp.look_miss Tryz.lawPl Tryz.underlying113 (Tryz.zeroI w') hlk HNO.out true⟩
  refine wp_region_M (S := fun w' => L4 s m w3.heap.size k f t 0 false w') (late := []) (by kernel_rfl) (HK4.out _ (Below.refl _ _).drew) (fun hH => ?_)
  (try simp only [nr, Nat.reduceAdd])
  refine tkM 0 ?_ ?_ hH ?_
  rotate_left
  ·(intro w' hSw; unfold L4 at hSw; go_simp; try (with_reducible rfl))
  (try simp only [nm])
  refine tkM 1 ?_ ?_ hH ?_
  rotate_left
  ·(intro w' hSw; unfold L4 at hSw; go_simp; try (with_reducible rfl))
  (try simp only [nm])
  refine tkM 2 ?_ ?_ hH ?_
  rotate_left
  ·(intro w' hSw; unfold L4 at hSw; go_simp; try (with_reducible rfl))
  (try simp only [nm])
  refine tkM 3 ?_ ?_ hH ?_
  rotate_left
  ·(intro w' hSw; unfold L4 at hSw; go_simp; try (with_reducible rfl))
  (try simp only [nm])
  refine tkM 4 ?_ ?_ hH ?_
  rotate_left
  ·(intro w' hSw; unfold L4 at hSw; go_simp; try (with_reducible rfl))
  (try simp only [nm])
  refine tkM 5 ?_ ?_ hH ?_
  rotate_left
  ·(intro w' hSw; unfold L4 at hSw; go_simp; try (with_reducible rfl))
  (try simp only [nm])
  refine tkM 6 ?_ ?_ hH ?_
  rotate_left
  ·(intro w' hSw; unfold L4 at hSw; go_simp; try (with_reducible rfl))
  (try simp only [nm])
  refine tkM 7 ?_ ?_ hH ?_
  rotate_left
  ·(intro w' hSw; unfold L4 at hSw; go_simp; try (with_reducible rfl))
  (try simp only [nm])
  refine tkM 8 ?_ ?_ hH ?_
  rotate_left
  ·(intro w' hSw; unfold L4 at hSw; go_simp; try (with_reducible rfl))
  (try simp only [nm])
  refine tkM 9 ?_ ?_ hH ?_
  rotate_left
  ·(intro w' hSw; unfold L4 at hSw; go_simp; try (with_reducible rfl))
  (try simp only [nm])
  refine tkM 10 ?_ ?_ hH ?_
  rotate_left
  ·(intro w' hSw; unfold L4 at hSw; go_simp; try (with_reducible rfl))
  (try simp only [nm])
  refine wpAnyM_done (by kernel_rfl) ?_ _
  have H6 := hide (H4.out.below ((Below.refl _ _).drew))
  have P6 : Hid (BoxT 150 W4.drew w3.heap.size #[.int .i64 k, .int .i64 f, .int .i64 t]) := P4.out
  clear hH
  generalize hw6 : W4.drew = w6 at *
  clear hw6
  go_upto_region 7 with fail
  have H7 := hide (H6.out.below ((Below.refl _ _).drew))
  obtain ⟨lk, hlk⟩ := HKEY.out
  obtain ⟨w7, hrun7, hm7, ht7⟩ := H7.out.mp.store_new (v := .int .i64 c) Tryz.lawPl Tryz.underlying113 hlk HNO.out
  obtain ⟨_, e4, e3⟩ := H6.out.cells
  obtain ⟨p0, p1, p2⟩ := P6.out.cells3
  have hL7 : L7 s m w3.heap.size w.heap.size k f t c w7 := by
   have hne : ∀ {ty : TypeId} {i : Nat} {cs : Array Value}, BoxT ty w6.drew i cs → BoxT ty w7 i cs := fun {ty i cs} hb => by
    have h1 : i ≠ m := fun e => by
     obtain ⟨es, ck, h1⟩ := H7.out.mp.isMap
     unfold BoxT at hb
     rw [e, h1] at hb
     cases hb
    have h2 := ht7.other h1
    unfold BoxT at *
    rw [h2]; exact hb
   have q1 := hne H7.out.box
   have q2 := hne H7.out.bp
   have q3 := hne (ty := 150) P6.out
   obtain ⟨r0, r1, r2⟩ := q3.cells3
   obtain ⟨_, _, _, r3⟩ := q2.cells4
   exact ⟨by rw [q1.cellAt]; rfl, r0, r1, r2, r3⟩
  have HL7 := hide hL7
  have HM7 := hide (And.intro hm7 ht7)
  clear hL7 hm7 ht7
  refine wp_region_M (S := fun w' => L7 s m w3.heap.size w.heap.size k f t c w') (late := []) (by kernel_rfl) ⟨e4, p0, p1, p2, e3⟩ (fun hH => ?_)
  (try simp only [nr, Nat.reduceAdd])
  refine tkM 0 ?_ ?_ hH ?_
  rotate_left
  ·(intro w' hSw; unfold L7 at hSw; go_simp; try (with_reducible rfl))
  (try simp only [nm])
  refine tkM 1 ?_ ?_ hH ?_
  rotate_left
  ·(intro w' hSw; unfold L7 at hSw; go_simp; try (with_reducible rfl))
  (try simp only [nm])
  refine tkM 2 ?_ ?_ hH ?_
  rotate_left
  ·(intro w' hSw; unfold L7 at hSw; go_simp; try (with_reducible rfl))
  (try simp only [nm])
  refine tkM 3 ?_ ?_ hH ?_
  rotate_left
  ·(intro w' hSw; unfold L7 at hSw; go_simp; try (with_reducible rfl))
  (try simp only [nm])
  refine tkM 4 ?_ ?_ hH ?_
  rotate_left
  ·(intro w' hSw; unfold L7 at hSw; go_simp; try (with_reducible rfl))
  (try simp only [nm])
  refine tkM 5 ?_ ?_ hH ?_
  rotate_left
  ·(intro w' hSw; unfold L7 at hSw; go_simp; try (with_reducible rfl))
  (try simp only [nm])
  refine tkM 6 ?_ ?_ hH ?_
  rotate_left
  ·(intro w' hSw; unfold L7 at hSw; go_simp; try (with_reducible rfl))
  (try simp only [nm])
  refine tkO 7 fun K hK => ?_
  refine step_put_run rfl _ _ _ 113 rfl _ _ _ rfl rfl rfl hrun7 ?_
  refine hK.out _ _ HL7.out (fun hH => ?_)
  clear hK K
  (try simp only [nm])
  refine wpAnyM_done (by kernel_rfl) ?_ _
  go_wp2_with fail
  go_end0
  obtain ⟨e1, e2, e3⟩ := HEQ.out
  subst e1 e2 e3
  have hnew : (⟨k, f, t, c⟩ :: N : List Pn).map pEnt = (plV ⟨k, f, t, c⟩, .int .i64 c) :: N.map pEnt := rfl
  obtain ⟨q1, q2⟩ := H7.out.fin (N' := ⟨k, f, t, c⟩ :: N) (by rw [hnew]; exact HM7.out.1) HM7.out.2 (fun y hy => by
   rcases List.mem_cons.1 hy with rfl | hy
   ·exact HP.out
   ·exact HST.out.ok y hy) (HST.out.inv.plain hkd _)
  refine ⟨rfl, _, _, _, q1, q2, ?_⟩
  rw [HSE.out]
  refine Comes.refl (List.pairwise_cons.2 ⟨fun y hy hmy => ?_, (places_of HST.out.mp).imp (fun hne hmy => hne ?_)⟩)
  ·obtain ⟨m1, ⟨m2, _⟩ | ⟨_, m2, m3⟩⟩ := hmy
   ·cases m2
   ·exact HX.out ⟨y, hy, m1.symm, m2.symm, m3.symm⟩
  ·obtain ⟨m1, ⟨m2, _⟩ | ⟨_, m2, m3⟩⟩ := hmy
   ·cases m2
   ·exact ⟨m1, m2, m3⟩
theorem LI.start {w w2 : World} {s m o : Nat} {size slide ag : Int} {fq fq' : Nat → Prop} {M N : List Pn} {R R' : List SRow} {k f t c : Int} (h : StAt w s m o 3 size slide ag fq M R) (hbox : BoxT 117 w2 s #[.int .i64 3, .int .i64 size, .int .i64 slide, .int .i64 ag, .map (some m), .map (some o)]) (hmp : MapAt Tryz.prog 150 w2 m (N.map pEnt)) (hom : OM w2 o fq' R')
  (hft : FT (FP s m fq) (FP s m fq') (w.alloc (.cells #[.int .i64 k, .int .i64 f, .int .i64 t, .int .i64 c] 79)) w2) (hns : ¬ fq' s) (hnm : ¬ fq' m) :
  LI w w2 s m o 3 size slide ag fq fq' N R' k f t c := by
 have hsl := h.box.lt
 have hml := h.mp.lt
 have hW : (w.alloc (.cells #[.int .i64 k, .int .i64 f, .int .i64 t, .int .i64 c] 79)).heap.size = w.heap.size + 1 := by simp
 have nfp : ¬ FP s m fq w.heap.size := fun e => by
  rcases e with e | e | e
  ·omega
  ·omega
  ·have := h.om.flt _ e; omega
 have n1 : ¬ fq' w.heap.size := fun e => by
  rcases hft.sub _ (.inr (.inr e)) with e | e
  ·exact nfp e
  ·omega
 have hb2 : BoxT 79 w2 w.heap.size #[.int .i64 k, .int .i64 f, .int .i64 t, .int .i64 c] := by
  have h1 : BoxT 79 (w.alloc (.cells #[.int .i64 k, .int .i64 f, .int .i64 t, .int .i64 c] 79)) w.heap.size #[.int .i64 k, .int .i64 f, .int .i64 t, .int .i64 c] := BoxT.new _ _ _
  have h2 := hft.block w.heap.size (by omega) nfp
  unfold BoxT at *
  rw [h2]; exact h1
 have hft0 : FT (FP s m fq) (FP s m fq') w w2 := (FT.of_below (below_box w _)).trans hft
 exact ⟨hbox, hmp, hom, hft0, hb2, hns, hnm, n1, hsl, hml⟩
theorem lay_sess {w : World} {s m o : Nat} {size slide ag : Int} {fq : Nat → Prop} {M : List Pn} {R : List SRow} (h : StAt w s m o 3 size slide ag fq M R) {k f t c : Int} (hp : PnOk ⟨k, f, t, c⟩) (hf : f < t) (hM : M.length ≤ 100000) :
  Calls Tryz.prog 99 #[.pointer (some ⟨s, 0, none⟩), .agg #[.int .i64 k, .int .i64 f, .int .i64 t, .int .i64 c]] w (LPost w s m o 3 size slide ag fq M ⟨k, f, t, c⟩) := by
 have hb1 := below_box w (.cells #[.int .i64 k, .int .i64 f, .int .i64 t, .int .i64 c] 79)
 have h1 := h.below (fun i hi => hb1.block i (h.flt i hi)) hb1.size
 have HGA := hide (gathered_any (c := c) h1 hp.k hf hM)
 have HST := hide h
 have HS1 := hide h1
 have HP := hide hp
 have hk1 : (w.alloc (.cells #[.int .i64 k, .int .i64 f, .int .i64 t, .int .i64 c] 79)).cell? ⟨s, 0, none⟩ = some (.int .i64 3) := h1.cells.1
 clear h h1 hb1 hp
 have d3 : ((3 : Int) == 3) = true := rfl
 go_enter Tryz.func99, Tryz.ntmps99
 go_upto_region 3 with (first | (go_at_call 113; refine HGA.out.mono ?_; rintro e w2 ⟨a, b, l, v, v', R0, G, N, hr, hA, hG, rfl, g1, g2, g3, g4, g5, g6⟩; have HRW := hide hr; have HAD := hide hA; have HGI := hide hG; have HL0 := hide (LI.start HST.out g1 g2 g3 g4 g5 g6); clear hr hA hG g1 g2 g3 g4 g5 g6; obtain ⟨y0, y1, y2, y3⟩ := HL0.out.bp.cells4; have yf := fun j => HL0.out.bp.free j) | fail)
 obtain ⟨hcom, hNpl, hwh, hinv⟩ := gath_pure (c := c) (v' := v') HST.out HRW.out hf HAD.out HGI.out
 have hspin : ∀ sp ∈ l, In64 sp.f ∧ In64 sp.t := fun sp hsp => by
  have hrow : ∃ x ∈ M, x.k = k ∧ x.f = sp.f ∧ x.t = sp.t := by
   rcases HRW.out with ⟨_, _, _, rfl⟩ | hp
   ·cases hsp
   ·exact (HST.out.inv.dn _ (hp.mem_iff.2 (List.mem_cons_self ..)) sp hsp).2
  obtain ⟨x, h1, _, h2, h3⟩ := hrow
  have h4 := HST.out.ok x h1
  exact ⟨h2 ▸ h4.f, h3 ▸ h4.t⟩
 have hwin := whl_in (a := a) (b := b) HP.out.f HP.out.t hspin
 have hcin : In64 (G.foldl (fun a x => jn ag x.a a) c) := foldJ_in G c HP.out.a (fun x hx => (HST.out.ok x (HGI.out.all.mem_iff.2 (List.mem_append_left _ hx))).a)
 have HNok : Hid (∀ x ∈ N, PnOk x) := fun x hx => HST.out.ok x (HGI.out.all.mem_iff.2 (List.mem_append_right _ hx))
 rw [hwh] at hcom hinv
 generalize hWH : whl ⟨f, t⟩ l a b = WH at *
 clear hWH
 obtain ⟨wf, wt⟩ := WH
 simp only at hcom hinv hNpl hwin
 have hgr : w2.grownBy ((((w2.setCell ⟨w.heap.size, 0, none⟩ (.int .i64 k)).setCell ⟨w.heap.size, 1, none⟩ (.int .i64 wf)).setCell ⟨w.heap.size, 2, none⟩ (.int .i64 wt)).setCell ⟨w.heap.size, 3, none⟩ (.int .i64 (G.foldl (fun a x => jn ag x.a a) c))) (some w.heap.size) := grownBy_trans (grownBy_trans (grownBy_trans (grownBy_set _ _ _ _) (grownBy_set _ _ _ _)) (grownBy_set _ _ _ _)) (grownBy_set _ _ _ _)
 have HL := hide (HL0.out.set hgr (k' := k) (f' := wf) (t' := wt) (c' := G.foldl (fun a x => jn ag x.a a) c) (by have := (((HL0.out.bp.set 0 (.int .i64 k)).set 1 (.int .i64 wf)).set 2 (.int .i64 wt)).set 3 (.int .i64 (G.foldl (fun a x => jn ag x.a a) c)); simpa using this))
 have HKEY := hide (keyPl HP.out.k hwin.1 hwin.2)
 have HNO : Hid (∀ p ∈ N.map pEnt, p.1 ≠ (.agg #[.int .i64 k, .int .i64 wf, .int .i64 wt] : Value)) := fun p hp e => by
  obtain ⟨y, hy, rfl⟩ := List.mem_map.1 hp
  simp [pEnt, plV] at e
  exact hNpl y hy e
 have HPK : Hid (PnOk ⟨k, wf, wt, G.foldl (fun a x => jn ag x.a a) c⟩) := ⟨HP.out.k, hwin.1, hwin.2, hcin⟩
 have HCO := hide hcom
 have HIV := hide hinv
 clear hcom hinv hNpl hwin hcin hspin hwh HL0 y0 y1 y2 y3 yf
 generalize hWX : ((((w2.setCell ⟨w.heap.size, 0, none⟩ (.int .i64 k)).setCell ⟨w.heap.size, 1, none⟩ (.int .i64 wf)).setCell ⟨w.heap.size, 2, none⟩ (.int .i64 wt)).setCell ⟨w.heap.size, 3, none⟩ (.int .i64 (G.foldl (fun a x => jn ag x.a a) c))) = WX at *
 clear hWX hgr
 generalize hCC : G.foldl (fun a x => jn ag x.a a) c = CC at *
 clear hCC
 generalize hRR : (⟨k, v', l.take a ++ (⟨wf, wt⟩ : Sp) :: l.drop b⟩ :: R0 : List SRow) = R' at *
 clear hRR
 generalize hFQ : (fun i => fq i ∨ v'.ownBlock = some i) = fq' at *
 clear hFQ
 obtain ⟨b0, b1, b2, b3⟩ := HL.out.bp.cells4
 have HPO := hide (fun w' => placeOf_any w' ⟨k, wf, wt, CC⟩)
 unfold Pn.val plV at HPO
 simp only at HPO
 go_upto_region 4 with (first | (go_at_call 104; refine (HPO.out _).mono ?_; rintro e w3 ⟨rfl, b3'⟩; have H3 := hide (HL.out.below b3'); clear b3') | fail)
 obtain ⟨W4, hW4⟩ : ∃ W4, W4 = w3.alloc (.cells #[.int .i64 k, .int .i64 wf, .int .i64 wt] 150) := ⟨_, rfl⟩
 rw [← hW4]
 have H4 : Hid (LI w W4 s m o 3 size slide ag fq fq' N R' k wf wt CC) := (show LI _ _ _ _ _ _ _ _ _ _ _ _ _ _ _ _ _ by rw [hW4]; exact H3.out.below (below_box w3 _))
 have P4 : Hid (BoxT 150 W4 w3.heap.size #[.int .i64 k, .int .i64 wf, .int .i64 wt]) := (show BoxT _ _ _ _ by rw [hW4]; exact BoxT.new _ _ _)
 clear hW4 b0 b1 b2 b3 HPO
 have HK4 : Hid (∀ w', Below W4.heap.size W4 w' → L4 s m w3.heap.size k wf wt 0 false w') := fun w' hb => by
  have h1 := H4.out.below hb
  obtain ⟨p0, p1, p2⟩ := (BoxT.below (t := 150) P4.out hb).cells3
  obtain ⟨lk, hlk⟩ := HKEY.out
  exact ⟨h1.cells.2.1, p0, p1, p2, h1.mp.look_miss Tryz.lawPl Tryz.underlying113 (Tryz.zeroI w') hlk HNO.out true⟩
 refine wp_region_M (S := fun w' => L4 s m w3.heap.size k wf wt 0 false w') (late := []) (by kernel_rfl) (HK4.out _ (Below.refl _ _).drew) (fun hH => ?_)
 (try simp only [nr, Nat.reduceAdd])
 refine tkM 0 ?_ ?_ hH ?_
 rotate_left
 ·(intro w' hSw; unfold L4 at hSw; go_simp; try (with_reducible rfl))
 (try simp only [nm])
 refine tkM 1 ?_ ?_ hH ?_
 rotate_left
 ·(intro w' hSw; unfold L4 at hSw; go_simp; try (with_reducible rfl))
 (try simp only [nm])
 refine tkM 2 ?_ ?_ hH ?_
 rotate_left
 ·(intro w' hSw; unfold L4 at hSw; go_simp; try (with_reducible rfl))
 (try simp only [nm])
 refine tkM 3 ?_ ?_ hH ?_
 rotate_left
 ·(intro w' hSw; unfold L4 at hSw; go_simp; try (with_reducible rfl))
 (try simp only [nm])
 refine tkM 4 ?_ ?_ hH ?_
 rotate_left
 ·(intro w' hSw; unfold L4 at hSw; go_simp; try (with_reducible rfl))
 (try simp only [nm])
 refine tkM 5 ?_ ?_ hH ?_
 rotate_left
 ·(intro w' hSw; unfold L4 at hSw; go_simp; try (with_reducible rfl))
 (try simp only [nm])
 refine tkM 6 ?_ ?_ hH ?_
 rotate_left
 ·(intro w' hSw; unfold L4 at hSw; go_simp; try (with_reducible rfl))
 (try simp only [nm])
 refine tkM 7 ?_ ?_ hH ?_
 rotate_left
 ·(intro w' hSw; unfold L4 at hSw; go_simp; try (with_reducible rfl))
 (try simp only [nm])
 refine tkM 8 ?_ ?_ hH ?_
 rotate_left
 ·(intro w' hSw; unfold L4 at hSw; go_simp; try (with_reducible rfl))
 (try simp only [nm])
 refine tkM 9 ?_ ?_ hH ?_
 rotate_left
 ·(intro w' hSw; unfold L4 at hSw; go_simp; try (with_reducible rfl))
 (try simp only [nm])
 refine tkM 10 ?_ ?_ hH ?_
 rotate_left
 ·(intro w' hSw; unfold L4 at hSw; go_simp; try (with_reducible rfl))
 (try simp only [nm])
 refine wpAnyM_done (by kernel_rfl) ?_ _
 have H6 := hide (H4.out.below ((Below.refl _ _).drew))
 have P6 : Hid (BoxT 150 W4.drew w3.heap.size #[.int .i64 k, .int .i64 wf, .int .i64 wt]) := P4.out
 clear hH
 generalize hw6 : W4.drew = w6 at *
 clear hw6
 go_upto_region 7 with fail
 have H7 := hide (H6.out.below ((Below.refl _ _).drew))
 obtain ⟨lk, hlk⟩ := HKEY.out
 obtain ⟨w7, hrun7, hm7, ht7⟩ := H7.out.mp.store_new (v := .int .i64 CC) Tryz.lawPl Tryz.underlying113 hlk HNO.out
 obtain ⟨_, e4, e3⟩ := H6.out.cells
 obtain ⟨p0, p1, p2⟩ := P6.out.cells3
 have hL7 : L7 s m w3.heap.size w.heap.size k wf wt CC w7 := by
  have hne : ∀ {ty : TypeId} {i : Nat} {cs : Array Value}, BoxT ty w6.drew i cs → BoxT ty w7 i cs := fun {ty i cs} hb => by
   have h1 : i ≠ m := fun e => by
    obtain ⟨es, ck, h1⟩ := H7.out.mp.isMap
    unfold BoxT at hb
    rw [e, h1] at hb
    cases hb
   have h2 := ht7.other h1
   unfold BoxT at *
   rw [h2]; exact hb
  have q1 := hne H7.out.box
  have q2 := hne H7.out.bp
  have q3 := hne (ty := 150) P6.out
  obtain ⟨r0, r1, r2⟩ := q3.cells3
  obtain ⟨_, _, _, r3⟩ := q2.cells4
  exact ⟨by rw [q1.cellAt]; rfl, r0, r1, r2, r3⟩
 have HL7 := hide hL7
 have HM7 := hide (And.intro hm7 ht7)
 clear hL7 hm7 ht7
 refine wp_region_M (S := fun w' => L7 s m w3.heap.size w.heap.size k wf wt CC w') (late := []) (by kernel_rfl) ⟨e4, p0, p1, p2, e3⟩ (fun hH => ?_)
 (try simp only [nr, Nat.reduceAdd])
 refine tkM 0 ?_ ?_ hH ?_
 rotate_left
 ·(intro w' hSw; unfold L7 at hSw; go_simp; try (with_reducible rfl))
 (try simp only [nm])
 refine tkM 1 ?_ ?_ hH ?_
 rotate_left
 ·(intro w' hSw; unfold L7 at hSw; go_simp; try (with_reducible rfl))
 (try simp only [nm])
 refine tkM 2 ?_ ?_ hH ?_
 rotate_left
 ·(intro w' hSw; unfold L7 at hSw; go_simp; try (with_reducible rfl))
 (try simp only [nm])
 refine tkM 3 ?_ ?_ hH ?_
 rotate_left
 ·(intro w' hSw; unfold L7 at hSw; go_simp; try (with_reducible rfl))
 (try simp only [nm])
 refine tkM 4 ?_ ?_ hH ?_
 rotate_left
 ·(intro w' hSw; unfold L7 at hSw; go_simp; try (with_reducible rfl))
 (try simp only [nm])
 refine tkM 5 ?_ ?_ hH ?_
 rotate_left
 ·(intro w' hSw; unfold L7 at hSw; go_simp; try (with_reducible rfl))
 (try simp only [nm])
 refine tkM 6 ?_ ?_ hH ?_
 rotate_left
 ·(intro w' hSw; unfold L7 at hSw; go_simp; try (with_reducible rfl))
 (try simp only [nm])
 refine tkO 7 fun K hK => ?_
 refine step_put_run rfl _ _ _ 113 rfl _ _ _ rfl rfl rfl hrun7 ?_
 refine hK.out _ _ HL7.out (fun hH => ?_)
 clear hK K
 (try simp only [nm])
 refine wpAnyM_done (by kernel_rfl) ?_ _
 go_wp2_with fail
 go_end0
 have hnew : (⟨k, wf, wt, CC⟩ :: N : List Pn).map pEnt = (plV ⟨k, wf, wt, CC⟩, .int .i64 CC) :: N.map pEnt := rfl
 obtain ⟨q1, q2⟩ := H7.out.fin (N' := ⟨k, wf, wt, CC⟩ :: N) (by rw [hnew]; exact HM7.out.1) HM7.out.2 (fun y hy => by
  rcases List.mem_cons.1 hy with rfl | hy
  ·exact HPK.out
  ·exact HNok.out y hy) HIV.out
 exact ⟨rfl, _, _, _, q1, q2, HCO.out⟩
theorem lay_any {w : World} {s m o : Nat} {kd size slide ag : Int} {fq : Nat → Prop} {M : List Pn} {R : List SRow} (h : StAt w s m o kd size slide ag fq M R) {k f t c : Int} (hp : PnOk ⟨k, f, t, c⟩) (hf : kd = 3 → f < t) (hM : M.length ≤ 100000) :
  Calls Tryz.prog 99 #[.pointer (some ⟨s, 0, none⟩), .agg #[.int .i64 k, .int .i64 f, .int .i64 t, .int .i64 c]] w (LPost w s m o kd size slide ag fq M ⟨k, f, t, c⟩) := by
 by_cases hk : kd = 3
 ·subst hk
  exact lay_sess h hp (hf rfl) hM
 ·exact lay_plain h hk hp
end Go.Proofs.YtpcbhcdpegbfjaaGreat
/-
 spans, Put, New, Load.
-/
namespace Go.Proofs.YtpcbhcdpegbfjaaGreat
set_option maxHeartbeats 16000000
set_option maxRecDepth 100000
open Go.RowKit
def sps (kd size slide t : Int) : List Sp := if kd = 0 then [⟨-9223372036854775808, 2199023255553⟩] else pSpans kd size slide t
def frS (kd size slide ag : Int) (r : Rc) : List Pn := (sps kd size slide r.t).map fun sp => ⟨r.k, sp.f, sp.t, ad ag (zr ag) r.v⟩
theorem sps_len (kd size slide t : Int) : (sps kd size slide t).length ≤ 64 := by
 unfold sps
 split
 ·simp
 ·exact pSpans_len _ _ _ _
theorem sspans_any {w : World} {s m o : Nat} {kd size slide ag : Int} {fq : Nat → Prop} {M : List Pn} {R : List SRow} (h : StAt w s m o kd size slide ag fq M R) (hs : In64 size) (hl : In64 slide) (t : Int) :
  Calls Tryz.prog 110 #[.pointer (some ⟨s, 0, none⟩), .int .i64 t] w fun e w' => ∃ u, e = .returned u ∧ OwnL 72 2 Sp.cs w.heap.size w' u (sps kd size slide t) ∧ Below w.heap.size w w' := by
 obtain ⟨c0, c1, c2, _⟩ := h.cells
 have HR := hide (isReduce_any c0)
 have HSP := hide (Spans_any w kd t hs hl)
 clear h
 unfold sps
 by_cases hk : kd = 0
 ·rw [if_pos hk]
  subst hk
  have ho : OwnL 72 2 Sp.cs w.heap.size (w.alloc (.cells (Sp.cs ⟨-9223372036854775808, 2199023255553⟩).toArray 72)) (.slice (some ⟨w.heap.size, 0, none⟩) 1 1) [⟨-9223372036854775808, 2199023255553⟩] := own_one _ rfl rfl (Nat.le_refl _)
  have HO := hide ho
  clear ho
  go_enter Tryz.func110, Tryz.ntmps110
  go_wp2_with (first | (go_at_call 100; refine HR.out.mono ?_; rintro e w1 ⟨rfl, rfl⟩) | fail)
  go_ret
  exact ⟨_, rfl, HO.out, below_box w1 _⟩
 ·rw [if_neg hk]
  have hk' : (kd == 0) = false := by simpa using hk
  rw [hk'] at HR
  go_enter Tryz.func110, Tryz.ntmps110
  go_wp2_with (first | (go_at_call 100; refine HR.out.mono ?_; rintro e w1 ⟨rfl, rfl⟩) | (go_at_call 119; refine HSP.out.mono ?_; rintro e w2 ⟨u, rfl, o2, b2⟩) | fail)
  go_ret
  exact ⟨u, rfl, o2, b2⟩
def P1 (s K : Nat) (ag v : Int) (w' : World) : Prop := w'.cell? ⟨s, 3, none⟩ = some (.int .i64 ag) ∧ w'.cell? ⟨K, 2, none⟩ = some (.int .i64 v)
structure PI (w wr : World) (s m o : Nat) (kd size slide ag : Int) (fq fq' : Nat → Prop) (M' : List Pn) (R' : List SRow) (r : Rc) (u : Value) (ss : List Sp) : Prop where
 st : StAt wr s m o kd size slide ag fq' M' R'
 ft : FT (FP s m fq) (FP s m fq') w wr
 bx : BoxT 38 wr w.heap.size #[.int .i64 r.k, .int .i64 r.t, .int .i64 r.v]
 row : OwnL 72 2 Sp.cs (w.heap.size + 1) wr u ss
 n1 : ¬ FP s m fq' w.heap.size
 n2 : ∀ g, u.ownBlock = some g → ¬ FP s m fq' g
theorem PI.step {w wr w' : World} {s m o : Nat} {kd size slide ag : Int} {fq fq' fq'' : Nat → Prop} {M' M'' : List Pn} {R' R'' : List SRow} {r : Rc} {u : Value} {ss : List Sp} {W : World} (h : PI w wr s m o kd size slide ag fq fq' M' R' r u ss) (hb : Below wr.heap.size wr W) (hst : StAt w' s m o kd size slide ag fq'' M'' R'') (hft : FT (FP s m fq') (FP s m fq'') W w') : PI w w' s m o kd size slide ag fq fq'' M'' R'' r u ss := by
 have hl := h.bx.lt
 have sz := hb.size
 have keep : ∀ g, g < wr.heap.size → ¬ FP s m fq' g → w'.heap[g]? = wr.heap[g]? := fun g hg hn => (hft.block g (by omega) hn).trans (hb.block g hg)
 have nn : ∀ g, g < wr.heap.size → ¬ FP s m fq' g → ¬ FP s m fq'' g := fun g hg hn e => by
  rcases hft.sub g e with e | e
  ·exact hn e
  ·omega
 refine ⟨hst, (h.ft.trans (FT.of_below hb)).trans hft, ?_, h.row.back (fun g e => keep g (h.row.lt g e) (h.n2 g e)), nn _ hl h.n1, fun g e => nn g (h.row.lt g e) (h.n2 g e)⟩
 have h1 := h.bx
 have h2 := keep _ hl h.n1
 unfold BoxT at *
 rw [h2]; exact h1
def PPost (w : World) (s m o : Nat) (kd size slide ag : Int) (fq : Nat → Prop) (M : List Pn) (r : Rc) (e : Ending) (w' : World) : Prop := e = .returned (.tuple #[]) ∧ ∃ fq' M' R', StAt w' s m o kd size slide ag fq' M' R' ∧ FT (FP s m fq) (FP s m fq') w w' ∧ Comes (sess kd) (jn ag) (frS kd size slide ag r ++ M) M'
theorem take_map_snoc {l : List Sp} {i : Nat} {x : Sp} (h : l[i]? = some x) (g : Sp → Pn) : ((l.take (i + 1)).map g) = (l.take i).map g ++ [g x] := by
 have hl := lt_of_get h
 have e : l[i] = x := by rw [List.getElem?_eq_getElem hl] at h; exact Option.some.inj h
 rw [List.take_succ_eq_append_getElem hl, e, List.map_append]; rfl
theorem Put_st {w : World} {s m o : Nat} {kd size slide ag : Int} {fq : Nat → Prop} {M : List Pn} {R : List SRow} (h : StAt w s m o kd size slide ag fq M R) (hs : In64 size) (hl : In64 slide) (r : Rc) (hrk : In64 r.k) (hrv : In64 r.v) (hsp : ∀ sp ∈ sps kd size slide r.t, In64 sp.f ∧ In64 sp.t ∧ (kd = 3 → sp.f < sp.t)) (hM : M.length ≤ 90000) (hap : Apart (sess kd) M) :
  Calls Tryz.prog 97 #[.pointer (some ⟨s, 0, none⟩), .agg #[.int .i64 r.k, .int .i64 r.t, .int .i64 r.v]] w (PPost w s m o kd size slide ag fq M r) := by
 obtain ⟨rk, rt, rv⟩ := r
 simp only at hrk hrv hsp
 have hb1 := below_box w (.cells #[.int .i64 rk, .int .i64 rt, .int .i64 rv] 38)
 obtain ⟨W1, hW1⟩ : ∃ W1, W1 = w.alloc (.cells #[.int .i64 rk, .int .i64 rt, .int .i64 rv] 38) := ⟨_, rfl⟩
 rw [← hW1] at hb1
 have hs1 : W1.heap.size = w.heap.size + 1 := by rw [hW1]; simp
 have hr1 : BoxT 38 W1 w.heap.size #[.int .i64 rk, .int .i64 rt, .int .i64 rv] := by rw [hW1]; exact BoxT.new _ _ _
 have h1 := h.below (fun i hi => hb1.block i (h.flt i hi)) hb1.size
 have HK : Hid (∀ w', Below W1.heap.size W1 w' → P1 s w.heap.size ag rv w') := fun w' hb => ⟨by rw [(BoxT.below (t := 117) h1.box hb).cellAt]; rfl, by rw [(BoxT.below (t := 38) hr1 hb).cellAt]; rfl⟩
 have HZ : Hid (∀ w', Below W1.heap.size W1 w' → Calls Tryz.prog 109 #[.int .i64 ag] w' fun e w'' => e = .returned (.int .i64 (zr ag)) ∧ Below W1.heap.size W1 w'') := fun w' hb => (Zero_any w' ag).mono (by rintro e w'' ⟨rfl, h2⟩; exact ⟨rfl, hb.trans (h2.mono hb.size)⟩)
 have HAD : Hid (∀ w', Below W1.heap.size W1 w' → Calls Tryz.prog 108 #[.int .i64 ag, .int .i64 (zr ag), .int .i64 rv] w' fun e w'' => e = .returned (.int .i64 (ad ag (zr ag) rv)) ∧ Below W1.heap.size W1 w'') := fun w' hb => (Add_any w' ag (zr ag) rv).mono (by rintro e w'' ⟨rfl, h2⟩; exact ⟨rfl, hb.trans (h2.mono hb.size)⟩)
 have HSPA : Hid (∀ w', Below W1.heap.size W1 w' → Calls Tryz.prog 110 #[.pointer (some ⟨s, 0, none⟩), .int .i64 rt] w' fun e w'' => ∃ u, e = .returned u ∧ OwnL 72 2 Sp.cs w'.heap.size w'' u (sps kd size slide rt) ∧ Below w'.heap.size w' w'') := fun w' hb => sspans_any (h1.below (fun i hi => hb.block i (h1.flt i hi)) hb.size) hs hl rt
 have HH := hide h
 have H1 := hide h1
 have HR1 := hide hr1
 have HB1 := hide hb1
 have HSZ := hide hs1
 have HIN : Hid (In64 (ad ag (zr ag) rv)) := ad_in (zr_in ag) hrv
 have HSI := hide hsp
 have HSL := hide (sps_len kd size slide rt)
 have HFR : Hid (frS kd size slide ag ⟨rk, rt, rv⟩ = (sps kd size slide rt).map fun sp => ⟨rk, sp.f, sp.t, ad ag (zr ag) rv⟩) := rfl
 have HAP := hide hap
 generalize ad ag (zr ag) rv = V at *
 generalize zr ag = Z at *
 clear h h1 hr1 hb1 hs1 hsp hap
 go_enter Tryz.func97, Tryz.ntmps97
 go_upto_region 1 with fail
 rw [← hW1]
 clear hW1
 refine wp_region_M (S := fun w' => P1 s w.heap.size ag rv w') (late := []) (by kernel_rfl) (HK.out _ (Below.refl _ _).drew) (fun hH => ?_)
 (try simp only [nr, Nat.reduceAdd])
 refine tkM 0 ?_ ?_ hH ?_
 rotate_left
 ·(intro w' hSw; unfold P1 at hSw; go_simp; try (with_reducible rfl))
 (try simp only [nm])
 refine tkM 1 ?_ ?_ hH ?_
 rotate_left
 ·(intro w' hSw; unfold P1 at hSw; go_simp; try (with_reducible rfl))
 (try simp only [nm])
 refine tkM 2 ?_ ?_ hH ?_
 rotate_left
 ·(intro w' hSw; unfold P1 at hSw; go_simp; try (with_reducible rfl))
 (try simp only [nm])
 refine tkM 3 ?_ ?_ hH ?_
 rotate_left
 ·(intro w' hSw; unfold P1 at hSw; go_simp; try (with_reducible rfl))
 (try simp only [nm])
 refine tkM 4 ?_ ?_ hH ?_
 rotate_left
 ·(intro w' hSw; unfold P1 at hSw; go_simp; try (with_reducible rfl))
 (try simp only [nm])
 refine tkM 5 ?_ ?_ hH ?_
 rotate_left
 ·(intro w' hSw; unfold P1 at hSw; go_simp; try (with_reducible rfl))
 (try simp only [nm])
 refine tkM 6 ?_ ?_ hH ?_
 rotate_left
 ·(intro w' hSw; unfold P1 at hSw; go_simp; try (with_reducible rfl))
 (try simp only [nm])
 refine tkM 7 ?_ ?_ hH ?_
 rotate_left
 ·(intro w' hSw; unfold P1 at hSw; go_simp; try (with_reducible rfl))
 (try simp only [nm])
 refine tkM 9 ?_ ?_ hH ?_
 rotate_left
 ·(intro w' hSw; unfold P1 at hSw; go_simp; try (with_reducible rfl))
 (try simp only [nm])
 refine tkM 10 ?_ ?_ hH ?_
 rotate_left
 ·(intro w' hSw; unfold P1 at hSw; go_simp; try (with_reducible rfl))
 (try simp only [nm])
 refine tkO 8 fun K hK => ?_
 go_simp
 go_at_call 109
 refine (HZ.out _ (Below.refl _ _).drew).mono ?_
 rintro e w2 ⟨rfl, b2⟩
 have B2 := hide b2
 refine hK.out _ _ (HK.out _ b2) (fun hH => ?_)
 clear hK K b2
 (try simp only [nm])
 refine tkO 11 fun K hK => ?_
 go_simp
 go_at_call 108
 refine (HAD.out _ B2.out).mono ?_
 rintro e w3 ⟨rfl, b3⟩
 have B3 := hide b3
 refine hK.out _ _ (HK.out _ b3) (fun hH => ?_)
 clear hK K b3
 (try simp only [nm])
 refine tkM 12 ?_ ?_ hH ?_
 rotate_left
 ·(intro w' hSw; unfold P1 at hSw; go_simp; try (with_reducible rfl))
 (try simp only [nm])
 refine wpAnyM_done (by kernel_rfl) ?_ _
 clear hH
 have HS3 := hide (HSPA.out _ B3.out)
 obtain ⟨r0, r1, r2⟩ := (BoxT.below (t := 38) HR1.out B3.out).cells3
 go_wp2_with (first | (go_at_call 110; refine HS3.out.mono ?_; rintro e w4 ⟨u, rfl, o4, b4⟩; obtain ⟨ua, uc, rfl⟩ := o4.shape; have O4 := hide o4; have B4 := hide (B3.out.trans (b4.mono B3.out.size)); clear o4 b4) | fail)
 have HI : Hid (PI w w4 s m o kd size slide ag fq fq M R ⟨rk, rt, rv⟩ (.slice ua (sps kd size slide rt).length uc) (sps kd size slide rt)) := by
  have hbw := HB1.out.trans (B4.out.mono HB1.out.size)
  have hsz3 := B3.out.size
  have hfl := HH.out.flt
  refine ⟨HH.out.below (fun i hi => hbw.block i (hfl i hi)) hbw.size, FT.of_below hbw, BoxT.below (t := 38) HR1.out B4.out, O4.out.mono (by have := HSZ.out; omega), fun e => by have := hfl _ e; omega, fun g e e2 => ?_⟩
  have h1 := O4.out.at g e
  have h2 := hfl g e2
  have := HSZ.out
  omega
 generalize hSS : sps kd size slide rt = SS at *
 clear hSS r0 r1 r2 HS3
 go_loopg [24] (SS.length + 1) (fun gh iv wr => ∃ (i : Nat) (fq' : Nat → Prop) (M' : List Pn) (R' : List SRow), iv = .int .i64 (i : Int) ∧ i ≤ SS.length ∧ SS.length + 1 ≤ gh + i ∧ Hid (PI w wr s m o kd size slide ag fq fq' M' R' ⟨rk, rt, rv⟩ (.slice ua SS.length uc) SS) ∧ Hid (Comes (sess kd) (jn ag) ((SS.take i).map (fun sp => ⟨rk, sp.f, sp.t, V⟩) ++ M) M'))
 case atStart => exact ⟨0, fq, M, R, rfl, by omega, by omega, HI, (show Comes _ _ _ _ from Comes.refl HAP.out)⟩
 case round =>
  clear HI
  obtain ⟨i, fq', M', R', rfl, hi, hg, HP, HC⟩ := hrel
  obtain ⟨go, rfl⟩ : ∃ go, gk = go + 1 := ⟨gk - 1, by omega⟩
  have hs64 := HSL.out
  by_cases hlt : i < SS.length
  ·obtain ⟨sp, hx⟩ := get_of_lt hlt
   have bt : (i : Int) < (SS.length : Int) := by omega
   obtain ⟨nb, no, rfl, nlt, e0, e1⟩ := (HP.out.row.seg Sp.cs_len (by have := HSL.out; omega)).span hx
   have hin := HSI.out sp (List.mem_of_getElem? hx)
   have HTS := hide (take_map_snoc hx (fun sp => (⟨rk, sp.f, sp.t, V⟩ : Pn)))
   obtain ⟨xf, xt⟩ := sp
   simp only at e0 e1 hin
   obtain ⟨r0, r1, r2⟩ := HP.out.bx.cells3
   have hbx := below_box wr (.cells #[.int .i64 xf, .int .i64 xt] 72)
   have hst := HP.out.st.below (fun i hi => hbx.block i (HP.out.st.flt i hi)) hbx.size
   have hml : M'.length ≤ 100000 := by
    have h1 := HC.out.1.len
    rw [List.length_append, List.length_map, List.length_take] at h1
    have := HSL.out
    omega
   have HLA := hide (lay_any hst (k := rk) (f := xf) (t := xt) (c := V) ⟨hrk, hin.1, hin.2.1, HIN.out⟩ hin.2.2 hml)
   have HBX := hide hbx
   have r0' := cell_alloc r0 (.cells #[.int .i64 xf, .int .i64 xt] 72)
   clear hbx hst hml hx hin
   go_wp2_with (first | (go_at_call 99; refine HLA.out.mono ?_; rintro e w5 ⟨rfl, fq'', M'', R'', st5, ft5, c5⟩; have H5 := hide (HP.out.step HBX.out st5 ft5); have C5 := hide c5; clear st5 ft5 c5) | fail)
   go_roundg go
   case rel =>
    refine ⟨i + 1, fq'', M'', R'', by go_num, by omega, by omega, H5, (show Comes _ _ _ _ from ?_)⟩
    rw [HTS.out, List.append_assoc]
    have h6 := Comes.step (q := [⟨rk, xf, xt, V⟩]) HC.out C5.out
    exact h6.perm (by rw [List.cons_append, List.nil_append, List.cons_append, List.nil_append]; exact List.perm_middle.symm) (.refl _)
   case measure => omega
  ·obtain rfl : i = SS.length := by omega
   have bt : ¬ ((SS.length : Nat) : Int) < (SS.length : Int) := by omega
   go_wp2_with fail
   go_end0
   refine ⟨rfl, fq', M', R', HP.out.st, HP.out.ft, ?_⟩
   have h6 := HC.out
   rw [List.take_of_length_le (Nat.le_refl _)] at h6
   rw [HFR.out]; exact h6
def APost (w : World) (s : Nat) (kd size slide ag : Int) (fp : Nat → Prop) (L : List Pn) (w' : World) : Prop := ∃ fp' M', SA w' s kd size slide ag fp' M' ∧ FT fp fp' w w' ∧ Comes (sess kd) (jn ag) L M'
theorem FT.congr {fp fp' fq fq' : Nat → Prop} {w w' : World} (h : FT fq fq' w w') (h1 : ∀ i, fp i ↔ fq i) (h2 : ∀ i, fp' i ↔ fq' i) : FT fp fp' w w' :=
 ⟨h.os, h.tape, h.output, h.size, fun i hi hn => h.block i hi (fun e => hn ((h1 i).2 e)), fun i hi => by
  rcases h.sub i ((h2 i).1 hi) with e | e
  ·exact .inl ((h1 i).2 e)
  ·exact .inr e⟩
theorem SA.places {w : World} {s : Nat} {kd size slide ag : Int} {fp : Nat → Prop} {M : List Pn} (h : SA w s kd size slide ag fp M) : Places M := by
 obtain ⟨m, o, fq, R, h, _⟩ := h
 exact places_of h.mp
theorem Put_any {w : World} {s : Nat} {kd size slide ag : Int} {fp : Nat → Prop} {M : List Pn} (h : SA w s kd size slide ag fp M) (hs : In64 size) (hl : In64 slide) (r : Rc) (hrk : In64 r.k) (hrv : In64 r.v) (hsp : ∀ sp ∈ sps kd size slide r.t, In64 sp.f ∧ In64 sp.t ∧ (kd = 3 → sp.f < sp.t)) (hM : M.length ≤ 90000) (hap : Apart (sess kd) M) :
  Calls Tryz.prog 97 #[.pointer (some ⟨s, 0, none⟩), .agg #[.int .i64 r.k, .int .i64 r.t, .int .i64 r.v]] w fun e w' => e = .returned (.tuple #[]) ∧ APost w s kd size slide ag fp (frS kd size slide ag r ++ M) w' := by
 obtain ⟨m, o, fq, R, h, hf⟩ := h
 refine (Put_st h hs hl r hrk hrv hsp hM hap).mono ?_
 rintro e w' ⟨rfl, fq', M', R', h1, h2, h3⟩
 exact ⟨rfl, FP s m fq', M', ⟨m, o, fq', R', h1, fun _ => Iff.rfl⟩, h2.congr hf (fun _ => Iff.rfl), h3⟩
end Go.Proofs.YtpcbhcdpegbfjaaGreat
/-
 New, Load.
-/
namespace Go.Proofs.YtpcbhcdpegbfjaaGreat
set_option maxHeartbeats 16000000
set_option maxRecDepth 100000
open Go.RowKit
theorem Row.seg {α : Type} {t sz : Nat} {cs : α → List Value} {base : Nat} {w : World} {v : Value} {xs : List α} (h : Row t sz cs base w v xs) (hcs : ∀ x, (cs x).length = sz) (hl : xs.length ≤ 140737488355328) : LSeg sz cs w.heap.size w v xs := by
 rcases h with ⟨rfl, rfl⟩ | ⟨g, off, cap, cur, rfl, h2, h3, h4, h5, h6, h7⟩
 ·exact LSeg.nil' _ _ _ _
 ·refine ⟨_, cap, rfl, hl, .inr ⟨g, off, rfl, h3.lt, fun i x hi j u hu => ?_⟩⟩
  rw [h3.cellAt, Nat.add_assoc]
  exact h7 _ u (flat_get hcs xs i j x u hi hu)
theorem fresh_state {w : World} {s m o : Nat} {kd size slide ag : Int} (hb : BoxT 117 w s #[.int .i64 kd, .int .i64 size, .int .i64 slide, .int .i64 ag, .map (some m), .map (some o)]) (hm : MapAt Tryz.prog 150 w m []) (ho : MapAt Tryz.prog 2 w o []) (hmo : m ≠ o) : StAt w s m o kd size slide ag (fun i => i = o) [] [] := by
 have hso : ¬ s = o := fun e => by
  obtain ⟨es, ck, h1⟩ := ho.isMap
  unfold BoxT at hb
  rw [e, h1] at hb
  cases hb
 exact ⟨hb, hm, ⟨ho, fun r hr => (by cases hr), fun r hr => (by cases hr), .nil, rfl, fun i hi => hi ▸ ho.lt⟩, fun x hx => (by cases hx), hso, hmo, ⟨fun _ => rfl, fun _ x hx => (by cases hx), fun r hr => (by cases hr), fun r hr => (by cases hr)⟩⟩
theorem made_at (P : Program) (K : TypeId) (w : World) {n : Nat} (hn : n = w.heap.size) : MapAt P K (w.alloc (.map #[] 0)) n [] := by subst hn; exact MapAt.made P K w
theorem MapAt.alloc {P : Program} {K : TypeId} {w : World} {b : Nat} {M : List (Value × Value)} (h : MapAt P K w b M) (o : Obj) : MapAt P K (w.alloc o) b M := h.back (Below.heap_alloc w o b h.lt)
theorem New_any (w : World) (kd size slide ag : Int) : Calls Tryz.prog 39 #[.agg #[.int .i64 kd, .int .i64 size, .int .i64 slide], .int .i64 ag] w fun e w' => ∃ s fp, e = .returned (.pointer (some ⟨s, 0, none⟩)) ∧ SA w' s kd size slide ag fp [] ∧ (∀ i, fp i → w.heap.size ≤ i) ∧ Below w.heap.size w w' := by
 have hmm := @run_makeMap Tryz.prog
 go_enter Tryz.func39, Tryz.ntmps39
 go_wp2_with fail
 go_ret
 refine ⟨w.heap.size + 1 + 1 + 1, FP (w.heap.size + 1 + 1 + 1) (w.heap.size + 1) (fun i => i = w.heap.size + 1 + 1), rfl, ⟨w.heap.size + 1, w.heap.size + 1 + 1, _, _, fresh_state (BoxT.new_at (t := 117) (by simp)) (((made_at _ _ _ (by simp)).alloc _).alloc _) ((made_at _ _ _ (by simp)).alloc _) (by omega), fun _ => Iff.rfl⟩, fun i hi => ?_, ?_⟩
 ·rcases hi with e | e | e <;> omega
 ·exact ((((Below.refl _ _).alloc (Nat.le_refl _) _).alloc (by simp) _).alloc (by simp; omega) _).alloc (by simp; omega) _
structure LdI (w wr : World) (s m o : Nat) (kd size slide ag : Int) (fp : Nat → Prop) (fq' : Nat → Prop) (M' : List Pn) (R' : List SRow) (u : Value) (L : List Pn) : Prop where
 st : StAt wr s m o kd size slide ag fq' M' R'
 ft : FT fp (FP s m fq') w wr
 row : LSeg 4 Pn.cs wr.heap.size wr u L
 n2 : ∀ g, u.ownBlock = some g → ¬ FP s m fq' g
theorem LSeg.off {w w' : World} {u : Value} {L : List Pn} (h : LSeg 4 Pn.cs w.heap.size w u L) (hb : ∀ g, u.ownBlock = some g → w'.heap[g]? = w.heap[g]?) (hs : w.heap.size ≤ w'.heap.size) : LSeg 4 Pn.cs w'.heap.size w' u L := by
 obtain ⟨ao, cap, rfl, hl, hc⟩ := h
 refine ⟨ao, cap, rfl, hl, ?_⟩
 rcases hc with hc | ⟨b, off, rfl, hbl, hc⟩
 ·exact .inl hc
 ·refine .inr ⟨b, off, rfl, by omega, fun i x hx j v hv => ?_⟩
  have h1 := hc i x hx j v hv
  rw [World.cell?] at h1 ⊢
  rw [hb b rfl]; exact h1
theorem LdI.step {w wr w' W : World} {s m o : Nat} {kd size slide ag : Int} {fp fq' fq'' : Nat → Prop} {M' M'' : List Pn} {R' R'' : List SRow} {u : Value} {L : List Pn} (h : LdI w wr s m o kd size slide ag fp fq' M' R' u L) (hb : Below wr.heap.size wr W) (hst : StAt w' s m o kd size slide ag fq'' M'' R'') (hft : FT (FP s m fq') (FP s m fq'') W w') (hlt : ∀ g, u.ownBlock = some g → g < wr.heap.size) : LdI w w' s m o kd size slide ag fp fq'' M'' R'' u L := by
 have sz := hb.size
 have s2 := hft.size
 refine ⟨hst, (h.ft.trans (FT.of_below hb)).trans hft, h.row.off (fun g e => (hft.block g (by have := hlt g e; omega) (h.n2 g e)).trans (hb.block g (hlt g e))) (by omega), fun g e e2 => ?_⟩
 rcases hft.sub g e2 with e3 | e3
 ·exact h.n2 g e e3
 ·have := hlt g e; omega
theorem run_makeMapN (n : Nat) (w : World) : (Instr.makeMap 113 (some (.int .i64 (n : Int)))).run Tryz.prog w = .ok (.map (some w.heap.size)) (w.alloc (.map #[] 0)) := by
 simp [Instr.makeMap, asInt, asIntOf]
def LdPost (w : World) (s : Nat) (kd size slide ag : Int) (fp : Nat → Prop) (l : List Pn) (e : Ending) (w' : World) : Prop := e = .returned (.tuple #[]) ∧ APost w s kd size slide ag fp l w'
theorem Load_any {w : World} {s : Nat} {kd size slide ag : Int} {fp : Nat → Prop} {M : List Pn} (h : SA w s kd size slide ag fp M) {v : Value} {l : List Pn} (hl : LSeg 4 Pn.cs w.heap.size w v l) (hv : ∀ g, v.ownBlock = some g → ¬ fp g) (hok : ∀ x ∈ l, PnOk x ∧ (kd = 3 → x.f < x.t)) (hn : l.length ≤ 90000) :
  Calls Tryz.prog 94 #[.pointer (some ⟨s, 0, none⟩), v] w (LdPost w s kd size slide ag fp l) := by
 obtain ⟨m, o, fq, R, h, hf⟩ := h
 obtain ⟨ao, cap, rfl⟩ := hl.shapeOf
 have hmm := @run_makeMap Tryz.prog
 have hmn := run_makeMapN l.length
 obtain ⟨c0, c1, c2, c3, c4, c5⟩ := h.cells
 have cf := fun j => h.box.free j
 have hslt := h.box.lt
 have hne1 : ¬ s = w.heap.size := by omega
 have hne2 : ¬ s = w.heap.size + 1 := by omega
 have HH := hide h
 have HLS := hide hl
 have HV := hide hv
 have HF := hide hf
 have HOK := hide hok
 clear h hl hv hf hok
 go_enter Tryz.func94, Tryz.ntmps94
 go_upto_region 1 with fail
 obtain ⟨W2, hW2⟩ : ∃ W2, W2 = (((w.setCell ⟨s, 4, none⟩ (.map (some w.heap.size))).setCell ⟨s, 5, none⟩ (.map (some (w.heap.size + 1)))).alloc (.map #[] 0)).alloc (.map #[] 0) := ⟨_, rfl⟩
 rw [← hW2]
 have hs0 : ((w.setCell ⟨s, 4, none⟩ (.map (some w.heap.size))).setCell ⟨s, 5, none⟩ (.map (some (w.heap.size + 1)))).heap.size = w.heap.size := by simp
 have hg0 : w.grownBy ((w.setCell ⟨s, 4, none⟩ (.map (some w.heap.size))).setCell ⟨s, 5, none⟩ (.map (some (w.heap.size + 1)))) (some s) := grownBy_trans (grownBy_set _ _ _ _) (grownBy_set _ _ _ _)
 have hst : StAt W2 s w.heap.size (w.heap.size + 1) kd size slide ag (fun i => i = w.heap.size + 1) [] [] := by
  rw [hW2]
  refine fresh_state (BoxT.alloc (t := 117) (BoxT.alloc (t := 117) ?_ _) _) ((made_at _ _ _ hs0.symm).alloc _) (made_at _ _ _ (by simp)) (by omega)
  have := (HH.out.box.set 4 (.map (some w.heap.size))).set 5 (.map (some (w.heap.size + 1)))
  simpa using this
 have hfps : fp s := (HF.out s).2 (.inl rfl)
 have hsz2 : W2.heap.size = w.heap.size + 2 := by rw [hW2]; simp
 have hblk : ∀ i, i < w.heap.size → i ≠ s → W2.heap[i]? = w.heap[i]? := fun i hi hne => by
  rw [hW2, Below.heap_alloc _ _ i (by simp; omega), Below.heap_alloc _ _ i (by rw [hs0]; exact hi)]
  exact hg0.block i hi (fun e => hne (by cases e; rfl))
 have hft : FT fp (FP s w.heap.size (fun i => i = w.heap.size + 1)) w W2 := by
  refine ⟨by rw [hW2]; exact hg0.os, by rw [hW2]; exact hg0.tape, by rw [hW2]; exact hg0.output, by omega, fun i hi hn => hblk i hi (fun e => hn (e ▸ hfps)), fun i hi => ?_⟩
  rcases hi with e | e | e
  ·exact .inl (e ▸ hfps)
  ·exact .inr (by omega)
  ·exact .inr (by omega)
 have hlen : ∀ g, (Value.slice ao l.length cap).ownBlock = some g → l ≠ [] → g < w.heap.size := fun g e hne => by
  obtain ⟨ao', cap', e', _, hc⟩ := HLS.out
  cases e'
  rcases hc with hc | ⟨b, off, rfl, hbl, _⟩
  ·exact absurd hc hne
  ·cases e; exact hbl
 have hl2 : LSeg 4 Pn.cs W2.heap.size W2 (.slice ao l.length cap) l := by
  by_cases hne : l = []
  ·subst hne; exact ⟨ao, cap, rfl, by simp, .inl rfl⟩
  ·exact HLS.out.off (fun g e => hblk g (hlen g e hne) (fun e2 => HV.out g e (e2 ▸ hfps))) (by omega)
 have HSO := hide (Sort_any hl2 (by omega))
 have HST := hide hst
 have HFT := hide hft
 have HSZ := hide hsz2
 have hsl : (srt l).length = l.length := srt_len l
 have HPS := hide (srt_perm l)
 have HSO2 : Hid (∀ x ∈ srt l, PnOk x ∧ (kd = 3 → x.f < x.t)) := fun x hx => HOK.out x ((srt_perm l).mem_iff.1 hx)
 clear hst hft hsz2 hblk hlen hl2 hg0 hs0 hW2 hfps c0 c1 c2 c3 c4 c5 cf
 generalize srt l = L at *
 go_wp2_with (first | (go_at_call 98; refine HSO.out.mono ?_; rintro e w3 ⟨u, rfl, o3, b3⟩; have HR3 := hide o3; have B3 := hide b3; obtain ⟨ua, uc, rfl⟩ := o3.shape; clear o3 b3) | fail)
 have HI : Hid (LdI w w3 s w.heap.size (w.heap.size + 1) kd size slide ag fp (fun i => i = w.heap.size + 1) [] [] (.slice ua L.length uc) L) := by
  refine ⟨HST.out.below (fun i hi => B3.out.block i (HST.out.flt i hi)) B3.out.size, HFT.out.trans (FT.of_below B3.out), HR3.out.seg Pn.cs_len (by omega), fun g e e2 => ?_⟩
  have h1 := HR3.out.at g e
  have h2 := HST.out.flt g e2
  omega
 have HLT : Hid (∀ g, (Value.slice ua L.length uc).ownBlock = some g → g < w3.heap.size) := fun g e => by
  obtain ⟨cu, hcu⟩ := HR3.out.has g e
  exact hcu.lt
 clear HST HSO
 go_loopg [19] (L.length + 1) (fun gh iv wr => ∃ (i : Nat) (fq' : Nat → Prop) (M' : List Pn) (R' : List SRow), iv = .int .i64 (i : Int) ∧ i ≤ L.length ∧ L.length + 1 ≤ gh + i ∧ w3.heap.size ≤ wr.heap.size ∧ Hid (LdI w wr s w.heap.size (w.heap.size + 1) kd size slide ag fp fq' M' R' (.slice ua L.length uc) L) ∧ Hid (Comes (sess kd) (jn ag) (L.take i) M'))
 case atStart => exact ⟨0, _, [], [], rfl, by omega, by omega, Nat.le_refl _, HI, (show Comes _ _ _ _ from Comes.refl .nil)⟩
 case round =>
  clear HI
  obtain ⟨i, fq', M', R', rfl, hi, hg, hws, HP, HC⟩ := hrel
  obtain ⟨go, rfl⟩ : ∃ go, gk = go + 1 := ⟨gk - 1, by omega⟩
  by_cases hlt : i < L.length
  ·obtain ⟨x, hx⟩ := get_of_lt hlt
   have bt : (i : Int) < (L.length : Int) := by omega
   obtain ⟨nb, no, rfl, nlt, e0, e1, e2, e3⟩ := HP.out.row.pane hx
   have hin := HSO2.out x (List.mem_of_getElem? hx)
   have HTS : Hid (L.take (i + 1) = L.take i ++ [x]) := (show _ = _ by
    have e : L[i] = x := by rw [List.getElem?_eq_getElem hlt] at hx; exact Option.some.inj hx
    rw [List.take_succ_eq_append_getElem hlt, e])
   have hbx := below_box wr (.cells #[.int .i64 x.k, .int .i64 x.f, .int .i64 x.t, .int .i64 x.a] 79)
   have hstt := HP.out.st.below (fun i hi => hbx.block i (HP.out.st.flt i hi)) hbx.size
   have hml : M'.length ≤ 100000 := by
    have h1 := HC.out.1.len
    rw [List.length_take] at h1
    omega
   have HLA := hide (lay_any hstt (k := x.k) (f := x.f) (t := x.t) (c := x.a) hin.1 hin.2 hml)
   have HBX := hide hbx
   obtain ⟨xk, xf, xt, xa⟩ := x
   simp only at e0 e1 e2 e3 HLA HBX
   clear hbx hstt hml hx hin
   go_wp2_with (first | (go_at_call 99; refine HLA.out.mono ?_; rintro e w5 ⟨rfl, fq'', M'', R'', st5, ft5, c5⟩; have HZ5 := hide (Nat.le_trans HBX.out.size ft5.size); have H5 := hide (HP.out.step HBX.out st5 ft5 (fun g e => Nat.lt_of_lt_of_le (HLT.out g e) hws)); have C5 := hide c5; clear st5 ft5 c5) | fail)
   go_roundg go
   case rel =>
    refine ⟨i + 1, fq'', M'', R'', by go_num, by omega, by omega, Nat.le_trans hws HZ5.out, H5, (show Comes _ _ _ _ from ?_)⟩
    rw [HTS.out]
    have h6 := Comes.step (q := [⟨xk, xf, xt, xa⟩]) HC.out C5.out
    exact h6.perm List.perm_append_comm (.refl _)
   case measure => omega
  ·obtain rfl : i = L.length := by omega
   have bt : ¬ ((L.length : Nat) : Int) < (L.length : Int) := by omega
   go_wp2_with fail
   go_end0
   refine ⟨rfl, FP s w.heap.size fq', M', ⟨_, _, fq', R', HP.out.st, fun _ => Iff.rfl⟩, HP.out.ft, ?_⟩
   have h6 := HC.out
   rw [List.take_of_length_le (Nat.le_refl _)] at h6
   exact h6.perm HPS.out (.refl _)
end Go.Proofs.YtpcbhcdpegbfjaaGreat
/-
 end: the sessions whose watermark has come are gone.
-/
namespace Go.Proofs.YtpcbhcdpegbfjaaGreat
set_option maxHeartbeats 16000000
set_option maxRecDepth 100000
open Go.RowKit
def endR (mk : Int) (r : SRow) : List Sp := keepO mk r.l
structure EI (w wr : World) (o : Nat) (fq : Nat → Prop) (R D T : List SRow) (mk : Int) (E : List SRow) : Prop where
 rg : RangeAt Tryz.prog 2 wr o (w.heap.size + 1) ((E ++ T).map sEnt) (T.map sEnt)
 om : OM wr o fq (E ++ T)
 ft : FT fq fq w wr
 kb : BoxT 2 wr w.heap.size #[.int .i64 mk]
 all : R.Perm (D ++ T)
 dn : E.map (fun r => (r.k, r.l)) = (D.filter (fun r => !(endR mk r).isEmpty)).map (fun r => (r.k, endR mk r))
theorem OM.others {w1 w2 w3 : World} {o : Nat} {fq : Nat → Prop} {r : SRow} {Q : List SRow} (h : OM w1 o fq (r :: Q)) (hg : w1.grownBy w2 r.v.ownBlock) (ht : MTurn w2 w3 o) (hm : MapAt Tryz.prog 2 w3 o (Q.map sEnt)) : OM w3 o fq Q := by
 have hap := List.pairwise_cons.1 h.apart
 have s2 := hg.size
 refine ⟨hm, fun q hq => ?_, fun q hq => h.fr q (List.mem_cons_of_mem _ hq), hap.2, h.fo, fun i hi => by rw [ht.size]; exact Nat.lt_of_lt_of_le (h.flt i hi) s2⟩
 obtain ⟨q1, q2, q3⟩ := h.rows q (List.mem_cons_of_mem _ hq)
 refine ⟨q1.back (fun g e => ?_), q2, q3⟩
 have hgo : g ≠ o := fun e' => by
  obtain ⟨cu, hcu⟩ := q1.has g e
  obtain ⟨es, ck, hes⟩ := h.op.isMap
  rw [e', hes] at hcu; cases hcu
 rw [ht.other hgo]
 exact hg.block g (q1.lt g e) (fun e' => hap.1 q hq (e'.symm.trans e.symm))
theorem OM.swap {w1 w2 w3 : World} {o : Nat} {fq : Nat → Prop} {r : SRow} {Q : List SRow} (h : OM w1 o fq (r :: Q)) (hg : w1.grownBy w2 r.v.ownBlock) {v' : Value} {l' : List Sp} (ho : OwnL 72 2 Sp.cs 0 w2 v' l') (hl : l' ≠ []) (hin : ∀ g, v'.ownBlock = some g → r.v.ownBlock = some g) (ht : MTurn w2 w3 o) (hm : MapAt Tryz.prog 2 w3 o ((⟨r.k, v', l'⟩ :: Q : List SRow).map sEnt)) : OM w3 o fq (⟨r.k, v', l'⟩ :: Q) := by
 have hap := List.pairwise_cons.1 h.apart
 have s2 := hg.size
 have hkr := h.rows r (List.mem_cons_self ..)
 refine ⟨hm, fun q hq => ?_, fun q hq g e => ?_, List.pairwise_cons.2 ⟨fun q hq e => ?_, hap.2⟩, h.fo, fun i hi => by rw [ht.size]; exact Nat.lt_of_lt_of_le (h.flt i hi) s2⟩
 ·rcases List.mem_cons.1 hq with rfl | hq
  ·refine ⟨ho.back (fun g e => ht.other (fun e' => ?_)), hl, hkr.2.2⟩
   obtain ⟨cu, hcu⟩ := hkr.1.has g (hin g e)
   obtain ⟨es, ck, hes⟩ := h.op.isMap
   rw [e', hes] at hcu; cases hcu
  ·obtain ⟨q1, q2, q3⟩ := h.rows q (List.mem_cons_of_mem _ hq)
   refine ⟨q1.back (fun g e => ?_), q2, q3⟩
   have hgo : g ≠ o := fun e' => by
    obtain ⟨cu, hcu⟩ := q1.has g e
    obtain ⟨es, ck, hes⟩ := h.op.isMap
    rw [e', hes] at hcu; cases hcu
   rw [ht.other hgo]
   exact hg.block g (q1.lt g e) (fun e' => hap.1 q hq (e'.symm.trans e.symm))
 ·rcases List.mem_cons.1 hq with rfl | hq
  ·exact h.fr r (List.mem_cons_self ..) g (hin g e)
  ·exact h.fr q (List.mem_cons_of_mem _ hq) g e
 ·simp only at e
  rcases ho.2 with ⟨_, q4⟩ | ⟨g, c, cu, q4, _⟩
  ·exact hl (List.length_eq_zero_iff.1 q4)
  ·have hg' : v'.ownBlock = some g := by rw [q4]; rfl
   rw [hg'] at e
   exact hap.1 q hq ((hin g hg').trans e)
def EPost (w : World) (o : Nat) (fq : Nat → Prop) (R : List SRow) (mk : Int) (e : Ending) (w' : World) : Prop := e = .returned (.tuple #[]) ∧ ∃ E D, OM w' o fq E ∧ FT fq fq w w' ∧ R.Perm D ∧ E.map (fun r => (r.k, r.l)) = (D.filter (fun r => !(endR mk r).isEmpty)).map (fun r => (r.k, endR mk r))
theorem end_any {w : World} {o : Nat} {fq : Nat → Prop} {R : List SRow} (h : OM w o fq R) (mk : Int) (hn : ∀ r ∈ R, r.l.length ≤ 100000) :
  Calls Tryz.prog 105 #[.map (some o), .int .i64 mk] w (EPost w o fq R mk) := by
 have hb1 := below_box w (.cells #[.int .i64 mk] 2)
 have HOM := hide (h.below hb1)
 have HMP := hide (h.below hb1).op
 have hmf : ∀ (fn : Fn) (first cap : Array Value) (w : World), (Instr.makeFunc fn first cap).run Tryz.prog w = .ok (.func fn first cap) w := fun _ _ _ _ => rfl
 have HH := hide h
 have HNL := hide hn
 have HB1 := hide hb1
 clear h hb1 hn
 go_enter Tryz.func105, Tryz.ntmps105
 go_wp2_with (first | (at_range; refine wp_rangeM _ rfl _ 115 rfl 74 Tryz.underlying115 rfl HMP.out ?_; intro w0 hrg0 hg0 hs0) | fail)
 try go_frame
 rw [show (w.alloc (.cells #[.int .i64 mk] 2)).heap.size = w.heap.size + 1 by simp]
 have H0 : Hid (EI w w0 o fq R [] R mk []) := by
  have hb0 : Below (w.alloc (.cells #[.int .i64 mk] 2)).heap.size (w.alloc (.cells #[.int .i64 mk] 2)) w0 := (Below.refl _ _).grown hg0 (Nat.le_refl _) (fun k e => by cases e)
  have e1 : (w.alloc (.cells #[.int .i64 mk] 2)).heap.size = w.heap.size + 1 := by simp
  rw [e1] at hrg0
  exact ⟨hrg0, HOM.out.below hb0, (FT.of_below HB1.out).trans (FT.of_below hb0), BoxT.below (t := 2) (BoxT.new _ _ _) hb0, .refl _, rfl⟩
 clear hrg0 hg0 hs0 HOM HMP
 go_loopg [4, 5, 8] (R.length + 1) (fun gh _ _ _ wr => ∃ D T E, T.length + 1 ≤ gh ∧ Hid (EI w wr o fq R D T mk E))
 case atStart => exact ⟨[], R, [], Nat.le_refl _, H0⟩
 case round =>
  obtain ⟨D, T, E, hgh, HI⟩ := hrel
  obtain ⟨go, rfl⟩ : ∃ go, gk = go + 1 := ⟨gk - 1, by omega⟩
  have hrg := hide HI.out.rg
  go_wp2_with (first | (at_next; refine wp_nextM sEnt _ rfl _ rfl rfl hrg.out ?_ ?_) | fail)
  ·intro hl0
   subst hl0
   go_wp2_with fail
   go_end0
   refine ⟨rfl, E, D, ?_, HI.out.ft, ?_, HI.out.dn⟩
   ·have := HI.out.om; rwa [List.append_nil] at this
   ·have := HI.out.all; rwa [List.append_nil] at this
  ·intro r T' w1 hp hr1 hg1 hs1 hen
   have hl2 := hp.length_eq
   simp only [List.length_cons] at hl2
   have hom0 := (HI.out.om.back (w' := w1) (fun i hi => hg1.block i (HI.out.om.flt i hi) (fun e => by cases e; have := HH.out.flt _ hi; omega)) hg1.size).perm (List.Perm.trans (List.Perm.append_left E hp) List.perm_middle)
   have HOM := hide hom0
   have HK1 : Hid (BoxT 2 w1 w.heap.size #[.int .i64 mk]) := HI.out.kb.grown hg1 (by omega)
   have hro := (hom0.rows r (List.mem_cons_self ..))
   have hmr : r ∈ R := HI.out.all.mem_iff.2 (List.mem_append_right _ (hp.mem_iff.2 (List.mem_cons_self ..)))
   have hnr := HNL.out r hmr
   have hblt : ∀ g, r.v.ownBlock = some g → g < w.heap.size := fun g e => HH.out.flt g (hom0.fr r (List.mem_cons_self ..) g e)
   have HDE := hide (delete_any HK1.out hro.1 (fun e => by have := hblt _ e; omega) (by omega))
   have HFT : Hid (FT fq fq w w1) := ⟨hg1.os.trans HI.out.ft.os, hg1.tape.trans HI.out.ft.tape, hg1.output.trans HI.out.ft.output, Nat.le_trans HI.out.ft.size hg1.size, fun i hi hn => (hg1.block i (Nat.lt_of_lt_of_le hi HI.out.ft.size) (fun e => by cases e; omega)).trans (HI.out.ft.block i hi hn), fun i hi => .inl hi⟩
   have HR1 : Hid (RangeAt Tryz.prog 2 w1 o (w.heap.size + 1) (sEnt r :: (E ++ T').map sEnt) (T'.map sEnt)) := hr1.perm (by have h9 := (List.Perm.trans (List.Perm.append_left E hp) List.perm_middle).map sEnt; rw [List.map_append, List.map_cons] at h9; exact h9) (.refl _)
   have HKE := hide (keyI hro.2.2)
   have HUN : Hid (∀ p ∈ T'.map sEnt, p.1 ≠ (.int .i64 r.k : Value)) := fun p hp' e => by
    have h1 := hom0.op.nodup
    rw [List.map_cons, List.map_cons, List.nodup_cons] at h1
    refine h1.1 ?_
    obtain ⟨q, hq, rfl⟩ := List.mem_map.1 hp'
    refine List.mem_map.2 ⟨sEnt q, List.mem_map.2 ⟨q, List.mem_append_right _ hq, rfl⟩, e⟩
   have HP := hide hp
   have HBL := hide hblt
   have hsh := hro.1.shape
   have hrb := HI.out.rg.lt
   clear hom0 hro hmr hnr hblt hp hr1 hg1 hs1 hrg
   obtain ⟨k, v, l⟩ := r
   simp only [sEnt] at hen
   unfold sEnt
   simp only at *
   obtain ⟨va, vc, rfl⟩ := hsh
   have HR2 : Hid (∀ w2, w1.grownBy w2 (Value.slice va l.length vc).ownBlock → RangeAt Tryz.prog 2 w2 o (w.heap.size + 1) (sEnt ⟨k, .slice va l.length vc, l⟩ :: (E ++ T').map sEnt) (T'.map sEnt)) := fun w2 g2 => HR1.out.back (g2.block _ HR1.out.mapAt.lt (fun e => by
    obtain ⟨cu, hcu⟩ := (HOM.out.rows _ (List.mem_cons_self ..)).1.has _ e.symm
    obtain ⟨es, ck, hes⟩ := HR1.out.mapAt.isMap
    rw [hes] at hcu; cases hcu)) (g2.block _ HR1.out.lt (fun e => by have := HBL.out _ e.symm; omega))
   have HFIN : Hid (∀ (w2 w3 : World) (E' : List SRow), w1.grownBy w2 (Value.slice va l.length vc).ownBlock → MTurn w2 w3 o → RangeAt Tryz.prog 2 w3 o (w.heap.size + 1) ((E' ++ T').map sEnt) (T'.map sEnt) → OM w3 o fq (E' ++ T') → E'.map (fun r => (r.k, r.l)) = ((D ++ [(⟨k, .slice va l.length vc, l⟩ : SRow)]).filter (fun r => !(endR mk r).isEmpty)).map (fun r => (r.k, endR mk r)) → EI w w3 o fq R (D ++ [⟨k, .slice va l.length vc, l⟩]) T' mk E') := fun w2 w3 E' g2 t3 rg3 om3 hd => by
    have hKo : w.heap.size ≠ o := fun e => by have := HH.out.flt o HH.out.fo; omega
    have s2 := g2.size
    refine ⟨rg3, om3, ⟨t3.grown.os.trans (g2.os.trans HFT.out.os), t3.grown.tape.trans (g2.tape.trans HFT.out.tape), t3.grown.output.trans (g2.output.trans HFT.out.output), by have := HFT.out.size; rw [t3.size]; omega, fun i hi hn => ?_, fun i hi => .inl hi⟩, ?_, ?_, hd⟩
    ·rw [t3.other (show i ≠ o from fun e => hn (e ▸ HH.out.fo)), g2.block i (Nat.lt_of_lt_of_le hi HFT.out.size) (fun e => hn (HOM.out.fr _ (List.mem_cons_self ..) i e.symm))]
     exact HFT.out.block i hi hn
    ·have h1 : BoxT 2 w2 w.heap.size #[.int .i64 mk] := by
      have h2 := g2.block w.heap.size HK1.out.lt (fun e => by have := HBL.out _ e.symm; omega)
      have h3 := HK1.out
      unfold BoxT at *
      rw [h2]; exact h3
     have h4 := t3.other hKo
     unfold BoxT at *
     rw [h4]; exact h1
    ·refine HI.out.all.trans ?_
     rw [List.append_assoc]
     exact List.Perm.append_left D HP.out
   have HDN := hide HI.out.dn
   by_cases hE : keepO mk l = []
   ·have HDE2 := HDE
    rw [hE] at HDE2
    clear HDE
    have HDE := HDE2
    clear HDE2
    go_wp2_with (first | (go_at_call 115; refine HDE.out.mono ?_; rintro e w2 ⟨v2, rfl, o2, g2, k2⟩; obtain ⟨ua, uc, rfl⟩ := o2.shape; have O2 := hide o2; have G2 := hide g2; have K2 := hide k2; have R2 := hide (HR2.out w2 g2); obtain ⟨w3, hrun3, rg3, mt3⟩ := R2.out.drop_hit Tryz.lawI Tryz.underlying115 HKE.out (R := (E ++ T').map sEnt) (.refl _) HUN.out 0; have RG3 := hide rg3; have MT3 := hide mt3; clear rg3 mt3; clear o2 g2 k2) | fail)
    go_roundg go
    case rel =>
     have hd : E.map (fun r => (r.k, r.l)) = ((D ++ [(⟨k, .slice va l.length vc, l⟩ : SRow)]).filter (fun r => !(endR mk r).isEmpty)).map (fun r => (r.k, endR mk r)) := by
      rw [HDN.out, List.filter_append]
      have : endR mk ⟨k, .slice va l.length vc, l⟩ = [] := hE
      simp [this]
     exact ⟨_, T', E, by omega, hide (HFIN.out w2 w3 E G2.out MT3.out RG3.out (HOM.out.others G2.out MT3.out RG3.out.mapAt) hd)⟩
    case measure => omega
   ·have hpos : ¬ ((keepO mk l).length : Int) = 0 := by have : (keepO mk l).length ≠ 0 := fun e => hE (List.length_eq_zero_iff.1 e); omega
    have HKN := hide hE
    generalize hKL : keepO mk l = KL at *
    have HKL := hide hKL
    clear hKL hE
    go_wp2_with (first | (go_at_call 115; refine HDE.out.mono ?_; rintro e w2 ⟨v2, rfl, o2, g2, k2⟩; obtain ⟨ua, uc, rfl⟩ := o2.shape; have O2 := hide o2; have G2 := hide g2; have K2 := hide k2; have R2 := hide (HR2.out w2 g2); obtain ⟨w3, hrun3, rg3, mt3⟩ := R2.out.store_old (v := .slice ua KL.length uc) Tryz.lawI Tryz.underlying115 HKE.out (R := (E ++ T').map sEnt) (.refl _) HUN.out; have RG3 := hide rg3; have MT3 := hide mt3; clear rg3 mt3; clear o2 g2 k2) | (at_mapUpdate; refine wp_putM rfl _ _ _ 115 rfl _ _ _ rfl rfl rfl hrun3 ?_) | fail)
    go_roundg go
    case rel =>
     have hpm : (⟨k, .slice ua KL.length uc, KL⟩ :: (E ++ T') : List SRow).Perm ((E ++ [⟨k, .slice ua KL.length uc, KL⟩]) ++ T') := by
      rw [List.append_assoc]
      exact List.perm_middle.symm
     have hd : (E ++ [(⟨k, .slice ua KL.length uc, KL⟩ : SRow)]).map (fun r => (r.k, r.l)) = ((D ++ [(⟨k, .slice va l.length vc, l⟩ : SRow)]).filter (fun r => !(endR mk r).isEmpty)).map (fun r => (r.k, endR mk r)) := by
      rw [List.map_append, HDN.out, List.filter_append, List.map_append]
      have h1 : endR mk ⟨k, .slice va l.length vc, l⟩ = KL := HKL.out
      have h2 : KL.isEmpty = false := by cases hk : KL with
       | nil => exact absurd hk HKN.out
       | cons _ _ => rfl
      simp [h1, h2]
     have hrg5 : RangeAt Tryz.prog 2 w3 o (w.heap.size + 1) (List.map sEnt ((E ++ [(⟨k, .slice ua KL.length uc, KL⟩ : SRow)]) ++ T')) (T'.map sEnt) := RG3.out.perm (by have h9 := hpm.map sEnt; rw [List.map_cons] at h9; exact h9) (.refl _)
     exact ⟨_, T', _, by omega, hide (HFIN.out w2 w3 _ G2.out MT3.out hrg5 ((HOM.out.swap G2.out O2.out HKN.out K2.out MT3.out RG3.out.mapAt).perm hpm) hd)⟩
    case measure => omega
end Go.Proofs.YtpcbhcdpegbfjaaGreat
/-
 Fire.
-/
namespace Go.Proofs.YtpcbhcdpegbfjaaGreat
set_option maxHeartbeats 16000000
set_option maxRecDepth 100000
open Go.RowKit
def ovr (mk : Int) (p : Pn) : Bool := decide (wrap64 (p.t - 1) ≤ mk)
def rcOf (p : Pn) : Rc := ⟨p.k, wrap64 (p.t - 1), p.a⟩
def outF (mk : Int) (l : List Pn) : List Rc := (l.filter (ovr mk)).map rcOf
def leftF (mk : Int) (l : List Pn) : List Pn := l.filter fun p => !ovr mk p
theorem out_step {mk : Int} {l : List Pn} {i : Nat} {p : Pn} (h : l[i]? = some p) : outF mk (l.take (i + 1)) = if ovr mk p then outF mk (l.take i) ++ [rcOf p] else outF mk (l.take i) := by
 have hlt := lt_of_get h
 have e : l[i] = p := by rw [List.getElem?_eq_getElem hlt] at h; exact Option.some.inj h
 rw [List.take_succ_eq_append_getElem hlt, e]
 unfold outF
 rw [List.filter_append]
 cases hb : ovr mk p <;> simp [hb]
theorem left_step {mk : Int} {l : List Pn} {i : Nat} {p : Pn} (h : l[i]? = some p) : leftF mk (l.take (i + 1)) = if ovr mk p then leftF mk (l.take i) else leftF mk (l.take i) ++ [p] := by
 have hlt := lt_of_get h
 have e : l[i] = p := by rw [List.getElem?_eq_getElem hlt] at h; exact Option.some.inj h
 rw [List.take_succ_eq_append_getElem hlt, e]
 unfold leftF
 rw [List.filter_append]
 cases hb : ovr mk p <;> simp [hb]
theorem out_len (mk : Int) (l : List Pn) : (outF mk l).length ≤ l.length := by
 unfold outF; rw [List.length_map]; exact List.length_filter_le ..
theorem left_len (mk : Int) (l : List Pn) : (leftF mk l).length ≤ l.length := List.length_filter_le ..
theorem take_len {α : Type} (l : List α) (n : Nat) : (l.take n).length ≤ l.length := by rw [List.length_take]; omega
theorem new3 (W : World) {n : Nat} (hn : n = W.heap.size) (x : Rc) (j : Nat) (u : Value) (hu : (Rc.cs x)[j]? = some u) : (W.alloc (.cells #[.int .i64 x.k, .int .i64 x.t, .int .i64 x.v] 38)).cell? ((⟨n, 0, none⟩ : Addr).add j) = some u := by
 have hb : BoxT 38 _ n _ := BoxT.new_at (t := 38) (w := W) (cs := #[.int .i64 x.k, .int .i64 x.t, .int .i64 x.v]) hn
 rw [add_plain2, hb.cellAt, Nat.zero_add]
 have hl := lt_of_get hu
 rw [Rc.cs_len] at hl
 match j, hu with
 | 0, hu | 1, hu | 2, hu => simp [Rc.cs] at hu; subst hu; rfl
theorem OwnL.other {α β : Type} {t t' sz sz' : Nat} {cs : α → List Value} {cs' : β → List Value} {base base' : Nat} {w w' : World} {v v' : Value} {xs : List α} {ys : List β} (h : OwnL t sz cs base w v xs) (h' : OwnL t' sz' cs' base' w v' ys) (hg : w.grownBy w' v'.ownBlock) (ht : t ≠ t') : OwnL t sz cs base w' v xs := by
 refine h.back (fun g e => hg.block g (h.lt g e) (fun e' => ?_))
 obtain ⟨c1, h1⟩ := h.has g e
 obtain ⟨c2, h2⟩ := h'.has g e'.symm
 rw [h1] at h2
 simp at h2
 exact ht h2.2
theorem Fire_any {w : World} {v : Value} {l : List Pn} (hl : LSeg 4 Pn.cs w.heap.size w v l) (hn : l.length ≤ 100000) (mk : Int) : Calls Tryz.prog 106 #[v, .int .i64 mk] w fun e w' => ∃ u1 u2, e = .returned (.tuple #[u1, u2]) ∧ OwnL 38 3 Rc.cs w.heap.size w' u1 (outF mk (srt l)) ∧ OwnL 79 4 Pn.cs w.heap.size w' u2 (leftF mk (srt l)) ∧ Below w.heap.size w w' := by
 have HS1 := hide (Sort_any hl (by omega))
 obtain ⟨ao, cap, rfl⟩ := hl.shapeOf
 have hsl : (srt l).length ≤ 100000 := by rw [srt_len]; exact hn
 generalize srt l = m at *
 clear hl hn
 go_enter Tryz.func106, Tryz.ntmps106
 go_wp2_with (go_at_call 98; refine HS1.out.mono ?_; rintro e w1 ⟨u, rfl, o1, b1⟩; obtain ⟨ua, uc, rfl⟩ := (o1.seg Pn.cs_len (by omega)).shapeOf; have O1 := hide (o1.seg Pn.cs_len (by omega)); have B1 := hide b1; clear o1 b1)
 clear HS1
 go_loopg [6, 7, 9, 10, 14] (m.length + 1) (fun gh ov lv _ _ iv wr => ∃ i : Nat, iv = .int .i64 (i : Int) ∧ i ≤ m.length ∧ m.length + 1 ≤ gh + i ∧ Hid (OwnL 38 3 Rc.cs w1.heap.size wr ov (outF mk (m.take i))) ∧ Hid (OwnL 79 4 Pn.cs w1.heap.size wr lv (leftF mk (m.take i))) ∧ Hid (Below w1.heap.size w1 wr))
 case atStart => exact ⟨0, rfl, by omega, by omega, OwnL.nil _ _ _ _ _, OwnL.nil _ _ _ _ _, Below.refl _ _⟩
 case round =>
  obtain ⟨i, rfl, hi, hg, GO, GL, GB⟩ := hrel
  obtain ⟨go, rfl⟩ : ∃ go, gk = go + 1 := ⟨gk - 1, by omega⟩
  by_cases hlt : i < m.length
  ·obtain ⟨x, hx⟩ := get_of_lt hlt
   have bt : (i : Int) < (m.length : Int) := by omega
   obtain ⟨nb, no, rfl, nlt, e0, e1, e2, e3⟩ := (O1.out.below GB.out).pane hx
   have HOS := hide (out_step (mk := mk) hx)
   have HLS := hide (left_step (mk := mk) hx)
   have HOL : Hid ((outF mk (m.take i)).length ≤ 1000000) := (show _ ≤ _ by have h1 := out_len mk (m.take i); have h2 := take_len m i; omega)
   have HLL : Hid ((leftF mk (m.take i)).length ≤ 1000000) := (show _ ≤ _ by have h1 := left_len mk (m.take i); have h2 := take_len m i; omega)
   generalize outF mk (m.take i) = oi at *
   generalize leftF mk (m.take i) = li at *
   obtain ⟨oa, oc, rfl⟩ := GO.out.shape
   obtain ⟨la, lc, rfl⟩ := GL.out.shape
   clear hx
   obtain ⟨xk, xf, xt, xa⟩ := x
   simp only at e0 e1 e2 e3
   have HOV : Hid (ovr mk ⟨xk, xf, xt, xa⟩ = decide (wrap64 (xt - 1) ≤ mk)) := (show _ = _ from rfl)
   have HRC : Hid (rcOf ⟨xk, xf, xt, xa⟩ = ⟨xk, wrap64 (xt - 1), xa⟩) := (show _ = _ from rfl)
   rw [HOV.out] at HOS HLS
   rw [HRC.out] at HOS
   clear HOV HRC
   have hbx := below_box2 wr (.cells #[.int .i64 xk, .int .i64 xf, .int .i64 xt, .int .i64 xa] 79)
   by_cases ho : wrap64 (xt - 1) ≤ mk
   ·rw [decide_eq_true ho, if_pos rfl] at HOS HLS
    have HB3 := hide (hbx (.cells #[.int .i64 xk, .int .i64 (wrap64 (xt - 1)), .int .i64 xa] 38))
    have HO3 := hide (GO.out.below HB3.out)
    have HL3 := hide (GL.out.below HB3.out)
    have HS3 := hide (GB.out.trans (HB3.out.mono GB.out.size))
    have HSZ := hide HS3.out.size
    clear hbx
    go_wp2_with (at_builtin; refine app_L Tryz.infoRc Tryz.underlying43 rfl (by decide) (by decide) Rc.cs_len Rc.cs_one rfl _ _ rfl w1.heap.size _ oi rfl HO3.out _ _ (⟨xk, wrap64 (xt - 1), xa⟩ : Rc) rfl (new3 (wr.alloc _) (by simp) ⟨xk, wrap64 (xt - 1), xa⟩) HOL.out HSZ.out ?_; intro v5 w5 h5 g5 k5)
    go_roundg go
    case rel => exact ⟨i + 1, by go_num, by omega, by omega, (show OwnL _ _ _ _ _ _ _ by rw [HOS.out]; exact h5), (show OwnL _ _ _ _ _ _ _ by rw [HLS.out]; exact HL3.out.other HO3.out g5 (by decide)), HS3.out.grown g5 HSZ.out (fun k e => GO.out.at k e)⟩
    case measure => omega
   ·rw [decide_eq_false ho, if_neg (by decide)] at HOS HLS
    have HB3 := hide (hbx (.cells #[.int .i64 xk, .int .i64 xf, .int .i64 xt, .int .i64 xa] 79))
    have HO3 := hide (GO.out.below HB3.out)
    have HL3 := hide (GL.out.below HB3.out)
    have HS3 := hide (GB.out.trans (HB3.out.mono GB.out.size))
    have HSZ := hide HS3.out.size
    clear hbx
    go_wp2_with (at_builtin; refine app_L Tryz.infoPn Tryz.underlying47 rfl (by decide) (by decide) Pn.cs_len Pn.cs_one rfl _ _ rfl w1.heap.size _ li rfl HL3.out _ _ (⟨xk, xf, xt, xa⟩ : Pn) rfl (new4 (wr.alloc _) (by simp) ⟨xk, xf, xt, xa⟩) HLL.out HSZ.out ?_; intro v5 w5 h5 g5 k5)
    go_roundg go
    case rel => exact ⟨i + 1, by go_num, by omega, by omega, (show OwnL _ _ _ _ _ _ _ by rw [HOS.out]; exact HO3.out.other HL3.out g5 (by decide)), (show OwnL _ _ _ _ _ _ _ by rw [HLS.out]; exact h5), HS3.out.grown g5 HSZ.out (fun k e => GL.out.at k e)⟩
    case measure => omega
  ·have bt : ¬ (i : Int) < (m.length : Int) := by omega
   have HT : Hid (m.take i = m) := (show _ = _ from List.take_of_length_le (by omega))
   rw [HT.out] at GO GL
   have hbb := B1.out.trans (GB.out.mono B1.out.size)
   have HBB := hide hbb
   clear hbb
   obtain ⟨oa, oc, rfl⟩ := GO.out.shape
   obtain ⟨la, lc, rfl⟩ := GL.out.shape
   go_wp2_with fail
   exact bodyPost_ret (v := .tuple #[.slice oa (outF mk m).length oc, .slice la (leftF mk m).length lc]) (by simp [results, Tryz.results106, go_sem]; try rfl) rfl ⟨_, _, rfl, GO.out.mono B1.out.size, GL.out.mono B1.out.size, HBB.out⟩
end Go.Proofs.YtpcbhcdpegbfjaaGreat
/-
 Fire, the pure side: what is left of panes and sessions when a watermark has come.
-/
namespace Go.Proofs.YtpcbhcdpegbfjaaGreat
open Go.RowKit
theorem ovr_eq (mk : Int) (x : Pn) : ovr mk x = ovm mk ⟨x.f, x.t⟩ := rfl
theorem end_inv {kd : Int} {M : List Pn} {R D E : List SRow} {mk : Int} (h : Inv kd M R) (hp : R.Perm D) (he : E.map (fun r => (r.k, r.l)) = (D.filter (fun r => !(endR mk r).isEmpty)).map (fun r => (r.k, endR mk r))) : Inv kd (leftF mk M) E := by
 have fw : ∀ r ∈ E, ∃ q ∈ R, q.k = r.k ∧ r.l = keepO mk q.l := fun r hr => by
  have h1 : (r.k, r.l) ∈ E.map (fun r => (r.k, r.l)) := List.mem_map.2 ⟨r, hr, rfl⟩
  rw [he] at h1
  obtain ⟨q, hq, e⟩ := List.mem_map.1 h1
  simp only [Prod.mk.injEq] at e
  exact ⟨q, hp.mem_iff.2 (List.mem_filter.1 hq).1, e.1, e.2.symm⟩
 have bw : ∀ q ∈ R, ∀ sp ∈ keepO mk q.l, ∃ r ∈ E, r.k = q.k ∧ sp ∈ r.l := fun q hq sp hs => by
  have h2 : (!(endR mk q).isEmpty) = true := by
   cases hk : endR mk q with
   | nil => rw [show keepO mk q.l = endR mk q from rfl, hk] at hs; cases hs
   | cons _ _ => rfl
  have h1 : (q.k, endR mk q) ∈ (D.filter (fun r => !(endR mk r).isEmpty)).map (fun r => (r.k, endR mk r)) := List.mem_map.2 ⟨q, List.mem_filter.2 ⟨hp.mem_iff.1 hq, h2⟩, rfl⟩
  rw [← he] at h1
  obtain ⟨r, hr, e⟩ := List.mem_map.1 h1
  simp only [Prod.mk.injEq] at e
  exact ⟨r, hr, e.1, by rw [e.2]; exact hs⟩
 refine ⟨fun hk => ?_, fun hk x hx hlt => ?_, fun r hr sp hsp => ?_, fun r hr => ?_⟩
 ·have hR := h.none hk
  cases E with
  | nil => rfl
  | cons r T =>
   obtain ⟨q, hq, _⟩ := fw r (List.mem_cons_self ..)
   rw [hR] at hq; cases hq
 ·obtain ⟨h1, h2⟩ := List.mem_filter.1 hx
  obtain ⟨q, hq, e1, e2⟩ := h.up hk x h1 hlt
  rw [ovr_eq] at h2
  obtain ⟨r, hr, e3, e4⟩ := bw q hq _ (List.mem_filter.2 ⟨e2, h2⟩)
  exact ⟨r, hr, e3.trans e1, e4⟩
 ·obtain ⟨q, hq, e1, e2⟩ := fw r hr
  rw [e2] at hsp
  obtain ⟨h1, h2⟩ := List.mem_filter.1 hsp
  obtain ⟨h3, x, h4, h5, h6, h7⟩ := h.dn q hq sp h1
  refine ⟨h3, x, List.mem_filter.2 ⟨h4, ?_⟩, h5.trans e1, h6, h7⟩
  rw [ovr_eq, h6, h7]; exact h2
 ·obtain ⟨q, hq, _, e2⟩ := fw r hr
  rw [e2]
  exact (h.rise q hq).sublist List.filter_sublist
theorem due_left (mk : Int) (M : List Pn) : M.Perm (M.filter (ovr mk) ++ leftF mk M) := (List.filter_append_perm (ovr mk) M).symm
end Go.Proofs.YtpcbhcdpegbfjaaGreat
/-
 State.Fire, walked.
-/
namespace Go.Proofs.YtpcbhcdpegbfjaaGreat
set_option maxHeartbeats 16000000
set_option maxRecDepth 100000
open Go.RowKit
structure FI (w wr : World) (s m o : Nat) (kd size slide ag : Int) (fq : Nat → Prop) (R : List SRow) (L : List Pn) (mk : Int) (u : Value) (c : List Pn) : Prop where
 box : BoxT 117 wr s #[.int .i64 kd, .int .i64 size, .int .i64 slide, .int .i64 ag, .map (some m), .map (some o)]
 mp : MapAt Tryz.prog 150 wr m (L.map pEnt)
 om : OM wr o fq R
 ft : FT (FP s m fq) (FP s m fq) w wr
 kb : BoxT 2 wr w.heap.size #[.int .i64 mk]
 row : OwnL 79 4 Pn.cs (w.heap.size + 1) wr u c
 ns : ¬ fq s
 nm : ¬ fq m
 lt : ∀ i, FP s m fq i → i < w.heap.size
section
variable {w wr w' : World} {s m o : Nat} {kd size slide ag : Int} {fq : Nat → Prop} {R : List SRow} {L : List Pn} {mk : Int} {u : Value} {c : List Pn}
theorem FI.sm (h : FI w wr s m o kd size slide ag fq R L mk u c) : s ≠ m := fun e => by
 obtain ⟨es, ck, h1⟩ := h.mp.isMap
 have h2 := h.box
 unfold BoxT at h2
 rw [e, h1] at h2
 cases h2
theorem FI.below (h : FI w wr s m o kd size slide ag fq R L mk u c) (hb : Below wr.heap.size wr w') : FI w w' s m o kd size slide ag fq R L mk u c :=
 {h with box := BoxT.below (t := 117) h.box hb, mp := h.mp.back (hb.block _ h.mp.lt), om := h.om.below hb, ft := h.ft.trans (FT.of_below hb), kb := BoxT.below (t := 2) h.kb hb, row := h.row.below hb }
theorem FI.cells (h : FI w wr s m o kd size slide ag fq R L mk u c) : wr.cell? ⟨s, 0, none⟩ = some (.int .i64 kd) ∧ wr.cell? ⟨s, 4, none⟩ = some (.map (some m)) ∧ wr.cell? ⟨s, 5, none⟩ = some (.map (some o)) ∧ wr.cell? ⟨w.heap.size, 0, none⟩ = some (.int .i64 mk) := by
 have h1 := h.box
 have h2 := h.kb
 unfold BoxT at h1 h2
 simp [World.cell?, h1, h2]
theorem FI.turn (h : FI w wr s m o kd size slide ag fq R L mk u c) {fp : Nat → Prop} (hf : FT fp fp wr w') (hs : ∀ i, fp i → FP s m fq i) (hns : ¬ fp s) {R' : List SRow} {L' : List Pn} (hm : MapAt Tryz.prog 150 w' m (L'.map pEnt)) (ho : OM w' o fq R') : FI w w' s m o kd size slide ag fq R' L' mk u c := by
 have hk : ∀ g, g < wr.heap.size → ¬ fp g → w'.heap[g]? = wr.heap[g]? := hf.block
 refine ⟨?_, hm, ho, h.ft.trans ⟨hf.os, hf.tape, hf.output, hf.size, fun i hi hn => hf.block i hi (fun e => hn (hs i e)), fun _ h => .inl h⟩, ?_, h.row.back (fun g e => hk g (h.row.lt g e) (fun e' => by have := h.lt g (hs g e'); have := h.row.at g e; omega)), h.ns, h.nm, h.lt⟩
 ·have h1 := h.box
  have h2 := hk s h1.lt hns
  unfold BoxT at *
  rw [h2]; exact h1
 ·have h1 := h.kb
  have h2 := hk w.heap.size h1.lt (fun e => by have := h.lt _ (hs _ e); omega)
  unfold BoxT at *
  rw [h2]; exact h1
theorem FI.del (h : FI w wr s m o kd size slide ag fq R L mk u c) {L' : List Pn} (hm : MapAt Tryz.prog 150 w' m (L'.map pEnt)) (ht : MTurn wr w' m) : FI w w' s m o kd size slide ag fq R L' mk u c :=
 h.turn (fp := fun i => i = m) (FT.of_grown ht.grown rfl) (fun _ e => .inr (.inl e)) h.sm hm (h.om.back (fun i hi => ht.other (fun e => h.nm (e ▸ hi))) (by rw [ht.size]; exact Nat.le_refl _))
theorem FI.ended (h : FI w wr s m o kd size slide ag fq R L mk u c) {E : List SRow} (ho : OM w' o fq E) (hf : FT fq fq wr w') : FI w w' s m o kd size slide ag fq E L mk u c :=
 h.turn hf (fun _ e => .inr (.inr e)) h.ns (h.mp.back (hf.block _ h.mp.lt h.nm)) ho
end
theorem rows_len {kd : Int} {M : List Pn} {R : List SRow} (h : Inv kd M R) : ∀ r ∈ R, r.l.length ≤ M.length := fun r hr => by
 obtain ⟨G, N, hG⟩ := GI.ex (M := M) (k := r.k) (gone := r.l) (fun sp hs => by obtain ⟨_, x, h1, h2, h3, h4⟩ := h.dn r hr sp hs; exact ⟨x, h1, h2, h3, h4⟩) (fun sp hs => (h.dn r hr sp hs).1) (h.rise r hr) r.l.length (Nat.le_refl _)
 exact hG.le
theorem runFire (args : Array Value) (W : World) : (callFunc 102 args).run Tryz.prog W = .ok (.enter 102 args) W := by kernel_rfl
def F7 (s m P : Nat) (x : Pn) (w' : World) : Prop := w'.cell? ⟨s, 4, none⟩ = some (.map (some m)) ∧ w'.cell? ⟨P, 0, none⟩ = some (.int .i64 x.k) ∧ w'.cell? ⟨P, 1, none⟩ = some (.int .i64 x.f) ∧ w'.cell? ⟨P, 2, none⟩ = some (.int .i64 x.t) ∧ w'.cell? ⟨P, 3, none⟩ = some (.int .i64 x.a)
def F9 (s o K : Nat) (mk : Int) (w' : World) : Prop := w'.cell? ⟨s, 5, none⟩ = some (.map (some o)) ∧ w'.cell? ⟨K, 0, none⟩ = some (.int .i64 mk)
theorem OwnL.setField {α : Type} {t sz : Nat} {cs : α → List Value} (hcs : ∀ x, (cs x).length = sz) (hs : 0 < sz) {base : Nat} {w : World} {g n cap : Nat} {l : List α} (h : OwnL t sz cs base w (.slice (some ⟨g, 0, none⟩) n cap) l) {i j : Nat} {x y : α} {u : Value} (hx : l[i]? = some x) (hj : j < sz) (hy : cs y = (cs x).set j u) : OwnL t sz cs base (w.setCell ⟨g, i * sz + j, none⟩ u) (.slice (some ⟨g, 0, none⟩) n cap) (l.set i y) := by
 have hi := lt_of_get hx
 rcases h.2 with ⟨e, _⟩ | ⟨g', cap', cur, e, h2, h3, h4, h5, h6, h7⟩
 ·cases e
 ·cases e
  have hb : BoxT t w g cur := h3
  have hfit : i * sz + sz ≤ cur.size := by
   have h8 : (i + 1) * sz ≤ cap * sz := Nat.mul_le_mul_right _ (by omega)
   rw [Nat.succ_mul] at h8
   omega
  refine ⟨flat_size hcs _, .inr ⟨g, cap, cur.setIfInBounds (i * sz + j) u, by simp, h2, hb.set _ _, by simpa using h4, h5, by rw [Array.size_setIfInBounds]; exact h6, ?_⟩⟩
  apply List.ext_getElem?
  intro q
  rw [List.getElem?_take, List.length_set]
  by_cases hq : q < l.length * sz
  ·rw [if_pos hq, Array.getElem?_toList]
   have hq4 : q / sz < l.length := (Nat.div_lt_iff_lt_mul hs).2 hq
   have hm : q % sz < sz := Nat.mod_lt _ hs
   have hdm : q / sz * sz + q % sz = q := by rw [Nat.mul_comm]; exact Nat.div_add_mod q sz
   have old : ∀ z, l[q / sz]? = some z → ∀ v, (cs z)[q % sz]? = some v → cur[q]? = some v := fun z hz v hv => by
    have h8 := flat_get hcs l (q / sz) (q % sz) z v hz hv
    rw [← h7, List.getElem?_take] at h8
    split at h8
    ·rw [hdm] at h8; simpa using h8
    ·cases h8
   by_cases hqi : q / sz = i
   ·have hx' : (l.set i y)[q / sz]? = some y := by rw [hqi, List.getElem?_set_self hi]
    by_cases hqj : q % sz = j
    ·have hu : (cs y)[q % sz]? = some u := by rw [hy, hqj, List.getElem?_set_self (by rw [hcs]; exact hj)]
     have h9 := flat_get hcs _ (q / sz) (q % sz) _ u hx' hu
     rw [hdm] at h9
     rw [h9, ← hqi, ← hqj, hdm, Array.getElem?_setIfInBounds_self_of_lt (by rw [hqi] at hdm; omega)]
    ·obtain ⟨v, hv⟩ := get_of_lt (show q % sz < (cs x).length by rw [hcs]; exact hm)
     have hu : (cs y)[q % sz]? = some v := by rw [hy, List.getElem?_set_ne (fun e => hqj e.symm)]; exact hv
     have h9 := flat_get hcs _ (q / sz) (q % sz) _ v hx' hu
     rw [hdm] at h9
     rw [h9, Array.getElem?_setIfInBounds_ne (fun e => hqj (by rw [hqi] at hdm; omega))]
     exact old x (by rw [hqi]; exact hx) v hv
   ·obtain ⟨z, hz⟩ := get_of_lt hq4
    have hx' : (l.set i y)[q / sz]? = some z := by rw [List.getElem?_set_ne (fun e => hqi e.symm)]; exact hz
    obtain ⟨v, hv⟩ := get_of_lt (show q % sz < (cs z).length by rw [hcs]; exact hm)
    have h9 := flat_get hcs _ (q / sz) (q % sz) _ v hx' hv
    rw [hdm] at h9
    rw [h9, Array.getElem?_setIfInBounds_ne (fun e => hqi (by rw [← e, Nat.mul_comm, Nat.mul_add_div hs, Nat.div_eq_of_lt hj]; rfl))]
    exact old z hz v hv
  ·rw [if_neg hq, List.getElem?_eq_none (by rw [flat_size hcs, List.length_set]; omega)]
def eT (r : Rc) : Rc := ⟨r.k, 2199023255552, r.v⟩
def eL (l : List Rc) (i : Nat) : List Rc := (l.take i).map eT ++ l.drop i
theorem eL_len (l : List Rc) (i : Nat) : (eL l i).length = l.length := by unfold eL; simp; omega
theorem eL_get {l : List Rc} {i : Nat} {x : Rc} (h : l[i]? = some x) : (eL l i)[i]? = some x := by
 have hl := lt_of_get h
 unfold eL
 rw [List.getElem?_append_right (by simp; omega)]
 simp [Nat.min_eq_left (Nat.le_of_lt hl)]
 exact h
theorem eL_step {l : List Rc} {i : Nat} {x : Rc} (h : l[i]? = some x) : (eL l i).set i (eT x) = eL l (i + 1) := by
 have hl := lt_of_get h
 have e : l[i] = x := by rw [List.getElem?_eq_getElem hl] at h; exact Option.some.inj h
 unfold eL
 rw [List.set_append_right _ _ (by simp; omega), List.drop_eq_getElem_cons hl, e, List.take_succ_eq_append_getElem hl, e, List.map_append, List.append_assoc]
 simp [Nat.min_eq_left (Nat.le_of_lt hl)]
theorem OwnL.own {t sz : Nat} {cs : Rc → List Value} {base : Nat} {w : World} {v : Value} {l : List Rc} (h : OwnL t sz cs base w v l) (hl : 0 < l.length) : ∃ g cap, v = .slice (some ⟨g, 0, none⟩) l.length cap := by
 rcases h.2 with ⟨_, e⟩ | ⟨g', cap', cur, e, _⟩
 ·omega
 ·exact ⟨g', cap', e⟩
def FrPost (w : World) (s m o : Nat) (kd size slide ag : Int) (fq : Nat → Prop) (M : List Pn) (mk : Int) (out : List Rc) (e : Ending) (w' : World) : Prop := ∃ u E, e = .returned u ∧ OwnL 38 3 Rc.cs w.heap.size w' u out ∧ StAt w' s m o kd size slide ag fq (leftF mk M) E ∧ FT (FP s m fq) (FP s m fq) w w'
theorem Fire_win {w : World} {s m o : Nat} {kd size slide ag : Int} {fq : Nat → Prop} {M : List Pn} {R : List SRow} (h : StAt w s m o kd size slide ag fq M R) (mk : Int) (hkd : kd ≠ 0) (hM : M.length ≤ 90000) :
  Calls Tryz.prog 95 #[.pointer (some ⟨s, 0, none⟩), .int .i64 mk] w (FrPost w s m o kd size slide ag fq M mk (outF mk (srt (M.filter (ovr mk))))) := by
 have hb1 := below_box w (.cells #[.int .i64 mk] 2)
 obtain ⟨W1, hW1⟩ : ∃ W1, W1 = w.alloc (.cells #[.int .i64 mk] 2) := ⟨_, rfl⟩
 rw [← hW1] at hb1
 have hs1 : W1.heap.size = w.heap.size + 1 := by rw [hW1]; simp
 have hk1 : BoxT 2 W1 w.heap.size #[.int .i64 mk] := by rw [hW1]; exact BoxT.new _ _ _
 have h1 := h.below (fun i hi => hb1.block i (h.flt i hi)) hb1.size
 have HR := hide (isReduce_any h1.cells.1)
 have HPK := hide (pick_any (⟨m, o, fq, R, h1, fun _ => Iff.rfl⟩ : SA W1 s kd size slide ag (FP s m fq) M) 102 #[.pointer (some ⟨w.heap.size, 0, none⟩)] (ovr mk) runFire (fun w1 hb x => fireC_any (BoxT.below (t := 2) hk1 hb) x) (by omega))
 have HB1 := hide hb1
 have HK1 := hide hk1
 have H1 := hide h1
 have HH := hide h
 have HIV := hide h.inv
 have HOK := hide h.ok
 obtain ⟨rb, hrb⟩ : ∃ rb, rb = (kd == 0) := ⟨_, rfl⟩
 rw [← hrb] at HR
 obtain rfl : rb = false := by rw [hrb]; simpa using hkd
 have HRB := hide hrb
 clear hrb hkd
 obtain ⟨c0, _⟩ := h.cells
 obtain ⟨mk0, _⟩ : W1.cell? ⟨w.heap.size, 0, none⟩ = some (.int .i64 mk) ∧ True := ⟨by rw [hk1.cellAt]; rfl, trivial⟩
 clear h h1 hb1 hk1
 go_enter Tryz.func95, Tryz.ntmps95
 go_upto_region 1 with fail
 rw [← hW1]
 clear hW1
 go_wp2_with (first | (go_at_call 100; refine HR.out.mono ?_; rintro e w1 ⟨rfl, rfl⟩) | (go_at_call 101; refine HPK.out.mono ?_; rintro e w2 ⟨u, c, rfl, o2, p2, b2⟩; have O2 := hide o2; have P2 := hide p2; have B2 := hide b2; obtain ⟨ua, uc, rfl⟩ := o2.shape; clear o2 p2 b2) | fail)
 have hcl : c.length ≤ 90000 := by have h1 := P2.out.length_eq; have h2 := List.length_filter_le (ovr mk) M; omega
 have HI : Hid (FI w w2 s m o kd size slide ag fq R (c.drop 0 ++ leftF mk M) mk (.slice ua c.length uc) c) := by
  have hst := H1.out.below (fun i hi => B2.out.block i (H1.out.flt i hi)) B2.out.size
  have hpm : M.Perm (c.drop 0 ++ leftF mk M) := (due_left mk M).trans (List.Perm.append_right _ P2.out.symm)
  refine ⟨hst.box, hst.mp.perm (hpm.map pEnt), hst.om, (FT.of_below HB1.out).trans (FT.of_below B2.out), BoxT.below (t := 2) HK1.out B2.out, by have := O2.out; rwa [hs1] at this, hst.ns, hst.nm, HH.out.flt⟩
 have HOC : Hid (∀ x ∈ c, PnOk x) := fun x hx => HOK.out x (List.mem_filter.1 (P2.out.mem_iff.1 hx)).1
 clear O2 B2 HPK H1 HK1 HB1 c0 mk0
 go_loopg [22] (c.length + 1) (fun gh iv wr => ∃ (i : Nat), iv = .int .i64 (i : Int) ∧ i ≤ c.length ∧ c.length + 1 ≤ gh + i ∧ Hid (FI w wr s m o kd size slide ag fq R (c.drop i ++ leftF mk M) mk (.slice ua c.length uc) c))
 case atStart => exact ⟨0, rfl, by omega, by omega, HI⟩
 case round =>
  clear HI
  obtain ⟨i, rfl, hi, hg, HF⟩ := hrel
  obtain ⟨go, rfl⟩ : ∃ go, gk = go + 1 := ⟨gk - 1, by omega⟩
  by_cases hlt : i < c.length
  ·obtain ⟨x, hx⟩ := get_of_lt hlt
   have bt : (i : Int) < (c.length : Int) := by omega
   obtain ⟨nb, no, rfl, nlt, e0, e1, e2, e3⟩ := (HF.out.row.seg Pn.cs_len (by omega)).pane hx
   have HPX := hide (HOC.out x (List.mem_of_getElem? hx))
   have HDR : Hid (c.drop i = x :: c.drop (i + 1)) := (show _ = _ by rw [List.drop_eq_getElem_cons hlt]; rw [List.getElem?_eq_getElem hlt] at hx; rw [Option.some.inj hx])
   obtain ⟨W2, hW2⟩ : ∃ W2, W2 = wr.alloc (.cells #[.int .i64 x.k, .int .i64 x.f, .int .i64 x.t, .int .i64 x.a] 79) := ⟨_, rfl⟩
   have HBW : Hid (Below wr.heap.size wr W2) := (show Below _ _ _ by rw [hW2]; exact below_box wr _)
   have HPB : Hid (BoxT 79 W2 wr.heap.size #[.int .i64 x.k, .int .i64 x.f, .int .i64 x.t, .int .i64 x.a]) := (show BoxT _ _ _ _ by rw [hW2]; exact BoxT.new _ _ _)
   have HF2 := hide (HF.out.below HBW.out)
   have HKC : Hid (∀ w', Below W2.heap.size W2 w' → F7 s m wr.heap.size x w') := fun w' hb => by
    obtain ⟨p0, p1, p2, p3⟩ := (BoxT.below (t := 79) HPB.out hb).cells4
    exact ⟨(HF2.out.below hb).cells.2.1, p0, p1, p2, p3⟩
   have HPL : Hid (∀ w', Below W2.heap.size W2 w' → Calls Tryz.prog 104 #[x.val] w' fun e w'' => e = .returned (plV x) ∧ Below W2.heap.size W2 w'') := fun w' hb => (placeOf_any w' x).mono (by rintro e w'' ⟨rfl, h2⟩; exact ⟨rfl, hb.trans (h2.mono hb.size)⟩)
   clear hx
   go_upto_region 7 with fail
   rw [← hW2]
   clear hW2
   have B1 : Hid (Below W2.heap.size W2 W2.drew) := (Below.refl _ _).drew
   refine wp_region_M (S := fun w' => F7 s m wr.heap.size x w') (late := []) (by kernel_rfl) (HKC.out _ B1.out) (fun hH => ?_)
   (try simp only [nr, Nat.reduceAdd])
   refine tkM 0 ?_ ?_ hH ?_
   rotate_left
   ·(intro w' hSw; unfold F7 at hSw; go_simp; try (with_reducible rfl))
   (try simp only [nm])
   refine tkM 1 ?_ ?_ hH ?_
   rotate_left
   ·(intro w' hSw; unfold F7 at hSw; go_simp; try (with_reducible rfl))
   (try simp only [nm])
   refine tkM 2 ?_ ?_ hH ?_
   rotate_left
   ·(intro w' hSw; unfold F7 at hSw; go_simp; try (with_reducible rfl))
   (try simp only [nm])
   refine tkM 3 ?_ ?_ hH ?_
   rotate_left
   ·(intro w' hSw; unfold F7 at hSw; go_simp; try (with_reducible rfl))
   (try simp only [nm])
   refine tkM 4 ?_ ?_ hH ?_
   rotate_left
   ·(intro w' hSw; unfold F7 at hSw; go_simp; try (with_reducible rfl))
   (try simp only [nm])
   refine tkO 5 fun K hK => ?_
   go_simp
   go_at_call 104
   refine (HPL.out _ B1.out).mono ?_
   rintro e w3 ⟨rfl, hb⟩
   have B3 := hide hb
   refine hK.out _ _ (HKC.out _ hb) (fun hH => ?_)
   clear hK K hb
   (try simp only [nm])
   obtain ⟨lk, hlk⟩ := HPX.out.key
   have HF3 := hide (HF2.out.below B3.out)
   obtain ⟨w5, hrun5, hm5, ht5⟩ := HF3.out.mp.drop_hit Tryz.lawPl Tryz.underlying113 hlk (v0 := .int .i64 x.a) (R := (c.drop (i + 1) ++ leftF mk M).map pEnt) (by rw [HDR.out]; exact .refl _) 0
   have HF5 := hide (HF3.out.del hm5 ht5)
   have HS7 : Hid (F7 s m wr.heap.size x w5) := by
    have hne : wr.heap.size ≠ m := fun e => by have := HF.out.mp.lt; omega
    have hp : BoxT 79 w5 wr.heap.size #[.int .i64 x.k, .int .i64 x.f, .int .i64 x.t, .int .i64 x.a] := by have h1 := (BoxT.below (t := 79) HPB.out B3.out); unfold BoxT at *; rw [ht5.other hne]; exact h1
    obtain ⟨p0, p1, p2, p3⟩ := hp.cells4
    exact ⟨HF5.out.cells.2.1, p0, p1, p2, p3⟩
   clear hm5 ht5
   refine tkO 6 fun K hK => ?_
   refine step_del_run rfl _ _ 113 150 rfl _ _ rfl rfl hrun5 ?_
   refine hK.out _ _ HS7.out (fun hH => ?_)
   clear hK K
   (try simp only [nm])
   refine wpAnyM_done (by kernel_rfl) ?_ _
   go_wp2_with fail
   go_roundg go
   case rel => exact ⟨i + 1, by go_num, by omega, by omega, HF5⟩
   case measure => omega
  ·obtain rfl : i = c.length := by omega
   have bt : ¬ ((c.length : Nat) : Int) < (c.length : Int) := by omega
   have HF0 := HF
   rw [List.drop_length, List.nil_append] at HF0
   clear HF
   have HKC : Hid (∀ w', Below wr.heap.size wr w' → F9 s o w.heap.size mk w') := fun w' hb => ⟨(HF0.out.below hb).cells.2.2.1, (HF0.out.below hb).cells.2.2.2⟩
   have HRL : Hid (∀ r ∈ R, r.l.length ≤ 100000) := fun r hr => (show r.l.length ≤ 100000 by have := rows_len HIV.out r hr; omega)
   go_upto_region 9 with fail
   have B1 : Hid (Below wr.heap.size wr wr.drew) := (Below.refl _ _).drew
   have HF1 := hide (HF0.out.below B1.out)
   refine wp_region_M (S := fun w' => F9 s o w.heap.size mk w') (late := []) (by kernel_rfl) (HKC.out _ B1.out) (fun hH => ?_)
   (try simp only [nr, Nat.reduceAdd])
   refine tkM 0 ?_ ?_ hH ?_
   rotate_left
   ·(intro w' hSw; unfold F9 at hSw; go_simp; try (with_reducible rfl))
   (try simp only [nm])
   refine tkM 1 ?_ ?_ hH ?_
   rotate_left
   ·(intro w' hSw; unfold F9 at hSw; go_simp; try (with_reducible rfl))
   (try simp only [nm])
   refine tkM 2 ?_ ?_ hH ?_
   rotate_left
   ·(intro w' hSw; unfold F9 at hSw; go_simp; try (with_reducible rfl))
   (try simp only [nm])
   refine tkM 3 ?_ ?_ hH ?_
   rotate_left
   ·(intro w' hSw; unfold F9 at hSw; go_simp; try (with_reducible rfl))
   (try simp only [nm])
   refine tkM 4 ?_ ?_ hH ?_
   rotate_left
   ·(intro w' hSw; unfold F9 at hSw; go_simp; try (with_reducible rfl))
   (try simp only [nm])
   refine tkO 5 fun K hK => ?_
   go_simp
   go_at_call 105
   refine (end_any HF1.out.om mk HRL.out).mono ?_
   rintro e w3 ⟨rfl, E, D, om3, ft3, pm3, e3⟩
   have HF3 := hide (HF1.out.ended om3 ft3)
   have HI3 := hide (end_inv HIV.out pm3 e3)
   clear om3 ft3 pm3 e3
   refine hK.out _ _ ⟨HF3.out.cells.2.2.1, HF3.out.cells.2.2.2⟩ (fun hH => ?_)
   clear hK K
   (try simp only [nm])
   refine wpAnyM_done (by kernel_rfl) ?_ _
   have HSG := hide (HF3.out.row.seg Pn.cs_len (by omega))
   have HWF := hide (Fire_any HSG.out (by omega) mk)
   have hk3 := HF3.out.cells.2.2.2
   have HSR : Hid (srt c = srt (M.filter (ovr mk))) := srt_eq P2.out
   go_wp2_with (first | (go_at_call 106; refine HWF.out.mono ?_; rintro e w4 ⟨u1, u2, rfl, o4, o5, b4⟩; have O4 := hide o4; have HF4 := hide (HF3.out.below b4); have HR4 := hide (isReduce_any HF4.out.cells.1); clear o4 o5 b4; rw [← HRB.out] at HR4) | (go_at_call 100; refine HR4.out.mono ?_; rintro e w6 ⟨rfl, rfl⟩) | fail)
   go_ret
   refine ⟨_, E, rfl, ?_, ⟨HF4.out.box, HF4.out.mp, HF4.out.om, fun x hx => HOK.out x (List.mem_filter.1 hx).1, HF4.out.ns, HF4.out.nm, HI3.out⟩, HF4.out.ft⟩
   rw [← HSR.out]
   exact O4.out.mono (by have := HF3.out.ft.size; omega)
theorem Fire_red {w : World} {s m o : Nat} {kd size slide ag : Int} {fq : Nat → Prop} {M : List Pn} {R : List SRow} (h : StAt w s m o kd size slide ag fq M R) (mk : Int) (hkd : kd = 0) (hmk : mk = 9223372036854775807) (hM : M.length ≤ 90000) :
  Calls Tryz.prog 95 #[.pointer (some ⟨s, 0, none⟩), .int .i64 mk] w (FrPost w s m o kd size slide ag fq M mk ((outF mk (srt (M.filter (ovr mk)))).map eT)) := by
 have hb1 := below_box w (.cells #[.int .i64 mk] 2)
 obtain ⟨W1, hW1⟩ : ∃ W1, W1 = w.alloc (.cells #[.int .i64 mk] 2) := ⟨_, rfl⟩
 rw [← hW1] at hb1
 have hs1 : W1.heap.size = w.heap.size + 1 := by rw [hW1]; simp
 have hk1 : BoxT 2 W1 w.heap.size #[.int .i64 mk] := by rw [hW1]; exact BoxT.new _ _ _
 have h1 := h.below (fun i hi => hb1.block i (h.flt i hi)) hb1.size
 have HR := hide (isReduce_any h1.cells.1)
 have HPK := hide (pick_any (⟨m, o, fq, R, h1, fun _ => Iff.rfl⟩ : SA W1 s kd size slide ag (FP s m fq) M) 102 #[.pointer (some ⟨w.heap.size, 0, none⟩)] (ovr mk) runFire (fun w1 hb x => fireC_any (BoxT.below (t := 2) hk1 hb) x) (by omega))
 have HB1 := hide hb1
 have HK1 := hide hk1
 have H1 := hide h1
 have HH := hide h
 have HIV := hide h.inv
 have HOK := hide h.ok
 obtain ⟨rb, hrb⟩ : ∃ rb, rb = (kd == 0) := ⟨_, rfl⟩
 rw [← hrb] at HR
 obtain rfl : rb = true := by rw [hrb]; simpa using hkd
 have HRB := hide hrb
 clear hrb hkd
 have hmq : (mk == 9223372036854775807) = true := by rw [hmk]; rfl
 clear hmk
 obtain ⟨c0, _⟩ := h.cells
 obtain ⟨mk0, _⟩ : W1.cell? ⟨w.heap.size, 0, none⟩ = some (.int .i64 mk) ∧ True := ⟨by rw [hk1.cellAt]; rfl, trivial⟩
 clear h h1 hb1 hk1
 go_enter Tryz.func95, Tryz.ntmps95
 go_upto_region 1 with fail
 rw [← hW1]
 clear hW1
 go_wp2_with (first | (go_at_call 100; refine HR.out.mono ?_; rintro e w1 ⟨rfl, rfl⟩) | (go_at_call 101; refine HPK.out.mono ?_; rintro e w2 ⟨u, c, rfl, o2, p2, b2⟩; have O2 := hide o2; have P2 := hide p2; have B2 := hide b2; obtain ⟨ua, uc, rfl⟩ := o2.shape; clear o2 p2 b2) | fail)
 have hcl : c.length ≤ 90000 := by have h1 := P2.out.length_eq; have h2 := List.length_filter_le (ovr mk) M; omega
 have HI : Hid (FI w w2 s m o kd size slide ag fq R (c.drop 0 ++ leftF mk M) mk (.slice ua c.length uc) c) := by
  have hst := H1.out.below (fun i hi => B2.out.block i (H1.out.flt i hi)) B2.out.size
  have hpm : M.Perm (c.drop 0 ++ leftF mk M) := (due_left mk M).trans (List.Perm.append_right _ P2.out.symm)
  refine ⟨hst.box, hst.mp.perm (hpm.map pEnt), hst.om, (FT.of_below HB1.out).trans (FT.of_below B2.out), BoxT.below (t := 2) HK1.out B2.out, by have := O2.out; rwa [hs1] at this, hst.ns, hst.nm, HH.out.flt⟩
 have HOC : Hid (∀ x ∈ c, PnOk x) := fun x hx => HOK.out x (List.mem_filter.1 (P2.out.mem_iff.1 hx)).1
 clear O2 B2 HPK H1 HK1 HB1 c0 mk0
 go_loopg [22] (c.length + 1) (fun gh iv wr => ∃ (i : Nat), iv = .int .i64 (i : Int) ∧ i ≤ c.length ∧ c.length + 1 ≤ gh + i ∧ Hid (FI w wr s m o kd size slide ag fq R (c.drop i ++ leftF mk M) mk (.slice ua c.length uc) c))
 case atStart => exact ⟨0, rfl, by omega, by omega, HI⟩
 case round =>
  clear HI
  obtain ⟨i, rfl, hi, hg, HF⟩ := hrel
  obtain ⟨go, rfl⟩ : ∃ go, gk = go + 1 := ⟨gk - 1, by omega⟩
  by_cases hlt : i < c.length
  ·obtain ⟨x, hx⟩ := get_of_lt hlt
   have bt : (i : Int) < (c.length : Int) := by omega
   obtain ⟨nb, no, rfl, nlt, e0, e1, e2, e3⟩ := (HF.out.row.seg Pn.cs_len (by omega)).pane hx
   have HPX := hide (HOC.out x (List.mem_of_getElem? hx))
   have HDR : Hid (c.drop i = x :: c.drop (i + 1)) := (show _ = _ by rw [List.drop_eq_getElem_cons hlt]; rw [List.getElem?_eq_getElem hlt] at hx; rw [Option.some.inj hx])
   obtain ⟨W2, hW2⟩ : ∃ W2, W2 = wr.alloc (.cells #[.int .i64 x.k, .int .i64 x.f, .int .i64 x.t, .int .i64 x.a] 79) := ⟨_, rfl⟩
   have HBW : Hid (Below wr.heap.size wr W2) := (show Below _ _ _ by rw [hW2]; exact below_box wr _)
   have HPB : Hid (BoxT 79 W2 wr.heap.size #[.int .i64 x.k, .int .i64 x.f, .int .i64 x.t, .int .i64 x.a]) := (show BoxT _ _ _ _ by rw [hW2]; exact BoxT.new _ _ _)
   have HF2 := hide (HF.out.below HBW.out)
   have HKC : Hid (∀ w', Below W2.heap.size W2 w' → F7 s m wr.heap.size x w') := fun w' hb => by
    obtain ⟨p0, p1, p2, p3⟩ := (BoxT.below (t := 79) HPB.out hb).cells4
    exact ⟨(HF2.out.below hb).cells.2.1, p0, p1, p2, p3⟩
   have HPL : Hid (∀ w', Below W2.heap.size W2 w' → Calls Tryz.prog 104 #[x.val] w' fun e w'' => e = .returned (plV x) ∧ Below W2.heap.size W2 w'') := fun w' hb => (placeOf_any w' x).mono (by rintro e w'' ⟨rfl, h2⟩; exact ⟨rfl, hb.trans (h2.mono hb.size)⟩)
   clear hx
   go_upto_region 7 with fail
   rw [← hW2]
   clear hW2
   have B1 : Hid (Below W2.heap.size W2 W2.drew) := (Below.refl _ _).drew
   refine wp_region_M (S := fun w' => F7 s m wr.heap.size x w') (late := []) (by kernel_rfl) (HKC.out _ B1.out) (fun hH => ?_)
   (try simp only [nr, Nat.reduceAdd])
   refine tkM 0 ?_ ?_ hH ?_
   rotate_left
   ·(intro w' hSw; unfold F7 at hSw; go_simp; try (with_reducible rfl))
   (try simp only [nm])
   refine tkM 1 ?_ ?_ hH ?_
   rotate_left
   ·(intro w' hSw; unfold F7 at hSw; go_simp; try (with_reducible rfl))
   (try simp only [nm])
   refine tkM 2 ?_ ?_ hH ?_
   rotate_left
   ·(intro w' hSw; unfold F7 at hSw; go_simp; try (with_reducible rfl))
   (try simp only [nm])
   refine tkM 3 ?_ ?_ hH ?_
   rotate_left
   ·(intro w' hSw; unfold F7 at hSw; go_simp; try (with_reducible rfl))
   (try simp only [nm])
   refine tkM 4 ?_ ?_ hH ?_
   rotate_left
   ·(intro w' hSw; unfold F7 at hSw; go_simp; try (with_reducible rfl))
   (try simp only [nm])
   refine tkO 5 fun K hK => ?_
   go_simp
   go_at_call 104
   refine (HPL.out _ B1.out).mono ?_
   rintro e w3 ⟨rfl, hb⟩
   have B3 := hide hb
   refine hK.out _ _ (HKC.out _ hb) (fun hH => ?_)
   clear hK K hb
   (try simp only [nm])
   obtain ⟨lk, hlk⟩ := HPX.out.key
   have HF3 := hide (HF2.out.below B3.out)
   obtain ⟨w5, hrun5, hm5, ht5⟩ := HF3.out.mp.drop_hit Tryz.lawPl Tryz.underlying113 hlk (v0 := .int .i64 x.a) (R := (c.drop (i + 1) ++ leftF mk M).map pEnt) (by rw [HDR.out]; exact .refl _) 0
   have HF5 := hide (HF3.out.del hm5 ht5)
   have HS7 : Hid (F7 s m wr.heap.size x w5) := by
    have hne : wr.heap.size ≠ m := fun e => by have := HF.out.mp.lt; omega
    have hp : BoxT 79 w5 wr.heap.size #[.int .i64 x.k, .int .i64 x.f, .int .i64 x.t, .int .i64 x.a] := by have h1 := (BoxT.below (t := 79) HPB.out B3.out); unfold BoxT at *; rw [ht5.other hne]; exact h1
    obtain ⟨p0, p1, p2, p3⟩ := hp.cells4
    exact ⟨HF5.out.cells.2.1, p0, p1, p2, p3⟩
   clear hm5 ht5
   refine tkO 6 fun K hK => ?_
   refine step_del_run rfl _ _ 113 150 rfl _ _ rfl rfl hrun5 ?_
   refine hK.out _ _ HS7.out (fun hH => ?_)
   clear hK K
   (try simp only [nm])
   refine wpAnyM_done (by kernel_rfl) ?_ _
   go_wp2_with fail
   go_roundg go
   case rel => exact ⟨i + 1, by go_num, by omega, by omega, HF5⟩
   case measure => omega
  ·obtain rfl : i = c.length := by omega
   have bt : ¬ ((c.length : Nat) : Int) < (c.length : Int) := by omega
   have HF0 := HF
   rw [List.drop_length, List.nil_append] at HF0
   clear HF
   have HKC : Hid (∀ w', Below wr.heap.size wr w' → F9 s o w.heap.size mk w') := fun w' hb => ⟨(HF0.out.below hb).cells.2.2.1, (HF0.out.below hb).cells.2.2.2⟩
   have HRL : Hid (∀ r ∈ R, r.l.length ≤ 100000) := fun r hr => (show r.l.length ≤ 100000 by have := rows_len HIV.out r hr; omega)
   go_upto_region 9 with fail
   have B1 : Hid (Below wr.heap.size wr wr.drew) := (Below.refl _ _).drew
   have HF1 := hide (HF0.out.below B1.out)
   refine wp_region_M (S := fun w' => F9 s o w.heap.size mk w') (late := []) (by kernel_rfl) (HKC.out _ B1.out) (fun hH => ?_)
   (try simp only [nr, Nat.reduceAdd])
   refine tkM 0 ?_ ?_ hH ?_
   rotate_left
   ·(intro w' hSw; unfold F9 at hSw; go_simp; try (with_reducible rfl))
   (try simp only [nm])
   refine tkM 1 ?_ ?_ hH ?_
   rotate_left
   ·(intro w' hSw; unfold F9 at hSw; go_simp; try (with_reducible rfl))
   (try simp only [nm])
   refine tkM 2 ?_ ?_ hH ?_
   rotate_left
   ·(intro w' hSw; unfold F9 at hSw; go_simp; try (with_reducible rfl))
   (try simp only [nm])
   refine tkM 3 ?_ ?_ hH ?_
   rotate_left
   ·(intro w' hSw; unfold F9 at hSw; go_simp; try (with_reducible rfl))
   (try simp only [nm])
   refine tkM 4 ?_ ?_ hH ?_
   rotate_left
   ·(intro w' hSw; unfold F9 at hSw; go_simp; try (with_reducible rfl))
   (try simp only [nm])
   refine tkO 5 fun K hK => ?_
   go_simp
   go_at_call 105
   refine (end_any HF1.out.om mk HRL.out).mono ?_
   rintro e w3 ⟨rfl, E, D, om3, ft3, pm3, e3⟩
   have HF3 := hide (HF1.out.ended om3 ft3)
   have HI3 := hide (end_inv HIV.out pm3 e3)
   clear om3 ft3 pm3 e3
   refine hK.out _ _ ⟨HF3.out.cells.2.2.1, HF3.out.cells.2.2.2⟩ (fun hH => ?_)
   clear hK K
   (try simp only [nm])
   refine wpAnyM_done (by kernel_rfl) ?_ _
   have HSG := hide (HF3.out.row.seg Pn.cs_len (by omega))
   have HWF := hide (Fire_any HSG.out (by omega) mk)
   have hk3 := HF3.out.cells.2.2.2
   have HSR : Hid (srt c = srt (M.filter (ovr mk))) := srt_eq P2.out
   have HOL : Hid ((outF mk (srt c)).length ≤ 90000) := (show _ ≤ _ by have h1 := out_len mk (srt c); rw [srt_len] at h1; omega)
   obtain ⟨OU, hOU⟩ : ∃ OU, OU = outF mk (srt c) := ⟨_, rfl⟩
   rw [← hOU] at HWF HOL
   have HOU : Hid (OU = outF mk (srt (M.filter (ovr mk)))) := (show _ = _ from hOU.trans (by rw [HSR.out]))
   clear hOU
   have HOL2 := HOL.out
   go_wp2_with (first | (go_at_call 106; refine HWF.out.mono ?_; rintro e w4 ⟨u1, u2, rfl, o4, o5, b4⟩; obtain ⟨ra, rc, rfl⟩ := o4.shape; have O4 := hide o4; have B4 := hide b4; have HF4 := hide (HF3.out.below b4); have HR4 := hide (isReduce_any HF4.out.cells.1); clear o4 o5 b4; rw [← HRB.out] at HR4) | (go_at_call 100; refine HR4.out.mono ?_; rintro e w6 ⟨rfl, rfl⟩) | fail)
   have O5 : Hid (OwnL 38 3 Rc.cs w3.heap.size w6 (.slice ra OU.length rc) (eL OU 0)) := O4
   clear O4 HWF HF4 HR4 hk3
   go_loopg [49] (OU.length + 1) (fun gh iv wr => ∃ (i : Nat), iv = .int .i64 (i : Int) ∧ i ≤ OU.length ∧ OU.length + 1 ≤ gh + i ∧ Hid (OwnL 38 3 Rc.cs w3.heap.size wr (.slice ra OU.length rc) (eL OU i)) ∧ Hid (Below w3.heap.size w3 wr))
   case atStart => exact ⟨0, rfl, by omega, by omega, O5, B4⟩
   case round =>
    clear O5 B4
    obtain ⟨i, rfl, hi, hg, O5, B5⟩ := hrel
    obtain ⟨go, rfl⟩ : ∃ go, gk = go + 1 := ⟨gk - 1, by omega⟩
    by_cases hlt : i < OU.length
    ·obtain ⟨x, hx⟩ := get_of_lt hlt
     have bt : (i : Int) < (OU.length : Int) := by omega
     obtain ⟨g5, rfl⟩ : ∃ g5, ra = some ⟨g5, 0, none⟩ := by
      obtain ⟨g5, cp5, e5⟩ := O5.out.own (by rw [eL_len]; omega)
      simp only [Value.slice.injEq] at e5
      exact ⟨g5, e5.1⟩
     have HS5 : Hid (OwnL 38 3 Rc.cs w3.heap.size (wr.setCell ⟨g5, i * 3 + 1, none⟩ (.int .i64 2199023255552)) (.slice (some ⟨g5, 0, none⟩) OU.length rc) (eL OU (i + 1))) := (show OwnL _ _ _ _ _ _ _ by rw [← eL_step hx]; exact O5.out.setField Rc.cs_len (by omega) (eL_get hx) (by omega) rfl)
     have HB5 : Hid (Below w3.heap.size w3 (wr.setCell ⟨g5, i * 3 + 1, none⟩ (.int .i64 2199023255552))) := B5.out.grown (grownBy_set _ _ _ _) B5.out.size (fun k e => by cases e; exact O5.out.at g5 rfl)
     have d1 : wr.cell? ⟨g5, i * 3 + 1, none⟩ = some (.int .i64 x.t) := by
      obtain ⟨nb, no, en, nlt, _, d⟩ := (O5.out.seg Rc.cs_len (by rw [eL_len]; omega)).readAt (eL_get hx)
      simp only [Option.some.injEq, Addr.mk.injEq] at en
      obtain ⟨rfl, rfl, _⟩ := en
      have d1 := d 1 _ rfl
      rwa [Nat.zero_add] at d1
     obtain ⟨cu5, hb5⟩ := O5.out.has g5 rfl
     have hf5 : ∀ j, wr.frozen? ⟨g5, j, none⟩ = false := fun j => (show BoxT 38 wr g5 cu5 from hb5).free j
     clear hb5 hx
     go_wp2_with fail
     go_roundg go
     case rel => exact ⟨i + 1, by go_num, by omega, by omega, HS5, HB5⟩
     case measure => omega
    ·obtain rfl : i = OU.length := by omega
     have bt : ¬ ((OU.length : Nat) : Int) < (OU.length : Int) := by omega
     have HF4 := hide (HF3.out.below B5.out)
     have O6 : Hid (OwnL 38 3 Rc.cs w3.heap.size wr (.slice ra OU.length rc) (OU.map eT)) := (show OwnL _ _ _ _ _ _ _ by have h6 := O5.out; unfold eL at h6; rw [List.take_of_length_le (Nat.le_refl _), List.drop_length, List.append_nil] at h6; exact h6)
     clear O5 B5
     go_wp2_with fail
     go_ret
     refine ⟨.slice ra OU.length rc, E, rfl, ?_, ⟨HF4.out.box, HF4.out.mp, HF4.out.om, fun x hx => HOK.out x (List.mem_filter.1 hx).1, HF4.out.ns, HF4.out.nm, HI3.out⟩, HF4.out.ft⟩
     rw [← HOU.out]
     exact O6.out.mono (by have := HF3.out.ft.size; omega)
theorem Fire_idle {w : World} {s m o : Nat} {kd size slide ag : Int} {fq : Nat → Prop} {M : List Pn} {R : List SRow} (h : StAt w s m o kd size slide ag fq M R) (mk : Int) (hkd : kd = 0) (hmk : mk ≠ 9223372036854775807) :
  Calls Tryz.prog 95 #[.pointer (some ⟨s, 0, none⟩), .int .i64 mk] w fun e w' => e = .returned (.slice none 0 0) ∧ Below w.heap.size w w' := by
 have hb1 := below_box w (.cells #[.int .i64 mk] 2)
 obtain ⟨W1, hW1⟩ : ∃ W1, W1 = w.alloc (.cells #[.int .i64 mk] 2) := ⟨_, rfl⟩
 rw [← hW1] at hb1
 have hk1 : BoxT 2 W1 w.heap.size #[.int .i64 mk] := by rw [hW1]; exact BoxT.new _ _ _
 have h1 := h.below (fun i hi => hb1.block i (h.flt i hi)) hb1.size
 have HR := hide (isReduce_any h1.cells.1)
 have HB1 := hide hb1
 rw [show (kd == 0) = true by simpa using hkd] at HR
 have hmq : (mk == 9223372036854775807) = false := by simpa using hmk
 obtain ⟨mk0, _⟩ : W1.cell? ⟨w.heap.size, 0, none⟩ = some (.int .i64 mk) ∧ True := ⟨by rw [hk1.cellAt]; rfl, trivial⟩
 clear h h1 hb1 hk1 hkd
 go_enter Tryz.func95, Tryz.ntmps95
 go_upto_region 1 with fail
 rw [← hW1]
 clear hW1
 go_wp2_with (first | (go_at_call 100; refine HR.out.mono ?_; rintro e w1 ⟨rfl, rfl⟩) | fail)
 go_ret
 exact ⟨rfl, HB1.out⟩
end Go.Proofs.YtpcbhcdpegbfjaaGreat
/-
 leathelp's Panes, Records, Bytes of equal lists; Place; the laws' fit and time.
-/
namespace Go.Proofs.YtpcbhcdpegbfjaaGreat
set_option maxHeartbeats 16000000
set_option maxRecDepth 100000
open Go.RowKit
theorem LSeg.rec {B : Nat} {w : World} {ao : Option Addr} {n cap : Nat} {xs : List Rc} (h : LSeg 3 Rc.cs B w (.slice ao n cap) xs) {i : Nat} {x : Rc} (hx : xs[i]? = some x) : ∃ b o, ao = some ⟨b, o, none⟩ ∧ b < B ∧ w.cell? ⟨b, o + i * 3, none⟩ = some (.int .i64 x.k) ∧ w.cell? ⟨b, o + i * 3 + 1, none⟩ = some (.int .i64 x.t) ∧ w.cell? ⟨b, o + i * 3 + 2, none⟩ = some (.int .i64 x.v) := by
 obtain ⟨b, o, e, hb, _, d⟩ := h.readAt hx
 exact ⟨b, o, e, hb, d 0 _ rfl, d 1 _ rfl, d 2 _ rfl⟩
theorem hPanes_any {w : World} {v1 v2 : Value} {B1 B2 : Nat} {l : List Pn} (h1 : LSeg 4 Pn.cs B1 w v1 l) (h2 : LSeg 4 Pn.cs B2 w v2 l) (hn : l.length ≤ 1000000) : Calls Tryz.prog 21 #[v1, v2] w fun e w' => e = .returned (.bool true) ∧ Below w.heap.size w w' := by
 obtain ⟨a1, c1, rfl⟩ := h1.shapeOf
 obtain ⟨a2, c2, rfl⟩ := h2.shapeOf
 have H1 := hide h1
 have H2 := hide h2
 clear h1 h2
 go_enter Tryz.func21, Tryz.ntmps21
 go_wp2_with fail
 go_loopg [5] (l.length + 1) (fun gh iv wr => ∃ i : Nat, iv = .int .i64 (i : Int) ∧ i ≤ l.length ∧ l.length + 1 ≤ gh + i ∧ Hid (∀ B, Below B w wr))
 case atStart => exact ⟨0, rfl, by omega, by omega, (show ∀ B, _ from fun B => Below.refl _ _)⟩
 case round =>
  obtain ⟨i, rfl, hi, hg, HD⟩ := hrel
  obtain ⟨go, rfl⟩ : ∃ go, gk = go + 1 := ⟨gk - 1, by omega⟩
  by_cases hlt : i < l.length
  ·obtain ⟨x, hx⟩ := get_of_lt hlt
   have bt : (i : Int) < (l.length : Int) := by omega
   have hbr := HD.out
   obtain ⟨b1, o1, rfl, _, e0, e1, e2, e3⟩ := (H1.out.below (hbr _)).pane hx
   obtain ⟨b2, o2, rfl, _, f0, f1, f2, f3⟩ := (H2.out.below (hbr _)).pane hx
   clear hx hbr
   obtain ⟨x0, x1, x2, x3⟩ := x
   simp only at e0 e1 e2 e3 f0 f1 f2 f3
   go_wp2_with fail
   go_quiet (fail)
   go_wp2_with fail
   go_roundg go
   case rel => exact ⟨i + 1, by go_num, by omega, by omega, (show ∀ B, _ from fun B => below_drewN (HD.out B) _)⟩
   case measure => omega
  ·have bt : ¬ (i : Int) < (l.length : Int) := by omega
   go_wp2_with fail
   go_ret
   exact ⟨rfl, HD.out _⟩
theorem hRecords_any {w : World} {v1 v2 : Value} {B1 B2 : Nat} {l : List Rc} (h1 : LSeg 3 Rc.cs B1 w v1 l) (h2 : LSeg 3 Rc.cs B2 w v2 l) (hn : l.length ≤ 1000000) : Calls Tryz.prog 13 #[v1, v2] w fun e w' => e = .returned (.bool true) ∧ Below w.heap.size w w' := by
 obtain ⟨a1, c1, rfl⟩ := h1.shapeOf
 obtain ⟨a2, c2, rfl⟩ := h2.shapeOf
 have H1 := hide h1
 have H2 := hide h2
 clear h1 h2
 go_enter Tryz.func13, Tryz.ntmps13
 go_wp2_with fail
 go_loopg [5] (l.length + 1) (fun gh iv wr => ∃ i : Nat, iv = .int .i64 (i : Int) ∧ i ≤ l.length ∧ l.length + 1 ≤ gh + i ∧ Hid (∀ B, Below B w wr))
 case atStart => exact ⟨0, rfl, by omega, by omega, (show ∀ B, _ from fun B => Below.refl _ _)⟩
 case round =>
  obtain ⟨i, rfl, hi, hg, HD⟩ := hrel
  obtain ⟨go, rfl⟩ : ∃ go, gk = go + 1 := ⟨gk - 1, by omega⟩
  by_cases hlt : i < l.length
  ·obtain ⟨x, hx⟩ := get_of_lt hlt
   have bt : (i : Int) < (l.length : Int) := by omega
   have hbr := HD.out
   obtain ⟨b1, o1, rfl, _, e0, e1, e2⟩ := (H1.out.below (hbr _)).rec hx
   obtain ⟨b2, o2, rfl, _, f0, f1, f2⟩ := (H2.out.below (hbr _)).rec hx
   clear hx hbr
   obtain ⟨x0, x1, x2⟩ := x
   simp only at e0 e1 e2 f0 f1 f2
   go_wp2_with fail
   go_quiet (fail)
   go_wp2_with fail
   go_roundg go
   case rel => exact ⟨i + 1, by go_num, by omega, by omega, (show ∀ B, _ from fun B => below_drewN (HD.out B) _)⟩
   case measure => omega
  ·have bt : ¬ (i : Int) < (l.length : Int) := by omega
   go_wp2_with fail
   go_ret
   exact ⟨rfl, HD.out _⟩
def FitW (k size slide : Int) : Prop := 1 ≤ k ∧ k ≤ 3 ∧ 1 ≤ size ∧ size ≤ 68719476736 ∧ ((k = 2 ∧ 1 ≤ slide ∧ slide ≤ 68719476736 ∧ (size - 1) / slide < 64) ∨ (k ≠ 2 ∧ slide = 0))
def FitS (k size slide a : Int) : Prop := 1 ≤ a ∧ a ≤ 5 ∧ ((k = 0 ∧ size = 0 ∧ slide = 0) ∨ FitW k size slide)
def TimeOk (t : Int) : Prop := -1125899906842624 ≤ t ∧ t ≤ 1125899906842624
def RetT (e : Ending) (P : Prop) : Prop := ∃ b : Bool, e = .returned (.bool b) ∧ (b = true ↔ P)
theorem RetT.no {P : Prop} (h : ¬ P) : RetT (.returned (.bool false)) P := ⟨false, rfl, by simp [h]⟩
theorem RetT.yes {P : Prop} (h : P) : RetT (.returned (.bool true)) P := ⟨true, rfl, by simp [h]⟩
theorem RetT.is_yes {e : Ending} {P : Prop} (h : RetT e P) (hp : P) : e = .returned (.bool true) := by obtain ⟨b, rfl, hb⟩ := h; rw [hb.2 hp]
theorem RetT.is_no {e : Ending} {P : Prop} (h : RetT e P) (hp : ¬ P) : e = .returned (.bool false) := by
 obtain ⟨b, rfl, hb⟩ := h
 cases b with
 | false => rfl
 | true => exact absurd (hb.1 rfl) hp
theorem time_any (w : World) (t : Int) : Calls Tryz.prog 12 #[.int .i64 t] w fun e w' => RetT e (TimeOk t) ∧ w' = w := by
 by_cases h1 : -1125899906842624 ≤ t
 ·by_cases h2 : t ≤ 1125899906842624
  ·go_enter Tryz.func12, Tryz.ntmps12
   go_wp2_with fail
   go_ret
   exact ⟨⟨true, rfl, by simp [TimeOk, h1, h2]⟩, rfl⟩
  ·go_enter Tryz.func12, Tryz.ntmps12
   go_wp2_with fail
   go_ret
   exact ⟨⟨false, rfl, by simp [TimeOk]; omega⟩, rfl⟩
 ·go_enter Tryz.func12, Tryz.ntmps12
  go_wp2_with fail
  go_ret
  exact ⟨⟨false, rfl, by simp [TimeOk]; omega⟩, rfl⟩
theorem time_yes {t : Int} (h : TimeOk t) (w : World) : Calls Tryz.prog 12 #[.int .i64 t] w fun e w' => e = .returned (.bool true) ∧ w' = w := (time_any w t).mono fun _ _ h1 => ⟨h1.1.is_yes h, h1.2⟩
theorem time_no {t : Int} (h : ¬ TimeOk t) (w : World) : Calls Tryz.prog 12 #[.int .i64 t] w fun e w' => e = .returned (.bool false) ∧ w' = w := (time_any w t).mono fun _ _ h1 => ⟨h1.1.is_no h, h1.2⟩
end Go.Proofs.YtpcbhcdpegbfjaaGreat
/-
 The spans of a time, plainly (pure).
-/
namespace Go.Proofs.YtpcbhcdpegbfjaaGreat
open Go.RowKit
theorem LSeg.on {α : Type} {sz : Nat} {cs : α → List Value} {w w' : World} {v : Value} {xs : List α} (h : LSeg sz cs w.heap.size w v xs) (hb : Below w.heap.size w w') : LSeg sz cs w'.heap.size w' v xs := (h.below hb).mono hb.size
theorem take_snoc {α : Type} {l : List α} {i : Nat} {r : α} (h : l[i]? = some r) : l.take (i + 1) = l.take i ++ [r] := by
 have hlt := lt_of_get h
 rw [List.getElem?_eq_getElem hlt] at h
 cases h
 exact List.take_succ_eq_append_getElem hlt
theorem fit_size {k size slide : Int} (h : FitW k size slide) : 1 ≤ size ∧ size ≤ 68719476736 := ⟨h.2.2.1, h.2.2.2.1⟩
def cntOf (size slide since : Int) : Nat := if size ≤ since then 0 else ((size - 1 - since) / slide + 1).toNat
theorem cnt_le {size slide t : Int} (hw : FitW 2 size slide) : cntOf size slide (sinceOf slide t) ≤ 64 := by
 obtain ⟨_, _, h1, _, ⟨_, h2, _, h3⟩ | ⟨h2, _⟩⟩ := hw
 ·obtain ⟨k1, _⟩ := since_in (t := t) h2
  unfold cntOf
  split
  ·omega
  ·have : (size - 1 - sinceOf slide t) / slide ≤ (size - 1) / slide := Int.ediv_le_ediv (by omega) (by omega)
   omega
 ·exact absurd rfl h2
theorem cnt_iff {size slide since : Int} (h2 : 1 ≤ slide) (j : Nat) : j < cntOf size slide since ↔ (j : Int) * slide < size - since := by
 unfold cntOf
 split
 ·rename_i h
  have : 0 ≤ (j : Int) * slide := Int.mul_nonneg (by omega) (by omega)
  omega
 ·rename_i h
  have h4 : (j : Int) ≤ (size - 1 - since) / slide ↔ (j : Int) * slide ≤ size - 1 - since := Int.le_ediv_iff_mul_le (by omega)
  have h5 : 0 ≤ (size - 1 - since) / slide := Int.ediv_nonneg (by omega) (by omega)
  omega
def bkS (size slide s0 : Int) (c : Nat) : List Sp := (List.range c).map fun i : Nat => ⟨s0 - (i : Int) * slide, s0 - (i : Int) * slide + size⟩
theorem bkS_len (size slide s0 : Int) (c : Nat) : (bkS size slide s0 c).length = c := by simp [bkS]
theorem bkS_snoc (size slide s0 : Int) (c : Nat) : bkS size slide s0 (c + 1) = bkS size slide s0 c ++ [⟨s0 - (c : Int) * slide, s0 - (c : Int) * slide + size⟩] := by
 unfold bkS; rw [List.range_succ, List.map_append]; rfl
theorem span_no_wrap {size slide t since : Int} {c i : Nat} (ht : TimeOk t) (hs : 1 ≤ size ∧ size ≤ 68719476736) (h2 : 1 ≤ slide) (h0 : 0 ≤ since) (h1 : since < 68719476736) (hc : ((c : Int) - 1) * slide ≤ size - 1 - since) (hi : i < c) : spanAt size slide t since c i = ⟨t - since - ((c : Int) - 1 - (i : Int)) * slide, t - since - ((c : Int) - 1 - (i : Int)) * slide + size⟩ := by
 have hp : 0 ≤ ((c : Int) - 1 - (i : Int)) * slide ∧ ((c : Int) - 1 - (i : Int)) * slide ≤ ((c : Int) - 1) * slide := ⟨Int.mul_nonneg (by omega) (by omega), Int.mul_le_mul_of_nonneg_right (by omega) (by omega)⟩
 unfold spanAt
 unfold TimeOk at ht
 generalize ((c : Int) - 1 - (i : Int)) * slide = z at *
 generalize ((c : Int) - 1) * slide = y at *
 have e1 : wrap64 (t - since) = t - since := by unfold wrap64; omega
 have e2 : wrap64 (t - since - z) = t - since - z := by unfold wrap64; omega
 have e3 : wrap64 (t - since - z + size) = t - since - z + size := by unfold wrap64; omega
 rw [e1, e2, e3]
theorem spans_two {size slide t : Int} (hw : FitW 2 size slide) (ht : TimeOk t) : pSpans 2 size slide t = (bkS size slide (t - sinceOf slide t) (cntOf size slide (sinceOf slide t))).reverse := by
 have hs := fit_size hw
 have hcl := cnt_le (t := t) hw
 obtain ⟨_, _, _, _, ⟨_, h2, h3, _⟩ | ⟨h2, _⟩⟩ := hw
 ·obtain ⟨k1, k2⟩ := since_in (t := t) h2
  unfold pSpans
  rw [if_neg (by omega), if_neg (by omega), if_pos rfl]
  unfold rgl
  rw [if_neg (by omega)]
  generalize sinceOf slide t = since at *
  by_cases h4 : size ≤ since
  ·rw [if_pos h4]
   have : cntOf size slide since = 0 := by unfold cntOf; rw [if_pos h4]
   rw [this]; rfl
  ·rw [if_neg h4]
   have ec : countOf size slide since = cntOf size slide since := by
    unfold countOf cntOf at *
    rw [if_neg h4] at *
    rw [Int.tdiv_eq_ediv_of_nonneg (by omega)]
    omega
   have hc := (count_in (slide := slide) h2 (show since < size by omega)).2.2
   rw [ec] at hc ⊢
   generalize cntOf size slide since = c at *
   apply List.ext_getElem
   ·simp [bkS]
   ·intro i h5 h6
    simp only [List.length_map, List.length_range] at h5
    rw [List.getElem_reverse]
    simp only [bkS, List.getElem_map, List.getElem_range, List.length_map, List.length_range]
    rw [span_no_wrap ht hs h2 k1 (by omega) hc h5]
    have e : (((c - 1 - i : Nat)) : Int) = (c : Int) - 1 - (i : Int) := by omega
    rw [e]
 ·exact absurd rfl h2
theorem spans_one {size slide t : Int} (hw : FitW 1 size slide) (ht : TimeOk t) : pSpans 1 size slide t = [⟨t - sinceOf size t, t - sinceOf size t + size⟩] := by
 have hs := fit_size hw
 obtain ⟨k1, k2⟩ := since_in (t := t) hs.1
 unfold pSpans
 rw [if_neg (by omega), if_pos rfl]
 unfold rgl
 rw [if_neg (by omega), if_neg (by omega)]
 generalize sinceOf size t = since at *
 have e : countOf size size since = 1 := by
  unfold countOf
  rw [Int.tdiv_eq_ediv_of_nonneg (by omega), Int.ediv_eq_zero_of_lt (by omega) (by omega)]
  rfl
 rw [e]
 show [spanAt size size t since 1 0] = _
 rw [span_no_wrap ht hs hs.1 k1 (by omega) (by omega) (by omega)]
 have e2 : (((1 : Nat) : Int) - 1 - ((0 : Nat) : Int)) * size = 0 := by omega
 rw [e2, Int.sub_zero]
theorem spans_three {size slide t : Int} (hw : FitW 3 size slide) (ht : TimeOk t) : pSpans 3 size slide t = [⟨t, t + size⟩] := by
 have hs := fit_size hw
 unfold pSpans TimeOk at *
 rw [if_neg (by omega), if_neg (by omega), if_neg (by omega), if_pos rfl]
 have e : wrap64 (t + size) = t + size := by unfold wrap64; omega
 rw [e]
def Bd (p : Pn) : Prop := -1152921504606846976 ≤ p.f ∧ p.f ≤ 1152921504606846976 ∧ -1152921504606846976 ≤ p.t ∧ p.t ≤ 1152921504606846976
theorem spans_bd {k size slide t : Int} (hw : FitW k size slide) (ht : TimeOk t) : ∀ s ∈ pSpans k size slide t, -1152921504606846976 ≤ s.f ∧ s.f ≤ 1152921504606846976 ∧ -1152921504606846976 ≤ s.t ∧ s.t ≤ 1152921504606846976 := by
 have hs := fit_size hw
 have hk : k = 1 ∨ k = 2 ∨ k = 3 := by obtain ⟨h1, h2, _⟩ := hw; omega
 have ht2 := ht
 unfold TimeOk at ht2
 rcases hk with rfl | rfl | rfl
 ·rw [spans_one hw ht]
  obtain ⟨h1, h2⟩ := since_in (t := t) hs.1
  intro s h
  obtain rfl := List.mem_singleton.1 h
  dsimp only
  omega
 ·rw [spans_two hw ht]
  have h2 : 1 ≤ slide ∧ slide ≤ 68719476736 := by obtain ⟨_, _, _, _, ⟨_, h2, h3, _⟩ | ⟨h2, _⟩⟩ := hw; exact ⟨h2, h3⟩; exact absurd rfl h2
  obtain ⟨h3, h4⟩ := since_in (t := t) h2.1
  intro s h
  rw [List.mem_reverse] at h
  unfold bkS at h
  obtain ⟨i, hi, rfl⟩ := List.mem_map.1 h
  have h5 := (cnt_iff (size := size) (since := sinceOf slide t) h2.1 i).1 (List.mem_range.1 hi)
  have h6 : 0 ≤ (i : Int) * slide := Int.mul_nonneg (by omega) (by omega)
  dsimp only
  generalize (i : Int) * slide = z at *
  omega
 ·rw [spans_three hw ht]
  intro s h
  obtain rfl := List.mem_singleton.1 h
  dsimp only
  omega
theorem spans_full {k size slide : Int} {t : Int} (hw : FitW k size slide) (ht : TimeOk t) (hs : sess k = true) : ∀ s ∈ pSpans k size slide t, s.f < s.t := by
 have h3 : k = 3 := of_decide_eq_true hs
 obtain ⟨_, _, h1, h2, _⟩ := hw
 subst h3
 unfold pSpans TimeOk at *
 rw [if_neg (by omega), if_neg (by omega), if_neg (by omega), if_pos rfl]
 intro s h
 obtain rfl := List.mem_singleton.1 h
 show t < wrap64 (t + size)
 unfold wrap64; omega
theorem sps_fit {k size slide a t : Int} (hw : FitS k size slide a) (ht : TimeOk t) : ∀ sp ∈ sps k size slide t, In64 sp.f ∧ In64 sp.t ∧ (k = 3 → sp.f < sp.t) := by
 intro sp hsp
 obtain ⟨_, _, ⟨rfl, rfl, rfl⟩ | hw⟩ := hw
 ·unfold sps at hsp
  rw [if_pos rfl, List.mem_singleton] at hsp
  subst hsp
  unfold In64
  exact ⟨by dsimp only; omega, by dsimp only; omega, fun e => by cases e⟩
 ·have hk0 : k ≠ 0 := by obtain ⟨h1, _⟩ := hw; omega
  unfold sps at hsp
  rw [if_neg hk0] at hsp
  have h1 := spans_bd hw ht sp hsp
  unfold In64
  exact ⟨by omega, by omega, fun e => spans_full hw ht (by subst e; rfl) sp hsp⟩
theorem frS_len (k size slide a : Int) (r : Rc) : (frS k size slide a r).length ≤ 64 := by unfold frS; rw [List.length_map]; exact sps_len ..
def Fn (k : Int) (p : Pn) : Prop := Bd p ∧ (k = 3 → p.f < p.t)
theorem frS_fn {k size slide a : Int} (hw : FitW k size slide) {r : Rc} (ht : TimeOk r.t) : ∀ p ∈ frS k size slide a r, Fn k p := by
 intro p hp
 unfold frS at hp
 obtain ⟨sp, hsp, rfl⟩ := List.mem_map.1 hp
 have hk0 : k ≠ 0 := by obtain ⟨h1, _⟩ := hw; omega
 unfold sps at hsp
 rw [if_neg hk0] at hsp
 exact ⟨spans_bd hw ht sp hsp, fun e => spans_full hw ht (by subst e; rfl) sp hsp⟩
theorem Reds.fn {k : Int} {J : Int → Int → Int} {l m : List Pn} (h : Reds (sess k) J l m) (hl : ∀ p ∈ l, Fn k p) : ∀ p ∈ m, Fn k p :=
 Reds.keeps (P := Fn k) (fun x y _ hx hy => by
  unfold Fn Bd jp at *
  dsimp only at *
  refine ⟨by omega, fun e => ?_⟩
  have h1 := hx.2 e
  omega) h hl
end Go.Proofs.YtpcbhcdpegbfjaaGreat
