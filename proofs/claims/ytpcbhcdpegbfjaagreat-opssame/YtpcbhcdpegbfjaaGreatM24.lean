/-
  Texts in build order: SIns, SRep, SAddP.
-/
import Derived.Test.YtpcbhcdpegbfjaaGreatM23
import Derived.Lib.Overlaps
import Derived.Lib.AppendZerosOnto
import Derived.Laws.NewBlocks
/-
  slices.Insert of one span into a row of one's own.
-/
namespace Go.Proofs.YtpcbhcdpegbfjaaGreat
open Go.RowKit

theorem run_copy_sp (w : World) (ty g o dLen dCap : Nat) (a : Addr) (sLen sCap : Nat) (cur : Array Value) (cs : List Value) (hg : BoxT 72 w g cur) (m : Nat) (hm : m = Nat.min sLen dLen) (hn : cs.length = m * 2)
    (hsrc : ∀ j v, cs[j]? = some v → w.cell? (a.add j) = some v) (hfit : o + cs.length ≤ cur.size) (h1 : ∀ v ∈ cs, v.oneCell' = true) :
    (Builtin.copy_ #[74, 74] ty #[.slice (some ⟨g, o, none⟩) dLen dCap, .slice (some a) sLen sCap]).run Tryz.prog w = .ok (goInt m) (w.setCells g o cs) := by
  have hl := run_loadCells_list (P := Tryz.prog) w a cs hsrc
  have hst := run_storeCells_cells (P := Tryz.prog) g o cs 0 w (fun j hj => by rw [hg.cellAt, Array.getElem?_eq_getElem (by omega)]; rfl) (fun j _ => hg.free _) h1
  obtain ⟨i0, hi, _, hz1, _⟩ := info_parts Tryz.infoSp
  rw [hn] at hl
  simp [Builtin.copy_, run_underlying Tryz.underlying74, Builtin.lenOf, Builtin.firstCells, sizeOf, typeInfo, hi, hz1, ← hm, hl, hst]
theorem Tryz.sizeSp (w : World) : (Go.sizeOf 72).run Tryz.prog w = .ok 2 w := by
  obtain ⟨i0, hi, _, hz1, _⟩ := info_parts Tryz.infoSp
  simp [sizeOf, typeInfo, hi, hz1]
theorem run_overlaps_sp (w : World) {ga gb oa ob la ca lb cb : Nat} {cu cv : Array Value} (hne : ga ≠ gb) (ha : BoxT 72 w ga cu) (hb : BoxT 72 w gb cv) (hk : cv.size ≠ 0) : (callFunc 151 #[.slice (some ⟨ga, oa, none⟩) la ca, .slice (some ⟨gb, ob, none⟩) lb cb]).run Tryz.prog w = .ok (.value (.bool false)) w := by
  have hsa : w.shape? ga = some (72, cu.size) := by unfold BoxT at ha; simp [World.shape?, ha]
  have hsb : w.shape? gb = some (72, cv.size) := by unfold BoxT at hb; simp [World.shape?, hb]
  have h := Lib.run_overlaps_apart (P := Tryz.prog) w 74 4 72 Tryz.underlying74 2 Tryz.sizeSp ⟨ga, oa, none⟩ ⟨gb, ob, none⟩ la ca lb cb hne _ _ _ _ hsa hsb hk (ha.free _) (ha.free _)
  rw [run_callFunc_extern Tryz.func151 (by kernel_rfl) (by kernel_rfl) (by kernel_rfl) (e := Extern.SlicesOverlaps.overlaps #[74, 74] #[4]) (by kernel_rfl), h]
  rfl
theorem new2 (W : World) {n : Nat} (x : Sp) (h : BoxT 72 W n #[.int .i64 x.f, .int .i64 x.t]) (j : Nat) (u : Value) (hu : (Sp.cs x)[j]? = some u) : W.cell? ((⟨n, 0, none⟩ : Addr).add j) = some u := by
  rw [add_plain2, h.cellAt, Nat.zero_add]
  have hl := lt_of_get hu
  rw [Sp.cs_len] at hl
  match j, hu with
  | 0, hu | 1, hu => simp [Sp.cs] at hu; subst hu; rfl
set_option maxHeartbeats 4000000 in
set_option maxRecDepth 100000 in
theorem insert_end {w : World} {base : Nat} {s : Value} {l : List Sp} (ho : OwnL 72 2 Sp.cs base w s l) (hn : l.length ≤ 100000) (hbase : base ≤ w.heap.size) {gv : Nat} {x : Sp} (hv : BoxT 72 w gv #[.int .i64 x.f, .int .i64 x.t]) :
    Calls Tryz.prog 150 #[s, .int .i64 (l.length : Int), .slice (some ⟨gv, 0, none⟩) 1 1] w fun e w' => ∃ u, e = .returned u ∧ OwnL 72 2 Sp.cs base w' u (l ++ [x]) ∧ w.grownBy w' s.ownBlock ∧ (∀ g, u.ownBlock = some g → s.ownBlock = some g ∨ w.heap.size ≤ g) := by
  have HO := hide ho
  obtain ⟨ao, cap, rfl⟩ := ho.shape
  have hcap : l.length ≤ cap := by
    rcases ho.2 with ⟨e, h0⟩ | ⟨g, c, cur, e, _, _, h, _⟩
    · have := congrArg (fun v => match v with | Value.slice _ n _ => n | _ => 0) e; simp at this; omega
    · simp at e; omega
  have HN := hide (new2 w x hv)
  clear ho hv
  rcases Nat.lt_or_ge l.length cap with hc | hc
  · have bc : (l.length : Int) ≤ (cap : Int) := by omega
    have hne : ¬ cap = l.length := by omega
    go_enter Tryz.func150, Tryz.ntmps150
    go_wp2_with (first | (at_builtin; refine app_L Tryz.infoSp Tryz.underlying74 rfl (by decide) (by decide) Sp.cs_len Sp.cs_one rfl _ _ rfl base _ l rfl HO.out _ _ x rfl HN.out (by omega) hbase ?_; intro v5 w5 h5 g5 k5) | fail)
    go_ret
    exact ⟨_, rfl, h5, g5, k5⟩
  · obtain rfl : cap = l.length := by omega
    clear hc hcap
    go_enter Tryz.func150, Tryz.ntmps150
    go_wp2_with (first | (at_builtin; refine app_L Tryz.infoSp Tryz.underlying74 rfl (by decide) (by decide) Sp.cs_len Sp.cs_one rfl _ _ rfl base _ l rfl HO.out _ _ x rfl HN.out (by omega) hbase ?_; intro v5 w5 h5 g5 k5) | fail)
    go_ret
    exact ⟨_, rfl, h5, g5, k5⟩
theorem wp_copy_run {P : Program} {w : World} {ops : Array Oper} {rest : List Oper} {o : Oper} {a : Act} {Q : Exit → Act → World → Prop} (hgd : o.guard = none) (d s : Operand) (dT sT : TypeId)
    (ho : o.op = .call { callee := .builtin .copy, args := #[d, s], argTypes := #[dT, sT] }) (vd vs : Value) (hd : a.eval d = vd) (hs : a.eval s = vs) {r : Value} {w' : World} (hrun : (Builtin.copy_ #[dT, sT] o.type #[vd, vs]).run P w = .ok r w')
    (h : wpList P ops Q rest (a.put o.dst r) w') : wpList P ops Q (o :: rest) a w := by
  refine wpList_plain hgd fun K hK => ?_
  unfold Oper.wp
  simp [execOp, ho, resolve, invoke, builtin, hd, hs, hrun, Result.andThen]
  exact hK _ _ h
theorem step_copy_run {P : Program} {w : World} {ops : Array Oper} {o : Oper} {a : Act} {K : Act → World → Prop} {Q : Exit → Act → World → Prop} {E : Prop} (hgd : o.guard = none) (d s : Operand) (dT sT : TypeId)
    (ho : o.op = .call { callee := .builtin .copy, args := #[d, s], argTypes := #[dT, sT] }) (vd vs : Value) (hd : a.eval d = vd) (hs : a.eval s = vs) {r : Value} {w' : World} (hrun : (Builtin.copy_ #[dT, sT] o.type #[vd, vs]).run P w = .ok r w')
    (h : K (a.put o.dst r) w') : if Region.wanted o (yielded ops a.tmps) = true then Oper.wp P o a w K Q else E := by
  have hw : Region.wanted o (yielded ops a.tmps) = true := by simp [Region.wanted, hgd]
  rw [if_pos hw]
  unfold Oper.wp
  simp [execOp, ho, resolve, invoke, builtin, hd, hs, hrun, Result.andThen]
  exact h
theorem wp_append_run {P : Program} {w : World} {ops : Array Oper} {rest : List Oper} {o : Oper} {a : Act} {Q : Exit → Act → World → Prop} (hgd : o.guard = none) (d s : Operand) (dT sT : TypeId)
    (ho : o.op = .call { callee := .builtin .append, args := #[d, s], argTypes := #[dT, sT] }) (vd vs : Value) (hd : a.eval d = vd) (hs : a.eval s = vs) {r : Value} {w' : World} (hrun : (Builtin.append_ #[dT, sT] o.type #[vd, vs]).run P w = .ok r w')
    (h : wpList P ops Q rest (a.put o.dst r) w') : wpList P ops Q (o :: rest) a w := by
  refine wpList_plain hgd fun K hK => ?_
  unfold Oper.wp
  simp [execOp, ho, resolve, invoke, builtin, hd, hs, hrun, Result.andThen]
  exact hK _ _ h
theorem own_of_box {base : Nat} {w : World} {g cap n : Nat} {cur : Array Value} {L : List Sp} (hb : BoxT 72 w g cur) (hbase : base ≤ g) (hs : cur.size = cap * 2) (hnL : n = L.length) (hn : L.length ≤ cap) (hcap : cap ≤ maxLen) (hc : ∀ a x, L[a]? = some x → ∀ q u, (Sp.cs x)[q]? = some u → cur[a * 2 + q]? = some u) :
    OwnL 72 2 Sp.cs base w (.slice (some ⟨g, 0, none⟩) n cap) L := by
  subst hnL
  refine ⟨by rw [flat_size Sp.cs_len], .inr ⟨g, cap, cur, rfl, hbase, hb, hn, hcap, hs, ?_⟩⟩
  apply List.ext_getElem?
  intro a
  rw [List.getElem?_take]
  by_cases ha : a < L.length * 2
  · rw [if_pos ha, Array.getElem?_toList]
    obtain ⟨x, hx⟩ := get_of_lt (show a / 2 < L.length by omega)
    have hm2 : a % 2 < x.cs.length := by rw [Sp.cs_len]; omega
    obtain ⟨u, hu⟩ := get_of_lt hm2
    have h1 := flat_get Sp.cs_len L (a / 2) (a % 2) x u hx hu
    have h2 := hc (a / 2) x hx (a % 2) u hu
    rw [show a / 2 * 2 + a % 2 = a by omega] at h1 h2
    rw [h1, h2]
  · rw [if_neg ha, List.getElem?_eq_none (by rw [flat_size Sp.cs_len]; omega)]
theorem own_cells {base : Nat} {w : World} {g n cap : Nat} {l : List Sp} (h : OwnL 72 2 Sp.cs base w (.slice (some ⟨g, 0, none⟩) n cap) l) : ∃ cur, n = l.length ∧ base ≤ g ∧ BoxT 72 w g cur ∧ l.length ≤ cap ∧ cap ≤ maxLen ∧ cur.size = cap * 2 ∧ ∀ a x, l[a]? = some x → ∀ q u, (Sp.cs x)[q]? = some u → cur[a * 2 + q]? = some u := by
  rcases h.2 with ⟨e, _⟩ | ⟨g', c, cur, e, h1, h2, h3, h4, h5, h6⟩
  · cases e
  · simp only [Value.slice.injEq, Option.some.injEq, Addr.mk.injEq, and_true] at e
    obtain ⟨rfl, e2, rfl⟩ := e
    refine ⟨cur, e2, h1, h2, h3, h4, h5, fun a x hx q u hu => ?_⟩
    have h7 := flat_get Sp.cs_len l a q x u hx hu
    rw [← h6, List.getElem?_take] at h7
    split at h7
    · simpa using h7
    · cases h7
theorem ins_get {l : List Sp} {i j : Nat} (hij : i ≤ j) (hjl : j ≤ l.length) {x y : Sp} {a : Nat} (h : (l.take i ++ x :: l.drop j)[a]? = some y) : (a < i ∧ l[a]? = some y) ∨ (a = i ∧ y = x) ∨ (i < a ∧ l[j + (a - i - 1)]? = some y) := by
  have hl : (l.take i).length = i := by rw [List.length_take]; omega
  by_cases h1 : a < i
  · rw [List.getElem?_append_left (by omega), List.getElem?_take, if_pos h1] at h
    exact .inl ⟨h1, h⟩
  · rw [List.getElem?_append_right (by omega), hl] at h
    by_cases h2 : a = i
    · subst h2
      simp at h
      exact .inr (.inl ⟨rfl, h.symm⟩)
    · obtain ⟨k, rfl⟩ : ∃ k, a = i + (k + 1) := ⟨a - i - 1, by omega⟩
      rw [show i + (k + 1) - i = k + 1 by omega, List.getElem?_cons_succ, List.getElem?_drop] at h
      exact .inr (.inr ⟨by omega, by rw [show i + (k + 1) - i - 1 = k by omega]; exact h⟩)
theorem drop_flat {l : List Sp} {j : Nat} {cur : Array Value} (hc : ∀ a x, l[a]? = some x → ∀ q u, (Sp.cs x)[q]? = some u → cur[a * 2 + q]? = some u) (b : Nat) (v : Value) (h : ((l.drop j).flatMap Sp.cs)[b]? = some v) : cur[j * 2 + b]? = some v := by
  have hlt := lt_of_get h
  rw [flat_size Sp.cs_len] at hlt
  obtain ⟨x, hx⟩ := get_of_lt (show b / 2 < (l.drop j).length by omega)
  have hm2 : b % 2 < x.cs.length := by rw [Sp.cs_len]; omega
  obtain ⟨u, hu⟩ := get_of_lt hm2
  have h1 := flat_get Sp.cs_len (l.drop j) (b / 2) (b % 2) x u hx hu
  rw [show b / 2 * 2 + b % 2 = b by omega, h] at h1
  cases h1
  rw [List.getElem?_drop] at hx
  have h2 := hc (j + b / 2) x hx (b % 2) v hu
  rw [show (j + b / 2) * 2 + b % 2 = j * 2 + b by omega] at h2
  exact h2
theorem flat_one (l : List Sp) : ∀ v ∈ l.flatMap Sp.cs, v.oneCell' = true := by
  intro v hv
  obtain ⟨x, _, hx⟩ := List.mem_flatMap.1 hv
  exact Sp.cs_one x v hx
theorem ins_cells {l : List Sp} {i j : Nat} (hij : i ≤ j) (hjl : j ≤ l.length) {x : Sp} {cur cur2 : Array Value} (hc : ∀ a x, l[a]? = some x → ∀ q u, (Sp.cs x)[q]? = some u → cur[a * 2 + q]? = some u)
    (h1 : ∀ b, b < i * 2 → cur2[b]? = cur[b]?) (h2 : ∀ b u, (Sp.cs x)[b]? = some u → cur2[i * 2 + b]? = some u) (h3 : ∀ b v, ((l.drop j).flatMap Sp.cs)[b]? = some v → cur2[(i + 1) * 2 + b]? = some v) :
    ∀ a y, (l.take i ++ x :: l.drop j)[a]? = some y → ∀ q u, (Sp.cs y)[q]? = some u → cur2[a * 2 + q]? = some u := by
  intro a y hy q u hu
  have hq := lt_of_get hu
  rw [Sp.cs_len] at hq
  rcases ins_get hij hjl hy with ⟨e1, e2⟩ | ⟨rfl, rfl⟩ | ⟨e1, e2⟩
  · rw [h1 _ (by omega)]; exact hc a y e2 q u hu
  · exact h2 q u hu
  · have e3 : (l.drop j)[a - i - 1]? = some y := by rw [List.getElem?_drop]; exact e2
    have e4 := flat_get Sp.cs_len (l.drop j) (a - i - 1) q y u e3 hu
    have e5 := h3 _ _ e4
    rw [show (i + 1) * 2 + ((a - i - 1) * 2 + q) = a * 2 + q by omega] at e5
    exact e5
set_option maxHeartbeats 4000000 in
set_option maxRecDepth 100000 in
theorem insert_room {w : World} {base g cap : Nat} {l : List Sp} (ho : OwnL 72 2 Sp.cs base w (.slice (some ⟨g, 0, none⟩) l.length cap) l) (hn : l.length ≤ 100000) {gv : Nat} {x : Sp} (hv : BoxT 72 w gv #[.int .i64 x.f, .int .i64 x.t]) (hgv : g ≠ gv) {i : Nat} (hi : i < l.length) (hr : l.length + 1 ≤ cap) :
    Calls Tryz.prog 150 #[.slice (some ⟨g, 0, none⟩) l.length cap, .int .i64 (i : Int), .slice (some ⟨gv, 0, none⟩) 1 1] w fun e w' => e = .returned (.slice (some ⟨g, 0, none⟩) (l.length + 1) cap) ∧ OwnL 72 2 Sp.cs base w' (.slice (some ⟨g, 0, none⟩) (l.length + 1) cap) (l.take i ++ x :: l.drop i) ∧ w.grownBy w' (some g) := by
  obtain ⟨cur, _, hbg, hb, hlc, hcm, hsz, hc⟩ := own_cells ho
  have hl1 : ((l.drop i).flatMap Sp.cs).length = (l.length - i) * 2 := by rw [flat_size Sp.cs_len, List.length_drop]
  have hov : (callFunc 151 #[.slice (some ⟨gv, 0, none⟩) 1 1, .slice (some ⟨g, (i + 1) * 2, none⟩) (l.length - i) (cap - (i + 1))]).run Tryz.prog w = .ok (.value (.bool false)) w := run_overlaps_sp w (fun e => hgv e.symm) hv hb (by omega)
  have hcp1 : ∀ ty dc sc, (Builtin.copy_ #[74, 74] ty #[.slice (some ⟨g, (i + 1) * 2, none⟩) (l.length - i) dc, .slice (some ⟨g, i * 2, none⟩) (l.length + 1 - i) sc]).run Tryz.prog w.drew = .ok (goInt (l.length - i : Nat)) (w.drew.setCells g ((i + 1) * 2) ((l.drop i).flatMap Sp.cs)) := fun ty dc sc =>
    run_copy_sp w.drew ty g ((i + 1) * 2) (l.length - i) dc ⟨g, i * 2, none⟩ (l.length + 1 - i) sc cur _ hb.drew (l.length - i) (by simp only [Nat.min_def]; split <;> omega) hl1
      (fun j v hj => by rw [add_plain2, hb.drew.cellAt]; exact drop_flat hc j v hj) (by rw [hl1, hsz]; omega) (flat_one _)
  have hb1 := hb.drew.setCells (j := (i + 1) * 2) ((l.drop i).flatMap Sp.cs)
  have hg1 := grown_setCells g ((l.drop i).flatMap Sp.cs) w.drew ((i + 1) * 2)
  have hv1 : BoxT 72 (w.drew.setCells g ((i + 1) * 2) ((l.drop i).flatMap Sp.cs)) gv #[.int .i64 x.f, .int .i64 x.t] := hv.drew.grown hg1 (fun e => hgv e.symm)
  obtain ⟨W1, hW1⟩ : ∃ W1, W1 = w.drew.setCells g ((i + 1) * 2) ((l.drop i).flatMap Sp.cs) := ⟨_, rfl⟩
  rw [← hW1] at hcp1 hb1 hg1 hv1
  have hcp2 : ∀ ty dc, (Builtin.copy_ #[74, 74] ty #[.slice (some ⟨g, i * 2, none⟩) (l.length + 1 - i) dc, .slice (some ⟨gv, 0, none⟩) 1 1]).run Tryz.prog W1 = .ok (goInt 1) (W1.setCells g (i * 2) (Sp.cs x)) := fun ty dc =>
    run_copy_sp W1 ty g (i * 2) (l.length + 1 - i) dc ⟨gv, 0, none⟩ 1 1 _ _ hb1 1 (by simp only [Nat.min_def]; split <;> omega) (Sp.cs_len x) (new2 W1 x hv1) (by rw [setL_size, Sp.cs_len, hsz]; omega) (Sp.cs_one x)
  have HB2 := hide (hb1.setCells (j := i * 2) (Sp.cs x))
  have HG2 := hide (grownBy_trans (show w.grownBy W1 (some g) from ⟨hg1.os, hg1.tape, hg1.output, hg1.size, hg1.block⟩) (grown_setCells g (Sp.cs x) W1 (i * 2)))
  have HC := hide hc
  have HS := hide hsz
  have HL1 := hide hl1
  clear hb1 hg1 hv1 hv hc ho hl1 hb hsz
  generalize hn' : l.length = n at *
  have z1 : ¬ ((i : Int) = (n : Int)) := by omega
  have z2 : ¬ ((cap : Int) < (n : Int) + 1) := by omega
  have z3 : (i : Int) ≤ (n : Int) := by omega
  have z4 : (n : Int) + 1 ≤ (cap : Int) := by omega
  have z5 : ((n : Int) + 1).toNat = n + 1 := by omega
  have z6 : (0 : Int) ≤ (i : Int) + 1 := by omega
  have z7 : ((i : Int) + 1).toNat = i + 1 := by omega
  have z8 : ¬ (cap = i + 1) := by omega
  have z9 : ¬ (cap = i) := by omega
  have z10 : (i : Int) + 1 ≤ (n : Int) + 1 := by omega
  have z11 : (i : Int) ≤ (n : Int) + 1 := by omega
  have z12 : n + 1 - (i + 1) = n - i := by omega
  have z13 : (n : Int) ≤ (cap : Int) := by omega
  have zw : IntKind.i64.wrap ((i : Int) + 1) = (i : Int) + 1 := by rw [IntKind.wrap_i64]; omega
  have HLN := hide hn'
  clear hn'
  clear hW1
  go_enter Tryz.func150, Tryz.ntmps150
  go_wp2_with (first | simp only [hov] | fail)
  refine wp_region_M (S := fun _ => True) (late := []) (by kernel_rfl) trivial (fun hHeld => ?_)
  (try simp only [List.size_toArray, List.length_cons, List.length_nil, Nat.zero_add, Nat.reduceAdd, Array.replicate, List.replicate])
  refine wpAnyM_take (i := 0) (oi := ⟨_, _, _, _, _, _⟩) (v := ?_) rfl (by kernel_rfl) (by kernel_rfl) (by kernel_rfl) (by kernel_rfl) (fun _ _ _ h => h) (Or.inl ⟨by rfl, ?_⟩) hHeld ?_
  rotate_left
  · (intro w' hSw; (try dsimp only at hSw); go_simp; try (with_reducible rfl))
  (try simp only [Act.put, List.setIfInBounds_toArray, List.set_cons_zero, List.set_cons_succ])
  refine wpAnyM_take (i := 1) (oi := ⟨_, _, _, _, _, _⟩) (v := ?_) rfl (by kernel_rfl) (by kernel_rfl) (by kernel_rfl) (by kernel_rfl) (fun _ _ _ h => h) (Or.inl ⟨by rfl, ?_⟩) hHeld ?_
  rotate_left
  · (intro w' hSw; (try dsimp only at hSw); go_simp; try (with_reducible rfl))
  (try simp only [Act.put, List.setIfInBounds_toArray, List.set_cons_zero, List.set_cons_succ])
  refine wpAnyM_take (i := 2) (oi := ⟨_, _, _, _, _, _⟩) (v := ?_) rfl (by kernel_rfl) (by kernel_rfl) (by kernel_rfl) (by kernel_rfl) (fun _ _ _ h => h) (Or.inl ⟨by rfl, ?_⟩) hHeld ?_
  rotate_left
  · (intro w' hSw; (try dsimp only at hSw); go_simp; try (with_reducible rfl))
  (try simp only [Act.put, List.setIfInBounds_toArray, List.set_cons_zero, List.set_cons_succ])
  refine wpAnyM_take (i := 3) (oi := ⟨_, _, _, _, _, _⟩) (v := ?_) rfl (by kernel_rfl) (by kernel_rfl) (by kernel_rfl) (by kernel_rfl) (fun _ _ _ h => h) (Or.inl ⟨by rfl, ?_⟩) hHeld ?_
  rotate_left
  · (intro w' hSw; (try dsimp only at hSw); go_simp; try (with_reducible rfl))
  (try simp only [Act.put, List.setIfInBounds_toArray, List.set_cons_zero, List.set_cons_succ])
  refine wpAnyM_take (i := 4) (oi := ⟨_, _, _, _, _, _⟩) (v := ?_) rfl (by kernel_rfl) (by kernel_rfl) (by kernel_rfl) (by kernel_rfl) (fun _ _ _ h => h) (Or.inl ⟨by rfl, ?_⟩) hHeld ?_
  rotate_left
  · (intro w' hSw; (try dsimp only at hSw); go_simp; try (with_reducible rfl))
  (try simp only [Act.put, List.setIfInBounds_toArray, List.set_cons_zero, List.set_cons_succ])
  refine wpAnyM_take (i := 5) (oi := ⟨_, _, _, _, _, _⟩) (v := ?_) rfl (by kernel_rfl) (by kernel_rfl) (by kernel_rfl) (by kernel_rfl) (fun _ _ _ h => h) (Or.inl ⟨by rfl, ?_⟩) hHeld ?_
  rotate_left
  · (intro w' hSw; (try dsimp only at hSw); go_simp; try (with_reducible rfl))
  (try simp only [Act.put, List.setIfInBounds_toArray, List.set_cons_zero, List.set_cons_succ])
  refine wpAnyM_take (i := 6) (oi := ⟨_, _, _, _, _, _⟩) (v := ?_) rfl (by kernel_rfl) (by kernel_rfl) (by kernel_rfl) (by kernel_rfl) (fun _ _ _ h => h) (Or.inl ⟨by rfl, ?_⟩) hHeld ?_
  rotate_left
  · (intro w' hSw; (try dsimp only at hSw); go_simp; try (with_reducible rfl))
  (try simp only [Act.put, List.setIfInBounds_toArray, List.set_cons_zero, List.set_cons_succ])
  refine wpAnyM_take (i := 7) (oi := ⟨_, _, _, _, _, _⟩) (v := ?_) rfl (by kernel_rfl) (by kernel_rfl) (by kernel_rfl) (by kernel_rfl) (fun _ _ _ h => h) (Or.inl ⟨by rfl, ?_⟩) hHeld ?_
  rotate_left
  · (intro w' hSw; (try dsimp only at hSw); go_simp; try (with_reducible rfl))
  (try simp only [Act.put, List.setIfInBounds_toArray, List.set_cons_zero, List.set_cons_succ])
  refine wpAnyM_one (i := 8) (o := ⟨_, _, _, _, _, _⟩) (by kernel_rfl) rfl (fun K hK => ?_)
  refine step_copy_run rfl _ _ 74 74 rfl _ _ rfl rfl (hcp1 _ _ _) ?_
  refine hK.out _ _ trivial (fun hHeld => ?_)
  clear hK K
  (try simp only [List.setIfInBounds_toArray, List.set_cons_zero, List.set_cons_succ])
  refine wpAnyM_done (by kernel_rfl) ?_ _
  go_wp2_with (first | (at_builtin; refine wp_copy_run rfl _ _ 74 74 rfl _ _ rfl rfl (hcp2 _ _) ?_) | fail)
  go_ret
  refine ⟨rfl, ?_, HG2.out⟩
  refine own_of_box HB2.out hbg (by rw [setL_size, setL_size]; exact HS.out) ?_ ?_ hcm (ins_cells (Nat.le_refl i) (by rw [HLN.out]; omega) HC.out ?_ ?_ ?_)
  · simp [HLN.out]; omega
  · simp [HLN.out]; omega
  · intro b hb
    rw [setL_out _ _ _ _ (.inl hb), setL_out _ _ _ _ (.inl (by omega))]
  · intro b u hu
    exact setL_in _ _ _ _ _ (by rw [setL_size, Sp.cs_len, HS.out]; omega) hu
  · intro b v hv
    rw [setL_out _ _ _ _ (.inr (by rw [Sp.cs_len]; omega))]
    exact setL_in _ _ _ _ _ (by rw [HL1.out, HS.out]; omega) hv
set_option maxHeartbeats 4000000 in
set_option maxRecDepth 100000 in
theorem insert_grow {w : World} {base g cap : Nat} {l : List Sp} (ho : OwnL 72 2 Sp.cs base w (.slice (some ⟨g, 0, none⟩) l.length cap) l) (hn : l.length ≤ 100000) (hbase : base ≤ w.heap.size) {gv : Nat} {x : Sp} (hv : BoxT 72 w gv #[.int .i64 x.f, .int .i64 x.t]) {i : Nat} (hi : i < l.length) (hr : ¬ l.length + 1 ≤ cap) :
    Calls Tryz.prog 150 #[.slice (some ⟨g, 0, none⟩) l.length cap, .int .i64 (i : Int), .slice (some ⟨gv, 0, none⟩) 1 1] w fun e w' => ∃ u, e = .returned u ∧ OwnL 72 2 Sp.cs base w' u (l.take i ++ x :: l.drop i) ∧ w.grownBy w' none ∧ u.ownBlock = some w.heap.size := by
  obtain ⟨cur, _, hbg, hb, hlc, hcm, hsz, hc⟩ := own_cells ho
  have hl1 : ((l.drop i).flatMap Sp.cs).length = (l.length - i) * 2 := by rw [flat_size Sp.cs_len, List.length_drop]
  have hl0 : ((l.take i).flatMap Sp.cs).length = i * 2 := by rw [flat_size Sp.cs_len, List.length_take]; omega
  obtain ⟨i0, hi0, hz0, hzs, hzb⟩ := info_parts Tryz.infoSp
  have hcap : cap = l.length := by omega
  subst hcap
  have htk : ∀ (j : Nat) (v : Value), ((l.take i).flatMap Sp.cs)[j]? = some v → cur[j]? = some v := fun j v hj => by
    have e : (l.take i).flatMap Sp.cs ++ (l.drop i).flatMap Sp.cs = l.flatMap Sp.cs := by rw [← List.flatMap_append, List.take_append_drop]
    have h2 : (l.flatMap Sp.cs)[j]? = some v := by rw [← e, List.getElem?_append_left (lt_of_get hj)]; exact hj
    have h3 := drop_flat (j := 0) hc j v (by simpa using h2)
    simpa using h3
  have hold : (Builtin.firstCells i0.size i (.slice (some ⟨g, 0, none⟩) i l.length)).run Tryz.prog w.drew = .ok ((l.take i).flatMap Sp.cs).toArray w.drew := by
    rw [hzs]
    exact run_firstCells_some w.drew 2 i ⟨g, 0, none⟩ i l.length ((l.take i).flatMap Sp.cs) hl0 (fun j v hj => by
      rw [add_plain2, hb.drew.cellAt, Nat.zero_add]; exact htk j v hj)
  have hfit : Builtin.nextslicecap (i + (l.length + 1 - i)) l.length * i0.bytes ≤ 281474976710656 := by
    rw [show i + (l.length + 1 - i) = l.length + 1 by omega, hzb]
    exact growslice_fits (by omega) (by omega)
  obtain ⟨G, hG⟩ : ∃ G, G = grownCap w (l.length + 1) l.length 72 := ⟨_, rfl⟩
  obtain ⟨ROW, hROW⟩ : ∃ ROW : Array Value, ROW = ((l.take i).flatMap Sp.cs).toArray ++ Builtin.zeroCells (Value.agg #[.int .i64 0, .int .i64 0]).cells (l.length + 1 - i) ++ Builtin.zeroCells (Value.agg #[.int .i64 0, .int .i64 0]).cells (G - (l.length + 1)) := ⟨_, rfl⟩
  have hGn : l.length + 1 ≤ G := by rw [hG]; exact grownCap_ge w _ _ _
  have hG63 : G ≤ maxLen := by rw [hG]; exact grownCap_le_maxLen w _ _ _ (by unfold maxLen; omega)
  have hrz : ∀ ty, (Builtin.append_ #[74, 3] ty #[.slice (some ⟨g, 0, none⟩) i l.length, .int .i64 ((l.length : Int) + 1 - (i : Int))]).run Tryz.prog w = .ok (.slice (some ⟨w.heap.size, 0, none⟩) (l.length + 1) G) (w.drew.alloc (.cells ROW 72)) := fun ty => by
    have h := Lib.run_append_grow_zeros w 74 3 ty 72 i0 _ .i64 .i64 Tryz.underlying74 Tryz.underlying3 hi0 hz0 (some ⟨g, 0, none⟩) i l.length ((l.take i).flatMap Sp.cs) hold (l.length + 1 - i) (by omega) (by omega) (by omega) (by omega) (by rw [hzb]; omega) hfit
    rw [show i + (l.length + 1 - i) = l.length + 1 by omega, ← hG, ← hROW] at h
    rw [show (l.length : Int) + 1 - (i : Int) = ((l.length + 1 - i : Nat) : Int) by omega]
    exact h
  have hRs : ROW.size = G * 2 := by
    rw [hROW]
    simp [Builtin.zeroCells, Value.cells, hl0]
    omega
  have hRt : ∀ b : Nat, b < i * 2 → ROW[b]? = cur[b]? := fun b hb' => by
    obtain ⟨v, hv'⟩ := get_of_lt (show b < ((l.take i).flatMap Sp.cs).length by omega)
    rw [htk b v hv', hROW, Array.append_assoc, Array.getElem?_append_left (by simpa [hl0] using hb')]
    simpa using hv'
  have hne : g ≠ w.heap.size := fun e => by have := hb.lt; omega
  have hcpA : ∀ (W : World), BoxT 72 W w.heap.size ROW → BoxT 72 W gv #[.int .i64 x.f, .int .i64 x.t] → ∀ ty dc, (Builtin.copy_ #[74, 74] ty #[.slice (some ⟨w.heap.size, i * 2, none⟩) (l.length + 1 - i) dc, .slice (some ⟨gv, 0, none⟩) 1 1]).run Tryz.prog W = .ok (goInt 1) (W.setCells w.heap.size (i * 2) (Sp.cs x)) := fun W h1 h2 ty dc =>
    run_copy_sp W ty w.heap.size (i * 2) (l.length + 1 - i) dc ⟨gv, 0, none⟩ 1 1 _ _ h1 1 (by simp only [Nat.min_def]; split <;> omega) (Sp.cs_len x) (new2 W x h2) (by rw [hRs, Sp.cs_len]; omega) (Sp.cs_one x)
  have hcpB : ∀ (W : World), BoxT 72 W w.heap.size (setL ROW (i * 2) (Sp.cs x)) → BoxT 72 W g cur → ∀ ty dc sc, (Builtin.copy_ #[74, 74] ty #[.slice (some ⟨w.heap.size, (i + 1) * 2, none⟩) (l.length - i) dc, .slice (some ⟨g, i * 2, none⟩) (l.length - i) sc]).run Tryz.prog W = .ok (goInt (l.length - i : Nat)) (W.setCells w.heap.size ((i + 1) * 2) ((l.drop i).flatMap Sp.cs)) := fun W h1 h2 ty dc sc =>
    run_copy_sp W ty w.heap.size ((i + 1) * 2) (l.length - i) dc ⟨g, i * 2, none⟩ (l.length - i) sc _ _ h1 (l.length - i) (by simp only [Nat.min_def]; split <;> omega) hl1
      (fun j v hj => by rw [add_plain2, h2.cellAt]; exact drop_flat hc j v hj) (by rw [hl1, setL_size, hRs]; omega) (flat_one _)
  have hgv' : gv ≠ w.heap.size := fun e => by have := hv.lt; omega
  have HA := hide hcpA
  have HB := hide hcpB
  have HW1 : Hid (BoxT 72 (w.alloc (.cells ROW 72)).drew w.heap.size ROW) := BoxT.new_at (t := 72) (w := w) rfl
  have HW2 : Hid (BoxT 72 (w.alloc (.cells ROW 72)).drew gv #[.int .i64 x.f, .int .i64 x.t]) := BoxT.alloc (t := 72) hv _
  have HW3 : Hid (BoxT 72 (w.alloc (.cells ROW 72)).drew g cur) := BoxT.alloc (t := 72) hb _
  have HC := hide hc
  have HRS := hide hRs
  have HRT := hide hRt
  have HL1 := hide hl1
  clear hb hc hv ho hl0 hl1 htk hold hfit hG hROW hRs hRt hcpA hcpB hi0 hz0 hzs hzb
  generalize hn' : l.length = n at *
  have z1 : ¬ ((i : Int) = (n : Int)) := by omega
  have z2 : (n : Int) < (n : Int) + 1 := by omega
  have z3 : (i : Int) ≤ (n : Int) := by omega
  have z6 : (0 : Int) ≤ (i : Int) + 1 := by omega
  have z7 : ((i : Int) + 1).toNat = i + 1 := by omega
  have z8 : ¬ (G = i + 1) := by omega
  have z9 : ¬ (G = i) := by omega
  have z10 : (i : Int) + 1 ≤ (n : Int) + 1 := by omega
  have z11 : (i : Int) ≤ (n : Int) + 1 := by omega
  have z12 : n + 1 - (i + 1) = n - i := by omega
  have z14 : ¬ (n = i) := by omega
  have zw : IntKind.i64.wrap ((i : Int) + 1) = (i : Int) + 1 := by rw [IntKind.wrap_i64]; omega
  have HLN := hide hn'
  clear hn'
  go_enter Tryz.func150, Tryz.ntmps150
  have hcpa := HA.out _ HW1.out HW2.out
  go_wp2_with (first | (at_builtin; refine wp_append_run rfl _ _ 74 3 rfl _ _ rfl rfl (hrz _) ?_) | fail)
  have hb1 := HW1.out.setCells (j := i * 2) (Sp.cs x)
  have hg1 := grown_setCells w.heap.size (Sp.cs x) (w.alloc (.cells ROW 72)).drew (i * 2)
  have hg3 := HW3.out.grown hg1 hne
  have hcp := HB.out _ hb1.drew hg3.drew
  have HG1 := hide hg1
  have HB1 := hide hb1
  clear hb1 hg1 hg3
  refine wp_region_M (S := fun _ => True) (late := []) (by kernel_rfl) trivial (fun hHeld => ?_)
  (try simp only [List.size_toArray, List.length_cons, List.length_nil, Nat.zero_add, Nat.reduceAdd, Array.replicate, List.replicate])
  refine wpAnyM_take (i := 0) (oi := ⟨_, _, _, _, _, _⟩) (v := ?_) rfl (by kernel_rfl) (by kernel_rfl) (by kernel_rfl) (by kernel_rfl) (fun _ _ _ h => h) (Or.inl ⟨by rfl, ?_⟩) hHeld ?_
  rotate_left
  · (intro w' hSw; (try dsimp only at hSw); go_simp; try (with_reducible rfl))
  (try simp only [Act.put, List.setIfInBounds_toArray, List.set_cons_zero, List.set_cons_succ])
  refine wpAnyM_take (i := 1) (oi := ⟨_, _, _, _, _, _⟩) (v := ?_) rfl (by kernel_rfl) (by kernel_rfl) (by kernel_rfl) (by kernel_rfl) (fun _ _ _ h => h) (Or.inl ⟨by rfl, ?_⟩) hHeld ?_
  rotate_left
  · (intro w' hSw; (try dsimp only at hSw); go_simp; try (with_reducible rfl))
  (try simp only [Act.put, List.setIfInBounds_toArray, List.set_cons_zero, List.set_cons_succ])
  refine wpAnyM_take (i := 2) (oi := ⟨_, _, _, _, _, _⟩) (v := ?_) rfl (by kernel_rfl) (by kernel_rfl) (by kernel_rfl) (by kernel_rfl) (fun _ _ _ h => h) (Or.inl ⟨by rfl, ?_⟩) hHeld ?_
  rotate_left
  · (intro w' hSw; (try dsimp only at hSw); go_simp; try (with_reducible rfl))
  (try simp only [Act.put, List.setIfInBounds_toArray, List.set_cons_zero, List.set_cons_succ])
  refine wpAnyM_take (i := 3) (oi := ⟨_, _, _, _, _, _⟩) (v := ?_) rfl (by kernel_rfl) (by kernel_rfl) (by kernel_rfl) (by kernel_rfl) (fun _ _ _ h => h) (Or.inl ⟨by rfl, ?_⟩) hHeld ?_
  rotate_left
  · (intro w' hSw; (try dsimp only at hSw); go_simp; try (with_reducible rfl))
  (try simp only [Act.put, List.setIfInBounds_toArray, List.set_cons_zero, List.set_cons_succ])
  refine wpAnyM_take (i := 4) (oi := ⟨_, _, _, _, _, _⟩) (v := ?_) rfl (by kernel_rfl) (by kernel_rfl) (by kernel_rfl) (by kernel_rfl) (fun _ _ _ h => h) (Or.inl ⟨by rfl, ?_⟩) hHeld ?_
  rotate_left
  · (intro w' hSw; (try dsimp only at hSw); go_simp; try (with_reducible rfl))
  (try simp only [Act.put, List.setIfInBounds_toArray, List.set_cons_zero, List.set_cons_succ])
  refine wpAnyM_take (i := 5) (oi := ⟨_, _, _, _, _, _⟩) (v := ?_) rfl (by kernel_rfl) (by kernel_rfl) (by kernel_rfl) (by kernel_rfl) (fun _ _ _ h => h) (Or.inl ⟨by rfl, ?_⟩) hHeld ?_
  rotate_left
  · (intro w' hSw; (try dsimp only at hSw); go_simp; try (with_reducible rfl))
  (try simp only [Act.put, List.setIfInBounds_toArray, List.set_cons_zero, List.set_cons_succ])
  refine wpAnyM_take (i := 6) (oi := ⟨_, _, _, _, _, _⟩) (v := ?_) rfl (by kernel_rfl) (by kernel_rfl) (by kernel_rfl) (by kernel_rfl) (fun _ _ _ h => h) (Or.inl ⟨by rfl, ?_⟩) hHeld ?_
  rotate_left
  · (intro w' hSw; (try dsimp only at hSw); go_simp; try (with_reducible rfl))
  (try simp only [Act.put, List.setIfInBounds_toArray, List.set_cons_zero, List.set_cons_succ])
  refine wpAnyM_take (i := 7) (oi := ⟨_, _, _, _, _, _⟩) (v := ?_) rfl (by kernel_rfl) (by kernel_rfl) (by kernel_rfl) (by kernel_rfl) (fun _ _ _ h => h) (Or.inl ⟨by rfl, ?_⟩) hHeld ?_
  rotate_left
  · (intro w' hSw; (try dsimp only at hSw); go_simp; try (with_reducible rfl))
  (try simp only [Act.put, List.setIfInBounds_toArray, List.set_cons_zero, List.set_cons_succ])
  refine wpAnyM_one (i := 8) (o := ⟨_, _, _, _, _, _⟩) (by kernel_rfl) rfl (fun K hK => ?_)
  refine step_copy_run rfl _ _ 74 74 rfl _ _ rfl rfl (hcp _ _ _) ?_
  refine hK.out _ _ trivial (fun hHeld => ?_)
  clear hK K
  (try simp only [List.setIfInBounds_toArray, List.set_cons_zero, List.set_cons_succ])
  refine wpAnyM_done (by kernel_rfl) ?_ _
  go_wp2_with fail
  go_ret
  have hb2 := HB1.out.drew.setCells (j := (i + 1) * 2) ((l.drop i).flatMap Sp.cs)
  have hg2 := grown_setCells w.heap.size ((l.drop i).flatMap Sp.cs) ((w.alloc (.cells ROW 72)).drew.setCells w.heap.size (i * 2) (Sp.cs x)).drew ((i + 1) * 2)
  refine ⟨_, rfl, ?_, ?_, rfl⟩
  · refine own_of_box hb2 hbase (by rw [setL_size, setL_size]; exact HRS.out) ?_ ?_ hG63 (ins_cells (Nat.le_refl i) (by rw [HLN.out]; omega) HC.out ?_ ?_ ?_)
    · simp [HLN.out]; omega
    · simp [HLN.out]; omega
    · intro b hb
      rw [setL_out _ _ _ _ (.inl (by omega)), setL_out _ _ _ _ (.inl hb)]
      exact HRT.out b hb
    · intro b u hu
      have := lt_of_get hu
      rw [Sp.cs_len] at this
      rw [setL_out _ _ _ _ (.inl (by omega))]
      exact setL_in _ _ _ _ _ (by rw [Sp.cs_len, HRS.out]; omega) hu
    · intro b v hv
      exact setL_in _ _ _ _ _ (by rw [HL1.out, setL_size, HRS.out]; omega) hv
  · have h0 := grownBy_alloc' w (.cells ROW 72) none
    exact ⟨hg2.os.trans (HG1.out.os.trans h0.os), hg2.tape.trans (HG1.out.tape.trans h0.tape), hg2.output.trans (HG1.out.output.trans h0.output), Nat.le_trans h0.size (Nat.le_trans HG1.out.size hg2.size), fun k hk hk' => (hg2.block k (Nat.lt_of_lt_of_le (Nat.lt_of_lt_of_le hk h0.size) HG1.out.size) (fun e => by cases e; omega)).trans ((HG1.out.block k (Nat.lt_of_lt_of_le hk h0.size) (fun e => by cases e; omega)).trans (h0.block k hk hk'))⟩
end Go.Proofs.YtpcbhcdpegbfjaaGreat
/-
  slices.Replace of a part of a row of one's own by one span.
-/
namespace Go.Proofs.YtpcbhcdpegbfjaaGreat
open Go.RowKit

def RPost (base : Nat) (w : World) (s : Value) (L : List Sp) (e : Ending) (w' : World) : Prop := ∃ u, e = .returned u ∧ OwnL 72 2 Sp.cs base w' u L ∧ w.grownBy w' s.ownBlock ∧ (∀ g, u.ownBlock = some g → s.ownBlock = some g ∨ w.heap.size ≤ g)
theorem insert_any {w : World} {base : Nat} {s : Value} {l : List Sp} (ho : OwnL 72 2 Sp.cs base w s l) (hn : l.length ≤ 100000) (hbase : base ≤ w.heap.size) {gv : Nat} {x : Sp} (hv : BoxT 72 w gv #[.int .i64 x.f, .int .i64 x.t]) (hgv : s.ownBlock ≠ some gv) {i : Nat} (hi : i ≤ l.length) :
    Calls Tryz.prog 150 #[s, .int .i64 (i : Int), .slice (some ⟨gv, 0, none⟩) 1 1] w (RPost base w s (l.take i ++ x :: l.drop i)) := by
  by_cases h1 : i = l.length
  · subst h1
    rw [List.take_of_length_le (Nat.le_refl _), List.drop_of_length_le (Nat.le_refl _)]
    exact insert_end ho hn hbase hv
  · rcases ho.2 with ⟨rfl, h0⟩ | ⟨g, cap, cur, rfl, _⟩
    · omega
    · by_cases hr : l.length + 1 ≤ cap
      · refine (insert_room ho hn hv (fun e => hgv (by rw [e]; rfl)) (by omega) hr).mono ?_
        rintro e w' ⟨rfl, h2, h3⟩
        exact ⟨_, rfl, h2, h3, fun g e => .inl e⟩
      · refine (insert_grow ho hn hbase hv (by omega) hr).mono ?_
        rintro e w' ⟨u, rfl, h2, h3, h4⟩
        exact ⟨u, rfl, h2, ⟨h3.os, h3.tape, h3.output, h3.size, fun k hk _ => h3.block k hk (by simp)⟩, fun g e => .inr (by rw [h4] at e; cases e; exact Nat.le_refl _)⟩
theorem run_app_room (w : World) (ty g n cap gv : Nat) (x : Sp) {cur : Array Value} (hg : BoxT 72 w g cur) (hs : cur.size = cap * 2) (hr : n + 1 ≤ cap) (hv : BoxT 72 w gv #[.int .i64 x.f, .int .i64 x.t]) :
    (Builtin.append_ #[74, 74] ty #[.slice (some ⟨g, 0, none⟩) n cap, .slice (some ⟨gv, 0, none⟩) 1 1]).run Tryz.prog w = .ok (.slice (some ⟨g, 0, none⟩) (n + 1) cap) (w.setCells g (n * 2) (Sp.cs x)) := by
  have hl := run_loadCells_list (P := Tryz.prog) w ⟨gv, 0, none⟩ (Sp.cs x) (new2 w x hv)
  have hst := run_storeCells_cells (P := Tryz.prog) g (n * 2) (Sp.cs x) 0 w (fun j hj => by rw [Sp.cs_len] at hj; rw [hg.cellAt, Array.getElem?_eq_getElem (by omega)]; rfl) (fun j _ => hg.free _) (Sp.cs_one x)
  obtain ⟨i0, hi, _, hz1, _⟩ := info_parts Tryz.infoSp
  rw [Sp.cs_len] at hl
  simp [Builtin.append_, run_underlying Tryz.underlying74, Builtin.lenOf, Builtin.firstCells, sizeOf, typeInfo, hi, hz1, hl, hr, add_plain2, hst]
theorem run_clear_none (w : World) (ty : Nat) (a : Option Addr) (c : Nat) : (Builtin.clear_ #[74] ty #[.slice a 0 c]).run Tryz.prog w = .ok (.tuple #[]) w := by
  cases a <;> simp [Builtin.clear_, run_underlying Tryz.underlying74]
set_option maxHeartbeats 4000000 in
set_option maxRecDepth 100000 in
theorem replace_ins {w : World} {base : Nat} {s : Value} {l : List Sp} (ho : OwnL 72 2 Sp.cs base w s l) (hn : l.length ≤ 100000) (hbase : base ≤ w.heap.size) {gv : Nat} {x : Sp} (hv : BoxT 72 w gv #[.int .i64 x.f, .int .i64 x.t]) (hgv : s.ownBlock ≠ some gv) {i : Nat} (hi : i ≤ l.length) :
    Calls Tryz.prog 139 #[s, .int .i64 (i : Int), .int .i64 (i : Int), .slice (some ⟨gv, 0, none⟩) 1 1] w (RPost base w s (l.take i ++ x :: l.drop i)) := by
  have HI := hide (insert_any ho hn hbase hv hgv hi)
  obtain ⟨ao, cap, rfl⟩ := ho.shape
  have hcap : l.length ≤ cap := by
    rcases ho.2 with ⟨e, h0⟩ | ⟨g, c, cur, e, _, _, h, _⟩
    · have := congrArg (fun v => match v with | Value.slice _ n _ => n | _ => 0) e; simp at this; omega
    · simp at e; omega
  have bc : (i : Int) ≤ (l.length : Int) := by omega
  have bd : (i : Int) ≤ (cap : Int) := by omega
  clear ho hv
  by_cases hc : cap = i
  · subst hc
    obtain rfl : l.length = cap := by omega
    go_enter Tryz.func139, Tryz.ntmps139
    go_wp2_with (first | (go_at_call 150; refine HI.out.mono ?_; rintro e w' ⟨u, rfl, h2, h3, h4⟩) | fail)
    go_ret
    exact ⟨u, rfl, h2, h3, h4⟩
  · go_enter Tryz.func139, Tryz.ntmps139
    go_wp2_with (first | (go_at_call 150; refine HI.out.mono ?_; rintro e w' ⟨u, rfl, h2, h3, h4⟩) | fail)
    go_ret
    exact ⟨u, rfl, h2, h3, h4⟩
set_option maxHeartbeats 4000000 in
set_option maxRecDepth 100000 in
theorem replace_end {w : World} {base g cap : Nat} {l : List Sp} (ho : OwnL 72 2 Sp.cs base w (.slice (some ⟨g, 0, none⟩) l.length cap) l) (hn : l.length ≤ 100000) {gv : Nat} {x : Sp} (hv : BoxT 72 w gv #[.int .i64 x.f, .int .i64 x.t]) {i : Nat} (hi : i < l.length) :
    Calls Tryz.prog 139 #[.slice (some ⟨g, 0, none⟩) l.length cap, .int .i64 (i : Int), .int .i64 (l.length : Int), .slice (some ⟨gv, 0, none⟩) 1 1] w (RPost base w (.slice (some ⟨g, 0, none⟩) l.length cap) (l.take i ++ [x])) := by
  obtain ⟨cur, _, hbg, hb, hlc, hcm, hsz, hc⟩ := own_cells ho
  have hap : ∀ ty, (Builtin.append_ #[74, 74] ty #[.slice (some ⟨g, 0, none⟩) i cap, .slice (some ⟨gv, 0, none⟩) 1 1]).run Tryz.prog w = .ok (.slice (some ⟨g, 0, none⟩) (i + 1) cap) (w.setCells g (i * 2) (Sp.cs x)) := fun ty => run_app_room w ty g i cap gv x hb hsz (by omega) hv
  have hb1 := hb.setCells (j := i * 2) (Sp.cs x)
  have hg1 := grown_setCells g (Sp.cs x) w (i * 2)
  obtain ⟨W1, hW1⟩ : ∃ W1, W1 = w.setCells g (i * 2) (Sp.cs x) := ⟨_, rfl⟩
  rw [← hW1] at hap hb1 hg1
  have hcells : ∀ cur2 : Array Value, (∀ b, b < (i + 1) * 2 → cur2[b]? = (setL cur (i * 2) (Sp.cs x))[b]?) → ∀ a y, (l.take i ++ [x])[a]? = some y → ∀ q u, (Sp.cs y)[q]? = some u → cur2[a * 2 + q]? = some u := by
    intro cur2 h2
    have := ins_cells (l := l) (i := i) (j := l.length) (x := x) (cur := cur) (cur2 := cur2) (by omega) (Nat.le_refl _) hc (fun b hb' => by rw [h2 b (by omega), setL_out _ _ _ _ (.inl hb')]) (fun b u hu => by
      have := lt_of_get hu
      rw [Sp.cs_len] at this
      rw [h2 _ (by omega)]
      exact setL_in _ _ _ _ _ (by rw [Sp.cs_len, hsz]; omega) hu) (fun b v hv' => by rw [List.drop_of_length_le (Nat.le_refl _)] at hv'; simp at hv')
    rwa [List.drop_of_length_le (Nat.le_refl _)] at this
  have hlen : (l.take i ++ [x]).length = i + 1 := by rw [List.length_append, List.length_take]; simp; omega
  have HO1 : Hid (OwnL 72 2 Sp.cs base W1 (.slice (some ⟨g, 0, none⟩) (i + 1) cap) (l.take i ++ [x])) := own_of_box hb1 hbg (by rw [setL_size]; exact hsz) hlen.symm (by rw [hlen]; omega) hcm (hcells _ (fun _ _ => rfl))
  have hclr : i + 1 < l.length → ∀ ty c, (Builtin.clear_ #[74] ty #[.slice (some ⟨g, (i + 1) * 2, none⟩) (l.length - (i + 1)) c]).run Tryz.prog W1 = .ok (.tuple #[]) (W1.setCells g ((i + 1) * 2) (List.replicate ((l.length - (i + 1)) * 2) (.int .i64 0))) := fun h ty c =>
    run_clear_sp W1 ty g ((i + 1) * 2) (l.length - (i + 1)) c (by omega) (fun a ha => by
      rw [hb1.cellAt, Array.getElem?_eq_getElem (show (i + 1) * 2 + a < _ by rw [setL_size, hsz]; omega)]; rfl) (fun a _ => hb1.free _)
  have HO2 : Hid (OwnL 72 2 Sp.cs base (W1.setCells g ((i + 1) * 2) (List.replicate ((l.length - (i + 1)) * 2) (.int .i64 0))) (.slice (some ⟨g, 0, none⟩) (i + 1) cap) (l.take i ++ [x])) := own_of_box (hb1.setCells (j := (i + 1) * 2) _) hbg (by rw [setL_size, setL_size]; exact hsz) hlen.symm (by rw [hlen]; omega) hcm (hcells _ (fun b hb' => setL_out _ _ _ _ (.inl hb')))
  have HG1 := hide hg1
  have HG2 := hide (grownBy_trans hg1 (grown_setCells g (List.replicate ((l.length - (i + 1)) * 2) (.int .i64 0)) W1 ((i + 1) * 2)))
  generalize (l.take i ++ [x]) = L at *
  clear hb hc hv ho hsz hb1 hg1 hcells hlen hW1
  generalize l.length = n at *
  have z1 : ¬ ((i : Int) = (n : Int)) := by omega
  have z3 : (i : Int) ≤ (n : Int) := by omega
  have z4 : (n : Int) ≤ (cap : Int) := by omega
  have z5 : (i : Int) ≤ (cap : Int) := by omega
  have z9 : ¬ (cap = i) := by omega
  by_cases hlt : i + 1 < n
  · have hclr2 := hclr hlt
    clear hclr
    have z6 : (i : Int) + 1 < (n : Int) := by omega
    have z7 : ((i : Int) + 1).toNat = i + 1 := by omega
    have z8 : ¬ (cap = i + 1) := by omega
    have z10 : (i : Int) + 1 ≤ (n : Int) := by omega
    have z11 : (0 : Int) ≤ (i : Int) + 1 := by omega
    go_enter Tryz.func139, Tryz.ntmps139
    go_wp2_with (first | (at_builtin; refine wp_append_run rfl _ _ 74 74 rfl _ _ rfl rfl (hap _) ?_) | fail)
    go_ret
    exact ⟨_, rfl, HO2.out, HG2.out, fun g e => .inl e⟩
  · have z6 : ¬ ((i : Int) + 1 < (n : Int)) := by omega
    clear hclr
    go_enter Tryz.func139, Tryz.ntmps139
    go_wp2_with (first | (at_builtin; refine wp_append_run rfl _ _ 74 74 rfl _ _ rfl rfl (hap _) ?_) | fail)
    go_ret
    exact ⟨_, rfl, HO1.out, HG1.out, fun g e => .inl e⟩
set_option maxHeartbeats 4000000 in
set_option maxRecDepth 100000 in
theorem replace_mid {w : World} {base g cap : Nat} {l : List Sp} (ho : OwnL 72 2 Sp.cs base w (.slice (some ⟨g, 0, none⟩) l.length cap) l) (hn : l.length ≤ 100000) {gv : Nat} {x : Sp} (hv : BoxT 72 w gv #[.int .i64 x.f, .int .i64 x.t]) {i j : Nat} (hi : i < j) (hj : j < l.length) :
    Calls Tryz.prog 139 #[.slice (some ⟨g, 0, none⟩) l.length cap, .int .i64 (i : Int), .int .i64 (j : Int), .slice (some ⟨gv, 0, none⟩) 1 1] w (RPost base w (.slice (some ⟨g, 0, none⟩) l.length cap) (l.take i ++ x :: l.drop j)) := by
  obtain ⟨cur, _, hbg, hb, hlc, hcm, hsz, hc⟩ := own_cells ho
  obtain ⟨T, hT⟩ : ∃ T, T = i + 1 + (l.length - j) := ⟨_, rfl⟩
  have hl1 : ((l.drop j).flatMap Sp.cs).length = (l.length - j) * 2 := by rw [flat_size Sp.cs_len, List.length_drop]
  have hcp1 : ∀ ty dc, (Builtin.copy_ #[74, 74] ty #[.slice (some ⟨g, i * 2, none⟩) (T - i) dc, .slice (some ⟨gv, 0, none⟩) 1 1]).run Tryz.prog w.drew = .ok (goInt 1) (w.drew.setCells g (i * 2) (Sp.cs x)) := fun ty dc =>
    run_copy_sp w.drew ty g (i * 2) (T - i) dc ⟨gv, 0, none⟩ 1 1 _ _ hb.drew 1 (by simp only [Nat.min_def]; split <;> omega) (Sp.cs_len x) (new2 w.drew x hv.drew) (by rw [Sp.cs_len, hsz]; omega) (Sp.cs_one x)
  have hb1 := hb.drew.setCells (j := i * 2) (Sp.cs x)
  have hg1 := grown_setCells g (Sp.cs x) w.drew (i * 2)
  obtain ⟨W1, hW1⟩ : ∃ W1, W1 = w.drew.setCells g (i * 2) (Sp.cs x) := ⟨_, rfl⟩
  rw [← hW1] at hcp1 hb1 hg1
  have hcp2 : ∀ ty dc sc, (Builtin.copy_ #[74, 74] ty #[.slice (some ⟨g, (i + 1) * 2, none⟩) (l.length - j) dc, .slice (some ⟨g, j * 2, none⟩) (l.length - j) sc]).run Tryz.prog W1.drew = .ok (goInt (l.length - j : Nat)) (W1.drew.setCells g ((i + 1) * 2) ((l.drop j).flatMap Sp.cs)) := fun ty dc sc =>
    run_copy_sp W1.drew ty g ((i + 1) * 2) (l.length - j) dc ⟨g, j * 2, none⟩ (l.length - j) sc _ _ hb1.drew (l.length - j) (by simp only [Nat.min_def]; split <;> omega) hl1
      (fun b v hb' => by
        have := lt_of_get hb'
        rw [add_plain2, hb1.drew.cellAt, setL_out _ _ _ _ (.inr (by rw [Sp.cs_len]; omega))]; exact drop_flat hc b v hb') (by rw [hl1, setL_size, hsz]; omega) (flat_one _)
  have hb2 := hb1.drew.setCells (j := (i + 1) * 2) ((l.drop j).flatMap Sp.cs)
  have hg2 := grown_setCells g ((l.drop j).flatMap Sp.cs) W1.drew ((i + 1) * 2)
  obtain ⟨W2, hW2⟩ : ∃ W2, W2 = W1.drew.setCells g ((i + 1) * 2) ((l.drop j).flatMap Sp.cs) := ⟨_, rfl⟩
  rw [← hW2] at hcp2 hb2 hg2
  have hcells : ∀ cur3 : Array Value, (∀ b, b < T * 2 → cur3[b]? = (setL (setL cur (i * 2) (Sp.cs x)) ((i + 1) * 2) ((l.drop j).flatMap Sp.cs))[b]?) → ∀ a y, (l.take i ++ x :: l.drop j)[a]? = some y → ∀ q u, (Sp.cs y)[q]? = some u → cur3[a * 2 + q]? = some u := by
    intro cur3 h3
    refine ins_cells (l := l) (cur := cur) (by omega) (by omega) hc (fun b hb' => ?_) (fun b u hu => ?_) (fun b v hv' => ?_)
    · rw [h3 b (by omega), setL_out _ _ _ _ (.inl (by omega)), setL_out _ _ _ _ (.inl hb')]
    · have := lt_of_get hu
      rw [Sp.cs_len] at this
      rw [h3 _ (by omega), setL_out _ _ _ _ (.inl (by omega))]
      exact setL_in _ _ _ _ _ (by rw [Sp.cs_len, hsz]; omega) hu
    · have := lt_of_get hv'
      rw [h3 _ (by omega)]
      exact setL_in _ _ _ _ _ (by rw [hl1, setL_size, hsz]; omega) hv'
  have hlen : (l.take i ++ x :: l.drop j).length = T := by rw [List.length_append, List.length_take, List.length_cons, List.length_drop, hT]; omega
  have hgw : w.grownBy W2 (some g) := grownBy_trans (show w.grownBy W1 (some g) from ⟨hg1.os, hg1.tape, hg1.output, hg1.size, hg1.block⟩) ⟨hg2.os, hg2.tape, hg2.output, hg2.size, hg2.block⟩
  have HO1 : Hid (OwnL 72 2 Sp.cs base W2 (.slice (some ⟨g, 0, none⟩) T cap) (l.take i ++ x :: l.drop j)) := own_of_box hb2 hbg (by rw [setL_size, setL_size]; exact hsz) hlen.symm (by rw [hlen]; omega) hcm (hcells _ (fun _ _ => rfl))
  have hclr : T < l.length → ∀ ty c, (Builtin.clear_ #[74] ty #[.slice (some ⟨g, T * 2, none⟩) (l.length - T) c]).run Tryz.prog W2 = .ok (.tuple #[]) (W2.setCells g (T * 2) (List.replicate ((l.length - T) * 2) (.int .i64 0))) := fun h ty c =>
    run_clear_sp W2 ty g (T * 2) (l.length - T) c (by omega) (fun a ha => by
      rw [hb2.cellAt, Array.getElem?_eq_getElem (show T * 2 + a < _ by rw [setL_size, setL_size, hsz]; omega)]; rfl) (fun a _ => hb2.free _)
  have HO2 : Hid (OwnL 72 2 Sp.cs base (W2.setCells g (T * 2) (List.replicate ((l.length - T) * 2) (.int .i64 0))) (.slice (some ⟨g, 0, none⟩) T cap) (l.take i ++ x :: l.drop j)) := own_of_box (hb2.setCells (j := T * 2) _) hbg (by rw [setL_size, setL_size, setL_size]; exact hsz) hlen.symm (by rw [hlen]; omega) hcm (hcells _ (fun b hb' => setL_out _ _ _ _ (.inl hb')))
  have HG1 := hide hgw
  have HG2 := hide (grownBy_trans hgw (grown_setCells g (List.replicate ((l.length - T) * 2) (.int .i64 0)) W2 (T * 2)))
  generalize (l.take i ++ x :: l.drop j) = L at *
  clear hb hc hv ho hsz hb1 hg1 hb2 hg2 hcells hlen hW1 hW2 hgw hl1
  generalize l.length = n at *
  have z1 : ¬ ((i : Int) = (j : Int)) := by omega
  have z2 : ¬ ((j : Int) = (n : Int)) := by omega
  have z3 : (i : Int) ≤ (j : Int) := by omega
  have z4 : (j : Int) ≤ (cap : Int) := by omega
  have z5 : (i : Int) ≤ (cap : Int) := by omega
  have z6 : (j : Int) ≤ (n : Int) := by omega
  have z9 : ¬ (cap = i) := by omega
  have z10 : ¬ (cap = j) := by omega
  have z11 : IntKind.i64.wrap ((i : Int) + 1) = (i : Int) + 1 := by rw [IntKind.wrap_i64]; omega
  have z12 : IntKind.i64.wrap ((i : Int) + 1 + ((n - j : Nat) : Int)) = (T : Int) := by rw [IntKind.wrap_i64]; omega
  have z13 : ¬ ((cap : Int) < (T : Int)) := by omega
  have z14 : (T : Int) ≤ (cap : Int) := by omega
  have z15 : (i : Int) + 1 ≤ (j : Int) := by omega
  have z16 : (i : Int) ≤ (T : Int) := by omega
  have z17 : (0 : Int) ≤ (i : Int) + 1 := by omega
  have z18 : (i : Int) + 1 ≤ (T : Int) := by omega
  have z19 : ((i : Int) + 1).toNat = i + 1 := by omega
  have z20 : ¬ (cap = i + 1) := by omega
  have z21 : T - (i + 1) = n - j := by omega
  have z22 : (T : Int) ≤ (n : Int) := by omega
  by_cases hlt : T < n
  · have hclr2 := hclr hlt
    clear hclr
    have z23 : ¬ (cap = T) := by omega
    have HT := hide hT
    clear hT
    go_enter Tryz.func139, Tryz.ntmps139
    go_wp2_with fail
    refine wp_region_M (S := fun _ => True) (late := []) (by kernel_rfl) trivial (fun hHeld => ?_)
    (try simp only [List.size_toArray, List.length_cons, List.length_nil, Nat.zero_add, Nat.reduceAdd, Array.replicate, List.replicate])
    refine wpAnyM_take (i := 0) (oi := ⟨_, _, _, _, _, _⟩) (v := ?_) rfl (by kernel_rfl) (by kernel_rfl) (by kernel_rfl) (by kernel_rfl) (fun _ _ _ h => h) (Or.inl ⟨by rfl, ?_⟩) hHeld ?_
    rotate_left
    · (intro w' hSw; (try dsimp only at hSw); go_simp; try (with_reducible rfl))
    (try simp only [Act.put, List.setIfInBounds_toArray, List.set_cons_zero, List.set_cons_succ])
    refine wpAnyM_take (i := 1) (oi := ⟨_, _, _, _, _, _⟩) (v := ?_) rfl (by kernel_rfl) (by kernel_rfl) (by kernel_rfl) (by kernel_rfl) (fun _ _ _ h => h) (Or.inl ⟨by rfl, ?_⟩) hHeld ?_
    rotate_left
    · (intro w' hSw; (try dsimp only at hSw); go_simp; try (with_reducible rfl))
    (try simp only [Act.put, List.setIfInBounds_toArray, List.set_cons_zero, List.set_cons_succ])
    refine wpAnyM_take (i := 2) (oi := ⟨_, _, _, _, _, _⟩) (v := ?_) rfl (by kernel_rfl) (by kernel_rfl) (by kernel_rfl) (by kernel_rfl) (fun _ _ _ h => h) (Or.inl ⟨by rfl, ?_⟩) hHeld ?_
    rotate_left
    · (intro w' hSw; (try dsimp only at hSw); go_simp; try (with_reducible rfl))
    (try simp only [Act.put, List.setIfInBounds_toArray, List.set_cons_zero, List.set_cons_succ])
    refine wpAnyM_take (i := 3) (oi := ⟨_, _, _, _, _, _⟩) (v := ?_) rfl (by kernel_rfl) (by kernel_rfl) (by kernel_rfl) (by kernel_rfl) (fun _ _ _ h => h) (Or.inl ⟨by rfl, ?_⟩) hHeld ?_
    rotate_left
    · (intro w' hSw; (try dsimp only at hSw); go_simp; try (with_reducible rfl))
    (try simp only [Act.put, List.setIfInBounds_toArray, List.set_cons_zero, List.set_cons_succ])
    refine wpAnyM_take (i := 4) (oi := ⟨_, _, _, _, _, _⟩) (v := ?_) rfl (by kernel_rfl) (by kernel_rfl) (by kernel_rfl) (by kernel_rfl) (fun _ _ _ h => h) (Or.inl ⟨by rfl, ?_⟩) hHeld ?_
    rotate_left
    · (intro w' hSw; (try dsimp only at hSw); go_simp; try (with_reducible rfl))
    (try simp only [Act.put, List.setIfInBounds_toArray, List.set_cons_zero, List.set_cons_succ])
    refine wpAnyM_take (i := 5) (oi := ⟨_, _, _, _, _, _⟩) (v := ?_) rfl (by kernel_rfl) (by kernel_rfl) (by kernel_rfl) (by kernel_rfl) (fun _ _ _ h => h) (Or.inl ⟨by rfl, ?_⟩) hHeld ?_
    rotate_left
    · (intro w' hSw; (try dsimp only at hSw); go_simp; try (with_reducible rfl))
    (try simp only [Act.put, List.setIfInBounds_toArray, List.set_cons_zero, List.set_cons_succ])
    refine wpAnyM_take (i := 6) (oi := ⟨_, _, _, _, _, _⟩) (v := ?_) rfl (by kernel_rfl) (by kernel_rfl) (by kernel_rfl) (by kernel_rfl) (fun _ _ _ h => h) (Or.inl ⟨by rfl, ?_⟩) hHeld ?_
    rotate_left
    · (intro w' hSw; (try dsimp only at hSw); go_simp; try (with_reducible rfl))
    (try simp only [Act.put, List.setIfInBounds_toArray, List.set_cons_zero, List.set_cons_succ])
    refine wpAnyM_take (i := 7) (oi := ⟨_, _, _, _, _, _⟩) (v := ?_) rfl (by kernel_rfl) (by kernel_rfl) (by kernel_rfl) (by kernel_rfl) (fun _ _ _ h => h) (Or.inl ⟨by rfl, ?_⟩) hHeld ?_
    rotate_left
    · (intro w' hSw; (try dsimp only at hSw); go_simp; try (with_reducible rfl))
    (try simp only [Act.put, List.setIfInBounds_toArray, List.set_cons_zero, List.set_cons_succ])
    refine wpAnyM_take (i := 8) (oi := ⟨_, _, _, _, _, _⟩) (v := ?_) rfl (by kernel_rfl) (by kernel_rfl) (by kernel_rfl) (by kernel_rfl) (fun _ _ _ h => h) (Or.inl ⟨by rfl, ?_⟩) hHeld ?_
    rotate_left
    · (intro w' hSw; (try dsimp only at hSw); go_simp; try (with_reducible rfl))
    (try simp only [Act.put, List.setIfInBounds_toArray, List.set_cons_zero, List.set_cons_succ])
    refine wpAnyM_take (i := 9) (oi := ⟨_, _, _, _, _, _⟩) (v := ?_) rfl (by kernel_rfl) (by kernel_rfl) (by kernel_rfl) (by kernel_rfl) (fun _ _ _ h => h) (Or.inl ⟨by rfl, ?_⟩) hHeld ?_
    rotate_left
    · (intro w' hSw; (try dsimp only at hSw); go_simp; try (with_reducible rfl))
    (try simp only [Act.put, List.setIfInBounds_toArray, List.set_cons_zero, List.set_cons_succ])
    refine wpAnyM_take (i := 10) (oi := ⟨_, _, _, _, _, _⟩) (v := ?_) rfl (by kernel_rfl) (by kernel_rfl) (by kernel_rfl) (by kernel_rfl) (fun _ _ _ h => h) (Or.inl ⟨by rfl, ?_⟩) hHeld ?_
    rotate_left
    · (intro w' hSw; (try dsimp only at hSw); go_simp; try (with_reducible rfl))
    (try simp only [Act.put, List.setIfInBounds_toArray, List.set_cons_zero, List.set_cons_succ])
    refine wpAnyM_take (i := 11) (oi := ⟨_, _, _, _, _, _⟩) (v := ?_) rfl (by kernel_rfl) (by kernel_rfl) (by kernel_rfl) (by kernel_rfl) (fun _ _ _ h => h) (Or.inl ⟨by rfl, ?_⟩) hHeld ?_
    rotate_left
    · (intro w' hSw; (try dsimp only at hSw); go_simp; try (with_reducible rfl))
    (try simp only [Act.put, List.setIfInBounds_toArray, List.set_cons_zero, List.set_cons_succ])
    refine wpAnyM_take (i := 12) (oi := ⟨_, _, _, _, _, _⟩) (v := ?_) rfl (by kernel_rfl) (by kernel_rfl) (by kernel_rfl) (by kernel_rfl) (fun _ _ _ h => h) (Or.inl ⟨by rfl, ?_⟩) hHeld ?_
    rotate_left
    · (intro w' hSw; (try dsimp only at hSw); go_simp; try (with_reducible rfl))
    (try simp only [Act.put, List.setIfInBounds_toArray, List.set_cons_zero, List.set_cons_succ])
    refine wpAnyM_done (by kernel_rfl) ?_ _
    go_wp2_with fail
    refine wp_region_M (S := fun _ => True) (late := []) (by kernel_rfl) trivial (fun hHeld => ?_)
    (try simp only [List.size_toArray, List.length_cons, List.length_nil, Nat.zero_add, Nat.reduceAdd, Array.replicate, List.replicate])
    refine wpAnyM_take (i := 0) (oi := ⟨_, _, _, _, _, _⟩) (v := ?_) rfl (by kernel_rfl) (by kernel_rfl) (by kernel_rfl) (by kernel_rfl) (fun _ _ _ h => h) (Or.inl ⟨by rfl, ?_⟩) hHeld ?_
    rotate_left
    · (intro w' hSw; (try dsimp only at hSw); go_simp; try (with_reducible rfl))
    (try simp only [Act.put, List.setIfInBounds_toArray, List.set_cons_zero, List.set_cons_succ])
    refine wpAnyM_take (i := 1) (oi := ⟨_, _, _, _, _, _⟩) (v := ?_) rfl (by kernel_rfl) (by kernel_rfl) (by kernel_rfl) (by kernel_rfl) (fun _ _ _ h => h) (Or.inl ⟨by rfl, ?_⟩) hHeld ?_
    rotate_left
    · (intro w' hSw; (try dsimp only at hSw); go_simp; try (with_reducible rfl))
    (try simp only [Act.put, List.setIfInBounds_toArray, List.set_cons_zero, List.set_cons_succ])
    refine wpAnyM_take (i := 2) (oi := ⟨_, _, _, _, _, _⟩) (v := ?_) rfl (by kernel_rfl) (by kernel_rfl) (by kernel_rfl) (by kernel_rfl) (fun _ _ _ h => h) (Or.inl ⟨by rfl, ?_⟩) hHeld ?_
    rotate_left
    · (intro w' hSw; (try dsimp only at hSw); go_simp; try (with_reducible rfl))
    (try simp only [Act.put, List.setIfInBounds_toArray, List.set_cons_zero, List.set_cons_succ])
    refine wpAnyM_take (i := 3) (oi := ⟨_, _, _, _, _, _⟩) (v := ?_) rfl (by kernel_rfl) (by kernel_rfl) (by kernel_rfl) (by kernel_rfl) (fun _ _ _ h => h) (Or.inl ⟨by rfl, ?_⟩) hHeld ?_
    rotate_left
    · (intro w' hSw; (try dsimp only at hSw); go_simp; try (with_reducible rfl))
    (try simp only [Act.put, List.setIfInBounds_toArray, List.set_cons_zero, List.set_cons_succ])
    refine wpAnyM_take (i := 4) (oi := ⟨_, _, _, _, _, _⟩) (v := ?_) rfl (by kernel_rfl) (by kernel_rfl) (by kernel_rfl) (by kernel_rfl) (fun _ _ _ h => h) (Or.inl ⟨by rfl, ?_⟩) hHeld ?_
    rotate_left
    · (intro w' hSw; (try dsimp only at hSw); go_simp; try (with_reducible rfl))
    (try simp only [Act.put, List.setIfInBounds_toArray, List.set_cons_zero, List.set_cons_succ])
    refine wpAnyM_take (i := 5) (oi := ⟨_, _, _, _, _, _⟩) (v := ?_) rfl (by kernel_rfl) (by kernel_rfl) (by kernel_rfl) (by kernel_rfl) (fun _ _ _ h => h) (Or.inl ⟨by rfl, ?_⟩) hHeld ?_
    rotate_left
    · (intro w' hSw; (try dsimp only at hSw); go_simp; try (with_reducible rfl))
    (try simp only [Act.put, List.setIfInBounds_toArray, List.set_cons_zero, List.set_cons_succ])
    refine wpAnyM_take (i := 6) (oi := ⟨_, _, _, _, _, _⟩) (v := ?_) rfl (by kernel_rfl) (by kernel_rfl) (by kernel_rfl) (by kernel_rfl) (fun _ _ _ h => h) (Or.inl ⟨by rfl, ?_⟩) hHeld ?_
    rotate_left
    · (intro w' hSw; (try dsimp only at hSw); go_simp; try (with_reducible rfl))
    (try simp only [Act.put, List.setIfInBounds_toArray, List.set_cons_zero, List.set_cons_succ])
    refine wpAnyM_take (i := 7) (oi := ⟨_, _, _, _, _, _⟩) (v := ?_) rfl (by kernel_rfl) (by kernel_rfl) (by kernel_rfl) (by kernel_rfl) (fun _ _ _ h => h) (Or.inl ⟨by rfl, ?_⟩) hHeld ?_
    rotate_left
    · (intro w' hSw; (try dsimp only at hSw); go_simp; try (with_reducible rfl))
    (try simp only [Act.put, List.setIfInBounds_toArray, List.set_cons_zero, List.set_cons_succ])
    refine wpAnyM_take (i := 8) (oi := ⟨_, _, _, _, _, _⟩) (v := ?_) rfl (by kernel_rfl) (by kernel_rfl) (by kernel_rfl) (by kernel_rfl) (fun _ _ _ h => h) (Or.inl ⟨by rfl, ?_⟩) hHeld ?_
    rotate_left
    · (intro w' hSw; (try dsimp only at hSw); go_simp; try (with_reducible rfl))
    (try simp only [Act.put, List.setIfInBounds_toArray, List.set_cons_zero, List.set_cons_succ])
    refine wpAnyM_one (i := 9) (o := ⟨_, _, _, _, _, _⟩) (by kernel_rfl) rfl (fun K hK => ?_)
    refine step_copy_run rfl _ _ 74 74 rfl _ _ rfl rfl (hcp2 _ _ _) ?_
    refine hK.out _ _ trivial (fun hHeld => ?_)
    clear hK K
    (try simp only [List.setIfInBounds_toArray, List.set_cons_zero, List.set_cons_succ])
    refine wpAnyM_done (by kernel_rfl) ?_ _
    go_wp2_with fail
    go_ret
    exact ⟨_, rfl, HO2.out, HG2.out, fun g e => .inl e⟩
  · obtain rfl : n = T := by omega
    have hclr0 : ∀ ty a c, (Builtin.clear_ #[74] ty #[.slice a 0 c]).run Tryz.prog W2 = .ok (.tuple #[]) W2 := fun ty a c => run_clear_none W2 ty a c
    have z24 : n - n = 0 := Nat.sub_self n
    have HT := hide hT
    clear hclr hT
    by_cases hcn : cap = n
    · subst hcn
      go_enter Tryz.func139, Tryz.ntmps139
      go_wp2_with fail
      refine wp_region_M (S := fun _ => True) (late := []) (by kernel_rfl) trivial (fun hHeld => ?_)
      (try simp only [List.size_toArray, List.length_cons, List.length_nil, Nat.zero_add, Nat.reduceAdd, Array.replicate, List.replicate])
      refine wpAnyM_take (i := 0) (oi := ⟨_, _, _, _, _, _⟩) (v := ?_) rfl (by kernel_rfl) (by kernel_rfl) (by kernel_rfl) (by kernel_rfl) (fun _ _ _ h => h) (Or.inl ⟨by rfl, ?_⟩) hHeld ?_
      rotate_left
      · (intro w' hSw; (try dsimp only at hSw); go_simp; try (with_reducible rfl))
      (try simp only [Act.put, List.setIfInBounds_toArray, List.set_cons_zero, List.set_cons_succ])
      refine wpAnyM_take (i := 1) (oi := ⟨_, _, _, _, _, _⟩) (v := ?_) rfl (by kernel_rfl) (by kernel_rfl) (by kernel_rfl) (by kernel_rfl) (fun _ _ _ h => h) (Or.inl ⟨by rfl, ?_⟩) hHeld ?_
      rotate_left
      · (intro w' hSw; (try dsimp only at hSw); go_simp; try (with_reducible rfl))
      (try simp only [Act.put, List.setIfInBounds_toArray, List.set_cons_zero, List.set_cons_succ])
      refine wpAnyM_take (i := 2) (oi := ⟨_, _, _, _, _, _⟩) (v := ?_) rfl (by kernel_rfl) (by kernel_rfl) (by kernel_rfl) (by kernel_rfl) (fun _ _ _ h => h) (Or.inl ⟨by rfl, ?_⟩) hHeld ?_
      rotate_left
      · (intro w' hSw; (try dsimp only at hSw); go_simp; try (with_reducible rfl))
      (try simp only [Act.put, List.setIfInBounds_toArray, List.set_cons_zero, List.set_cons_succ])
      refine wpAnyM_take (i := 3) (oi := ⟨_, _, _, _, _, _⟩) (v := ?_) rfl (by kernel_rfl) (by kernel_rfl) (by kernel_rfl) (by kernel_rfl) (fun _ _ _ h => h) (Or.inl ⟨by rfl, ?_⟩) hHeld ?_
      rotate_left
      · (intro w' hSw; (try dsimp only at hSw); go_simp; try (with_reducible rfl))
      (try simp only [Act.put, List.setIfInBounds_toArray, List.set_cons_zero, List.set_cons_succ])
      refine wpAnyM_take (i := 4) (oi := ⟨_, _, _, _, _, _⟩) (v := ?_) rfl (by kernel_rfl) (by kernel_rfl) (by kernel_rfl) (by kernel_rfl) (fun _ _ _ h => h) (Or.inl ⟨by rfl, ?_⟩) hHeld ?_
      rotate_left
      · (intro w' hSw; (try dsimp only at hSw); go_simp; try (with_reducible rfl))
      (try simp only [Act.put, List.setIfInBounds_toArray, List.set_cons_zero, List.set_cons_succ])
      refine wpAnyM_take (i := 5) (oi := ⟨_, _, _, _, _, _⟩) (v := ?_) rfl (by kernel_rfl) (by kernel_rfl) (by kernel_rfl) (by kernel_rfl) (fun _ _ _ h => h) (Or.inl ⟨by rfl, ?_⟩) hHeld ?_
      rotate_left
      · (intro w' hSw; (try dsimp only at hSw); go_simp; try (with_reducible rfl))
      (try simp only [Act.put, List.setIfInBounds_toArray, List.set_cons_zero, List.set_cons_succ])
      refine wpAnyM_take (i := 6) (oi := ⟨_, _, _, _, _, _⟩) (v := ?_) rfl (by kernel_rfl) (by kernel_rfl) (by kernel_rfl) (by kernel_rfl) (fun _ _ _ h => h) (Or.inl ⟨by rfl, ?_⟩) hHeld ?_
      rotate_left
      · (intro w' hSw; (try dsimp only at hSw); go_simp; try (with_reducible rfl))
      (try simp only [Act.put, List.setIfInBounds_toArray, List.set_cons_zero, List.set_cons_succ])
      refine wpAnyM_take (i := 7) (oi := ⟨_, _, _, _, _, _⟩) (v := ?_) rfl (by kernel_rfl) (by kernel_rfl) (by kernel_rfl) (by kernel_rfl) (fun _ _ _ h => h) (Or.inl ⟨by rfl, ?_⟩) hHeld ?_
      rotate_left
      · (intro w' hSw; (try dsimp only at hSw); go_simp; try (with_reducible rfl))
      (try simp only [Act.put, List.setIfInBounds_toArray, List.set_cons_zero, List.set_cons_succ])
      refine wpAnyM_take (i := 8) (oi := ⟨_, _, _, _, _, _⟩) (v := ?_) rfl (by kernel_rfl) (by kernel_rfl) (by kernel_rfl) (by kernel_rfl) (fun _ _ _ h => h) (Or.inl ⟨by rfl, ?_⟩) hHeld ?_
      rotate_left
      · (intro w' hSw; (try dsimp only at hSw); go_simp; try (with_reducible rfl))
      (try simp only [Act.put, List.setIfInBounds_toArray, List.set_cons_zero, List.set_cons_succ])
      refine wpAnyM_take (i := 9) (oi := ⟨_, _, _, _, _, _⟩) (v := ?_) rfl (by kernel_rfl) (by kernel_rfl) (by kernel_rfl) (by kernel_rfl) (fun _ _ _ h => h) (Or.inl ⟨by rfl, ?_⟩) hHeld ?_
      rotate_left
      · (intro w' hSw; (try dsimp only at hSw); go_simp; try (with_reducible rfl))
      (try simp only [Act.put, List.setIfInBounds_toArray, List.set_cons_zero, List.set_cons_succ])
      refine wpAnyM_take (i := 10) (oi := ⟨_, _, _, _, _, _⟩) (v := ?_) rfl (by kernel_rfl) (by kernel_rfl) (by kernel_rfl) (by kernel_rfl) (fun _ _ _ h => h) (Or.inl ⟨by rfl, ?_⟩) hHeld ?_
      rotate_left
      · (intro w' hSw; (try dsimp only at hSw); go_simp; try (with_reducible rfl))
      (try simp only [Act.put, List.setIfInBounds_toArray, List.set_cons_zero, List.set_cons_succ])
      refine wpAnyM_take (i := 11) (oi := ⟨_, _, _, _, _, _⟩) (v := ?_) rfl (by kernel_rfl) (by kernel_rfl) (by kernel_rfl) (by kernel_rfl) (fun _ _ _ h => h) (Or.inl ⟨by rfl, ?_⟩) hHeld ?_
      rotate_left
      · (intro w' hSw; (try dsimp only at hSw); go_simp; try (with_reducible rfl))
      (try simp only [Act.put, List.setIfInBounds_toArray, List.set_cons_zero, List.set_cons_succ])
      refine wpAnyM_take (i := 12) (oi := ⟨_, _, _, _, _, _⟩) (v := ?_) rfl (by kernel_rfl) (by kernel_rfl) (by kernel_rfl) (by kernel_rfl) (fun _ _ _ h => h) (Or.inl ⟨by rfl, ?_⟩) hHeld ?_
      rotate_left
      · (intro w' hSw; (try dsimp only at hSw); go_simp; try (with_reducible rfl))
      (try simp only [Act.put, List.setIfInBounds_toArray, List.set_cons_zero, List.set_cons_succ])
      refine wpAnyM_done (by kernel_rfl) ?_ _
      go_wp2_with fail
      refine wp_region_M (S := fun _ => True) (late := []) (by kernel_rfl) trivial (fun hHeld => ?_)
      (try simp only [List.size_toArray, List.length_cons, List.length_nil, Nat.zero_add, Nat.reduceAdd, Array.replicate, List.replicate])
      refine wpAnyM_take (i := 0) (oi := ⟨_, _, _, _, _, _⟩) (v := ?_) rfl (by kernel_rfl) (by kernel_rfl) (by kernel_rfl) (by kernel_rfl) (fun _ _ _ h => h) (Or.inl ⟨by rfl, ?_⟩) hHeld ?_
      rotate_left
      · (intro w' hSw; (try dsimp only at hSw); go_simp; try (with_reducible rfl))
      (try simp only [Act.put, List.setIfInBounds_toArray, List.set_cons_zero, List.set_cons_succ])
      refine wpAnyM_take (i := 1) (oi := ⟨_, _, _, _, _, _⟩) (v := ?_) rfl (by kernel_rfl) (by kernel_rfl) (by kernel_rfl) (by kernel_rfl) (fun _ _ _ h => h) (Or.inl ⟨by rfl, ?_⟩) hHeld ?_
      rotate_left
      · (intro w' hSw; (try dsimp only at hSw); go_simp; try (with_reducible rfl))
      (try simp only [Act.put, List.setIfInBounds_toArray, List.set_cons_zero, List.set_cons_succ])
      refine wpAnyM_take (i := 2) (oi := ⟨_, _, _, _, _, _⟩) (v := ?_) rfl (by kernel_rfl) (by kernel_rfl) (by kernel_rfl) (by kernel_rfl) (fun _ _ _ h => h) (Or.inl ⟨by rfl, ?_⟩) hHeld ?_
      rotate_left
      · (intro w' hSw; (try dsimp only at hSw); go_simp; try (with_reducible rfl))
      (try simp only [Act.put, List.setIfInBounds_toArray, List.set_cons_zero, List.set_cons_succ])
      refine wpAnyM_take (i := 3) (oi := ⟨_, _, _, _, _, _⟩) (v := ?_) rfl (by kernel_rfl) (by kernel_rfl) (by kernel_rfl) (by kernel_rfl) (fun _ _ _ h => h) (Or.inl ⟨by rfl, ?_⟩) hHeld ?_
      rotate_left
      · (intro w' hSw; (try dsimp only at hSw); go_simp; try (with_reducible rfl))
      (try simp only [Act.put, List.setIfInBounds_toArray, List.set_cons_zero, List.set_cons_succ])
      refine wpAnyM_take (i := 4) (oi := ⟨_, _, _, _, _, _⟩) (v := ?_) rfl (by kernel_rfl) (by kernel_rfl) (by kernel_rfl) (by kernel_rfl) (fun _ _ _ h => h) (Or.inl ⟨by rfl, ?_⟩) hHeld ?_
      rotate_left
      · (intro w' hSw; (try dsimp only at hSw); go_simp; try (with_reducible rfl))
      (try simp only [Act.put, List.setIfInBounds_toArray, List.set_cons_zero, List.set_cons_succ])
      refine wpAnyM_take (i := 5) (oi := ⟨_, _, _, _, _, _⟩) (v := ?_) rfl (by kernel_rfl) (by kernel_rfl) (by kernel_rfl) (by kernel_rfl) (fun _ _ _ h => h) (Or.inl ⟨by rfl, ?_⟩) hHeld ?_
      rotate_left
      · (intro w' hSw; (try dsimp only at hSw); go_simp; try (with_reducible rfl))
      (try simp only [Act.put, List.setIfInBounds_toArray, List.set_cons_zero, List.set_cons_succ])
      refine wpAnyM_take (i := 6) (oi := ⟨_, _, _, _, _, _⟩) (v := ?_) rfl (by kernel_rfl) (by kernel_rfl) (by kernel_rfl) (by kernel_rfl) (fun _ _ _ h => h) (Or.inl ⟨by rfl, ?_⟩) hHeld ?_
      rotate_left
      · (intro w' hSw; (try dsimp only at hSw); go_simp; try (with_reducible rfl))
      (try simp only [Act.put, List.setIfInBounds_toArray, List.set_cons_zero, List.set_cons_succ])
      refine wpAnyM_take (i := 7) (oi := ⟨_, _, _, _, _, _⟩) (v := ?_) rfl (by kernel_rfl) (by kernel_rfl) (by kernel_rfl) (by kernel_rfl) (fun _ _ _ h => h) (Or.inl ⟨by rfl, ?_⟩) hHeld ?_
      rotate_left
      · (intro w' hSw; (try dsimp only at hSw); go_simp; try (with_reducible rfl))
      (try simp only [Act.put, List.setIfInBounds_toArray, List.set_cons_zero, List.set_cons_succ])
      refine wpAnyM_take (i := 8) (oi := ⟨_, _, _, _, _, _⟩) (v := ?_) rfl (by kernel_rfl) (by kernel_rfl) (by kernel_rfl) (by kernel_rfl) (fun _ _ _ h => h) (Or.inl ⟨by rfl, ?_⟩) hHeld ?_
      rotate_left
      · (intro w' hSw; (try dsimp only at hSw); go_simp; try (with_reducible rfl))
      (try simp only [Act.put, List.setIfInBounds_toArray, List.set_cons_zero, List.set_cons_succ])
      refine wpAnyM_one (i := 9) (o := ⟨_, _, _, _, _, _⟩) (by kernel_rfl) rfl (fun K hK => ?_)
      refine step_copy_run rfl _ _ 74 74 rfl _ _ rfl rfl (hcp2 _ _ _) ?_
      refine hK.out _ _ trivial (fun hHeld => ?_)
      clear hK K
      (try simp only [List.setIfInBounds_toArray, List.set_cons_zero, List.set_cons_succ])
      refine wpAnyM_done (by kernel_rfl) ?_ _
      go_wp2_with fail
      go_ret
      exact ⟨_, rfl, HO1.out, HG1.out, fun g e => .inl e⟩
    · go_enter Tryz.func139, Tryz.ntmps139
      go_wp2_with fail
      refine wp_region_M (S := fun _ => True) (late := []) (by kernel_rfl) trivial (fun hHeld => ?_)
      (try simp only [List.size_toArray, List.length_cons, List.length_nil, Nat.zero_add, Nat.reduceAdd, Array.replicate, List.replicate])
      refine wpAnyM_take (i := 0) (oi := ⟨_, _, _, _, _, _⟩) (v := ?_) rfl (by kernel_rfl) (by kernel_rfl) (by kernel_rfl) (by kernel_rfl) (fun _ _ _ h => h) (Or.inl ⟨by rfl, ?_⟩) hHeld ?_
      rotate_left
      · (intro w' hSw; (try dsimp only at hSw); go_simp; try (with_reducible rfl))
      (try simp only [Act.put, List.setIfInBounds_toArray, List.set_cons_zero, List.set_cons_succ])
      refine wpAnyM_take (i := 1) (oi := ⟨_, _, _, _, _, _⟩) (v := ?_) rfl (by kernel_rfl) (by kernel_rfl) (by kernel_rfl) (by kernel_rfl) (fun _ _ _ h => h) (Or.inl ⟨by rfl, ?_⟩) hHeld ?_
      rotate_left
      · (intro w' hSw; (try dsimp only at hSw); go_simp; try (with_reducible rfl))
      (try simp only [Act.put, List.setIfInBounds_toArray, List.set_cons_zero, List.set_cons_succ])
      refine wpAnyM_take (i := 2) (oi := ⟨_, _, _, _, _, _⟩) (v := ?_) rfl (by kernel_rfl) (by kernel_rfl) (by kernel_rfl) (by kernel_rfl) (fun _ _ _ h => h) (Or.inl ⟨by rfl, ?_⟩) hHeld ?_
      rotate_left
      · (intro w' hSw; (try dsimp only at hSw); go_simp; try (with_reducible rfl))
      (try simp only [Act.put, List.setIfInBounds_toArray, List.set_cons_zero, List.set_cons_succ])
      refine wpAnyM_take (i := 3) (oi := ⟨_, _, _, _, _, _⟩) (v := ?_) rfl (by kernel_rfl) (by kernel_rfl) (by kernel_rfl) (by kernel_rfl) (fun _ _ _ h => h) (Or.inl ⟨by rfl, ?_⟩) hHeld ?_
      rotate_left
      · (intro w' hSw; (try dsimp only at hSw); go_simp; try (with_reducible rfl))
      (try simp only [Act.put, List.setIfInBounds_toArray, List.set_cons_zero, List.set_cons_succ])
      refine wpAnyM_take (i := 4) (oi := ⟨_, _, _, _, _, _⟩) (v := ?_) rfl (by kernel_rfl) (by kernel_rfl) (by kernel_rfl) (by kernel_rfl) (fun _ _ _ h => h) (Or.inl ⟨by rfl, ?_⟩) hHeld ?_
      rotate_left
      · (intro w' hSw; (try dsimp only at hSw); go_simp; try (with_reducible rfl))
      (try simp only [Act.put, List.setIfInBounds_toArray, List.set_cons_zero, List.set_cons_succ])
      refine wpAnyM_take (i := 5) (oi := ⟨_, _, _, _, _, _⟩) (v := ?_) rfl (by kernel_rfl) (by kernel_rfl) (by kernel_rfl) (by kernel_rfl) (fun _ _ _ h => h) (Or.inl ⟨by rfl, ?_⟩) hHeld ?_
      rotate_left
      · (intro w' hSw; (try dsimp only at hSw); go_simp; try (with_reducible rfl))
      (try simp only [Act.put, List.setIfInBounds_toArray, List.set_cons_zero, List.set_cons_succ])
      refine wpAnyM_take (i := 6) (oi := ⟨_, _, _, _, _, _⟩) (v := ?_) rfl (by kernel_rfl) (by kernel_rfl) (by kernel_rfl) (by kernel_rfl) (fun _ _ _ h => h) (Or.inl ⟨by rfl, ?_⟩) hHeld ?_
      rotate_left
      · (intro w' hSw; (try dsimp only at hSw); go_simp; try (with_reducible rfl))
      (try simp only [Act.put, List.setIfInBounds_toArray, List.set_cons_zero, List.set_cons_succ])
      refine wpAnyM_take (i := 7) (oi := ⟨_, _, _, _, _, _⟩) (v := ?_) rfl (by kernel_rfl) (by kernel_rfl) (by kernel_rfl) (by kernel_rfl) (fun _ _ _ h => h) (Or.inl ⟨by rfl, ?_⟩) hHeld ?_
      rotate_left
      · (intro w' hSw; (try dsimp only at hSw); go_simp; try (with_reducible rfl))
      (try simp only [Act.put, List.setIfInBounds_toArray, List.set_cons_zero, List.set_cons_succ])
      refine wpAnyM_take (i := 8) (oi := ⟨_, _, _, _, _, _⟩) (v := ?_) rfl (by kernel_rfl) (by kernel_rfl) (by kernel_rfl) (by kernel_rfl) (fun _ _ _ h => h) (Or.inl ⟨by rfl, ?_⟩) hHeld ?_
      rotate_left
      · (intro w' hSw; (try dsimp only at hSw); go_simp; try (with_reducible rfl))
      (try simp only [Act.put, List.setIfInBounds_toArray, List.set_cons_zero, List.set_cons_succ])
      refine wpAnyM_take (i := 9) (oi := ⟨_, _, _, _, _, _⟩) (v := ?_) rfl (by kernel_rfl) (by kernel_rfl) (by kernel_rfl) (by kernel_rfl) (fun _ _ _ h => h) (Or.inl ⟨by rfl, ?_⟩) hHeld ?_
      rotate_left
      · (intro w' hSw; (try dsimp only at hSw); go_simp; try (with_reducible rfl))
      (try simp only [Act.put, List.setIfInBounds_toArray, List.set_cons_zero, List.set_cons_succ])
      refine wpAnyM_take (i := 10) (oi := ⟨_, _, _, _, _, _⟩) (v := ?_) rfl (by kernel_rfl) (by kernel_rfl) (by kernel_rfl) (by kernel_rfl) (fun _ _ _ h => h) (Or.inl ⟨by rfl, ?_⟩) hHeld ?_
      rotate_left
      · (intro w' hSw; (try dsimp only at hSw); go_simp; try (with_reducible rfl))
      (try simp only [Act.put, List.setIfInBounds_toArray, List.set_cons_zero, List.set_cons_succ])
      refine wpAnyM_take (i := 11) (oi := ⟨_, _, _, _, _, _⟩) (v := ?_) rfl (by kernel_rfl) (by kernel_rfl) (by kernel_rfl) (by kernel_rfl) (fun _ _ _ h => h) (Or.inl ⟨by rfl, ?_⟩) hHeld ?_
      rotate_left
      · (intro w' hSw; (try dsimp only at hSw); go_simp; try (with_reducible rfl))
      (try simp only [Act.put, List.setIfInBounds_toArray, List.set_cons_zero, List.set_cons_succ])
      refine wpAnyM_take (i := 12) (oi := ⟨_, _, _, _, _, _⟩) (v := ?_) rfl (by kernel_rfl) (by kernel_rfl) (by kernel_rfl) (by kernel_rfl) (fun _ _ _ h => h) (Or.inl ⟨by rfl, ?_⟩) hHeld ?_
      rotate_left
      · (intro w' hSw; (try dsimp only at hSw); go_simp; try (with_reducible rfl))
      (try simp only [Act.put, List.setIfInBounds_toArray, List.set_cons_zero, List.set_cons_succ])
      refine wpAnyM_done (by kernel_rfl) ?_ _
      go_wp2_with fail
      refine wp_region_M (S := fun _ => True) (late := []) (by kernel_rfl) trivial (fun hHeld => ?_)
      (try simp only [List.size_toArray, List.length_cons, List.length_nil, Nat.zero_add, Nat.reduceAdd, Array.replicate, List.replicate])
      refine wpAnyM_take (i := 0) (oi := ⟨_, _, _, _, _, _⟩) (v := ?_) rfl (by kernel_rfl) (by kernel_rfl) (by kernel_rfl) (by kernel_rfl) (fun _ _ _ h => h) (Or.inl ⟨by rfl, ?_⟩) hHeld ?_
      rotate_left
      · (intro w' hSw; (try dsimp only at hSw); go_simp; try (with_reducible rfl))
      (try simp only [Act.put, List.setIfInBounds_toArray, List.set_cons_zero, List.set_cons_succ])
      refine wpAnyM_take (i := 1) (oi := ⟨_, _, _, _, _, _⟩) (v := ?_) rfl (by kernel_rfl) (by kernel_rfl) (by kernel_rfl) (by kernel_rfl) (fun _ _ _ h => h) (Or.inl ⟨by rfl, ?_⟩) hHeld ?_
      rotate_left
      · (intro w' hSw; (try dsimp only at hSw); go_simp; try (with_reducible rfl))
      (try simp only [Act.put, List.setIfInBounds_toArray, List.set_cons_zero, List.set_cons_succ])
      refine wpAnyM_take (i := 2) (oi := ⟨_, _, _, _, _, _⟩) (v := ?_) rfl (by kernel_rfl) (by kernel_rfl) (by kernel_rfl) (by kernel_rfl) (fun _ _ _ h => h) (Or.inl ⟨by rfl, ?_⟩) hHeld ?_
      rotate_left
      · (intro w' hSw; (try dsimp only at hSw); go_simp; try (with_reducible rfl))
      (try simp only [Act.put, List.setIfInBounds_toArray, List.set_cons_zero, List.set_cons_succ])
      refine wpAnyM_take (i := 3) (oi := ⟨_, _, _, _, _, _⟩) (v := ?_) rfl (by kernel_rfl) (by kernel_rfl) (by kernel_rfl) (by kernel_rfl) (fun _ _ _ h => h) (Or.inl ⟨by rfl, ?_⟩) hHeld ?_
      rotate_left
      · (intro w' hSw; (try dsimp only at hSw); go_simp; try (with_reducible rfl))
      (try simp only [Act.put, List.setIfInBounds_toArray, List.set_cons_zero, List.set_cons_succ])
      refine wpAnyM_take (i := 4) (oi := ⟨_, _, _, _, _, _⟩) (v := ?_) rfl (by kernel_rfl) (by kernel_rfl) (by kernel_rfl) (by kernel_rfl) (fun _ _ _ h => h) (Or.inl ⟨by rfl, ?_⟩) hHeld ?_
      rotate_left
      · (intro w' hSw; (try dsimp only at hSw); go_simp; try (with_reducible rfl))
      (try simp only [Act.put, List.setIfInBounds_toArray, List.set_cons_zero, List.set_cons_succ])
      refine wpAnyM_take (i := 5) (oi := ⟨_, _, _, _, _, _⟩) (v := ?_) rfl (by kernel_rfl) (by kernel_rfl) (by kernel_rfl) (by kernel_rfl) (fun _ _ _ h => h) (Or.inl ⟨by rfl, ?_⟩) hHeld ?_
      rotate_left
      · (intro w' hSw; (try dsimp only at hSw); go_simp; try (with_reducible rfl))
      (try simp only [Act.put, List.setIfInBounds_toArray, List.set_cons_zero, List.set_cons_succ])
      refine wpAnyM_take (i := 6) (oi := ⟨_, _, _, _, _, _⟩) (v := ?_) rfl (by kernel_rfl) (by kernel_rfl) (by kernel_rfl) (by kernel_rfl) (fun _ _ _ h => h) (Or.inl ⟨by rfl, ?_⟩) hHeld ?_
      rotate_left
      · (intro w' hSw; (try dsimp only at hSw); go_simp; try (with_reducible rfl))
      (try simp only [Act.put, List.setIfInBounds_toArray, List.set_cons_zero, List.set_cons_succ])
      refine wpAnyM_take (i := 7) (oi := ⟨_, _, _, _, _, _⟩) (v := ?_) rfl (by kernel_rfl) (by kernel_rfl) (by kernel_rfl) (by kernel_rfl) (fun _ _ _ h => h) (Or.inl ⟨by rfl, ?_⟩) hHeld ?_
      rotate_left
      · (intro w' hSw; (try dsimp only at hSw); go_simp; try (with_reducible rfl))
      (try simp only [Act.put, List.setIfInBounds_toArray, List.set_cons_zero, List.set_cons_succ])
      refine wpAnyM_take (i := 8) (oi := ⟨_, _, _, _, _, _⟩) (v := ?_) rfl (by kernel_rfl) (by kernel_rfl) (by kernel_rfl) (by kernel_rfl) (fun _ _ _ h => h) (Or.inl ⟨by rfl, ?_⟩) hHeld ?_
      rotate_left
      · (intro w' hSw; (try dsimp only at hSw); go_simp; try (with_reducible rfl))
      (try simp only [Act.put, List.setIfInBounds_toArray, List.set_cons_zero, List.set_cons_succ])
      refine wpAnyM_one (i := 9) (o := ⟨_, _, _, _, _, _⟩) (by kernel_rfl) rfl (fun K hK => ?_)
      refine step_copy_run rfl _ _ 74 74 rfl _ _ rfl rfl (hcp2 _ _ _) ?_
      refine hK.out _ _ trivial (fun hHeld => ?_)
      clear hK K
      (try simp only [List.setIfInBounds_toArray, List.set_cons_zero, List.set_cons_succ])
      refine wpAnyM_done (by kernel_rfl) ?_ _
      go_wp2_with fail
      go_ret
      exact ⟨_, rfl, HO1.out, HG1.out, fun g e => .inl e⟩
theorem replace_any {w : World} {base : Nat} {s : Value} {l : List Sp} (ho : OwnL 72 2 Sp.cs base w s l) (hn : l.length ≤ 100000) (hbase : base ≤ w.heap.size) {gv : Nat} {x : Sp} (hv : BoxT 72 w gv #[.int .i64 x.f, .int .i64 x.t]) (hgv : s.ownBlock ≠ some gv) {i j : Nat} (hij : i ≤ j) (hj : j ≤ l.length) :
    Calls Tryz.prog 139 #[s, .int .i64 (i : Int), .int .i64 (j : Int), .slice (some ⟨gv, 0, none⟩) 1 1] w (RPost base w s (l.take i ++ x :: l.drop j)) := by
  by_cases h1 : i = j
  · subst h1
    exact replace_ins ho hn hbase hv hgv hj
  · rcases ho.2 with ⟨rfl, h0⟩ | ⟨g, cap, cur, rfl, _⟩
    · omega
    · by_cases h2 : j = l.length
      · subst h2
        rw [List.drop_of_length_le (Nat.le_refl _)]
        exact replace_end ho hn hv (by omega)
      · exact replace_mid ho hn hv (by omega) (by omega)
end Go.Proofs.YtpcbhcdpegbfjaaGreat
/-
  One more span among a key's sessions: those that it overlaps are neighbours.
-/
namespace Go.Proofs.YtpcbhcdpegbfjaaGreat
open Go.RowKit

def jsp (s x : Sp) : Sp := ⟨min s.f x.f, max s.t x.t⟩
def whl (s : Sp) (l : List Sp) (a b : Nat) : Sp := ((l.take b).drop a).foldl jsp s
theorem whl_self (s : Sp) (l : List Sp) (a : Nat) : whl s l a a = s := by
  unfold whl
  rw [List.drop_of_length_le (by rw [List.length_take]; omega)]; rfl
theorem whl_step {s : Sp} {l : List Sp} {a b : Nat} {x : Sp} (hab : a ≤ b) (hx : l[b]? = some x) : whl s l a (b + 1) = jsp (whl s l a b) x := by
  unfold whl
  have hb := lt_of_get hx
  have e : l[b] = x := by rw [List.getElem?_eq_getElem hb] at hx; exact Option.some.inj hx
  rw [List.take_succ_eq_append_getElem hb, e, List.drop_append_of_le_length (by rw [List.length_take]; omega), List.foldl_append]; rfl
structure AddR (l : List Sp) (f t : Int) (a b : Nat) : Prop where
  ab : a ≤ b
  bl : b ≤ l.length
  lo : ∀ i x, i < a → l[i]? = some x → x.t ≤ f
  mi : ∀ i x, a ≤ i → i < b → l[i]? = some x → f < x.t ∧ x.f < t
  hi : ∀ i x, b ≤ i → l[i]? = some x → t ≤ x.f
theorem rise_get {l : List Sp} (h : l.Pairwise fun a b => a.t ≤ b.f) {i j : Nat} {x y : Sp} (hij : i < j) (hx : l[i]? = some x) (hy : l[j]? = some y) : x.t ≤ y.f := by
  have h1 := lt_of_get hx
  have h2 := lt_of_get hy
  rw [List.getElem?_eq_getElem h1] at hx
  rw [List.getElem?_eq_getElem h2] at hy
  cases hx; cases hy
  exact List.pairwise_iff_getElem.1 h i j h1 h2 hij
theorem wp_lookM {P : Program} {w : World} {ops : Array Oper} {rest : List Oper} {o : Oper} {a : Act} {Q : Exit → Act → World → Prop} (hg : o.guard = none) (m x : Operand) (t : TypeId) (c : Bool) (hop : o.op = Op.lookup t m x c) (mv kv : Value) (hm : a.eval m = mv) (hx : a.eval x = kv) {v : Value} (hrun : (Instr.lookup t mv kv c).run P w = .ok v w)
    (h : wpList P ops Q rest (a.put o.dst v) w) : wpList P ops Q (o :: rest) a w := by
  refine wpList_plain hg fun K' hK' => ?_
  unfold Oper.wp
  simp [execOp, hop, hm, hx, hrun, Result.andThen]
  exact hK' _ _ h
theorem wp_putM {P : Program} {w : World} {ops : Array Oper} {rest : List Oper} {o : Oper} {a : Act} {Q : Exit → Act → World → Prop} (hg : o.guard = none) (m x v : Operand) (t : TypeId) (hop : o.op = Op.mapUpdate t m x v) (mv kv vv : Value) (hm : a.eval m = mv) (hx : a.eval x = kv) (hv : a.eval v = vv) {w' : World} (hrun : (Instr.mapUpdate t mv kv vv).run P w = .ok () w')
    (h : wpList P ops Q rest (a.put o.dst undef) w') : wpList P ops Q (o :: rest) a w := by
  refine wpList_plain hg fun K' hK' => ?_
  unfold Oper.wp
  simp [execOp, hop, hm, hx, hv, hrun, Result.andThen]
  exact hK' _ _ h
def RowOf (R R0 : List SRow) (k : Int) (v : Value) (l : List Sp) : Prop := (R = R0 ∧ (∀ r ∈ R, r.k ≠ k) ∧ v = .slice none 0 0 ∧ l = []) ∨ R.Perm (⟨k, v, l⟩ :: R0)
theorem rowOf (R : List SRow) (k : Int) : ∃ R0 v l, RowOf R R0 k v l := by
  by_cases h : ∃ r ∈ R, r.k = k
  · obtain ⟨r, hr, rfl⟩ := h
    obtain ⟨u, v, rfl⟩ := List.append_of_mem hr
    exact ⟨u ++ v, r.v, r.l, .inr List.perm_middle⟩
  · exact ⟨R, .slice none 0 0, [], .inl ⟨rfl, fun r hr e => h ⟨r, hr, e⟩, rfl, rfl⟩⟩
theorem Tryz.zeroRow (w : World) : (zeroValue 74).run Tryz.prog w = .ok (.slice none 0 0) w := by kernel_rfl
theorem OM.look {w : World} {o : Nat} {fq : Nat → Prop} {R R0 : List SRow} (h : OM w o fq R) {k : Int} (hk : In64 k) {v : Value} {l : List Sp} (hr : RowOf R R0 k v l) : (Instr.lookup 115 (.map (some o)) (.int .i64 k) false).run Tryz.prog w = .ok v w := by
  rcases hr with ⟨rfl, h1, rfl, rfl⟩ | hp
  · exact h.op.look_miss Tryz.lawI Tryz.underlying115 (Tryz.zeroRow w) (keyI hk) (fun p hp e => by
      obtain ⟨r, hr, rfl⟩ := List.mem_map.1 hp
      simp [sEnt] at e
      exact h1 r hr e) false
  · exact h.op.look_hit Tryz.lawI Tryz.underlying115 (keyI hk) (R := R0.map sEnt) (by have := hp.map sEnt; rwa [List.map_cons] at this) false
theorem OM.row {w : World} {o : Nat} {fq : Nat → Prop} {R R0 : List SRow} (h : OM w o fq R) {k : Int} {v : Value} {l : List Sp} (hr : RowOf R R0 k v l) : OwnL 72 2 Sp.cs 0 w v l := by
  rcases hr with ⟨rfl, h1, rfl, rfl⟩ | hp
  · exact OwnL.nil _ _ _ _ _
  · exact (h.rows _ (hp.mem_iff.2 (List.mem_cons_self ..))).1
theorem OM.rowIn {w : World} {o : Nat} {fq : Nat → Prop} {R R0 : List SRow} (h : OM w o fq R) {k : Int} {v : Value} {l : List Sp} (hr : RowOf R R0 k v l) : ∀ g, v.ownBlock = some g → fq g := by
  rcases hr with ⟨rfl, h1, rfl, rfl⟩ | hp
  · intro g e; cases e
  · exact h.fr _ (hp.mem_iff.2 (List.mem_cons_self ..))
theorem OM.store {w w1 : World} {o : Nat} {fq : Nat → Prop} {R R0 : List SRow} (h : OM w o fq R) {k : Int} (hk : In64 k) {v v' : Value} {l l' : List Sp} (hr : RowOf R R0 k v l) (hg : w.grownBy w1 v.ownBlock) (ho : OwnL 72 2 Sp.cs 0 w1 v' l') (hl : l' ≠ []) (hin : ∀ g, v'.ownBlock = some g → v.ownBlock = some g ∨ w.heap.size ≤ g) :
    ∃ w', (Instr.mapUpdate 115 (.map (some o)) (.int .i64 k) v').run Tryz.prog w1 = .ok () w' ∧ OM w' o (fun i => fq i ∨ v'.ownBlock = some i) (⟨k, v', l'⟩ :: R0) ∧ MTurn w1 w' o := by
  have hov : ∀ g, v.ownBlock = some g → g ≠ o := fun g e e' => by
    obtain ⟨cu, hcu⟩ := (h.row hr).has g e
    obtain ⟨es, ck, hes⟩ := h.op.isMap
    rw [e', hes] at hcu; cases hcu
  have ho1 : MapAt Tryz.prog 2 w1 o (R.map sEnt) := h.op.back (hg.block o h.op.lt (fun e => hov o e.symm rfl))
  have hov' : ∀ g, v'.ownBlock = some g → g ≠ o := fun g e e' => by
    obtain ⟨cu, hcu⟩ := ho.has g e
    obtain ⟨es, ck, hes⟩ := ho1.isMap
    rw [e', hes] at hcu; cases hcu
  have h0 : ∃ w', (Instr.mapUpdate 115 (.map (some o)) (.int .i64 k) v').run Tryz.prog w1 = .ok () w' ∧ MapAt Tryz.prog 2 w' o ((⟨k, v', l'⟩ :: R0 : List SRow).map sEnt) ∧ MTurn w1 w' o := by
    rcases hr with ⟨rfl, h1, rfl, rfl⟩ | hp
    · exact ho1.store_new Tryz.lawI Tryz.underlying115 (keyI hk) (fun p hp e => by
        obtain ⟨r, hr, rfl⟩ := List.mem_map.1 hp
        simp [sEnt] at e
        exact h1 r hr e)
    · exact ho1.store_old Tryz.lawI Tryz.underlying115 (keyI hk) (R := R0.map sEnt) (by have := hp.map sEnt; rwa [List.map_cons] at this)
  have hsub : ∀ r ∈ R0, r ∈ R := fun r hm => by
    rcases hr with ⟨rfl, _⟩ | hp
    · exact hm
    · exact hp.mem_iff.2 (List.mem_cons_of_mem _ hm)
  have hne : ∀ r ∈ R0, ∀ g, r.v.ownBlock = some g → v.ownBlock ≠ some g := fun r hm g e e' => by
    rcases hr with ⟨rfl, _, rfl, _⟩ | hp
    · cases e'
    · have hap := h.apart.perm hp (fun e => e.symm)
      exact (List.pairwise_cons.1 hap).1 r hm (e'.trans e.symm)
  have hR0 : R0.Pairwise fun a b => a.v.ownBlock ≠ b.v.ownBlock := by
    rcases hr with ⟨rfl, _⟩ | hp
    · exact h.apart
    · exact (List.pairwise_cons.1 (h.apart.perm hp (fun e => e.symm))).2
  obtain ⟨w', hrun, hm, ht⟩ := h0
  refine ⟨w', hrun, ⟨hm, fun r hrm => ?_, fun r hrm g e => ?_, List.pairwise_cons.2 ⟨fun r hrm e => ?_, hR0⟩, .inl h.fo, fun i hi => ?_⟩, ht⟩
  · rcases List.mem_cons.1 hrm with rfl | hrm
    · exact ⟨ho.back (fun g e => ht.other (hov' g e)), hl, hk⟩
    · obtain ⟨q1, q2, q3⟩ := h.rows r (hsub r hrm)
      refine ⟨q1.back (fun g e => ?_), q2, q3⟩
      have hgo : g ≠ o := fun e' => by
        obtain ⟨cu, hcu⟩ := q1.has g e
        obtain ⟨es, ck, hes⟩ := h.op.isMap
        rw [e', hes] at hcu; cases hcu
      rw [ht.other hgo]
      exact hg.block g (q1.lt g e) (fun e' => hne r hrm g e e'.symm)
  · rcases List.mem_cons.1 hrm with rfl | hrm
    · exact .inr e
    · exact .inl (h.fr r (hsub r hrm) g e)
  · cases hb : r.v.ownBlock with
    | none =>
      obtain ⟨q1, q2, _⟩ := h.rows r (hsub r hrm)
      rcases q1.2 with ⟨_, q4⟩ | ⟨g, c, cu, q4, _⟩
      · exact q2 (List.length_eq_zero_iff.1 q4)
      · rw [q4] at hb; cases hb
    | some g =>
      rw [hb] at e
      rcases hin g e with e2 | e2
      · exact hne r hrm g hb e2
      · have := (h.rows r (hsub r hrm)).1.lt g hb; omega
  · rw [ht.size]
    rcases hi with hi | hi
    · exact Nat.lt_of_lt_of_le (h.flt i hi) hg.size
    · exact ho.lt i hi
end Go.Proofs.YtpcbhcdpegbfjaaGreat
