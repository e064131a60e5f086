/-
  Texts in build order: SIns.
-/
import Derived.Test.YtdoldohcimbdaaaGreatM18
import Derived.Lib.Overlaps
import Derived.Lib.AppendZerosOnto
import Derived.Laws.NewBlocks
/-
  slices.Insert of one span into a row of one's own.
-/
namespace Go.Proofs.YtdoldohcimbdaaaGreat
open Go.RowKit

theorem run_copy_sp (w : World) (ty g o dLen dCap : Nat) (a : Addr) (sLen sCap : Nat) (cur : Array Value) (cs : List Value) (hg : BoxT 68 w g cur) (m : Nat) (hm : m = Nat.min sLen dLen) (hn : cs.length = m * 2)
    (hsrc : ∀ j v, cs[j]? = some v → w.cell? (a.add j) = some v) (hfit : o + cs.length ≤ cur.size) (h1 : ∀ v ∈ cs, v.oneCell' = true) :
    (Builtin.copy_ #[79, 79] ty #[.slice (some ⟨g, o, none⟩) dLen dCap, .slice (some a) sLen sCap]).run Tryz.prog w = .ok (goInt m) (w.setCells g o cs) := by
  have hl := run_loadCells_list (P := Tryz.prog) w a cs hsrc
  have hst := run_storeCells_cells (P := Tryz.prog) g o cs 0 w (fun j hj => by rw [hg.cellAt, Array.getElem?_eq_getElem (by omega)]; rfl) (fun j _ => hg.free _) h1
  obtain ⟨i0, hi, _, hz1, _⟩ := info_parts Tryz.infoSp
  rw [hn] at hl
  simp [Builtin.copy_, run_underlying Tryz.underlying79, Builtin.lenOf, Builtin.firstCells, sizeOf, typeInfo, hi, hz1, ← hm, hl, hst]
theorem Tryz.sizeSp (w : World) : (Go.sizeOf 68).run Tryz.prog w = .ok 2 w := by
  obtain ⟨i0, hi, _, hz1, _⟩ := info_parts Tryz.infoSp
  simp [sizeOf, typeInfo, hi, hz1]
theorem run_overlaps_sp (w : World) {ga gb oa ob la ca lb cb : Nat} {cu cv : Array Value} (hne : ga ≠ gb) (ha : BoxT 68 w ga cu) (hb : BoxT 68 w gb cv) (hk : cv.size ≠ 0) : (callFunc 87 #[.slice (some ⟨ga, oa, none⟩) la ca, .slice (some ⟨gb, ob, none⟩) lb cb]).run Tryz.prog w = .ok (.value (.bool false)) w := by
  have hsa : w.shape? ga = some (68, cu.size) := by unfold BoxT at ha; simp [World.shape?, ha]
  have hsb : w.shape? gb = some (68, cv.size) := by unfold BoxT at hb; simp [World.shape?, hb]
  have h := Lib.run_overlaps_apart (P := Tryz.prog) w 79 4 68 Tryz.underlying79 2 Tryz.sizeSp ⟨ga, oa, none⟩ ⟨gb, ob, none⟩ la ca lb cb hne _ _ _ _ hsa hsb hk (ha.free _) (ha.free _)
  rw [run_callFunc_extern Tryz.func87 (by kernel_rfl) (by kernel_rfl) (by kernel_rfl) (e := Extern.SlicesOverlaps.overlaps #[79, 79] #[4]) (by kernel_rfl), h]
  rfl
theorem new2 (W : World) {n : Nat} (x : Sp) (h : BoxT 68 W n #[.int .i64 x.f, .int .i64 x.t]) (j : Nat) (u : Value) (hu : (Sp.cs x)[j]? = some u) : W.cell? ((⟨n, 0, none⟩ : Addr).add j) = some u := by
  rw [add_plain2, h.cellAt, Nat.zero_add]
  have hl := lt_of_get hu
  rw [Sp.cs_len] at hl
  match j, hu with
  | 0, hu | 1, hu => simp [Sp.cs] at hu; subst hu; rfl
set_option maxHeartbeats 4000000 in
set_option maxRecDepth 100000 in
/-- At the end. -/
theorem insert_end {w : World} {base : Nat} {s : Value} {l : List Sp} (ho : OwnL 68 2 Sp.cs base w s l) (hn : l.length ≤ 100000) (hbase : base ≤ w.heap.size) {gv : Nat} {x : Sp} (hv : BoxT 68 w gv #[.int .i64 x.f, .int .i64 x.t]) :
    Calls Tryz.prog 86 #[s, .int .i64 (l.length : Int), .slice (some ⟨gv, 0, none⟩) 1 1] w fun e w' => ∃ u, e = .returned u ∧ OwnL 68 2 Sp.cs base w' u (l ++ [x]) ∧ w.grownBy w' s.ownBlock ∧ (∀ g, u.ownBlock = some g → s.ownBlock = some g ∨ w.heap.size ≤ g) := by
  have HO := hide ho
  obtain ⟨ao, cap, rfl⟩ := ho.shape
  have hcap : l.length ≤ cap := by
    rcases ho.2 with ⟨e, h0⟩ | ⟨g, c, cur, e, _, _, h, _⟩
    · have := congrArg (fun v => match v with | Value.slice _ n _ => n | _ => 0) e; simp at this; omega
    · simp at e; omega
  have HN := hide (new2 w x hv)
  clear ho hv
  rcases Nat.lt_or_ge l.length cap with hc | hc
  · have bc : (l.length : Int) ≤ (cap : Int) := by omega
    have hne : ¬ cap = l.length := by omega
    go_enter Tryz.func86, Tryz.ntmps86
    go_wp2_with (first | (at_builtin; refine app_L Tryz.infoSp Tryz.underlying79 rfl (by decide) (by decide) Sp.cs_len Sp.cs_one rfl _ _ rfl base _ l rfl HO.out _ _ x rfl HN.out (by omega) hbase ?_; intro v5 w5 h5 g5 k5) | fail)
    go_ret
    exact ⟨_, rfl, h5, g5, k5⟩
  · obtain rfl : cap = l.length := by omega
    clear hc hcap
    go_enter Tryz.func86, Tryz.ntmps86
    go_wp2_with (first | (at_builtin; refine app_L Tryz.infoSp Tryz.underlying79 rfl (by decide) (by decide) Sp.cs_len Sp.cs_one rfl _ _ rfl base _ l rfl HO.out _ _ x rfl HN.out (by omega) hbase ?_; intro v5 w5 h5 g5 k5) | fail)
    go_ret
    exact ⟨_, rfl, h5, g5, k5⟩
theorem wp_copy_run {P : Program} {w : World} {ops : Array Oper} {rest : List Oper} {o : Oper} {a : Act} {Q : Exit → Act → World → Prop} (hgd : o.guard = none) (d s : Operand) (dT sT : TypeId)
    (ho : o.op = .call { callee := .builtin .copy, args := #[d, s], argTypes := #[dT, sT] }) (vd vs : Value) (hd : a.eval d = vd) (hs : a.eval s = vs) {r : Value} {w' : World} (hrun : (Builtin.copy_ #[dT, sT] o.type #[vd, vs]).run P w = .ok r w')
    (h : wpList P ops Q rest (a.put o.dst r) w') : wpList P ops Q (o :: rest) a w := by
  refine wpList_plain hgd fun K hK => ?_
  unfold Oper.wp
  simp [execOp, ho, resolve, invoke, builtin, hd, hs, hrun, Result.andThen]
  exact hK _ _ h
theorem step_copy_run {P : Program} {w : World} {ops : Array Oper} {o : Oper} {a : Act} {K : Act → World → Prop} {Q : Exit → Act → World → Prop} {E : Prop} (hgd : o.guard = none) (d s : Operand) (dT sT : TypeId)
    (ho : o.op = .call { callee := .builtin .copy, args := #[d, s], argTypes := #[dT, sT] }) (vd vs : Value) (hd : a.eval d = vd) (hs : a.eval s = vs) {r : Value} {w' : World} (hrun : (Builtin.copy_ #[dT, sT] o.type #[vd, vs]).run P w = .ok r w')
    (h : K (a.put o.dst r) w') : if Region.wanted o (yielded ops a.tmps) = true then Oper.wp P o a w K Q else E := by
  have hw : Region.wanted o (yielded ops a.tmps) = true := by simp [Region.wanted, hgd]
  rw [if_pos hw]
  unfold Oper.wp
  simp [execOp, ho, resolve, invoke, builtin, hd, hs, hrun, Result.andThen]
  exact h
theorem wp_append_run {P : Program} {w : World} {ops : Array Oper} {rest : List Oper} {o : Oper} {a : Act} {Q : Exit → Act → World → Prop} (hgd : o.guard = none) (d s : Operand) (dT sT : TypeId)
    (ho : o.op = .call { callee := .builtin .append, args := #[d, s], argTypes := #[dT, sT] }) (vd vs : Value) (hd : a.eval d = vd) (hs : a.eval s = vs) {r : Value} {w' : World} (hrun : (Builtin.append_ #[dT, sT] o.type #[vd, vs]).run P w = .ok r w')
    (h : wpList P ops Q rest (a.put o.dst r) w') : wpList P ops Q (o :: rest) a w := by
  refine wpList_plain hgd fun K hK => ?_
  unfold Oper.wp
  simp [execOp, ho, resolve, invoke, builtin, hd, hs, hrun, Result.andThen]
  exact hK _ _ h
/-- A block whose first cells are those of L is a row of one's own. -/
theorem own_of_box {base : Nat} {w : World} {g cap n : Nat} {cur : Array Value} {L : List Sp} (hb : BoxT 68 w g cur) (hbase : base ≤ g) (hs : cur.size = cap * 2) (hnL : n = L.length) (hn : L.length ≤ cap) (hcap : cap ≤ maxLen) (hc : ∀ a x, L[a]? = some x → ∀ q u, (Sp.cs x)[q]? = some u → cur[a * 2 + q]? = some u) :
    OwnL 68 2 Sp.cs base w (.slice (some ⟨g, 0, none⟩) n cap) L := by
  subst hnL
  refine ⟨by rw [flat_size Sp.cs_len], .inr ⟨g, cap, cur, rfl, hbase, hb, hn, hcap, hs, ?_⟩⟩
  apply List.ext_getElem?
  intro a
  rw [List.getElem?_take]
  by_cases ha : a < L.length * 2
  · rw [if_pos ha, Array.getElem?_toList]
    obtain ⟨x, hx⟩ := get_of_lt (show a / 2 < L.length by omega)
    have hm2 : a % 2 < x.cs.length := by rw [Sp.cs_len]; omega
    obtain ⟨u, hu⟩ := get_of_lt hm2
    have h1 := flat_get Sp.cs_len L (a / 2) (a % 2) x u hx hu
    have h2 := hc (a / 2) x hx (a % 2) u hu
    rw [show a / 2 * 2 + a % 2 = a by omega] at h1 h2
    rw [h1, h2]
  · rw [if_neg ha, List.getElem?_eq_none (by rw [flat_size Sp.cs_len]; omega)]
theorem own_cells {base : Nat} {w : World} {g n cap : Nat} {l : List Sp} (h : OwnL 68 2 Sp.cs base w (.slice (some ⟨g, 0, none⟩) n cap) l) : ∃ cur, n = l.length ∧ base ≤ g ∧ BoxT 68 w g cur ∧ l.length ≤ cap ∧ cap ≤ maxLen ∧ cur.size = cap * 2 ∧ ∀ a x, l[a]? = some x → ∀ q u, (Sp.cs x)[q]? = some u → cur[a * 2 + q]? = some u := by
  rcases h.2 with ⟨e, _⟩ | ⟨g', c, cur, e, h1, h2, h3, h4, h5, h6⟩
  · cases e
  · simp only [Value.slice.injEq, Option.some.injEq, Addr.mk.injEq, and_true] at e
    obtain ⟨rfl, e2, rfl⟩ := e
    refine ⟨cur, e2, h1, h2, h3, h4, h5, fun a x hx q u hu => ?_⟩
    have h7 := flat_get Sp.cs_len l a q x u hx hu
    rw [← h6, List.getElem?_take] at h7
    split at h7
    · simpa using h7
    · cases h7
theorem ins_get {l : List Sp} {i j : Nat} (hij : i ≤ j) (hjl : j ≤ l.length) {x y : Sp} {a : Nat} (h : (l.take i ++ x :: l.drop j)[a]? = some y) : (a < i ∧ l[a]? = some y) ∨ (a = i ∧ y = x) ∨ (i < a ∧ l[j + (a - i - 1)]? = some y) := by
  have hl : (l.take i).length = i := by rw [List.length_take]; omega
  by_cases h1 : a < i
  · rw [List.getElem?_append_left (by omega), List.getElem?_take, if_pos h1] at h
    exact .inl ⟨h1, h⟩
  · rw [List.getElem?_append_right (by omega), hl] at h
    by_cases h2 : a = i
    · subst h2
      simp at h
      exact .inr (.inl ⟨rfl, h.symm⟩)
    · obtain ⟨k, rfl⟩ : ∃ k, a = i + (k + 1) := ⟨a - i - 1, by omega⟩
      rw [show i + (k + 1) - i = k + 1 by omega, List.getElem?_cons_succ, List.getElem?_drop] at h
      exact .inr (.inr ⟨by omega, by rw [show i + (k + 1) - i - 1 = k by omega]; exact h⟩)
theorem drop_flat {l : List Sp} {j : Nat} {cur : Array Value} (hc : ∀ a x, l[a]? = some x → ∀ q u, (Sp.cs x)[q]? = some u → cur[a * 2 + q]? = some u) (b : Nat) (v : Value) (h : ((l.drop j).flatMap Sp.cs)[b]? = some v) : cur[j * 2 + b]? = some v := by
  have hlt := lt_of_get h
  rw [flat_size Sp.cs_len] at hlt
  obtain ⟨x, hx⟩ := get_of_lt (show b / 2 < (l.drop j).length by omega)
  have hm2 : b % 2 < x.cs.length := by rw [Sp.cs_len]; omega
  obtain ⟨u, hu⟩ := get_of_lt hm2
  have h1 := flat_get Sp.cs_len (l.drop j) (b / 2) (b % 2) x u hx hu
  rw [show b / 2 * 2 + b % 2 = b by omega, h] at h1
  cases h1
  rw [List.getElem?_drop] at hx
  have h2 := hc (j + b / 2) x hx (b % 2) v hu
  rw [show (j + b / 2) * 2 + b % 2 = j * 2 + b by omega] at h2
  exact h2
theorem flat_one (l : List Sp) : ∀ v ∈ l.flatMap Sp.cs, v.oneCell' = true := by
  intro v hv
  obtain ⟨x, _, hx⟩ := List.mem_flatMap.1 hv
  exact Sp.cs_one x v hx
/-- The cells behind what was laid: first what stood from j on at k, then x at i. -/
theorem ins_cells {l : List Sp} {i j : Nat} (hij : i ≤ j) (hjl : j ≤ l.length) {x : Sp} {cur cur2 : Array Value} (hc : ∀ a x, l[a]? = some x → ∀ q u, (Sp.cs x)[q]? = some u → cur[a * 2 + q]? = some u)
    (h1 : ∀ b, b < i * 2 → cur2[b]? = cur[b]?) (h2 : ∀ b u, (Sp.cs x)[b]? = some u → cur2[i * 2 + b]? = some u) (h3 : ∀ b v, ((l.drop j).flatMap Sp.cs)[b]? = some v → cur2[(i + 1) * 2 + b]? = some v) :
    ∀ a y, (l.take i ++ x :: l.drop j)[a]? = some y → ∀ q u, (Sp.cs y)[q]? = some u → cur2[a * 2 + q]? = some u := by
  intro a y hy q u hu
  have hq := lt_of_get hu
  rw [Sp.cs_len] at hq
  rcases ins_get hij hjl hy with ⟨e1, e2⟩ | ⟨rfl, rfl⟩ | ⟨e1, e2⟩
  · rw [h1 _ (by omega)]; exact hc a y e2 q u hu
  · exact h2 q u hu
  · have e3 : (l.drop j)[a - i - 1]? = some y := by rw [List.getElem?_drop]; exact e2
    have e4 := flat_get Sp.cs_len (l.drop j) (a - i - 1) q y u e3 hu
    have e5 := h3 _ _ e4
    rw [show (i + 1) * 2 + ((a - i - 1) * 2 + q) = a * 2 + q by omega] at e5
    exact e5
set_option maxHeartbeats 4000000 in
set_option maxRecDepth 100000 in
/-- In the midst, where there is room. -/
theorem insert_room {w : World} {base g cap : Nat} {l : List Sp} (ho : OwnL 68 2 Sp.cs base w (.slice (some ⟨g, 0, none⟩) l.length cap) l) (hn : l.length ≤ 100000) {gv : Nat} {x : Sp} (hv : BoxT 68 w gv #[.int .i64 x.f, .int .i64 x.t]) (hgv : g ≠ gv) {i : Nat} (hi : i < l.length) (hr : l.length + 1 ≤ cap) :
    Calls Tryz.prog 86 #[.slice (some ⟨g, 0, none⟩) l.length cap, .int .i64 (i : Int), .slice (some ⟨gv, 0, none⟩) 1 1] w fun e w' => e = .returned (.slice (some ⟨g, 0, none⟩) (l.length + 1) cap) ∧ OwnL 68 2 Sp.cs base w' (.slice (some ⟨g, 0, none⟩) (l.length + 1) cap) (l.take i ++ x :: l.drop i) ∧ w.grownBy w' (some g) := by
  obtain ⟨cur, _, hbg, hb, hlc, hcm, hsz, hc⟩ := own_cells ho
  have hl1 : ((l.drop i).flatMap Sp.cs).length = (l.length - i) * 2 := by rw [flat_size Sp.cs_len, List.length_drop]
  have hov : (callFunc 87 #[.slice (some ⟨gv, 0, none⟩) 1 1, .slice (some ⟨g, (i + 1) * 2, none⟩) (l.length - i) (cap - (i + 1))]).run Tryz.prog w = .ok (.value (.bool false)) w := run_overlaps_sp w (fun e => hgv e.symm) hv hb (by omega)
  have hcp1 : ∀ ty dc sc, (Builtin.copy_ #[79, 79] ty #[.slice (some ⟨g, (i + 1) * 2, none⟩) (l.length - i) dc, .slice (some ⟨g, i * 2, none⟩) (l.length + 1 - i) sc]).run Tryz.prog w.drew = .ok (goInt (l.length - i : Nat)) (w.drew.setCells g ((i + 1) * 2) ((l.drop i).flatMap Sp.cs)) := fun ty dc sc =>
    run_copy_sp w.drew ty g ((i + 1) * 2) (l.length - i) dc ⟨g, i * 2, none⟩ (l.length + 1 - i) sc cur _ hb.drew (l.length - i) (by simp only [Nat.min_def]; split <;> omega) hl1
      (fun j v hj => by rw [add_plain2, hb.drew.cellAt]; exact drop_flat hc j v hj) (by rw [hl1, hsz]; omega) (flat_one _)
  have hb1 := hb.drew.setCells (j := (i + 1) * 2) ((l.drop i).flatMap Sp.cs)
  have hg1 := grown_setCells g ((l.drop i).flatMap Sp.cs) w.drew ((i + 1) * 2)
  have hv1 : BoxT 68 (w.drew.setCells g ((i + 1) * 2) ((l.drop i).flatMap Sp.cs)) gv #[.int .i64 x.f, .int .i64 x.t] := hv.drew.grown hg1 (fun e => hgv e.symm)
  obtain ⟨W1, hW1⟩ : ∃ W1, W1 = w.drew.setCells g ((i + 1) * 2) ((l.drop i).flatMap Sp.cs) := ⟨_, rfl⟩
  rw [← hW1] at hcp1 hb1 hg1 hv1
  have hcp2 : ∀ ty dc, (Builtin.copy_ #[79, 79] ty #[.slice (some ⟨g, i * 2, none⟩) (l.length + 1 - i) dc, .slice (some ⟨gv, 0, none⟩) 1 1]).run Tryz.prog W1 = .ok (goInt 1) (W1.setCells g (i * 2) (Sp.cs x)) := fun ty dc =>
    run_copy_sp W1 ty g (i * 2) (l.length + 1 - i) dc ⟨gv, 0, none⟩ 1 1 _ _ hb1 1 (by simp only [Nat.min_def]; split <;> omega) (Sp.cs_len x) (new2 W1 x hv1) (by rw [setL_size, Sp.cs_len, hsz]; omega) (Sp.cs_one x)
  have HB2 := hide (hb1.setCells (j := i * 2) (Sp.cs x))
  have HG2 := hide (grownBy_trans (show w.grownBy W1 (some g) from ⟨hg1.os, hg1.tape, hg1.output, hg1.size, hg1.block⟩) (grown_setCells g (Sp.cs x) W1 (i * 2)))
  have HC := hide hc
  have HS := hide hsz
  have HL1 := hide hl1
  clear hb1 hg1 hv1 hv hc ho hl1 hb hsz
  generalize hn' : l.length = n at *
  have z1 : ¬ ((i : Int) = (n : Int)) := by omega
  have z2 : ¬ ((cap : Int) < (n : Int) + 1) := by omega
  have z3 : (i : Int) ≤ (n : Int) := by omega
  have z4 : (n : Int) + 1 ≤ (cap : Int) := by omega
  have z5 : ((n : Int) + 1).toNat = n + 1 := by omega
  have z6 : (0 : Int) ≤ (i : Int) + 1 := by omega
  have z7 : ((i : Int) + 1).toNat = i + 1 := by omega
  have z8 : ¬ (cap = i + 1) := by omega
  have z9 : ¬ (cap = i) := by omega
  have z10 : (i : Int) + 1 ≤ (n : Int) + 1 := by omega
  have z11 : (i : Int) ≤ (n : Int) + 1 := by omega
  have z12 : n + 1 - (i + 1) = n - i := by omega
  have z13 : (n : Int) ≤ (cap : Int) := by omega
  have zw : IntKind.i64.wrap ((i : Int) + 1) = (i : Int) + 1 := by rw [IntKind.wrap_i64]; omega
  have HLN := hide hn'
  clear hn'
  clear hW1
  go_enter Tryz.func86, Tryz.ntmps86
  go_wp2_with (first | simp only [hov] | fail)
  refine wp_region_M (S := fun _ => True) (late := []) (by kernel_rfl) trivial (fun hHeld => ?_)
  (try simp only [List.size_toArray, List.length_cons, List.length_nil, Nat.zero_add, Nat.reduceAdd, Array.replicate, List.replicate])
  refine wpAnyM_take (i := 0) (oi := ⟨_, _, _, _, _, _⟩) (v := ?_) rfl (by kernel_rfl) (by kernel_rfl) (by kernel_rfl) (by kernel_rfl) (fun _ _ _ h => h) (Or.inl ⟨by rfl, ?_⟩) hHeld ?_
  rotate_left
  · (intro w' hSw; (try dsimp only at hSw); go_simp; try (with_reducible rfl))
  (try simp only [Act.put, List.setIfInBounds_toArray, List.set_cons_zero, List.set_cons_succ])
  refine wpAnyM_take (i := 1) (oi := ⟨_, _, _, _, _, _⟩) (v := ?_) rfl (by kernel_rfl) (by kernel_rfl) (by kernel_rfl) (by kernel_rfl) (fun _ _ _ h => h) (Or.inl ⟨by rfl, ?_⟩) hHeld ?_
  rotate_left
  · (intro w' hSw; (try dsimp only at hSw); go_simp; try (with_reducible rfl))
  (try simp only [Act.put, List.setIfInBounds_toArray, List.set_cons_zero, List.set_cons_succ])
  refine wpAnyM_take (i := 2) (oi := ⟨_, _, _, _, _, _⟩) (v := ?_) rfl (by kernel_rfl) (by kernel_rfl) (by kernel_rfl) (by kernel_rfl) (fun _ _ _ h => h) (Or.inl ⟨by rfl, ?_⟩) hHeld ?_
  rotate_left
  · (intro w' hSw; (try dsimp only at hSw); go_simp; try (with_reducible rfl))
  (try simp only [Act.put, List.setIfInBounds_toArray, List.set_cons_zero, List.set_cons_succ])
  refine wpAnyM_take (i := 3) (oi := ⟨_, _, _, _, _, _⟩) (v := ?_) rfl (by kernel_rfl) (by kernel_rfl) (by kernel_rfl) (by kernel_rfl) (fun _ _ _ h => h) (Or.inl ⟨by rfl, ?_⟩) hHeld ?_
  rotate_left
  · (intro w' hSw; (try dsimp only at hSw); go_simp; try (with_reducible rfl))
  (try simp only [Act.put, List.setIfInBounds_toArray, List.set_cons_zero, List.set_cons_succ])
  refine wpAnyM_take (i := 4) (oi := ⟨_, _, _, _, _, _⟩) (v := ?_) rfl (by kernel_rfl) (by kernel_rfl) (by kernel_rfl) (by kernel_rfl) (fun _ _ _ h => h) (Or.inl ⟨by rfl, ?_⟩) hHeld ?_
  rotate_left
  · (intro w' hSw; (try dsimp only at hSw); go_simp; try (with_reducible rfl))
  (try simp only [Act.put, List.setIfInBounds_toArray, List.set_cons_zero, List.set_cons_succ])
  refine wpAnyM_take (i := 5) (oi := ⟨_, _, _, _, _, _⟩) (v := ?_) rfl (by kernel_rfl) (by kernel_rfl) (by kernel_rfl) (by kernel_rfl) (fun _ _ _ h => h) (Or.inl ⟨by rfl, ?_⟩) hHeld ?_
  rotate_left
  · (intro w' hSw; (try dsimp only at hSw); go_simp; try (with_reducible rfl))
  (try simp only [Act.put, List.setIfInBounds_toArray, List.set_cons_zero, List.set_cons_succ])
  refine wpAnyM_take (i := 6) (oi := ⟨_, _, _, _, _, _⟩) (v := ?_) rfl (by kernel_rfl) (by kernel_rfl) (by kernel_rfl) (by kernel_rfl) (fun _ _ _ h => h) (Or.inl ⟨by rfl, ?_⟩) hHeld ?_
  rotate_left
  · (intro w' hSw; (try dsimp only at hSw); go_simp; try (with_reducible rfl))
  (try simp only [Act.put, List.setIfInBounds_toArray, List.set_cons_zero, List.set_cons_succ])
  refine wpAnyM_take (i := 7) (oi := ⟨_, _, _, _, _, _⟩) (v := ?_) rfl (by kernel_rfl) (by kernel_rfl) (by kernel_rfl) (by kernel_rfl) (fun _ _ _ h => h) (Or.inl ⟨by rfl, ?_⟩) hHeld ?_
  rotate_left
  · (intro w' hSw; (try dsimp only at hSw); go_simp; try (with_reducible rfl))
  (try simp only [Act.put, List.setIfInBounds_toArray, List.set_cons_zero, List.set_cons_succ])
  refine wpAnyM_one (i := 8) (o := ⟨_, _, _, _, _, _⟩) (by kernel_rfl) rfl (fun K hK => ?_)
  refine step_copy_run rfl _ _ 79 79 rfl _ _ rfl rfl (hcp1 _ _ _) ?_
  refine hK.out _ _ trivial (fun hHeld => ?_)
  clear hK K
  (try simp only [List.setIfInBounds_toArray, List.set_cons_zero, List.set_cons_succ])
  refine wpAnyM_done (by kernel_rfl) ?_ _
  go_wp2_with (first | (at_builtin; refine wp_copy_run rfl _ _ 79 79 rfl _ _ rfl rfl (hcp2 _ _) ?_) | fail)
  go_ret
  refine ⟨rfl, ?_, HG2.out⟩
  refine own_of_box HB2.out hbg (by rw [setL_size, setL_size]; exact HS.out) ?_ ?_ hcm (ins_cells (Nat.le_refl i) (by rw [HLN.out]; omega) HC.out ?_ ?_ ?_)
  · simp [HLN.out]; omega
  · simp [HLN.out]; omega
  · intro b hb
    rw [setL_out _ _ _ _ (.inl hb), setL_out _ _ _ _ (.inl (by omega))]
  · intro b u hu
    exact setL_in _ _ _ _ _ (by rw [setL_size, Sp.cs_len, HS.out]; omega) hu
  · intro b v hv
    rw [setL_out _ _ _ _ (.inr (by rw [Sp.cs_len]; omega))]
    exact setL_in _ _ _ _ _ (by rw [HL1.out, HS.out]; omega) hv
set_option maxHeartbeats 4000000 in
set_option maxRecDepth 100000 in
/-- In the midst, where there is none. -/
theorem insert_grow {w : World} {base g cap : Nat} {l : List Sp} (ho : OwnL 68 2 Sp.cs base w (.slice (some ⟨g, 0, none⟩) l.length cap) l) (hn : l.length ≤ 100000) (hbase : base ≤ w.heap.size) {gv : Nat} {x : Sp} (hv : BoxT 68 w gv #[.int .i64 x.f, .int .i64 x.t]) {i : Nat} (hi : i < l.length) (hr : ¬ l.length + 1 ≤ cap) :
    Calls Tryz.prog 86 #[.slice (some ⟨g, 0, none⟩) l.length cap, .int .i64 (i : Int), .slice (some ⟨gv, 0, none⟩) 1 1] w fun e w' => ∃ u, e = .returned u ∧ OwnL 68 2 Sp.cs base w' u (l.take i ++ x :: l.drop i) ∧ w.grownBy w' none ∧ u.ownBlock = some w.heap.size := by
  obtain ⟨cur, _, hbg, hb, hlc, hcm, hsz, hc⟩ := own_cells ho
  have hl1 : ((l.drop i).flatMap Sp.cs).length = (l.length - i) * 2 := by rw [flat_size Sp.cs_len, List.length_drop]
  have hl0 : ((l.take i).flatMap Sp.cs).length = i * 2 := by rw [flat_size Sp.cs_len, List.length_take]; omega
  obtain ⟨i0, hi0, hz0, hzs, hzb⟩ := info_parts Tryz.infoSp
  have hcap : cap = l.length := by omega
  subst hcap
  have htk : ∀ (j : Nat) (v : Value), ((l.take i).flatMap Sp.cs)[j]? = some v → cur[j]? = some v := fun j v hj => by
    have e : (l.take i).flatMap Sp.cs ++ (l.drop i).flatMap Sp.cs = l.flatMap Sp.cs := by rw [← List.flatMap_append, List.take_append_drop]
    have h2 : (l.flatMap Sp.cs)[j]? = some v := by rw [← e, List.getElem?_append_left (lt_of_get hj)]; exact hj
    have h3 := drop_flat (j := 0) hc j v (by simpa using h2)
    simpa using h3
  have hold : (Builtin.firstCells i0.size i (.slice (some ⟨g, 0, none⟩) i l.length)).run Tryz.prog w.drew = .ok ((l.take i).flatMap Sp.cs).toArray w.drew := by
    rw [hzs]
    exact run_firstCells_some w.drew 2 i ⟨g, 0, none⟩ i l.length ((l.take i).flatMap Sp.cs) hl0 (fun j v hj => by
      rw [add_plain2, hb.drew.cellAt, Nat.zero_add]; exact htk j v hj)
  have hfit : Builtin.nextslicecap (i + (l.length + 1 - i)) l.length * i0.bytes ≤ 281474976710656 := by
    rw [show i + (l.length + 1 - i) = l.length + 1 by omega, hzb]
    exact growslice_fits (by omega) (by omega)
  obtain ⟨G, hG⟩ : ∃ G, G = grownCap w (l.length + 1) l.length 68 := ⟨_, rfl⟩
  obtain ⟨ROW, hROW⟩ : ∃ ROW : Array Value, ROW = ((l.take i).flatMap Sp.cs).toArray ++ Builtin.zeroCells (Value.agg #[.int .i64 0, .int .i64 0]).cells (l.length + 1 - i) ++ Builtin.zeroCells (Value.agg #[.int .i64 0, .int .i64 0]).cells (G - (l.length + 1)) := ⟨_, rfl⟩
  have hGn : l.length + 1 ≤ G := by rw [hG]; exact grownCap_ge w _ _ _
  have hG63 : G ≤ maxLen := by rw [hG]; exact grownCap_le_maxLen w _ _ _ (by unfold maxLen; omega)
  have hrz : ∀ ty, (Builtin.append_ #[79, 3] ty #[.slice (some ⟨g, 0, none⟩) i l.length, .int .i64 ((l.length : Int) + 1 - (i : Int))]).run Tryz.prog w = .ok (.slice (some ⟨w.heap.size, 0, none⟩) (l.length + 1) G) (w.drew.alloc (.cells ROW 68)) := fun ty => by
    have h := Lib.run_append_grow_zeros w 79 3 ty 68 i0 _ .i64 .i64 Tryz.underlying79 Tryz.underlying3 hi0 hz0 (some ⟨g, 0, none⟩) i l.length ((l.take i).flatMap Sp.cs) hold (l.length + 1 - i) (by omega) (by omega) (by omega) (by omega) (by rw [hzb]; omega) hfit
    rw [show i + (l.length + 1 - i) = l.length + 1 by omega, ← hG, ← hROW] at h
    rw [show (l.length : Int) + 1 - (i : Int) = ((l.length + 1 - i : Nat) : Int) by omega]
    exact h
  have hRs : ROW.size = G * 2 := by
    rw [hROW]
    simp [Builtin.zeroCells, Value.cells, hl0]
    omega
  have hRt : ∀ b : Nat, b < i * 2 → ROW[b]? = cur[b]? := fun b hb' => by
    obtain ⟨v, hv'⟩ := get_of_lt (show b < ((l.take i).flatMap Sp.cs).length by omega)
    rw [htk b v hv', hROW, Array.append_assoc, Array.getElem?_append_left (by simpa [hl0] using hb')]
    simpa using hv'
  have hne : g ≠ w.heap.size := fun e => by have := hb.lt; omega
  have hcpA : ∀ (W : World), BoxT 68 W w.heap.size ROW → BoxT 68 W gv #[.int .i64 x.f, .int .i64 x.t] → ∀ ty dc, (Builtin.copy_ #[79, 79] ty #[.slice (some ⟨w.heap.size, i * 2, none⟩) (l.length + 1 - i) dc, .slice (some ⟨gv, 0, none⟩) 1 1]).run Tryz.prog W = .ok (goInt 1) (W.setCells w.heap.size (i * 2) (Sp.cs x)) := fun W h1 h2 ty dc =>
    run_copy_sp W ty w.heap.size (i * 2) (l.length + 1 - i) dc ⟨gv, 0, none⟩ 1 1 _ _ h1 1 (by simp only [Nat.min_def]; split <;> omega) (Sp.cs_len x) (new2 W x h2) (by rw [hRs, Sp.cs_len]; omega) (Sp.cs_one x)
  have hcpB : ∀ (W : World), BoxT 68 W w.heap.size (setL ROW (i * 2) (Sp.cs x)) → BoxT 68 W g cur → ∀ ty dc sc, (Builtin.copy_ #[79, 79] ty #[.slice (some ⟨w.heap.size, (i + 1) * 2, none⟩) (l.length - i) dc, .slice (some ⟨g, i * 2, none⟩) (l.length - i) sc]).run Tryz.prog W = .ok (goInt (l.length - i : Nat)) (W.setCells w.heap.size ((i + 1) * 2) ((l.drop i).flatMap Sp.cs)) := fun W h1 h2 ty dc sc =>
    run_copy_sp W ty w.heap.size ((i + 1) * 2) (l.length - i) dc ⟨g, i * 2, none⟩ (l.length - i) sc _ _ h1 (l.length - i) (by simp only [Nat.min_def]; split <;> omega) hl1
      (fun j v hj => by rw [add_plain2, h2.cellAt]; exact drop_flat hc j v hj) (by rw [hl1, setL_size, hRs]; omega) (flat_one _)
  have hgv' : gv ≠ w.heap.size := fun e => by have := hv.lt; omega
  have HA := hide hcpA
  have HB := hide hcpB
  have HW1 : Hid (BoxT 68 (w.alloc (.cells ROW 68)).drew w.heap.size ROW) := BoxT.new_at (t := 68) (w := w) rfl
  have HW2 : Hid (BoxT 68 (w.alloc (.cells ROW 68)).drew gv #[.int .i64 x.f, .int .i64 x.t]) := BoxT.alloc (t := 68) hv _
  have HW3 : Hid (BoxT 68 (w.alloc (.cells ROW 68)).drew g cur) := BoxT.alloc (t := 68) hb _
  have HC := hide hc
  have HRS := hide hRs
  have HRT := hide hRt
  have HL1 := hide hl1
  clear hb hc hv ho hl0 hl1 htk hold hfit hG hROW hRs hRt hcpA hcpB hi0 hz0 hzs hzb
  generalize hn' : l.length = n at *
  have z1 : ¬ ((i : Int) = (n : Int)) := by omega
  have z2 : (n : Int) < (n : Int) + 1 := by omega
  have z3 : (i : Int) ≤ (n : Int) := by omega
  have z6 : (0 : Int) ≤ (i : Int) + 1 := by omega
  have z7 : ((i : Int) + 1).toNat = i + 1 := by omega
  have z8 : ¬ (G = i + 1) := by omega
  have z9 : ¬ (G = i) := by omega
  have z10 : (i : Int) + 1 ≤ (n : Int) + 1 := by omega
  have z11 : (i : Int) ≤ (n : Int) + 1 := by omega
  have z12 : n + 1 - (i + 1) = n - i := by omega
  have z14 : ¬ (n = i) := by omega
  have zw : IntKind.i64.wrap ((i : Int) + 1) = (i : Int) + 1 := by rw [IntKind.wrap_i64]; omega
  have HLN := hide hn'
  clear hn'
  go_enter Tryz.func86, Tryz.ntmps86
  have hcpa := HA.out _ HW1.out HW2.out
  go_wp2_with (first | (at_builtin; refine wp_append_run rfl _ _ 79 3 rfl _ _ rfl rfl (hrz _) ?_) | fail)
  have hb1 := HW1.out.setCells (j := i * 2) (Sp.cs x)
  have hg1 := grown_setCells w.heap.size (Sp.cs x) (w.alloc (.cells ROW 68)).drew (i * 2)
  have hg3 := HW3.out.grown hg1 hne
  have hcp := HB.out _ hb1.drew hg3.drew
  have HG1 := hide hg1
  have HB1 := hide hb1
  clear hb1 hg1 hg3
  refine wp_region_M (S := fun _ => True) (late := []) (by kernel_rfl) trivial (fun hHeld => ?_)
  (try simp only [List.size_toArray, List.length_cons, List.length_nil, Nat.zero_add, Nat.reduceAdd, Array.replicate, List.replicate])
  refine wpAnyM_take (i := 0) (oi := ⟨_, _, _, _, _, _⟩) (v := ?_) rfl (by kernel_rfl) (by kernel_rfl) (by kernel_rfl) (by kernel_rfl) (fun _ _ _ h => h) (Or.inl ⟨by rfl, ?_⟩) hHeld ?_
  rotate_left
  · (intro w' hSw; (try dsimp only at hSw); go_simp; try (with_reducible rfl))
  (try simp only [Act.put, List.setIfInBounds_toArray, List.set_cons_zero, List.set_cons_succ])
  refine wpAnyM_take (i := 1) (oi := ⟨_, _, _, _, _, _⟩) (v := ?_) rfl (by kernel_rfl) (by kernel_rfl) (by kernel_rfl) (by kernel_rfl) (fun _ _ _ h => h) (Or.inl ⟨by rfl, ?_⟩) hHeld ?_
  rotate_left
  · (intro w' hSw; (try dsimp only at hSw); go_simp; try (with_reducible rfl))
  (try simp only [Act.put, List.setIfInBounds_toArray, List.set_cons_zero, List.set_cons_succ])
  refine wpAnyM_take (i := 2) (oi := ⟨_, _, _, _, _, _⟩) (v := ?_) rfl (by kernel_rfl) (by kernel_rfl) (by kernel_rfl) (by kernel_rfl) (fun _ _ _ h => h) (Or.inl ⟨by rfl, ?_⟩) hHeld ?_
  rotate_left
  · (intro w' hSw; (try dsimp only at hSw); go_simp; try (with_reducible rfl))
  (try simp only [Act.put, List.setIfInBounds_toArray, List.set_cons_zero, List.set_cons_succ])
  refine wpAnyM_take (i := 3) (oi := ⟨_, _, _, _, _, _⟩) (v := ?_) rfl (by kernel_rfl) (by kernel_rfl) (by kernel_rfl) (by kernel_rfl) (fun _ _ _ h => h) (Or.inl ⟨by rfl, ?_⟩) hHeld ?_
  rotate_left
  · (intro w' hSw; (try dsimp only at hSw); go_simp; try (with_reducible rfl))
  (try simp only [Act.put, List.setIfInBounds_toArray, List.set_cons_zero, List.set_cons_succ])
  refine wpAnyM_take (i := 4) (oi := ⟨_, _, _, _, _, _⟩) (v := ?_) rfl (by kernel_rfl) (by kernel_rfl) (by kernel_rfl) (by kernel_rfl) (fun _ _ _ h => h) (Or.inl ⟨by rfl, ?_⟩) hHeld ?_
  rotate_left
  · (intro w' hSw; (try dsimp only at hSw); go_simp; try (with_reducible rfl))
  (try simp only [Act.put, List.setIfInBounds_toArray, List.set_cons_zero, List.set_cons_succ])
  refine wpAnyM_take (i := 5) (oi := ⟨_, _, _, _, _, _⟩) (v := ?_) rfl (by kernel_rfl) (by kernel_rfl) (by kernel_rfl) (by kernel_rfl) (fun _ _ _ h => h) (Or.inl ⟨by rfl, ?_⟩) hHeld ?_
  rotate_left
  · (intro w' hSw; (try dsimp only at hSw); go_simp; try (with_reducible rfl))
  (try simp only [Act.put, List.setIfInBounds_toArray, List.set_cons_zero, List.set_cons_succ])
  refine wpAnyM_take (i := 6) (oi := ⟨_, _, _, _, _, _⟩) (v := ?_) rfl (by kernel_rfl) (by kernel_rfl) (by kernel_rfl) (by kernel_rfl) (fun _ _ _ h => h) (Or.inl ⟨by rfl, ?_⟩) hHeld ?_
  rotate_left
  · (intro w' hSw; (try dsimp only at hSw); go_simp; try (with_reducible rfl))
  (try simp only [Act.put, List.setIfInBounds_toArray, List.set_cons_zero, List.set_cons_succ])
  refine wpAnyM_take (i := 7) (oi := ⟨_, _, _, _, _, _⟩) (v := ?_) rfl (by kernel_rfl) (by kernel_rfl) (by kernel_rfl) (by kernel_rfl) (fun _ _ _ h => h) (Or.inl ⟨by rfl, ?_⟩) hHeld ?_
  rotate_left
  · (intro w' hSw; (try dsimp only at hSw); go_simp; try (with_reducible rfl))
  (try simp only [Act.put, List.setIfInBounds_toArray, List.set_cons_zero, List.set_cons_succ])
  refine wpAnyM_one (i := 8) (o := ⟨_, _, _, _, _, _⟩) (by kernel_rfl) rfl (fun K hK => ?_)
  refine step_copy_run rfl _ _ 79 79 rfl _ _ rfl rfl (hcp _ _ _) ?_
  refine hK.out _ _ trivial (fun hHeld => ?_)
  clear hK K
  (try simp only [List.setIfInBounds_toArray, List.set_cons_zero, List.set_cons_succ])
  refine wpAnyM_done (by kernel_rfl) ?_ _
  go_wp2_with fail
  go_ret
  have hb2 := HB1.out.drew.setCells (j := (i + 1) * 2) ((l.drop i).flatMap Sp.cs)
  have hg2 := grown_setCells w.heap.size ((l.drop i).flatMap Sp.cs) ((w.alloc (.cells ROW 68)).drew.setCells w.heap.size (i * 2) (Sp.cs x)).drew ((i + 1) * 2)
  refine ⟨_, rfl, ?_, ?_, rfl⟩
  · refine own_of_box hb2 hbase (by rw [setL_size, setL_size]; exact HRS.out) ?_ ?_ hG63 (ins_cells (Nat.le_refl i) (by rw [HLN.out]; omega) HC.out ?_ ?_ ?_)
    · simp [HLN.out]; omega
    · simp [HLN.out]; omega
    · intro b hb
      rw [setL_out _ _ _ _ (.inl (by omega)), setL_out _ _ _ _ (.inl hb)]
      exact HRT.out b hb
    · intro b u hu
      have := lt_of_get hu
      rw [Sp.cs_len] at this
      rw [setL_out _ _ _ _ (.inl (by omega))]
      exact setL_in _ _ _ _ _ (by rw [Sp.cs_len, HRS.out]; omega) hu
    · intro b v hv
      exact setL_in _ _ _ _ _ (by rw [HL1.out, setL_size, HRS.out]; omega) hv
  · have h0 := grownBy_alloc' w (.cells ROW 68) none
    exact ⟨hg2.os.trans (HG1.out.os.trans h0.os), hg2.tape.trans (HG1.out.tape.trans h0.tape), hg2.output.trans (HG1.out.output.trans h0.output), Nat.le_trans h0.size (Nat.le_trans HG1.out.size hg2.size), fun k hk hk' => (hg2.block k (Nat.lt_of_lt_of_le (Nat.lt_of_lt_of_le hk h0.size) HG1.out.size) (fun e => by cases e; omega)).trans ((HG1.out.block k (Nat.lt_of_lt_of_le hk h0.size) (fun e => by cases e; omega)).trans (h0.block k hk hk'))⟩
end Go.Proofs.YtdoldohcimbdaaaGreat
