/-
  Texts in build order: SRep.
-/
import Derived.Test.YtdoldohcimbdaaaGreatM19
/-
  slices.Replace of a part of a row of one's own by one span.
-/
namespace Go.Proofs.YtdoldohcimbdaaaGreat
open Go.RowKit

/-- What a call leaves of a row: what it gives back lies there, or in a new block. -/
def RPost (base : Nat) (w : World) (s : Value) (L : List Sp) (e : Ending) (w' : World) : Prop := ∃ u, e = .returned u ∧ OwnL 68 2 Sp.cs base w' u L ∧ w.grownBy w' s.ownBlock ∧ (∀ g, u.ownBlock = some g → s.ownBlock = some g ∨ w.heap.size ≤ g)
theorem insert_any {w : World} {base : Nat} {s : Value} {l : List Sp} (ho : OwnL 68 2 Sp.cs base w s l) (hn : l.length ≤ 100000) (hbase : base ≤ w.heap.size) {gv : Nat} {x : Sp} (hv : BoxT 68 w gv #[.int .i64 x.f, .int .i64 x.t]) (hgv : s.ownBlock ≠ some gv) {i : Nat} (hi : i ≤ l.length) :
    Calls Tryz.prog 86 #[s, .int .i64 (i : Int), .slice (some ⟨gv, 0, none⟩) 1 1] w (RPost base w s (l.take i ++ x :: l.drop i)) := by
  by_cases h1 : i = l.length
  · subst h1
    rw [List.take_of_length_le (Nat.le_refl _), List.drop_of_length_le (Nat.le_refl _)]
    exact insert_end ho hn hbase hv
  · rcases ho.2 with ⟨rfl, h0⟩ | ⟨g, cap, cur, rfl, _⟩
    · omega
    · by_cases hr : l.length + 1 ≤ cap
      · refine (insert_room ho hn hv (fun e => hgv (by rw [e]; rfl)) (by omega) hr).mono ?_
        rintro e w' ⟨rfl, h2, h3⟩
        exact ⟨_, rfl, h2, h3, fun g e => .inl e⟩
      · refine (insert_grow ho hn hbase hv (by omega) hr).mono ?_
        rintro e w' ⟨u, rfl, h2, h3, h4⟩
        exact ⟨u, rfl, h2, ⟨h3.os, h3.tape, h3.output, h3.size, fun k hk _ => h3.block k hk (by simp)⟩, fun g e => .inr (by rw [h4] at e; cases e; exact Nat.le_refl _)⟩
theorem run_app_room (w : World) (ty g n cap gv : Nat) (x : Sp) {cur : Array Value} (hg : BoxT 68 w g cur) (hs : cur.size = cap * 2) (hr : n + 1 ≤ cap) (hv : BoxT 68 w gv #[.int .i64 x.f, .int .i64 x.t]) :
    (Builtin.append_ #[79, 79] ty #[.slice (some ⟨g, 0, none⟩) n cap, .slice (some ⟨gv, 0, none⟩) 1 1]).run Tryz.prog w = .ok (.slice (some ⟨g, 0, none⟩) (n + 1) cap) (w.setCells g (n * 2) (Sp.cs x)) := by
  have hl := run_loadCells_list (P := Tryz.prog) w ⟨gv, 0, none⟩ (Sp.cs x) (new2 w x hv)
  have hst := run_storeCells_cells (P := Tryz.prog) g (n * 2) (Sp.cs x) 0 w (fun j hj => by rw [Sp.cs_len] at hj; rw [hg.cellAt, Array.getElem?_eq_getElem (by omega)]; rfl) (fun j _ => hg.free _) (Sp.cs_one x)
  obtain ⟨i0, hi, _, hz1, _⟩ := info_parts Tryz.infoSp
  rw [Sp.cs_len] at hl
  simp [Builtin.append_, run_underlying Tryz.underlying79, Builtin.lenOf, Builtin.firstCells, sizeOf, typeInfo, hi, hz1, hl, hr, add_plain2, hst]
theorem run_clear_none (w : World) (ty : Nat) (a : Option Addr) (c : Nat) : (Builtin.clear_ #[79] ty #[.slice a 0 c]).run Tryz.prog w = .ok (.tuple #[]) w := by
  cases a <;> simp [Builtin.clear_, run_underlying Tryz.underlying79]
set_option maxHeartbeats 4000000 in
set_option maxRecDepth 100000 in
theorem replace_ins {w : World} {base : Nat} {s : Value} {l : List Sp} (ho : OwnL 68 2 Sp.cs base w s l) (hn : l.length ≤ 100000) (hbase : base ≤ w.heap.size) {gv : Nat} {x : Sp} (hv : BoxT 68 w gv #[.int .i64 x.f, .int .i64 x.t]) (hgv : s.ownBlock ≠ some gv) {i : Nat} (hi : i ≤ l.length) :
    Calls Tryz.prog 82 #[s, .int .i64 (i : Int), .int .i64 (i : Int), .slice (some ⟨gv, 0, none⟩) 1 1] w (RPost base w s (l.take i ++ x :: l.drop i)) := by
  have HI := hide (insert_any ho hn hbase hv hgv hi)
  obtain ⟨ao, cap, rfl⟩ := ho.shape
  have hcap : l.length ≤ cap := by
    rcases ho.2 with ⟨e, h0⟩ | ⟨g, c, cur, e, _, _, h, _⟩
    · have := congrArg (fun v => match v with | Value.slice _ n _ => n | _ => 0) e; simp at this; omega
    · simp at e; omega
  have bc : (i : Int) ≤ (l.length : Int) := by omega
  have bd : (i : Int) ≤ (cap : Int) := by omega
  clear ho hv
  by_cases hc : cap = i
  · subst hc
    obtain rfl : l.length = cap := by omega
    go_enter Tryz.func82, Tryz.ntmps82
    go_wp2_with (first | (go_at_call 86; refine HI.out.mono ?_; rintro e w' ⟨u, rfl, h2, h3, h4⟩) | fail)
    go_ret
    exact ⟨u, rfl, h2, h3, h4⟩
  · go_enter Tryz.func82, Tryz.ntmps82
    go_wp2_with (first | (go_at_call 86; refine HI.out.mono ?_; rintro e w' ⟨u, rfl, h2, h3, h4⟩) | fail)
    go_ret
    exact ⟨u, rfl, h2, h3, h4⟩
set_option maxHeartbeats 4000000 in
set_option maxRecDepth 100000 in
/-- What stands at the end. -/
theorem replace_end {w : World} {base g cap : Nat} {l : List Sp} (ho : OwnL 68 2 Sp.cs base w (.slice (some ⟨g, 0, none⟩) l.length cap) l) (hn : l.length ≤ 100000) {gv : Nat} {x : Sp} (hv : BoxT 68 w gv #[.int .i64 x.f, .int .i64 x.t]) {i : Nat} (hi : i < l.length) :
    Calls Tryz.prog 82 #[.slice (some ⟨g, 0, none⟩) l.length cap, .int .i64 (i : Int), .int .i64 (l.length : Int), .slice (some ⟨gv, 0, none⟩) 1 1] w (RPost base w (.slice (some ⟨g, 0, none⟩) l.length cap) (l.take i ++ [x])) := by
  obtain ⟨cur, _, hbg, hb, hlc, hcm, hsz, hc⟩ := own_cells ho
  have hap : ∀ ty, (Builtin.append_ #[79, 79] ty #[.slice (some ⟨g, 0, none⟩) i cap, .slice (some ⟨gv, 0, none⟩) 1 1]).run Tryz.prog w = .ok (.slice (some ⟨g, 0, none⟩) (i + 1) cap) (w.setCells g (i * 2) (Sp.cs x)) := fun ty => run_app_room w ty g i cap gv x hb hsz (by omega) hv
  have hb1 := hb.setCells (j := i * 2) (Sp.cs x)
  have hg1 := grown_setCells g (Sp.cs x) w (i * 2)
  obtain ⟨W1, hW1⟩ : ∃ W1, W1 = w.setCells g (i * 2) (Sp.cs x) := ⟨_, rfl⟩
  rw [← hW1] at hap hb1 hg1
  have hcells : ∀ cur2 : Array Value, (∀ b, b < (i + 1) * 2 → cur2[b]? = (setL cur (i * 2) (Sp.cs x))[b]?) → ∀ a y, (l.take i ++ [x])[a]? = some y → ∀ q u, (Sp.cs y)[q]? = some u → cur2[a * 2 + q]? = some u := by
    intro cur2 h2
    have := ins_cells (l := l) (i := i) (j := l.length) (x := x) (cur := cur) (cur2 := cur2) (by omega) (Nat.le_refl _) hc (fun b hb' => by rw [h2 b (by omega), setL_out _ _ _ _ (.inl hb')]) (fun b u hu => by
      have := lt_of_get hu
      rw [Sp.cs_len] at this
      rw [h2 _ (by omega)]
      exact setL_in _ _ _ _ _ (by rw [Sp.cs_len, hsz]; omega) hu) (fun b v hv' => by rw [List.drop_of_length_le (Nat.le_refl _)] at hv'; simp at hv')
    rwa [List.drop_of_length_le (Nat.le_refl _)] at this
  have hlen : (l.take i ++ [x]).length = i + 1 := by rw [List.length_append, List.length_take]; simp; omega
  have HO1 : Hid (OwnL 68 2 Sp.cs base W1 (.slice (some ⟨g, 0, none⟩) (i + 1) cap) (l.take i ++ [x])) := own_of_box hb1 hbg (by rw [setL_size]; exact hsz) hlen.symm (by rw [hlen]; omega) hcm (hcells _ (fun _ _ => rfl))
  have hclr : i + 1 < l.length → ∀ ty c, (Builtin.clear_ #[79] ty #[.slice (some ⟨g, (i + 1) * 2, none⟩) (l.length - (i + 1)) c]).run Tryz.prog W1 = .ok (.tuple #[]) (W1.setCells g ((i + 1) * 2) (List.replicate ((l.length - (i + 1)) * 2) (.int .i64 0))) := fun h ty c =>
    run_clear_sp W1 ty g ((i + 1) * 2) (l.length - (i + 1)) c (by omega) (fun a ha => by
      rw [hb1.cellAt, Array.getElem?_eq_getElem (show (i + 1) * 2 + a < _ by rw [setL_size, hsz]; omega)]; rfl) (fun a _ => hb1.free _)
  have HO2 : Hid (OwnL 68 2 Sp.cs base (W1.setCells g ((i + 1) * 2) (List.replicate ((l.length - (i + 1)) * 2) (.int .i64 0))) (.slice (some ⟨g, 0, none⟩) (i + 1) cap) (l.take i ++ [x])) := own_of_box (hb1.setCells (j := (i + 1) * 2) _) hbg (by rw [setL_size, setL_size]; exact hsz) hlen.symm (by rw [hlen]; omega) hcm (hcells _ (fun b hb' => setL_out _ _ _ _ (.inl hb')))
  have HG1 := hide hg1
  have HG2 := hide (grownBy_trans hg1 (grown_setCells g (List.replicate ((l.length - (i + 1)) * 2) (.int .i64 0)) W1 ((i + 1) * 2)))
  generalize (l.take i ++ [x]) = L at *
  clear hb hc hv ho hsz hb1 hg1 hcells hlen hW1
  generalize l.length = n at *
  have z1 : ¬ ((i : Int) = (n : Int)) := by omega
  have z3 : (i : Int) ≤ (n : Int) := by omega
  have z4 : (n : Int) ≤ (cap : Int) := by omega
  have z5 : (i : Int) ≤ (cap : Int) := by omega
  have z9 : ¬ (cap = i) := by omega
  by_cases hlt : i + 1 < n
  · have hclr2 := hclr hlt
    clear hclr
    have z6 : (i : Int) + 1 < (n : Int) := by omega
    have z7 : ((i : Int) + 1).toNat = i + 1 := by omega
    have z8 : ¬ (cap = i + 1) := by omega
    have z10 : (i : Int) + 1 ≤ (n : Int) := by omega
    have z11 : (0 : Int) ≤ (i : Int) + 1 := by omega
    go_enter Tryz.func82, Tryz.ntmps82
    go_wp2_with (first | (at_builtin; refine wp_append_run rfl _ _ 79 79 rfl _ _ rfl rfl (hap _) ?_) | fail)
    go_ret
    exact ⟨_, rfl, HO2.out, HG2.out, fun g e => .inl e⟩
  · have z6 : ¬ ((i : Int) + 1 < (n : Int)) := by omega
    clear hclr
    go_enter Tryz.func82, Tryz.ntmps82
    go_wp2_with (first | (at_builtin; refine wp_append_run rfl _ _ 79 79 rfl _ _ rfl rfl (hap _) ?_) | fail)
    go_ret
    exact ⟨_, rfl, HO1.out, HG1.out, fun g e => .inl e⟩
set_option maxHeartbeats 4000000 in
set_option maxRecDepth 100000 in
/-- What stands in the midst. -/
theorem replace_mid {w : World} {base g cap : Nat} {l : List Sp} (ho : OwnL 68 2 Sp.cs base w (.slice (some ⟨g, 0, none⟩) l.length cap) l) (hn : l.length ≤ 100000) {gv : Nat} {x : Sp} (hv : BoxT 68 w gv #[.int .i64 x.f, .int .i64 x.t]) {i j : Nat} (hi : i < j) (hj : j < l.length) :
    Calls Tryz.prog 82 #[.slice (some ⟨g, 0, none⟩) l.length cap, .int .i64 (i : Int), .int .i64 (j : Int), .slice (some ⟨gv, 0, none⟩) 1 1] w (RPost base w (.slice (some ⟨g, 0, none⟩) l.length cap) (l.take i ++ x :: l.drop j)) := by
  obtain ⟨cur, _, hbg, hb, hlc, hcm, hsz, hc⟩ := own_cells ho
  obtain ⟨T, hT⟩ : ∃ T, T = i + 1 + (l.length - j) := ⟨_, rfl⟩
  have hl1 : ((l.drop j).flatMap Sp.cs).length = (l.length - j) * 2 := by rw [flat_size Sp.cs_len, List.length_drop]
  have hcp1 : ∀ ty dc, (Builtin.copy_ #[79, 79] ty #[.slice (some ⟨g, i * 2, none⟩) (T - i) dc, .slice (some ⟨gv, 0, none⟩) 1 1]).run Tryz.prog w.drew = .ok (goInt 1) (w.drew.setCells g (i * 2) (Sp.cs x)) := fun ty dc =>
    run_copy_sp w.drew ty g (i * 2) (T - i) dc ⟨gv, 0, none⟩ 1 1 _ _ hb.drew 1 (by simp only [Nat.min_def]; split <;> omega) (Sp.cs_len x) (new2 w.drew x hv.drew) (by rw [Sp.cs_len, hsz]; omega) (Sp.cs_one x)
  have hb1 := hb.drew.setCells (j := i * 2) (Sp.cs x)
  have hg1 := grown_setCells g (Sp.cs x) w.drew (i * 2)
  obtain ⟨W1, hW1⟩ : ∃ W1, W1 = w.drew.setCells g (i * 2) (Sp.cs x) := ⟨_, rfl⟩
  rw [← hW1] at hcp1 hb1 hg1
  have hcp2 : ∀ ty dc sc, (Builtin.copy_ #[79, 79] ty #[.slice (some ⟨g, (i + 1) * 2, none⟩) (l.length - j) dc, .slice (some ⟨g, j * 2, none⟩) (l.length - j) sc]).run Tryz.prog W1.drew = .ok (goInt (l.length - j : Nat)) (W1.drew.setCells g ((i + 1) * 2) ((l.drop j).flatMap Sp.cs)) := fun ty dc sc =>
    run_copy_sp W1.drew ty g ((i + 1) * 2) (l.length - j) dc ⟨g, j * 2, none⟩ (l.length - j) sc _ _ hb1.drew (l.length - j) (by simp only [Nat.min_def]; split <;> omega) hl1
      (fun b v hb' => by
        have := lt_of_get hb'
        rw [add_plain2, hb1.drew.cellAt, setL_out _ _ _ _ (.inr (by rw [Sp.cs_len]; omega))]; exact drop_flat hc b v hb') (by rw [hl1, setL_size, hsz]; omega) (flat_one _)
  have hb2 := hb1.drew.setCells (j := (i + 1) * 2) ((l.drop j).flatMap Sp.cs)
  have hg2 := grown_setCells g ((l.drop j).flatMap Sp.cs) W1.drew ((i + 1) * 2)
  obtain ⟨W2, hW2⟩ : ∃ W2, W2 = W1.drew.setCells g ((i + 1) * 2) ((l.drop j).flatMap Sp.cs) := ⟨_, rfl⟩
  rw [← hW2] at hcp2 hb2 hg2
  have hcells : ∀ cur3 : Array Value, (∀ b, b < T * 2 → cur3[b]? = (setL (setL cur (i * 2) (Sp.cs x)) ((i + 1) * 2) ((l.drop j).flatMap Sp.cs))[b]?) → ∀ a y, (l.take i ++ x :: l.drop j)[a]? = some y → ∀ q u, (Sp.cs y)[q]? = some u → cur3[a * 2 + q]? = some u := by
    intro cur3 h3
    refine ins_cells (l := l) (cur := cur) (by omega) (by omega) hc (fun b hb' => ?_) (fun b u hu => ?_) (fun b v hv' => ?_)
    · rw [h3 b (by omega), setL_out _ _ _ _ (.inl (by omega)), setL_out _ _ _ _ (.inl hb')]
    · have := lt_of_get hu
      rw [Sp.cs_len] at this
      rw [h3 _ (by omega), setL_out _ _ _ _ (.inl (by omega))]
      exact setL_in _ _ _ _ _ (by rw [Sp.cs_len, hsz]; omega) hu
    · have := lt_of_get hv'
      rw [h3 _ (by omega)]
      exact setL_in _ _ _ _ _ (by rw [hl1, setL_size, hsz]; omega) hv'
  have hlen : (l.take i ++ x :: l.drop j).length = T := by rw [List.length_append, List.length_take, List.length_cons, List.length_drop, hT]; omega
  have hgw : w.grownBy W2 (some g) := grownBy_trans (show w.grownBy W1 (some g) from ⟨hg1.os, hg1.tape, hg1.output, hg1.size, hg1.block⟩) ⟨hg2.os, hg2.tape, hg2.output, hg2.size, hg2.block⟩
  have HO1 : Hid (OwnL 68 2 Sp.cs base W2 (.slice (some ⟨g, 0, none⟩) T cap) (l.take i ++ x :: l.drop j)) := own_of_box hb2 hbg (by rw [setL_size, setL_size]; exact hsz) hlen.symm (by rw [hlen]; omega) hcm (hcells _ (fun _ _ => rfl))
  have hclr : T < l.length → ∀ ty c, (Builtin.clear_ #[79] ty #[.slice (some ⟨g, T * 2, none⟩) (l.length - T) c]).run Tryz.prog W2 = .ok (.tuple #[]) (W2.setCells g (T * 2) (List.replicate ((l.length - T) * 2) (.int .i64 0))) := fun h ty c =>
    run_clear_sp W2 ty g (T * 2) (l.length - T) c (by omega) (fun a ha => by
      rw [hb2.cellAt, Array.getElem?_eq_getElem (show T * 2 + a < _ by rw [setL_size, setL_size, hsz]; omega)]; rfl) (fun a _ => hb2.free _)
  have HO2 : Hid (OwnL 68 2 Sp.cs base (W2.setCells g (T * 2) (List.replicate ((l.length - T) * 2) (.int .i64 0))) (.slice (some ⟨g, 0, none⟩) T cap) (l.take i ++ x :: l.drop j)) := own_of_box (hb2.setCells (j := T * 2) _) hbg (by rw [setL_size, setL_size, setL_size]; exact hsz) hlen.symm (by rw [hlen]; omega) hcm (hcells _ (fun b hb' => setL_out _ _ _ _ (.inl hb')))
  have HG1 := hide hgw
  have HG2 := hide (grownBy_trans hgw (grown_setCells g (List.replicate ((l.length - T) * 2) (.int .i64 0)) W2 (T * 2)))
  generalize (l.take i ++ x :: l.drop j) = L at *
  clear hb hc hv ho hsz hb1 hg1 hb2 hg2 hcells hlen hW1 hW2 hgw hl1
  generalize l.length = n at *
  have z1 : ¬ ((i : Int) = (j : Int)) := by omega
  have z2 : ¬ ((j : Int) = (n : Int)) := by omega
  have z3 : (i : Int) ≤ (j : Int) := by omega
  have z4 : (j : Int) ≤ (cap : Int) := by omega
  have z5 : (i : Int) ≤ (cap : Int) := by omega
  have z6 : (j : Int) ≤ (n : Int) := by omega
  have z9 : ¬ (cap = i) := by omega
  have z10 : ¬ (cap = j) := by omega
  have z11 : IntKind.i64.wrap ((i : Int) + 1) = (i : Int) + 1 := by rw [IntKind.wrap_i64]; omega
  have z12 : IntKind.i64.wrap ((i : Int) + 1 + ((n - j : Nat) : Int)) = (T : Int) := by rw [IntKind.wrap_i64]; omega
  have z13 : ¬ ((cap : Int) < (T : Int)) := by omega
  have z14 : (T : Int) ≤ (cap : Int) := by omega
  have z15 : (i : Int) + 1 ≤ (j : Int) := by omega
  have z16 : (i : Int) ≤ (T : Int) := by omega
  have z17 : (0 : Int) ≤ (i : Int) + 1 := by omega
  have z18 : (i : Int) + 1 ≤ (T : Int) := by omega
  have z19 : ((i : Int) + 1).toNat = i + 1 := by omega
  have z20 : ¬ (cap = i + 1) := by omega
  have z21 : T - (i + 1) = n - j := by omega
  have z22 : (T : Int) ≤ (n : Int) := by omega
  by_cases hlt : T < n
  · have hclr2 := hclr hlt
    clear hclr
    have z23 : ¬ (cap = T) := by omega
    have HT := hide hT
    clear hT
    go_enter Tryz.func82, Tryz.ntmps82
    go_wp2_with fail
    refine wp_region_M (S := fun _ => True) (late := []) (by kernel_rfl) trivial (fun hHeld => ?_)
    (try simp only [List.size_toArray, List.length_cons, List.length_nil, Nat.zero_add, Nat.reduceAdd, Array.replicate, List.replicate])
    refine wpAnyM_take (i := 0) (oi := ⟨_, _, _, _, _, _⟩) (v := ?_) rfl (by kernel_rfl) (by kernel_rfl) (by kernel_rfl) (by kernel_rfl) (fun _ _ _ h => h) (Or.inl ⟨by rfl, ?_⟩) hHeld ?_
    rotate_left
    · (intro w' hSw; (try dsimp only at hSw); go_simp; try (with_reducible rfl))
    (try simp only [Act.put, List.setIfInBounds_toArray, List.set_cons_zero, List.set_cons_succ])
    refine wpAnyM_take (i := 1) (oi := ⟨_, _, _, _, _, _⟩) (v := ?_) rfl (by kernel_rfl) (by kernel_rfl) (by kernel_rfl) (by kernel_rfl) (fun _ _ _ h => h) (Or.inl ⟨by rfl, ?_⟩) hHeld ?_
    rotate_left
    · (intro w' hSw; (try dsimp only at hSw); go_simp; try (with_reducible rfl))
    (try simp only [Act.put, List.setIfInBounds_toArray, List.set_cons_zero, List.set_cons_succ])
    refine wpAnyM_take (i := 2) (oi := ⟨_, _, _, _, _, _⟩) (v := ?_) rfl (by kernel_rfl) (by kernel_rfl) (by kernel_rfl) (by kernel_rfl) (fun _ _ _ h => h) (Or.inl ⟨by rfl, ?_⟩) hHeld ?_
    rotate_left
    · (intro w' hSw; (try dsimp only at hSw); go_simp; try (with_reducible rfl))
    (try simp only [Act.put, List.setIfInBounds_toArray, List.set_cons_zero, List.set_cons_succ])
    refine wpAnyM_take (i := 3) (oi := ⟨_, _, _, _, _, _⟩) (v := ?_) rfl (by kernel_rfl) (by kernel_rfl) (by kernel_rfl) (by kernel_rfl) (fun _ _ _ h => h) (Or.inl ⟨by rfl, ?_⟩) hHeld ?_
    rotate_left
    · (intro w' hSw; (try dsimp only at hSw); go_simp; try (with_reducible rfl))
    (try simp only [Act.put, List.setIfInBounds_toArray, List.set_cons_zero, List.set_cons_succ])
    refine wpAnyM_take (i := 4) (oi := ⟨_, _, _, _, _, _⟩) (v := ?_) rfl (by kernel_rfl) (by kernel_rfl) (by kernel_rfl) (by kernel_rfl) (fun _ _ _ h => h) (Or.inl ⟨by rfl, ?_⟩) hHeld ?_
    rotate_left
    · (intro w' hSw; (try dsimp only at hSw); go_simp; try (with_reducible rfl))
    (try simp only [Act.put, List.setIfInBounds_toArray, List.set_cons_zero, List.set_cons_succ])
    refine wpAnyM_take (i := 5) (oi := ⟨_, _, _, _, _, _⟩) (v := ?_) rfl (by kernel_rfl) (by kernel_rfl) (by kernel_rfl) (by kernel_rfl) (fun _ _ _ h => h) (Or.inl ⟨by rfl, ?_⟩) hHeld ?_
    rotate_left
    · (intro w' hSw; (try dsimp only at hSw); go_simp; try (with_reducible rfl))
    (try simp only [Act.put, List.setIfInBounds_toArray, List.set_cons_zero, List.set_cons_succ])
    refine wpAnyM_take (i := 6) (oi := ⟨_, _, _, _, _, _⟩) (v := ?_) rfl (by kernel_rfl) (by kernel_rfl) (by kernel_rfl) (by kernel_rfl) (fun _ _ _ h => h) (Or.inl ⟨by rfl, ?_⟩) hHeld ?_
    rotate_left
    · (intro w' hSw; (try dsimp only at hSw); go_simp; try (with_reducible rfl))
    (try simp only [Act.put, List.setIfInBounds_toArray, List.set_cons_zero, List.set_cons_succ])
    refine wpAnyM_take (i := 7) (oi := ⟨_, _, _, _, _, _⟩) (v := ?_) rfl (by kernel_rfl) (by kernel_rfl) (by kernel_rfl) (by kernel_rfl) (fun _ _ _ h => h) (Or.inl ⟨by rfl, ?_⟩) hHeld ?_
    rotate_left
    · (intro w' hSw; (try dsimp only at hSw); go_simp; try (with_reducible rfl))
    (try simp only [Act.put, List.setIfInBounds_toArray, List.set_cons_zero, List.set_cons_succ])
    refine wpAnyM_take (i := 8) (oi := ⟨_, _, _, _, _, _⟩) (v := ?_) rfl (by kernel_rfl) (by kernel_rfl) (by kernel_rfl) (by kernel_rfl) (fun _ _ _ h => h) (Or.inl ⟨by rfl, ?_⟩) hHeld ?_
    rotate_left
    · (intro w' hSw; (try dsimp only at hSw); go_simp; try (with_reducible rfl))
    (try simp only [Act.put, List.setIfInBounds_toArray, List.set_cons_zero, List.set_cons_succ])
    refine wpAnyM_take (i := 9) (oi := ⟨_, _, _, _, _, _⟩) (v := ?_) rfl (by kernel_rfl) (by kernel_rfl) (by kernel_rfl) (by kernel_rfl) (fun _ _ _ h => h) (Or.inl ⟨by rfl, ?_⟩) hHeld ?_
    rotate_left
    · (intro w' hSw; (try dsimp only at hSw); go_simp; try (with_reducible rfl))
    (try simp only [Act.put, List.setIfInBounds_toArray, List.set_cons_zero, List.set_cons_succ])
    refine wpAnyM_take (i := 10) (oi := ⟨_, _, _, _, _, _⟩) (v := ?_) rfl (by kernel_rfl) (by kernel_rfl) (by kernel_rfl) (by kernel_rfl) (fun _ _ _ h => h) (Or.inl ⟨by rfl, ?_⟩) hHeld ?_
    rotate_left
    · (intro w' hSw; (try dsimp only at hSw); go_simp; try (with_reducible rfl))
    (try simp only [Act.put, List.setIfInBounds_toArray, List.set_cons_zero, List.set_cons_succ])
    refine wpAnyM_take (i := 11) (oi := ⟨_, _, _, _, _, _⟩) (v := ?_) rfl (by kernel_rfl) (by kernel_rfl) (by kernel_rfl) (by kernel_rfl) (fun _ _ _ h => h) (Or.inl ⟨by rfl, ?_⟩) hHeld ?_
    rotate_left
    · (intro w' hSw; (try dsimp only at hSw); go_simp; try (with_reducible rfl))
    (try simp only [Act.put, List.setIfInBounds_toArray, List.set_cons_zero, List.set_cons_succ])
    refine wpAnyM_take (i := 12) (oi := ⟨_, _, _, _, _, _⟩) (v := ?_) rfl (by kernel_rfl) (by kernel_rfl) (by kernel_rfl) (by kernel_rfl) (fun _ _ _ h => h) (Or.inl ⟨by rfl, ?_⟩) hHeld ?_
    rotate_left
    · (intro w' hSw; (try dsimp only at hSw); go_simp; try (with_reducible rfl))
    (try simp only [Act.put, List.setIfInBounds_toArray, List.set_cons_zero, List.set_cons_succ])
    refine wpAnyM_done (by kernel_rfl) ?_ _
    go_wp2_with fail
    refine wp_region_M (S := fun _ => True) (late := []) (by kernel_rfl) trivial (fun hHeld => ?_)
    (try simp only [List.size_toArray, List.length_cons, List.length_nil, Nat.zero_add, Nat.reduceAdd, Array.replicate, List.replicate])
    refine wpAnyM_take (i := 0) (oi := ⟨_, _, _, _, _, _⟩) (v := ?_) rfl (by kernel_rfl) (by kernel_rfl) (by kernel_rfl) (by kernel_rfl) (fun _ _ _ h => h) (Or.inl ⟨by rfl, ?_⟩) hHeld ?_
    rotate_left
    · (intro w' hSw; (try dsimp only at hSw); go_simp; try (with_reducible rfl))
    (try simp only [Act.put, List.setIfInBounds_toArray, List.set_cons_zero, List.set_cons_succ])
    refine wpAnyM_take (i := 1) (oi := ⟨_, _, _, _, _, _⟩) (v := ?_) rfl (by kernel_rfl) (by kernel_rfl) (by kernel_rfl) (by kernel_rfl) (fun _ _ _ h => h) (Or.inl ⟨by rfl, ?_⟩) hHeld ?_
    rotate_left
    · (intro w' hSw; (try dsimp only at hSw); go_simp; try (with_reducible rfl))
    (try simp only [Act.put, List.setIfInBounds_toArray, List.set_cons_zero, List.set_cons_succ])
    refine wpAnyM_take (i := 2) (oi := ⟨_, _, _, _, _, _⟩) (v := ?_) rfl (by kernel_rfl) (by kernel_rfl) (by kernel_rfl) (by kernel_rfl) (fun _ _ _ h => h) (Or.inl ⟨by rfl, ?_⟩) hHeld ?_
    rotate_left
    · (intro w' hSw; (try dsimp only at hSw); go_simp; try (with_reducible rfl))
    (try simp only [Act.put, List.setIfInBounds_toArray, List.set_cons_zero, List.set_cons_succ])
    refine wpAnyM_take (i := 3) (oi := ⟨_, _, _, _, _, _⟩) (v := ?_) rfl (by kernel_rfl) (by kernel_rfl) (by kernel_rfl) (by kernel_rfl) (fun _ _ _ h => h) (Or.inl ⟨by rfl, ?_⟩) hHeld ?_
    rotate_left
    · (intro w' hSw; (try dsimp only at hSw); go_simp; try (with_reducible rfl))
    (try simp only [Act.put, List.setIfInBounds_toArray, List.set_cons_zero, List.set_cons_succ])
    refine wpAnyM_take (i := 4) (oi := ⟨_, _, _, _, _, _⟩) (v := ?_) rfl (by kernel_rfl) (by kernel_rfl) (by kernel_rfl) (by kernel_rfl) (fun _ _ _ h => h) (Or.inl ⟨by rfl, ?_⟩) hHeld ?_
    rotate_left
    · (intro w' hSw; (try dsimp only at hSw); go_simp; try (with_reducible rfl))
    (try simp only [Act.put, List.setIfInBounds_toArray, List.set_cons_zero, List.set_cons_succ])
    refine wpAnyM_take (i := 5) (oi := ⟨_, _, _, _, _, _⟩) (v := ?_) rfl (by kernel_rfl) (by kernel_rfl) (by kernel_rfl) (by kernel_rfl) (fun _ _ _ h => h) (Or.inl ⟨by rfl, ?_⟩) hHeld ?_
    rotate_left
    · (intro w' hSw; (try dsimp only at hSw); go_simp; try (with_reducible rfl))
    (try simp only [Act.put, List.setIfInBounds_toArray, List.set_cons_zero, List.set_cons_succ])
    refine wpAnyM_take (i := 6) (oi := ⟨_, _, _, _, _, _⟩) (v := ?_) rfl (by kernel_rfl) (by kernel_rfl) (by kernel_rfl) (by kernel_rfl) (fun _ _ _ h => h) (Or.inl ⟨by rfl, ?_⟩) hHeld ?_
    rotate_left
    · (intro w' hSw; (try dsimp only at hSw); go_simp; try (with_reducible rfl))
    (try simp only [Act.put, List.setIfInBounds_toArray, List.set_cons_zero, List.set_cons_succ])
    refine wpAnyM_take (i := 7) (oi := ⟨_, _, _, _, _, _⟩) (v := ?_) rfl (by kernel_rfl) (by kernel_rfl) (by kernel_rfl) (by kernel_rfl) (fun _ _ _ h => h) (Or.inl ⟨by rfl, ?_⟩) hHeld ?_
    rotate_left
    · (intro w' hSw; (try dsimp only at hSw); go_simp; try (with_reducible rfl))
    (try simp only [Act.put, List.setIfInBounds_toArray, List.set_cons_zero, List.set_cons_succ])
    refine wpAnyM_take (i := 8) (oi := ⟨_, _, _, _, _, _⟩) (v := ?_) rfl (by kernel_rfl) (by kernel_rfl) (by kernel_rfl) (by kernel_rfl) (fun _ _ _ h => h) (Or.inl ⟨by rfl, ?_⟩) hHeld ?_
    rotate_left
    · (intro w' hSw; (try dsimp only at hSw); go_simp; try (with_reducible rfl))
    (try simp only [Act.put, List.setIfInBounds_toArray, List.set_cons_zero, List.set_cons_succ])
    refine wpAnyM_one (i := 9) (o := ⟨_, _, _, _, _, _⟩) (by kernel_rfl) rfl (fun K hK => ?_)
    refine step_copy_run rfl _ _ 79 79 rfl _ _ rfl rfl (hcp2 _ _ _) ?_
    refine hK.out _ _ trivial (fun hHeld => ?_)
    clear hK K
    (try simp only [List.setIfInBounds_toArray, List.set_cons_zero, List.set_cons_succ])
    refine wpAnyM_done (by kernel_rfl) ?_ _
    go_wp2_with fail
    go_ret
    exact ⟨_, rfl, HO2.out, HG2.out, fun g e => .inl e⟩
  · obtain rfl : n = T := by omega
    have hclr0 : ∀ ty a c, (Builtin.clear_ #[79] ty #[.slice a 0 c]).run Tryz.prog W2 = .ok (.tuple #[]) W2 := fun ty a c => run_clear_none W2 ty a c
    have z24 : n - n = 0 := Nat.sub_self n
    have HT := hide hT
    clear hclr hT
    by_cases hcn : cap = n
    · subst hcn
      go_enter Tryz.func82, Tryz.ntmps82
      go_wp2_with fail
      refine wp_region_M (S := fun _ => True) (late := []) (by kernel_rfl) trivial (fun hHeld => ?_)
      (try simp only [List.size_toArray, List.length_cons, List.length_nil, Nat.zero_add, Nat.reduceAdd, Array.replicate, List.replicate])
      refine wpAnyM_take (i := 0) (oi := ⟨_, _, _, _, _, _⟩) (v := ?_) rfl (by kernel_rfl) (by kernel_rfl) (by kernel_rfl) (by kernel_rfl) (fun _ _ _ h => h) (Or.inl ⟨by rfl, ?_⟩) hHeld ?_
      rotate_left
      · (intro w' hSw; (try dsimp only at hSw); go_simp; try (with_reducible rfl))
      (try simp only [Act.put, List.setIfInBounds_toArray, List.set_cons_zero, List.set_cons_succ])
      refine wpAnyM_take (i := 1) (oi := ⟨_, _, _, _, _, _⟩) (v := ?_) rfl (by kernel_rfl) (by kernel_rfl) (by kernel_rfl) (by kernel_rfl) (fun _ _ _ h => h) (Or.inl ⟨by rfl, ?_⟩) hHeld ?_
      rotate_left
      · (intro w' hSw; (try dsimp only at hSw); go_simp; try (with_reducible rfl))
      (try simp only [Act.put, List.setIfInBounds_toArray, List.set_cons_zero, List.set_cons_succ])
      refine wpAnyM_take (i := 2) (oi := ⟨_, _, _, _, _, _⟩) (v := ?_) rfl (by kernel_rfl) (by kernel_rfl) (by kernel_rfl) (by kernel_rfl) (fun _ _ _ h => h) (Or.inl ⟨by rfl, ?_⟩) hHeld ?_
      rotate_left
      · (intro w' hSw; (try dsimp only at hSw); go_simp; try (with_reducible rfl))
      (try simp only [Act.put, List.setIfInBounds_toArray, List.set_cons_zero, List.set_cons_succ])
      refine wpAnyM_take (i := 3) (oi := ⟨_, _, _, _, _, _⟩) (v := ?_) rfl (by kernel_rfl) (by kernel_rfl) (by kernel_rfl) (by kernel_rfl) (fun _ _ _ h => h) (Or.inl ⟨by rfl, ?_⟩) hHeld ?_
      rotate_left
      · (intro w' hSw; (try dsimp only at hSw); go_simp; try (with_reducible rfl))
      (try simp only [Act.put, List.setIfInBounds_toArray, List.set_cons_zero, List.set_cons_succ])
      refine wpAnyM_take (i := 4) (oi := ⟨_, _, _, _, _, _⟩) (v := ?_) rfl (by kernel_rfl) (by kernel_rfl) (by kernel_rfl) (by kernel_rfl) (fun _ _ _ h => h) (Or.inl ⟨by rfl, ?_⟩) hHeld ?_
      rotate_left
      · (intro w' hSw; (try dsimp only at hSw); go_simp; try (with_reducible rfl))
      (try simp only [Act.put, List.setIfInBounds_toArray, List.set_cons_zero, List.set_cons_succ])
      refine wpAnyM_take (i := 5) (oi := ⟨_, _, _, _, _, _⟩) (v := ?_) rfl (by kernel_rfl) (by kernel_rfl) (by kernel_rfl) (by kernel_rfl) (fun _ _ _ h => h) (Or.inl ⟨by rfl, ?_⟩) hHeld ?_
      rotate_left
      · (intro w' hSw; (try dsimp only at hSw); go_simp; try (with_reducible rfl))
      (try simp only [Act.put, List.setIfInBounds_toArray, List.set_cons_zero, List.set_cons_succ])
      refine wpAnyM_take (i := 6) (oi := ⟨_, _, _, _, _, _⟩) (v := ?_) rfl (by kernel_rfl) (by kernel_rfl) (by kernel_rfl) (by kernel_rfl) (fun _ _ _ h => h) (Or.inl ⟨by rfl, ?_⟩) hHeld ?_
      rotate_left
      · (intro w' hSw; (try dsimp only at hSw); go_simp; try (with_reducible rfl))
      (try simp only [Act.put, List.setIfInBounds_toArray, List.set_cons_zero, List.set_cons_succ])
      refine wpAnyM_take (i := 7) (oi := ⟨_, _, _, _, _, _⟩) (v := ?_) rfl (by kernel_rfl) (by kernel_rfl) (by kernel_rfl) (by kernel_rfl) (fun _ _ _ h => h) (Or.inl ⟨by rfl, ?_⟩) hHeld ?_
      rotate_left
      · (intro w' hSw; (try dsimp only at hSw); go_simp; try (with_reducible rfl))
      (try simp only [Act.put, List.setIfInBounds_toArray, List.set_cons_zero, List.set_cons_succ])
      refine wpAnyM_take (i := 8) (oi := ⟨_, _, _, _, _, _⟩) (v := ?_) rfl (by kernel_rfl) (by kernel_rfl) (by kernel_rfl) (by kernel_rfl) (fun _ _ _ h => h) (Or.inl ⟨by rfl, ?_⟩) hHeld ?_
      rotate_left
      · (intro w' hSw; (try dsimp only at hSw); go_simp; try (with_reducible rfl))
      (try simp only [Act.put, List.setIfInBounds_toArray, List.set_cons_zero, List.set_cons_succ])
      refine wpAnyM_take (i := 9) (oi := ⟨_, _, _, _, _, _⟩) (v := ?_) rfl (by kernel_rfl) (by kernel_rfl) (by kernel_rfl) (by kernel_rfl) (fun _ _ _ h => h) (Or.inl ⟨by rfl, ?_⟩) hHeld ?_
      rotate_left
      · (intro w' hSw; (try dsimp only at hSw); go_simp; try (with_reducible rfl))
      (try simp only [Act.put, List.setIfInBounds_toArray, List.set_cons_zero, List.set_cons_succ])
      refine wpAnyM_take (i := 10) (oi := ⟨_, _, _, _, _, _⟩) (v := ?_) rfl (by kernel_rfl) (by kernel_rfl) (by kernel_rfl) (by kernel_rfl) (fun _ _ _ h => h) (Or.inl ⟨by rfl, ?_⟩) hHeld ?_
      rotate_left
      · (intro w' hSw; (try dsimp only at hSw); go_simp; try (with_reducible rfl))
      (try simp only [Act.put, List.setIfInBounds_toArray, List.set_cons_zero, List.set_cons_succ])
      refine wpAnyM_take (i := 11) (oi := ⟨_, _, _, _, _, _⟩) (v := ?_) rfl (by kernel_rfl) (by kernel_rfl) (by kernel_rfl) (by kernel_rfl) (fun _ _ _ h => h) (Or.inl ⟨by rfl, ?_⟩) hHeld ?_
      rotate_left
      · (intro w' hSw; (try dsimp only at hSw); go_simp; try (with_reducible rfl))
      (try simp only [Act.put, List.setIfInBounds_toArray, List.set_cons_zero, List.set_cons_succ])
      refine wpAnyM_take (i := 12) (oi := ⟨_, _, _, _, _, _⟩) (v := ?_) rfl (by kernel_rfl) (by kernel_rfl) (by kernel_rfl) (by kernel_rfl) (fun _ _ _ h => h) (Or.inl ⟨by rfl, ?_⟩) hHeld ?_
      rotate_left
      · (intro w' hSw; (try dsimp only at hSw); go_simp; try (with_reducible rfl))
      (try simp only [Act.put, List.setIfInBounds_toArray, List.set_cons_zero, List.set_cons_succ])
      refine wpAnyM_done (by kernel_rfl) ?_ _
      go_wp2_with fail
      refine wp_region_M (S := fun _ => True) (late := []) (by kernel_rfl) trivial (fun hHeld => ?_)
      (try simp only [List.size_toArray, List.length_cons, List.length_nil, Nat.zero_add, Nat.reduceAdd, Array.replicate, List.replicate])
      refine wpAnyM_take (i := 0) (oi := ⟨_, _, _, _, _, _⟩) (v := ?_) rfl (by kernel_rfl) (by kernel_rfl) (by kernel_rfl) (by kernel_rfl) (fun _ _ _ h => h) (Or.inl ⟨by rfl, ?_⟩) hHeld ?_
      rotate_left
      · (intro w' hSw; (try dsimp only at hSw); go_simp; try (with_reducible rfl))
      (try simp only [Act.put, List.setIfInBounds_toArray, List.set_cons_zero, List.set_cons_succ])
      refine wpAnyM_take (i := 1) (oi := ⟨_, _, _, _, _, _⟩) (v := ?_) rfl (by kernel_rfl) (by kernel_rfl) (by kernel_rfl) (by kernel_rfl) (fun _ _ _ h => h) (Or.inl ⟨by rfl, ?_⟩) hHeld ?_
      rotate_left
      · (intro w' hSw; (try dsimp only at hSw); go_simp; try (with_reducible rfl))
      (try simp only [Act.put, List.setIfInBounds_toArray, List.set_cons_zero, List.set_cons_succ])
      refine wpAnyM_take (i := 2) (oi := ⟨_, _, _, _, _, _⟩) (v := ?_) rfl (by kernel_rfl) (by kernel_rfl) (by kernel_rfl) (by kernel_rfl) (fun _ _ _ h => h) (Or.inl ⟨by rfl, ?_⟩) hHeld ?_
      rotate_left
      · (intro w' hSw; (try dsimp only at hSw); go_simp; try (with_reducible rfl))
      (try simp only [Act.put, List.setIfInBounds_toArray, List.set_cons_zero, List.set_cons_succ])
      refine wpAnyM_take (i := 3) (oi := ⟨_, _, _, _, _, _⟩) (v := ?_) rfl (by kernel_rfl) (by kernel_rfl) (by kernel_rfl) (by kernel_rfl) (fun _ _ _ h => h) (Or.inl ⟨by rfl, ?_⟩) hHeld ?_
      rotate_left
      · (intro w' hSw; (try dsimp only at hSw); go_simp; try (with_reducible rfl))
      (try simp only [Act.put, List.setIfInBounds_toArray, List.set_cons_zero, List.set_cons_succ])
      refine wpAnyM_take (i := 4) (oi := ⟨_, _, _, _, _, _⟩) (v := ?_) rfl (by kernel_rfl) (by kernel_rfl) (by kernel_rfl) (by kernel_rfl) (fun _ _ _ h => h) (Or.inl ⟨by rfl, ?_⟩) hHeld ?_
      rotate_left
      · (intro w' hSw; (try dsimp only at hSw); go_simp; try (with_reducible rfl))
      (try simp only [Act.put, List.setIfInBounds_toArray, List.set_cons_zero, List.set_cons_succ])
      refine wpAnyM_take (i := 5) (oi := ⟨_, _, _, _, _, _⟩) (v := ?_) rfl (by kernel_rfl) (by kernel_rfl) (by kernel_rfl) (by kernel_rfl) (fun _ _ _ h => h) (Or.inl ⟨by rfl, ?_⟩) hHeld ?_
      rotate_left
      · (intro w' hSw; (try dsimp only at hSw); go_simp; try (with_reducible rfl))
      (try simp only [Act.put, List.setIfInBounds_toArray, List.set_cons_zero, List.set_cons_succ])
      refine wpAnyM_take (i := 6) (oi := ⟨_, _, _, _, _, _⟩) (v := ?_) rfl (by kernel_rfl) (by kernel_rfl) (by kernel_rfl) (by kernel_rfl) (fun _ _ _ h => h) (Or.inl ⟨by rfl, ?_⟩) hHeld ?_
      rotate_left
      · (intro w' hSw; (try dsimp only at hSw); go_simp; try (with_reducible rfl))
      (try simp only [Act.put, List.setIfInBounds_toArray, List.set_cons_zero, List.set_cons_succ])
      refine wpAnyM_take (i := 7) (oi := ⟨_, _, _, _, _, _⟩) (v := ?_) rfl (by kernel_rfl) (by kernel_rfl) (by kernel_rfl) (by kernel_rfl) (fun _ _ _ h => h) (Or.inl ⟨by rfl, ?_⟩) hHeld ?_
      rotate_left
      · (intro w' hSw; (try dsimp only at hSw); go_simp; try (with_reducible rfl))
      (try simp only [Act.put, List.setIfInBounds_toArray, List.set_cons_zero, List.set_cons_succ])
      refine wpAnyM_take (i := 8) (oi := ⟨_, _, _, _, _, _⟩) (v := ?_) rfl (by kernel_rfl) (by kernel_rfl) (by kernel_rfl) (by kernel_rfl) (fun _ _ _ h => h) (Or.inl ⟨by rfl, ?_⟩) hHeld ?_
      rotate_left
      · (intro w' hSw; (try dsimp only at hSw); go_simp; try (with_reducible rfl))
      (try simp only [Act.put, List.setIfInBounds_toArray, List.set_cons_zero, List.set_cons_succ])
      refine wpAnyM_one (i := 9) (o := ⟨_, _, _, _, _, _⟩) (by kernel_rfl) rfl (fun K hK => ?_)
      refine step_copy_run rfl _ _ 79 79 rfl _ _ rfl rfl (hcp2 _ _ _) ?_
      refine hK.out _ _ trivial (fun hHeld => ?_)
      clear hK K
      (try simp only [List.setIfInBounds_toArray, List.set_cons_zero, List.set_cons_succ])
      refine wpAnyM_done (by kernel_rfl) ?_ _
      go_wp2_with fail
      go_ret
      exact ⟨_, rfl, HO1.out, HG1.out, fun g e => .inl e⟩
    · go_enter Tryz.func82, Tryz.ntmps82
      go_wp2_with fail
      refine wp_region_M (S := fun _ => True) (late := []) (by kernel_rfl) trivial (fun hHeld => ?_)
      (try simp only [List.size_toArray, List.length_cons, List.length_nil, Nat.zero_add, Nat.reduceAdd, Array.replicate, List.replicate])
      refine wpAnyM_take (i := 0) (oi := ⟨_, _, _, _, _, _⟩) (v := ?_) rfl (by kernel_rfl) (by kernel_rfl) (by kernel_rfl) (by kernel_rfl) (fun _ _ _ h => h) (Or.inl ⟨by rfl, ?_⟩) hHeld ?_
      rotate_left
      · (intro w' hSw; (try dsimp only at hSw); go_simp; try (with_reducible rfl))
      (try simp only [Act.put, List.setIfInBounds_toArray, List.set_cons_zero, List.set_cons_succ])
      refine wpAnyM_take (i := 1) (oi := ⟨_, _, _, _, _, _⟩) (v := ?_) rfl (by kernel_rfl) (by kernel_rfl) (by kernel_rfl) (by kernel_rfl) (fun _ _ _ h => h) (Or.inl ⟨by rfl, ?_⟩) hHeld ?_
      rotate_left
      · (intro w' hSw; (try dsimp only at hSw); go_simp; try (with_reducible rfl))
      (try simp only [Act.put, List.setIfInBounds_toArray, List.set_cons_zero, List.set_cons_succ])
      refine wpAnyM_take (i := 2) (oi := ⟨_, _, _, _, _, _⟩) (v := ?_) rfl (by kernel_rfl) (by kernel_rfl) (by kernel_rfl) (by kernel_rfl) (fun _ _ _ h => h) (Or.inl ⟨by rfl, ?_⟩) hHeld ?_
      rotate_left
      · (intro w' hSw; (try dsimp only at hSw); go_simp; try (with_reducible rfl))
      (try simp only [Act.put, List.setIfInBounds_toArray, List.set_cons_zero, List.set_cons_succ])
      refine wpAnyM_take (i := 3) (oi := ⟨_, _, _, _, _, _⟩) (v := ?_) rfl (by kernel_rfl) (by kernel_rfl) (by kernel_rfl) (by kernel_rfl) (fun _ _ _ h => h) (Or.inl ⟨by rfl, ?_⟩) hHeld ?_
      rotate_left
      · (intro w' hSw; (try dsimp only at hSw); go_simp; try (with_reducible rfl))
      (try simp only [Act.put, List.setIfInBounds_toArray, List.set_cons_zero, List.set_cons_succ])
      refine wpAnyM_take (i := 4) (oi := ⟨_, _, _, _, _, _⟩) (v := ?_) rfl (by kernel_rfl) (by kernel_rfl) (by kernel_rfl) (by kernel_rfl) (fun _ _ _ h => h) (Or.inl ⟨by rfl, ?_⟩) hHeld ?_
      rotate_left
      · (intro w' hSw; (try dsimp only at hSw); go_simp; try (with_reducible rfl))
      (try simp only [Act.put, List.setIfInBounds_toArray, List.set_cons_zero, List.set_cons_succ])
      refine wpAnyM_take (i := 5) (oi := ⟨_, _, _, _, _, _⟩) (v := ?_) rfl (by kernel_rfl) (by kernel_rfl) (by kernel_rfl) (by kernel_rfl) (fun _ _ _ h => h) (Or.inl ⟨by rfl, ?_⟩) hHeld ?_
      rotate_left
      · (intro w' hSw; (try dsimp only at hSw); go_simp; try (with_reducible rfl))
      (try simp only [Act.put, List.setIfInBounds_toArray, List.set_cons_zero, List.set_cons_succ])
      refine wpAnyM_take (i := 6) (oi := ⟨_, _, _, _, _, _⟩) (v := ?_) rfl (by kernel_rfl) (by kernel_rfl) (by kernel_rfl) (by kernel_rfl) (fun _ _ _ h => h) (Or.inl ⟨by rfl, ?_⟩) hHeld ?_
      rotate_left
      · (intro w' hSw; (try dsimp only at hSw); go_simp; try (with_reducible rfl))
      (try simp only [Act.put, List.setIfInBounds_toArray, List.set_cons_zero, List.set_cons_succ])
      refine wpAnyM_take (i := 7) (oi := ⟨_, _, _, _, _, _⟩) (v := ?_) rfl (by kernel_rfl) (by kernel_rfl) (by kernel_rfl) (by kernel_rfl) (fun _ _ _ h => h) (Or.inl ⟨by rfl, ?_⟩) hHeld ?_
      rotate_left
      · (intro w' hSw; (try dsimp only at hSw); go_simp; try (with_reducible rfl))
      (try simp only [Act.put, List.setIfInBounds_toArray, List.set_cons_zero, List.set_cons_succ])
      refine wpAnyM_take (i := 8) (oi := ⟨_, _, _, _, _, _⟩) (v := ?_) rfl (by kernel_rfl) (by kernel_rfl) (by kernel_rfl) (by kernel_rfl) (fun _ _ _ h => h) (Or.inl ⟨by rfl, ?_⟩) hHeld ?_
      rotate_left
      · (intro w' hSw; (try dsimp only at hSw); go_simp; try (with_reducible rfl))
      (try simp only [Act.put, List.setIfInBounds_toArray, List.set_cons_zero, List.set_cons_succ])
      refine wpAnyM_take (i := 9) (oi := ⟨_, _, _, _, _, _⟩) (v := ?_) rfl (by kernel_rfl) (by kernel_rfl) (by kernel_rfl) (by kernel_rfl) (fun _ _ _ h => h) (Or.inl ⟨by rfl, ?_⟩) hHeld ?_
      rotate_left
      · (intro w' hSw; (try dsimp only at hSw); go_simp; try (with_reducible rfl))
      (try simp only [Act.put, List.setIfInBounds_toArray, List.set_cons_zero, List.set_cons_succ])
      refine wpAnyM_take (i := 10) (oi := ⟨_, _, _, _, _, _⟩) (v := ?_) rfl (by kernel_rfl) (by kernel_rfl) (by kernel_rfl) (by kernel_rfl) (fun _ _ _ h => h) (Or.inl ⟨by rfl, ?_⟩) hHeld ?_
      rotate_left
      · (intro w' hSw; (try dsimp only at hSw); go_simp; try (with_reducible rfl))
      (try simp only [Act.put, List.setIfInBounds_toArray, List.set_cons_zero, List.set_cons_succ])
      refine wpAnyM_take (i := 11) (oi := ⟨_, _, _, _, _, _⟩) (v := ?_) rfl (by kernel_rfl) (by kernel_rfl) (by kernel_rfl) (by kernel_rfl) (fun _ _ _ h => h) (Or.inl ⟨by rfl, ?_⟩) hHeld ?_
      rotate_left
      · (intro w' hSw; (try dsimp only at hSw); go_simp; try (with_reducible rfl))
      (try simp only [Act.put, List.setIfInBounds_toArray, List.set_cons_zero, List.set_cons_succ])
      refine wpAnyM_take (i := 12) (oi := ⟨_, _, _, _, _, _⟩) (v := ?_) rfl (by kernel_rfl) (by kernel_rfl) (by kernel_rfl) (by kernel_rfl) (fun _ _ _ h => h) (Or.inl ⟨by rfl, ?_⟩) hHeld ?_
      rotate_left
      · (intro w' hSw; (try dsimp only at hSw); go_simp; try (with_reducible rfl))
      (try simp only [Act.put, List.setIfInBounds_toArray, List.set_cons_zero, List.set_cons_succ])
      refine wpAnyM_done (by kernel_rfl) ?_ _
      go_wp2_with fail
      refine wp_region_M (S := fun _ => True) (late := []) (by kernel_rfl) trivial (fun hHeld => ?_)
      (try simp only [List.size_toArray, List.length_cons, List.length_nil, Nat.zero_add, Nat.reduceAdd, Array.replicate, List.replicate])
      refine wpAnyM_take (i := 0) (oi := ⟨_, _, _, _, _, _⟩) (v := ?_) rfl (by kernel_rfl) (by kernel_rfl) (by kernel_rfl) (by kernel_rfl) (fun _ _ _ h => h) (Or.inl ⟨by rfl, ?_⟩) hHeld ?_
      rotate_left
      · (intro w' hSw; (try dsimp only at hSw); go_simp; try (with_reducible rfl))
      (try simp only [Act.put, List.setIfInBounds_toArray, List.set_cons_zero, List.set_cons_succ])
      refine wpAnyM_take (i := 1) (oi := ⟨_, _, _, _, _, _⟩) (v := ?_) rfl (by kernel_rfl) (by kernel_rfl) (by kernel_rfl) (by kernel_rfl) (fun _ _ _ h => h) (Or.inl ⟨by rfl, ?_⟩) hHeld ?_
      rotate_left
      · (intro w' hSw; (try dsimp only at hSw); go_simp; try (with_reducible rfl))
      (try simp only [Act.put, List.setIfInBounds_toArray, List.set_cons_zero, List.set_cons_succ])
      refine wpAnyM_take (i := 2) (oi := ⟨_, _, _, _, _, _⟩) (v := ?_) rfl (by kernel_rfl) (by kernel_rfl) (by kernel_rfl) (by kernel_rfl) (fun _ _ _ h => h) (Or.inl ⟨by rfl, ?_⟩) hHeld ?_
      rotate_left
      · (intro w' hSw; (try dsimp only at hSw); go_simp; try (with_reducible rfl))
      (try simp only [Act.put, List.setIfInBounds_toArray, List.set_cons_zero, List.set_cons_succ])
      refine wpAnyM_take (i := 3) (oi := ⟨_, _, _, _, _, _⟩) (v := ?_) rfl (by kernel_rfl) (by kernel_rfl) (by kernel_rfl) (by kernel_rfl) (fun _ _ _ h => h) (Or.inl ⟨by rfl, ?_⟩) hHeld ?_
      rotate_left
      · (intro w' hSw; (try dsimp only at hSw); go_simp; try (with_reducible rfl))
      (try simp only [Act.put, List.setIfInBounds_toArray, List.set_cons_zero, List.set_cons_succ])
      refine wpAnyM_take (i := 4) (oi := ⟨_, _, _, _, _, _⟩) (v := ?_) rfl (by kernel_rfl) (by kernel_rfl) (by kernel_rfl) (by kernel_rfl) (fun _ _ _ h => h) (Or.inl ⟨by rfl, ?_⟩) hHeld ?_
      rotate_left
      · (intro w' hSw; (try dsimp only at hSw); go_simp; try (with_reducible rfl))
      (try simp only [Act.put, List.setIfInBounds_toArray, List.set_cons_zero, List.set_cons_succ])
      refine wpAnyM_take (i := 5) (oi := ⟨_, _, _, _, _, _⟩) (v := ?_) rfl (by kernel_rfl) (by kernel_rfl) (by kernel_rfl) (by kernel_rfl) (fun _ _ _ h => h) (Or.inl ⟨by rfl, ?_⟩) hHeld ?_
      rotate_left
      · (intro w' hSw; (try dsimp only at hSw); go_simp; try (with_reducible rfl))
      (try simp only [Act.put, List.setIfInBounds_toArray, List.set_cons_zero, List.set_cons_succ])
      refine wpAnyM_take (i := 6) (oi := ⟨_, _, _, _, _, _⟩) (v := ?_) rfl (by kernel_rfl) (by kernel_rfl) (by kernel_rfl) (by kernel_rfl) (fun _ _ _ h => h) (Or.inl ⟨by rfl, ?_⟩) hHeld ?_
      rotate_left
      · (intro w' hSw; (try dsimp only at hSw); go_simp; try (with_reducible rfl))
      (try simp only [Act.put, List.setIfInBounds_toArray, List.set_cons_zero, List.set_cons_succ])
      refine wpAnyM_take (i := 7) (oi := ⟨_, _, _, _, _, _⟩) (v := ?_) rfl (by kernel_rfl) (by kernel_rfl) (by kernel_rfl) (by kernel_rfl) (fun _ _ _ h => h) (Or.inl ⟨by rfl, ?_⟩) hHeld ?_
      rotate_left
      · (intro w' hSw; (try dsimp only at hSw); go_simp; try (with_reducible rfl))
      (try simp only [Act.put, List.setIfInBounds_toArray, List.set_cons_zero, List.set_cons_succ])
      refine wpAnyM_take (i := 8) (oi := ⟨_, _, _, _, _, _⟩) (v := ?_) rfl (by kernel_rfl) (by kernel_rfl) (by kernel_rfl) (by kernel_rfl) (fun _ _ _ h => h) (Or.inl ⟨by rfl, ?_⟩) hHeld ?_
      rotate_left
      · (intro w' hSw; (try dsimp only at hSw); go_simp; try (with_reducible rfl))
      (try simp only [Act.put, List.setIfInBounds_toArray, List.set_cons_zero, List.set_cons_succ])
      refine wpAnyM_one (i := 9) (o := ⟨_, _, _, _, _, _⟩) (by kernel_rfl) rfl (fun K hK => ?_)
      refine step_copy_run rfl _ _ 79 79 rfl _ _ rfl rfl (hcp2 _ _ _) ?_
      refine hK.out _ _ trivial (fun hHeld => ?_)
      clear hK K
      (try simp only [List.setIfInBounds_toArray, List.set_cons_zero, List.set_cons_succ])
      refine wpAnyM_done (by kernel_rfl) ?_ _
      go_wp2_with fail
      go_ret
      exact ⟨_, rfl, HO1.out, HG1.out, fun g e => .inl e⟩
theorem replace_any {w : World} {base : Nat} {s : Value} {l : List Sp} (ho : OwnL 68 2 Sp.cs base w s l) (hn : l.length ≤ 100000) (hbase : base ≤ w.heap.size) {gv : Nat} {x : Sp} (hv : BoxT 68 w gv #[.int .i64 x.f, .int .i64 x.t]) (hgv : s.ownBlock ≠ some gv) {i j : Nat} (hij : i ≤ j) (hj : j ≤ l.length) :
    Calls Tryz.prog 82 #[s, .int .i64 (i : Int), .int .i64 (j : Int), .slice (some ⟨gv, 0, none⟩) 1 1] w (RPost base w s (l.take i ++ x :: l.drop j)) := by
  by_cases h1 : i = j
  · subst h1
    exact replace_ins ho hn hbase hv hgv hj
  · rcases ho.2 with ⟨rfl, h0⟩ | ⟨g, cap, cur, rfl, _⟩
    · omega
    · by_cases h2 : j = l.length
      · subst h2
        rw [List.drop_of_length_le (Nat.le_refl _)]
        exact replace_end ho hn hv (by omega)
      · exact replace_mid ho hn hv (by omega) (by omega)
end Go.Proofs.YtdoldohcimbdaaaGreat
