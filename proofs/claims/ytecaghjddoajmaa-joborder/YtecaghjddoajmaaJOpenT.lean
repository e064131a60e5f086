/-
  Readings: a job that came in, opened, with what is told of what is frozen; Check of its expressions, the answer left open.
-/
import Derived.Test.YtecaghjddoajmaaJOpen
import Derived.Test.YtecaghjddoajmaaJThrO
import Derived.Test.YtecaghjddoajmaaJChkOpen
namespace Go.Proofs.Ytecaghjddoajmaa
open Go.ChangeShapes Go.WideShapes Go.ChangeAt Go.WideMaps Go.WideElems Go.RowKit Go.Deep

theorem Thaw.mk {w : World} {e : Ex} (h : ∀ (i : Nat) (z : Ex) (b o : Nat), e.l[i]? = some z → e.a = some ⟨b, o, none⟩ → w.frozen? ⟨b, o + i * 3, none⟩ = false) (hk : ∀ x ∈ e.l, Thaw w x) : Thaw w e := by
  intro x hx
  rw [Ex.sub_eq] at hx
  rcases List.mem_cons.1 hx with rfl | hx
  · exact h
  · obtain ⟨z, hz, hx⟩ := List.mem_flatMap.1 hx
    exact hk z hz x hx
theorem Thaw.below {w w' : World} {e : Ex} (h : Thaw w e) (hin : In w e) (hb : Below w.heap.size w w') : Thaw w' e := by
  intro x hx i z b o hz ha
  have h1 := h x hx i z b o hz ha
  obtain ⟨b', o', ha', c0, _⟩ := (hin x hx).at_ i z hz
  rw [ha] at ha'
  cases ha'
  have e := hb.block b (cell_lt c0)
  unfold World.frozen? at h1 ⊢
  rw [e]; exact h1
set_option maxHeartbeats 1000000 in
set_option maxRecDepth 100000 in
theorem check_open {w : World} (e : Ex) (hin : In w e) (hth : Thaw w e) (hsm : size e ≤ 900) :
    Calls Try.prog 52 #[e.val] w fun r w' => ∃ c : Int, r = .returned (.int .i64 c) ∧ Below w.heap.size w w' := by
  by_cases hn : (cnt e 1 0).2 = 71
  · have hb0 := below1 w (.cells #[.int .i64 e.op, .int .i64 e.n, .slice e.a e.l.length e.c] 45)
    have hct := hide (count_any e _ 1 0 (hin.below hb0) (by omega) (by omega) (by omega) (by omega))
    have HTH : Hid (∀ w', Below w.heap.size w w' → Calls Try.prog 58 #[e.val] w' fun r w'' => ∃ b : Nat, r = .returned (.bool (decide (b = 1))) ∧ Below w'.heap.size w' w'') := fun w' hw' => thr_open e w' (hin.below hw') (hth.below hin hw') hsm
    have HB := hide hb0
    have HX := hide (BoxT.new 45 w #[.int .i64 e.op, .int .i64 e.n, .slice e.a e.l.length e.c])
    rw [hn] at hct
    clear hb0 hin hth hsm hn
    obtain ⟨eo, en, ea, ec, el⟩ := e
    unfold Ex.val at hct HTH ⊢
    simp only at hct HB HTH HX ⊢
    generalize (cnt ⟨eo, en, ea, ec, el⟩ 1 0).1 = cn at *
    go_enter Try.func52, Try.ntmps52
    go_wp2_with (go_at_call 57; refine hct.out.mono ?_; rintro e w2 ⟨rfl, hb2⟩; have HB2 := hide (HB.out.trans (hb2.mono HB.out.size)); have X2 := hide (HX.out.below hb2); have d0 : w2.cell? ⟨w.heap.size, 0, none⟩ = some (.int .i64 eo) := (by rw [X2.out.cellAt]; rfl); have d1 : w2.cell? ⟨w.heap.size, 1, none⟩ = some (.int .i64 en) := (by rw [X2.out.cellAt]; rfl); have d2 : w2.cell? ⟨w.heap.size, 2, none⟩ = some (.slice ea el.length ec) := (by rw [X2.out.cellAt]; rfl); clear hb2)
    refine (HTH.out _ HB2.out).mono ?_
    rintro e w3 ⟨b, rfl, hb3⟩
    by_cases hb : b = 1
    · rw [decide_eq_true hb]
      clear hb
      go_wp2_with fail
      go_ret
      exact ⟨_, rfl, HB2.out.trans (hb3.mono HB2.out.size)⟩
    · rw [decide_eq_false hb]
      clear hb
      go_wp2_with fail
      go_ret
      exact ⟨_, rfl, HB2.out.trans (hb3.mono HB2.out.size)⟩
  · exact (check_few e hin hn).mono fun r w' h => ⟨_, h⟩
theorem some52 {w : World} {n : Nd} (hin : In w n.e) (hth : Thaw w n.e) (hl : lgOk n) : Some52 w n := by
  have h := (lgt_ok n.e 100 40 (by decide)).2.2 hl.2
  exact fun _ w' hb => check_open n.e (hin.below hb) (hth.below hin hb) (by have := hl.2; omega)
section
variable {H : Type} {enc : TypeId × Value → H} {W : World} {base b0 : Nat} {held : Bool} {fuel : Nat}
theorem open_lsegT {α : Type} (dflt : α) {t e sz : Nat} {cs : α → List Value} {ok : α → Prop} (ht : Try.prog.underlying t = some (.slice e)) (hc : Try.prog.cellsOf e = sz) (hs0 : 0 < sz) (hby : 1 ≤ Try.prog.bytesOf e)
    (hone : ∀ (m : Nat) (ce : List Value) (y : DataW H × List MemPlace), DataW.trod enc Try.prog W base (fun _ => true) held m e ce = some y → (∀ k ∈ DataW.weights Try.prog e y.1, k ≤ reachBytes) → W.noneFrozen y.2 → ∃ x : α, ce = cs x ∧ ok x)
    {vs : List Value} {x : DataW H × List MemPlace} (h : DataW.trod enc Try.prog W base (fun _ => true) held fuel t vs = some x) (hw : ∀ k ∈ DataW.weights Try.prog t x.1, k ≤ reachBytes) (hnf : W.noneFrozen x.2) :
    ∃ (ao : Option Addr) (cap : Nat) (xs : List α), vs = [.slice ao xs.length cap] ∧ LSeg sz cs W.heap.size W (.slice ao xs.length cap) xs ∧ (∀ y ∈ xs, ok y) ∧ xs.length ≤ cap ∧ cap ≤ maxLen ∧ xs.length * Try.prog.bytesOf e ≤ 140737488355328 := by
  rcases open_slice ht h with ⟨rfl, _⟩ | ⟨a, len, cap, m, n, D, Pl, rfl, hb, hl, hm, hmm, rfl, hx⟩
  · exact ⟨none, 0, [], rfl, ⟨none, 0, rfl, by simp, .inl rfl⟩, by simp, by simp, by decide, by simp⟩
  simp only [if_true] at hmm
  have each : ∀ i, i < len → ∃ y : α, (∀ (j : Nat) (u : Value), (cs y)[j]? = some u → W.cell? (a.add (i * sz + j)) = some u) ∧ ok y ∧ (cs y).length = sz := by
    intro i hi
    obtain ⟨ce, h1, h2⟩ := hx i (by omega)
    rw [hc] at h1
    obtain ⟨_, hlen, hcell⟩ := World.cells?_some h1
    obtain ⟨y, rfl, hy⟩ := hone n ce _ h2 (fun k hk => hw k (by
      simp only [DataW.weights, ht]
      refine List.mem_cons_of_mem _ (List.mem_append_left _ (weights_all (d := D i) (List.mem_map.2 ⟨i, List.mem_range.2 hi, rfl⟩) k hk)))) (fun b off hp => hnf b off (List.mem_append_right _ (List.mem_flatMap.2 ⟨i, List.mem_range.2 (by omega), hp⟩)))
    refine ⟨y, fun j u hu => ?_, hy, hlen⟩
    have hj : j < sz := by rw [← hlen]; exact (List.getElem?_eq_some_iff.1 hu).1
    have := hcell j hj
    rw [add_add] at this
    rw [this, hu]
  have _i : Inhabited α := ⟨dflt⟩
  obtain ⟨Y, hY⟩ := choose_lt each
  have hmem := hw _ (by simp only [DataW.weights, ht]; exact List.mem_cons_self ..)
  simp only [List.length_map, List.length_range, reachBytes] at hmem
  have hlb : len * Try.prog.bytesOf e ≤ 140737488355328 := by
    have h2 : len * Try.prog.bytesOf e ≤ (len + (m - len)) * Try.prog.bytesOf e := Nat.mul_le_mul_right _ (by omega)
    omega
  have hlen : len ≤ 140737488355328 := by
    have h2 : len * 1 ≤ len * Try.prog.bytesOf e := Nat.mul_le_mul_left _ hby
    omega
  refine ⟨some a, cap, (List.range len).map Y, by simp, ⟨some a, cap, by simp, by simpa using hlen, ?_⟩, fun y hy => ?_, by simpa using hl, hm, by simpa using hlb⟩
  · by_cases h0 : len = 0
    · exact .inl (by simp [h0])
    · obtain ⟨b, off, spot⟩ := a
      obtain ⟨u0, hu0⟩ : ∃ u, (cs (Y 0))[0]? = some u := ⟨_, List.getElem?_eq_getElem (by rw [(hY 0 (by omega)).2.2]; exact hs0)⟩
      have hc0 := (hY 0 (by omega)).1 0 u0 hu0
      have hspot : spot = none := by simpa [Addr.add] using World.cell?_spot hc0
      subst hspot
      refine .inr ⟨b, off, rfl, ?_, fun i y hy j u hu => ?_⟩
      · have := World.block_lt_of_cell? W _ hc0
        simpa [add_plain2] using this
      · have hil : i < len := by
          have := (List.getElem?_eq_some_iff.1 hy).1
          simpa using this
        have hyi : y = Y i := by
          rw [List.getElem?_map, List.getElem?_range hil] at hy
          simpa using hy.symm
        subst hyi
        have := (hY i hil).1 j u hu
        rw [add_plain2] at this
        rw [Nat.add_assoc]; exact this
  · obtain ⟨i, hi, rfl⟩ := List.mem_map.1 hy
    exact (hY i (by simpa using hi)).2.1
set_option maxRecDepth 100000 in
theorem one_exprT : ∀ (k : Nat) {fuel : Nat} {ce : List Value} {y : DataW H × List MemPlace}, SizeOf.sizeOf y.1 < k → DataW.trod enc Try.prog W base (fun _ => true) held fuel 45 ce = some y →
    (∀ n ∈ DataW.weights Try.prog 45 y.1, n ≤ reachBytes) → W.noneFrozen y.2 → ∃ e : Ex, ce = e.cells ∧ In W e ∧ Thaw W e := by
  intro k
  induction k with
  | zero => intro fuel ce y h; omega
  | succ k ih =>
    intro fuel ce y hk hf hsz hnf
    obtain ⟨xs, m, rfl, hx, hl, hxl, hf⟩ := DataW.trod_struct Try.underlying45 hf
    rw [Try.cells45] at hl
    obtain ⟨c0, c1, c2, rfl⟩ := list3 ce hl
    have f0 : DataW.trod enc Try.prog W base (fun _ => true) held m 3 (List.take (Try.prog.cellsOf 3) (List.drop 0 [c0, c1, c2])) = xs[(0 : Nat)]? := hf 0 _ rfl
    have f1 : DataW.trod enc Try.prog W base (fun _ => true) held m 2 (List.take (Try.prog.cellsOf 2) (List.drop 1 [c0, c1, c2])) = xs[(1 : Nat)]? := hf 1 _ rfl
    have f2 : DataW.trod enc Try.prog W base (fun _ => true) held m 43 (List.take (Try.prog.cellsOf 43) (List.drop 2 [c0, c1, c2])) = xs[(2 : Nat)]? := hf 2 _ rfl
    have hxl : xs.length = 3 := hxl
    obtain ⟨y0, y1, y2, rfl⟩ := list3 xs hxl
    simp only [Try.cells2, Try.cells3, Try.cells43, List.drop_zero, List.drop_succ_cons, List.take_succ_cons, List.take_zero, List.getElem?_cons_zero, List.getElem?_cons_succ] at f0 f1 f2
    obtain ⟨op, e0, _, w0⟩ := DataW.trod_int Try.underlying3 f0
    obtain ⟨n, e1, _, w1⟩ := DataW.trod_int Try.underlying2 f1
    simp only [List.cons.injEq, and_true] at e0 e1
    subst e0 e1
    subst hx
    simp only [List.map_cons, List.map_nil] at hk hsz
    have hn2 : W.noneFrozen y2.2 := fun b off hp => hnf b off (by simp [hp])
    have hw : ∀ k ∈ DataW.weights Try.prog 43 y2.1, k ≤ reachBytes := fun k hk => hsz k (by
      simp only [DataW.weights, Try.underlying45]
      exact DataW.weights_mem_each (j := 2) (t := 43) rfl rfl k hk)
    have hk2 : SizeOf.sizeOf y2.1 < k := by
      simp only [DataW.agg.sizeOf_spec, List.cons.sizeOf_spec, List.nil.sizeOf_spec] at hk
      omega
    obtain ⟨b1, b2⟩ := wf_i64 w0
    obtain ⟨b3, b4⟩ := wf_i64 w1
    rcases open_slice Try.underlying43 f2 with ⟨hc, _⟩ | ⟨a, len, cap, mm, nn, D, Pl, hc, hb, hle, hm, hmm, hy2, hxx⟩
    · simp only [List.cons.injEq, and_true] at hc
      subst hc
      exact ⟨⟨op, n, none, 0, []⟩, rfl, In.mk ⟨b1, b2, b3, b4, by simp, by simp, fun i x hx => by simp at hx⟩ (fun x hx => by simp at hx), Thaw.mk (fun i z b o hz => by simp at hz) (fun x hx => by simp at hx)⟩
    · simp only [List.cons.injEq, and_true] at hc
      subst hc
      simp only [if_true] at hmm
      have hd : y2.1 = .slice ((List.range len).map D) ((List.range (mm - len)).map fun j => D (len + j)) := by rw [hy2]
      rw [hd] at hw hk2
      rw [hy2] at hn2
      have each : ∀ i, i < len → ∃ x : Ex, (∀ (j : Nat) (u : Value), x.cells[j]? = some u → W.cell? (a.add (i * 3 + j)) = some u) ∧ In W x ∧ Thaw W x := by
        intro i hi
        obtain ⟨cx, h1, h2⟩ := hxx i (by omega)
        rw [Try.cells45] at h1
        obtain ⟨_, hlen, hcell⟩ := World.cells?_some h1
        have hmem : D i ∈ (List.range len).map D := List.mem_map.2 ⟨i, List.mem_range.2 hi, rfl⟩
        obtain ⟨x, rfl, hy⟩ := ih (y := (D i, Pl i)) (by
            have h3 := List.sizeOf_lt_of_mem hmem
            simp only [DataW.slice.sizeOf_spec] at hk2
            simp only
            omega) h2 (fun k hk => hw k (by
          simp only [DataW.weights, Try.underlying43]
          exact List.mem_cons_of_mem _ (List.mem_append_left _ (weights_all hmem k hk)))) (fun b off hp => hn2 b off (List.mem_append_right _ (List.mem_flatMap.2 ⟨i, List.mem_range.2 (by omega), hp⟩)))
        refine ⟨x, fun j u hu => ?_, hy⟩
        have hj : j < 3 := by
          have := (List.getElem?_eq_some_iff.1 hu).1
          simpa [Ex.cells] using this
        have := hcell j hj
        rw [add_add] at this
        rw [this, hu]
      have _i : Inhabited Ex := ⟨⟨0, 0, none, 0, []⟩⟩
      obtain ⟨Y, hY⟩ := choose_lt each
      have hmem := hw _ (by simp only [DataW.weights, Try.underlying43]; exact List.mem_cons_self ..)
      simp only [List.length_map, List.length_range, reachBytes, Try.bytes45] at hmem
      refine ⟨⟨op, n, some a, cap, (List.range len).map Y⟩, by simp [Ex.cells], In.mk ⟨b1, b2, b3, b4, by simp; omega, by simpa using hle, fun i x hx => ?_⟩ (fun x hx => ?_), Thaw.mk (fun i z b o hz hab => ?_) (fun x hx => ?_)⟩
      · have hil : i < len := by
          have := (List.getElem?_eq_some_iff.1 hx).1
          simpa using this
        have hyi : x = Y i := by
          simp only at hx
          rw [List.getElem?_map, List.getElem?_range hil] at hx
          simpa using hx.symm
        subst hyi
        obtain ⟨b, off, spot⟩ := a
        have q0 := (hY i hil).1 0 _ rfl
        have q1 := (hY i hil).1 1 _ rfl
        have q2 := (hY i hil).1 2 _ rfl
        have hspot : spot = none := by
          have g0 := (hY 0 (by omega)).1 0 _ rfl
          simpa [Addr.add] using World.cell?_spot g0
        subst hspot
        rw [add_plain] at q0 q1 q2
        exact ⟨b, off, rfl, q0, q1, q2⟩
      · obtain ⟨i, hi, rfl⟩ := List.mem_map.1 hx
        exact (hY i (by simpa using hi)).2.1
      · have hil : i < len := by
          have := (List.getElem?_eq_some_iff.1 hz).1
          simpa using this
        simp only [Option.some.injEq] at hab
        subst hab
        refine hn2 b (o + i * 3) (List.mem_append_left _ ?_)
        rw [Try.cells45]
        exact List.mem_map.2 ⟨i * 3, List.mem_range.2 (by omega), rfl⟩
      · obtain ⟨i, hi, rfl⟩ := List.mem_map.1 hx
        exact (hY i (by simpa using hi)).2.2
set_option maxRecDepth 100000 in
theorem one_nodeT {m : Nat} {ce : List Value} {y : DataW H × List MemPlace} (h : DataW.trod enc Try.prog W base (fun _ => true) held m 49 ce = some y) (hsz : ∀ n ∈ DataW.weights Try.prog 49 y.1, n ≤ reachBytes) (hnf : W.noneFrozen y.2) : ∃ n : Nd, ce = n.cs ∧ NdOk W n ∧ Thaw W n.e := by
  obtain ⟨xs, k, rfl, hx, hl, hxl, hf⟩ := DataW.trod_struct Try.underlying49 h
  rw [Try.cells49] at hl
  obtain ⟨c0, c1, c2, c3, c4, c5, c6, c7, c8, c9, rfl⟩ := list10 ce hl
  have f0 : DataW.trod enc Try.prog W base (fun _ => true) held k 3 (List.take (Try.prog.cellsOf 3) (List.drop 0 [c0, c1, c2, c3, c4, c5, c6, c7, c8, c9])) = xs[(0 : Nat)]? := hf 0 _ rfl
  have f1 : DataW.trod enc Try.prog W base (fun _ => true) held k 31 (List.take (Try.prog.cellsOf 31) (List.drop 1 [c0, c1, c2, c3, c4, c5, c6, c7, c8, c9])) = xs[(1 : Nat)]? := hf 1 _ rfl
  have f2 : DataW.trod enc Try.prog W base (fun _ => true) held k 3 (List.take (Try.prog.cellsOf 3) (List.drop 2 [c0, c1, c2, c3, c4, c5, c6, c7, c8, c9])) = xs[(2 : Nat)]? := hf 2 _ rfl
  have f3 : DataW.trod enc Try.prog W base (fun _ => true) held k 45 (List.take (Try.prog.cellsOf 45) (List.drop 3 [c0, c1, c2, c3, c4, c5, c6, c7, c8, c9])) = xs[(3 : Nat)]? := hf 3 _ rfl
  have f4 : DataW.trod enc Try.prog W base (fun _ => true) held k 3 (List.take (Try.prog.cellsOf 3) (List.drop 6 [c0, c1, c2, c3, c4, c5, c6, c7, c8, c9])) = xs[(4 : Nat)]? := hf 4 _ rfl
  have f5 : DataW.trod enc Try.prog W base (fun _ => true) held k 47 (List.take (Try.prog.cellsOf 47) (List.drop 7 [c0, c1, c2, c3, c4, c5, c6, c7, c8, c9])) = xs[(5 : Nat)]? := hf 5 _ rfl
  have hxl : xs.length = 6 := hxl
  obtain ⟨y0, y1, y2, y3, y4, y5, rfl⟩ := list6 xs hxl
  simp only [Try.cells3, Try.cells31, Try.cells45, Try.cells47, List.drop_zero, List.drop_succ_cons, List.take_succ_cons, List.take_zero, List.getElem?_cons_zero, List.getElem?_cons_succ] at f0 f1 f2 f3 f4 f5
  obtain ⟨kd, e0, _, _⟩ := DataW.trod_int Try.underlying3 f0
  obtain ⟨pa, e2, _, _⟩ := DataW.trod_int Try.underlying3 f2
  obtain ⟨ag, e4, _, _⟩ := DataW.trod_int Try.underlying3 f4
  simp only [List.cons.injEq, and_true] at e0 e2 e4
  subst e0 e2 e4
  subst hx
  simp only [List.map_cons, List.map_nil] at hsz
  have hn3 : W.noneFrozen y3.2 := fun b off hp => hnf b off (by simp [hp])
  have hw1 : ∀ k ∈ DataW.weights Try.prog 31 y1.1, k ≤ reachBytes := fun k hk => hsz k (by
    simp only [DataW.weights, Try.underlying49]
    exact DataW.weights_mem_each (j := 1) (t := 31) rfl rfl k hk)
  have hw3 : ∀ k ∈ DataW.weights Try.prog 45 y3.1, k ≤ reachBytes := fun k hk => hsz k (by
    simp only [DataW.weights, Try.underlying49]
    exact DataW.weights_mem_each (j := 3) (t := 45) rfl rfl k hk)
  obtain ⟨ao, cap, is, ei, hi, _, _, _, _⟩ := open_lseg (0 : Int) (cs := ic) (ok := fun _ => True) Try.underlying31 Try.cells3 (by decide) (by rw [Try.bytes3]; decide) (fun _ _ _ h _ => one_int h) f1 hw1
  simp only [List.cons.injEq, and_true] at ei
  subst ei
  obtain ⟨ex, ee, hex, hth⟩ := one_exprT (SizeOf.sizeOf y3.1 + 1) (Nat.lt_succ_self _) f3 hw3 hn3
  obtain ⟨zs, k', _, _, _, hzl, hg⟩ := DataW.trod_struct Try.underlying47 f5
  have g0 : DataW.trod enc Try.prog W base (fun _ => true) held k' 3 (List.take (Try.prog.cellsOf 3) (List.drop 0 [c7, c8, c9])) = zs[(0 : Nat)]? := hg 0 _ rfl
  have g1 : DataW.trod enc Try.prog W base (fun _ => true) held k' 2 (List.take (Try.prog.cellsOf 2) (List.drop 1 [c7, c8, c9])) = zs[(1 : Nat)]? := hg 1 _ rfl
  have g2 : DataW.trod enc Try.prog W base (fun _ => true) held k' 2 (List.take (Try.prog.cellsOf 2) (List.drop 2 [c7, c8, c9])) = zs[(2 : Nat)]? := hg 2 _ rfl
  have hzl : zs.length = 3 := hzl
  obtain ⟨z0, z1, z2, rfl⟩ := list3 zs hzl
  simp only [Try.cells3, Try.cells2, List.drop_zero, List.drop_succ_cons, List.take_succ_cons, List.take_zero, List.getElem?_cons_zero, List.getElem?_cons_succ] at g0 g1 g2
  obtain ⟨wk, e7, _, _⟩ := DataW.trod_int Try.underlying3 g0
  obtain ⟨ws, e8, _, _⟩ := DataW.trod_int Try.underlying2 g1
  obtain ⟨wl, e9, _, _⟩ := DataW.trod_int Try.underlying2 g2
  simp only [List.cons.injEq, and_true] at e7 e8 e9
  subst e7 e8 e9
  unfold Ex.cells at ee
  simp only [List.cons.injEq, and_true] at ee
  obtain ⟨rfl, rfl, rfl⟩ := ee
  exact ⟨⟨kd, ao, cap, is, pa, ex, ag, wk, ws, wl⟩, rfl, ⟨hex, hi⟩, hth⟩
set_option maxRecDepth 100000 in
theorem open_jobT {v : Value} {d : DataW H} {p : List MemPlace} (hv : Value.okWide Try.prog W .any b0 24 v) (h : DataW.Trod enc Try.prog W base (fun _ => true) held 24 v d p)
    (hsz : ∀ n ∈ d.weights Try.prog 24, n ≤ reachBytes) (hnf : W.noneFrozen p) : ∃ (u : Value) (ns : List Nd), v = .agg #[u] ∧ JobIn W.heap.size W u ns ∧ ExIn W ns ∧ ∀ n ∈ ns, Thaw W n.e := by
  obtain ⟨cs, rfl, hcsz⟩ := okWide_struct Try.underlying24 hv
  obtain ⟨fuel, hf⟩ := h
  have hf : DataW.trod enc Try.prog W base (fun _ => true) held fuel 24 cs.toList = some (d, p) := by simpa [Value.cells] using hf
  obtain ⟨xs, m, rfl, hx, hl, hxl, hf⟩ := DataW.trod_struct Try.underlying24 hf
  rw [Try.cells24] at hl
  obtain ⟨c0, hcs⟩ : ∃ c, cs.toList = [c] := List.length_eq_one_iff.1 hl
  rw [hcs] at hf
  have f0 : DataW.trod enc Try.prog W base (fun _ => true) held m 22 (List.take (Try.prog.cellsOf 22) (List.drop 0 [c0])) = xs[(0 : Nat)]? := hf 0 _ rfl
  have hxl : xs.length = 1 := hxl
  obtain ⟨y0, rfl⟩ := List.length_eq_one_iff.1 hxl
  simp only [Try.cells22, List.drop_zero, List.take_succ_cons, List.take_zero, List.getElem?_cons_zero] at f0
  simp only [List.map_cons, List.map_nil, Prod.mk.injEq] at hx
  have hw0 : ∀ k ∈ DataW.weights Try.prog 22 y0.1, k ≤ reachBytes := fun k hk => hsz k (by
    rw [hx.1]
    simp only [DataW.weights, Try.underlying24]
    exact DataW.weights_mem_each (j := 0) (t := 22) rfl rfl k hk)
  have hn0 : W.noneFrozen y0.2 := fun b off hp => hnf b off (by rw [hx.2]; simp [hp])
  obtain ⟨ao, cap, ns, ei, hi, hok, _, _, _⟩ := open_lsegT (⟨0, none, 0, [], 0, ⟨0, 0, none, 0, []⟩, 0, 0, 0, 0⟩ : Nd) (cs := Nd.cs) (ok := fun n => NdOk W n ∧ Thaw W n.e) Try.underlying22 Try.cells49 (by decide) (by rw [Try.bytes49]; decide) (fun _ _ _ h hw hf => one_nodeT h hw hf) f0 hw0 hn0
  simp only [List.cons.injEq, and_true] at ei
  subst ei
  obtain ⟨l⟩ := cs
  simp only at hcs
  subst hcs
  exact ⟨_, ns, rfl, ⟨hi, fun n hn => (hok n hn).1.2⟩, fun n hn => (hok n hn).1.1, fun n hn => (hok n hn).2⟩
end
end Go.Proofs.Ytecaghjddoajmaa
