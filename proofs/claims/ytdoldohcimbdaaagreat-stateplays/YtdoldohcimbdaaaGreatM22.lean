/-
  Texts in build order: SAdd.
-/
import Derived.Test.YtdoldohcimbdaaaGreatM21
/-
  add: one more span of a key, walked.
-/
namespace Go.Proofs.YtdoldohcimbdaaaGreat
open Go.RowKit

/-- What add has under way. -/
structure AI (w wr : World) (o : Nat) (fq : Nat → Prop) (R : List SRow) (v : Value) (f t : Int) : Prop where
  bel : Below w.heap.size w wr
  bf : BoxT 68 wr w.heap.size #[.int .i64 f, .int .i64 t]
  br : BoxT 68 wr (w.heap.size + 1) #[.int .i64 0, .int .i64 0]
  bl : BoxT 79 wr (w.heap.size + 1 + 1) #[v]
  om : OM wr o fq R
theorem AI.below {w wr w' : World} {o : Nat} {fq : Nat → Prop} {R : List SRow} {v : Value} {f t : Int} (h : AI w wr o fq R v f t) (hb : Below wr.heap.size wr w') : AI w w' o fq R v f t :=
  ⟨h.bel.trans (hb.mono h.bel.size), BoxT.below (t := 68) h.bf hb, BoxT.below (t := 68) h.br hb, BoxT.below (t := 79) h.bl hb, h.om.below hb⟩
theorem AI.grown {w wr w' : World} {o : Nat} {fq : Nat → Prop} {R : List SRow} {v : Value} {f t : Int} {K : Nat} (h : AI w wr o fq R v f t) (hg : wr.grownBy w' (some K)) (hK : w.heap.size + 1 + 1 < K) (hlt : ∀ i, fq i → i < w.heap.size) : AI w w' o fq R v f t := by
  refine ⟨h.bel.grown hg h.bel.size (fun k e => by cases e; omega), h.bf.grown hg (by omega), h.br.grown hg (by omega), h.bl.grown hg (by omega), h.om.back (fun i hi => hg.block i (h.om.flt i hi) (fun e => by cases e; have := hlt _ hi; omega)) hg.size⟩
theorem lsegNil {B : Nat} {w : World} {ao : Option Addr} {n c : Nat} (hn : n = 0) : LSeg 2 Sp.cs B w (.slice ao n c) ([] : List Sp) := by subst hn; exact ⟨ao, c, rfl, by simp, .inl rfl⟩
theorem seg_mid {w : World} {base g cap : Nat} {l : List Sp} (h : OwnL 68 2 Sp.cs base w (.slice (some ⟨g, 0, none⟩) l.length cap) l) {a b : Nat} (hab : a ≤ b) (hbl : b ≤ l.length) (hn : l.length ≤ 100000) (c : Nat) : LSeg 2 Sp.cs w.heap.size w (.slice (some ⟨g, a * 2, none⟩) (b - a) c) ((l.take b).drop a) := by
  obtain ⟨cur, _, _, hb, _, _, _, hc⟩ := own_cells h
  have hl : ((l.take b).drop a).length = b - a := by rw [List.length_drop, List.length_take]; omega
  refine ⟨some ⟨g, a * 2, none⟩, c, by rw [hl], by rw [hl]; omega, .inr ⟨g, a * 2, rfl, hb.lt, fun i x hx j u hu => ?_⟩⟩
  rw [List.getElem?_drop, List.getElem?_take] at hx
  split at hx
  · have := hc (a + i) x hx j u hu
    rw [hb.cellAt, show a * 2 + i * 2 + j = (a + i) * 2 + j by omega]; exact this
  · cases hx
/-- What stands behind Replace and the store. -/
theorem add_fin {w wr w5 w6 w7 : World} {o : Nat} {fq : Nat → Prop} {R R0 : List SRow} {V : Value} {l L : List Sp} {k f t : Int} {KW : Nat} {wf wt : Int} (HH : OM w o fq R) (hr : RowOf R R0 k V l) (A5 : AI w w5 o fq R V f t) (hKW : w.heap.size + 1 + 1 < KW) (W5 : BoxT 68 w5 KW #[.int .i64 wf, .int .i64 wt]) {u v5 : Value} {ys : List Sp} (o5 : OwnL 68 2 Sp.cs w.heap.size w5 v5 ys) (hs5 : w.heap.size + 1 + 1 < wr.heap.size) (k5 : v5.ownBlock = none ∨ v5.ownBlock = some wr.heap.size)
    (h3 : (w5.alloc (.cells #[.int .i64 wf, .int .i64 wt] 68)).grownBy w6 V.ownBlock) (h4 : ∀ g, u.ownBlock = some g → V.ownBlock = some g ∨ (w5.alloc (.cells #[.int .i64 wf, .int .i64 wt] 68)).heap.size ≤ g)
    (om7 : OM w7 o (fun i => fq i ∨ u.ownBlock = some i) (⟨k, u, L⟩ :: R0)) (mt7 : MTurn w6 w7 o) :
    BoxT 68 w7 KW #[.int .i64 wf, .int .i64 wt] ∧ (∀ j, w7.frozen? ⟨w.heap.size + 1, j, none⟩ = false) ∧ w7.cell? ⟨w.heap.size + 1, 0, none⟩ = some (.int .i64 0) ∧ w7.cell? ⟨w.heap.size + 1, 1, none⟩ = some (.int .i64 0) ∧
    ∀ x y, BoxT 68 ((w7.setCell ⟨w.heap.size + 1, 0, none⟩ x).setCell ⟨w.heap.size + 1, 1, none⟩ y) (w.heap.size + 1) #[x, y] ∧ OwnL 68 2 Sp.cs w.heap.size ((w7.setCell ⟨w.heap.size + 1, 0, none⟩ x).setCell ⟨w.heap.size + 1, 1, none⟩ y) v5 ys ∧
      OM ((w7.setCell ⟨w.heap.size + 1, 0, none⟩ x).setCell ⟨w.heap.size + 1, 1, none⟩ y) o (fun i => fq i ∨ u.ownBlock = some i) (⟨k, u, L⟩ :: R0) ∧ FT fq (fun i => fq i ∨ u.ownBlock = some i) w ((w7.setCell ⟨w.heap.size + 1, 0, none⟩ x).setCell ⟨w.heap.size + 1, 1, none⟩ y) := by
  have hV : ∀ g, V.ownBlock = some g → g < w.heap.size := fun g e => HH.flt g (HH.rowIn hr g e)
  have ho : o < w.heap.size := HH.flt o HH.fo
  have hsz5 := A5.bel.size
  have hW5s : (w5.alloc (.cells #[.int .i64 wf, .int .i64 wt] 68)).heap.size = w5.heap.size + 1 := by simp
  have stay : ∀ i, w.heap.size ≤ i → i < w5.heap.size → w7.heap[i]? = w5.heap[i]? := fun i h1 h2' => by
    rw [mt7.other (by omega), h3.block i (by omega) (fun e => by have := hV i e.symm; omega)]
    exact Below.heap_alloc w5 _ i h2'
  have hbr : BoxT 68 w7 (w.heap.size + 1) #[.int .i64 0, .int .i64 0] := by have := A5.br; unfold BoxT at *; rw [stay _ (by omega) A5.br.lt]; exact this
  obtain ⟨c0, c1⟩ := hbr.cells2
  have hltW := W5.lt
  have hbl5 := A5.bl.lt
  refine ⟨by have h := W5; unfold BoxT at h ⊢; rw [stay _ (by omega) hltW]; exact h, fun j => hbr.free j, c0, c1, fun x y => ?_⟩
  have g8 : w7.grownBy ((w7.setCell ⟨w.heap.size + 1, 0, none⟩ x).setCell ⟨w.heap.size + 1, 1, none⟩ y) (some (w.heap.size + 1)) := grownBy_trans (grownBy_set _ _ _ _) (grownBy_set _ _ _ _)
  have s7 : w7.heap.size = w6.heap.size := mt7.size
  have s6 := h3.size
  refine ⟨?_, ?_, ?_, ?_⟩
  · have := (hbr.set 0 x).set 1 y
    simpa using this
  · refine o5.back (fun g e => ?_)
    have e1 : g = wr.heap.size := by
      rcases k5 with e2 | e2
      · rw [e2] at e; cases e
      · rw [e2] at e; exact (Option.some.inj e).symm
    have e2 := o5.lt g e
    rw [g8.block g (by omega) (fun e => by cases e; omega), stay g (by omega) e2]
  · refine om7.back (fun i hi => g8.block i (om7.flt i hi) (fun e => ?_)) g8.size
    cases e
    rcases hi with hi | hi
    · have := HH.flt _ hi; omega
    · rcases h4 _ hi with e | e
      · have := hV _ e; omega
      · omega
  · refine ⟨g8.os.trans (mt7.grown.os.trans (h3.os.trans A5.bel.os)), g8.tape.trans (mt7.grown.tape.trans (h3.tape.trans A5.bel.tape)), g8.output.trans (mt7.grown.output.trans (h3.output.trans A5.bel.output)), by have := g8.size; omega, fun i hi hn => ?_, fun i hi => ?_⟩
    · rw [g8.block i (by omega) (fun e => by cases e; omega), mt7.other (fun e => hn (by rw [e]; exact HH.fo)), h3.block i (by omega) (fun e => hn (HH.rowIn hr i e.symm)), Below.heap_alloc w5 _ i (by omega)]
      exact A5.bel.block i hi
    · rcases hi with hi | hi
      · exact .inl hi
      · rcases h4 i hi with e | e
        · exact .inl (HH.rowIn hr i e)
        · exact .inr (by omega)
set_option maxHeartbeats 8000000 in
set_option maxRecDepth 100000 in
theorem oadd_any {w : World} {o : Nat} {fq : Nat → Prop} {R R0 : List SRow} {v : Value} {l : List Sp} {k f t : Int} (h : OM w o fq R) (hk : In64 k) (hr : RowOf R R0 k v l) (hf : f < t) (hrise : l.Pairwise fun a b => a.t ≤ b.f) (hfull : ∀ s ∈ l, s.f < s.t) (hn : l.length ≤ 100000) :
    Calls Tryz.prog 73 #[.map (some o), .int .i64 k, .agg #[.int .i64 f, .int .i64 t]] w fun e w' => ∃ a b gv v', AddR l f t a b ∧ e = .returned (.tuple #[(whl ⟨f, t⟩ l a b).val, gv]) ∧ OwnL 68 2 Sp.cs w.heap.size w' gv ((l.take b).drop a) ∧
      OM w' o (fun i => fq i ∨ v'.ownBlock = some i) (⟨k, v', l.take a ++ whl ⟨f, t⟩ l a b :: l.drop b⟩ :: R0) ∧ FT fq (fun i => fq i ∨ v'.ownBlock = some i) w w' := by
  obtain ⟨ao, cap, rfl⟩ := (h.row hr).shape
  have HR := hide hr
  have HRI := hide hrise
  have HFU := hide hfull
  have hb3 : Below w.heap.size w (((w.alloc (.cells #[.int .i64 f, .int .i64 t] 68)).alloc (.cells #[.int .i64 0, .int .i64 0] 68)).alloc (.cells #[.slice ao l.length cap] 79)) := (below_box2 w _ _).alloc (by simp; omega) _
  have hb2 := below_box2 w (.cells #[.int .i64 f, .int .i64 t] 68) (.cells #[.int .i64 0, .int .i64 0] 68)
  have HLK := hide ((h.below hb2).look hk hr)
  have HA : Hid (AI w (((w.alloc (.cells #[.int .i64 f, .int .i64 t] 68)).alloc (.cells #[.int .i64 0, .int .i64 0] 68)).alloc (.cells #[.slice ao l.length cap] 79)) o fq R (.slice ao l.length cap) f t) :=
    ⟨hb3, BoxT.alloc (t := 68) (BoxT.alloc (t := 68) (BoxT.new _ _ _) _) _, BoxT.alloc (t := 68) (BoxT.new_at (t := 68) (by simp)) _, BoxT.new_at (t := 79) (by simp), h.below hb3⟩
  obtain ⟨W0, hW0⟩ : ∃ W0, W0 = ((w.alloc (.cells #[.int .i64 f, .int .i64 t] 68)).alloc (.cells #[.int .i64 0, .int .i64 0] 68)).alloc (.cells #[.slice ao l.length cap] 79) := ⟨_, rfl⟩
  rw [← hW0] at HA
  have HSE := hide (Search_any (w := W0) (n := l.length) (by omega) 81 #[.pointer (some ⟨w.heap.size + 1 + 1, 0, none⟩), .pointer (some ⟨w.heap.size, 0, none⟩)] (fun i => match l[i]? with | some x => decide (x.t > f) | none => false)
    (fun a b hab hbn hq => by
      obtain ⟨y, hy⟩ := get_of_lt hbn
      obtain ⟨x, hx⟩ := get_of_lt (Nat.lt_of_le_of_lt hab hbn)
      simp only [hx, hy, decide_eq_true_eq] at hq ⊢
      rcases Nat.eq_or_lt_of_le hab with e | e
      · subst e; rw [hx] at hy; cases hy; exact hq
      · have h1 := rise_get hrise e hx hy
        have h2 := hfull y (List.mem_of_getElem? hy)
        omega) (fun args W => by kernel_rfl) (fun w1 hb i hi => by
      obtain ⟨x, hx⟩ := get_of_lt hi
      have hA := HA.out.below hb
      have := addC_any (w := w1) hA.bl hA.bf ((hA.om.row hr).seg Sp.cs_len (by omega)) hx
      simpa [hx] using this))
  have hmf : ∀ (fn : Fn) (first cap : Array Value) (w : World), (Instr.makeFunc fn first cap).run Tryz.prog w = .ok (.func fn first cap) w := fun _ _ _ _ => rfl
  have d1 : ¬ t ≤ f := by omega
  have HF := hide hf
  have HH := hide h
  clear h hr hrise hfull hb2 hb3 hf
  go_enter Tryz.func73, Tryz.ntmps73
  go_wp2_with (first | (at_lookup; refine wp_lookM rfl _ _ 74 false rfl _ _ rfl rfl HLK.out ?_) | (go_at_call 80; rw [← hW0]; refine HSE.out.mono ?_; rintro e w1 ⟨⟨a, rfl, hal, hlo, hhi⟩, b1⟩; have A1 := hide (HA.out.below b1); have HLO := hide hlo; have HHI := hide hhi; clear hlo hhi b1; obtain ⟨y0, y1⟩ := A1.out.bf.cells2) | fail)
  have HW : Hid (BoxT 68 (w1.alloc (.cells #[.int .i64 f, .int .i64 t] 68)) w1.heap.size #[.int .i64 (whl ⟨f, t⟩ l a a).f, .int .i64 (whl ⟨f, t⟩ l a a).t]) := (show BoxT _ _ _ _ by rw [whl_self]; exact BoxT.new _ _ _)
  have HA2 := hide (A1.out.below (below_box w1 (.cells #[.int .i64 f, .int .i64 t] 68)))
  have HSZ := hide A1.out.bel.size
  have HS3 : Hid (w.heap.size + 1 + 1 < w1.heap.size) := A1.out.bl.lt
  clear y0 y1 HSE HLK hW0 HA A1
  go_loopg [11] (l.length + 1) (fun gh ev wr => ∃ b : Nat, ev = .int .i64 (b : Int) ∧ a ≤ b ∧ b ≤ l.length ∧ l.length + 1 ≤ gh + b ∧ Hid (∀ i x, a ≤ i → i < b → l[i]? = some x → x.f < t) ∧ Hid (AI w wr o fq R (.slice ao l.length cap) f t) ∧ Hid (BoxT 68 wr w1.heap.size #[.int .i64 (whl ⟨f, t⟩ l a b).f, .int .i64 (whl ⟨f, t⟩ l a b).t]))
  case atStart => exact ⟨a, rfl, Nat.le_refl _, hal, by omega, (show ∀ i x, _ from fun i x h1 h2 => by omega), HA2, HW⟩
  case round =>
    clear HA2 HW
    obtain ⟨b, rfl, hab, hbl, hg, HM, GA, GW⟩ := hrel
    obtain ⟨go, rfl⟩ : ∃ go, gk = go + 1 := ⟨gk - 1, by omega⟩
    have q0 : wr.cell? ⟨w.heap.size + 1 + 1, 0, none⟩ = some (.slice ao l.length cap) := by have := GA.out.bl.cellAt 0; simpa using this
    obtain ⟨q1, q2⟩ := GA.out.bf.cells2
    have HDONE : Hid (∀ bb : Bool, bb = false → (b = l.length ∨ ∃ x, l[b]? = some x ∧ ¬ x.f < t) → AddR l f t a b) := fun _ _ hend => by
      refine ⟨hab, hbl, fun i x hi hx => ?_, fun i x h1 h2 hx => ⟨?_, HM.out i x h1 h2 hx⟩, fun i x hi hx => ?_⟩
      · have := HLO.out i hi; simp only [hx, decide_eq_false_iff_not] at this; omega
      · have := HHI.out i h1 (lt_of_get hx); simp only [hx, decide_eq_true_eq] at this; omega
      · rcases hend with e | ⟨y, hy, hyt⟩
        · have := lt_of_get hx; omega
        · rcases Nat.eq_or_lt_of_le hi with e | e
          · subst e; rw [hx] at hy; cases hy; omega
          · have h1 := rise_get HRI.out e hy hx
            have h2 := HFU.out y (List.mem_of_getElem? hy)
            omega
    by_cases hlt : b < l.length
    · obtain ⟨x, hx⟩ := get_of_lt hlt
      have bt : (b : Int) < (l.length : Int) := by omega
      obtain ⟨nb, no, rfl, nlt, e0, e1⟩ := ((GA.out.om.row HR.out).seg Sp.cs_len (by omega)).span hx
      have hz : decide ((b : Int) < (l.length : Int)) = true := decide_eq_true bt
      by_cases hxt : x.f < t
      · have HX := hide hx
        clear hx
        obtain ⟨xf, xt⟩ := x
        simp only at e0 e1 hxt
        have hzt : decide (xf < t) = true := decide_eq_true hxt
        obtain ⟨g0, g1⟩ := GW.out.cells2
        have HWS := hide (whl_step (s := ⟨f, t⟩) hab HX.out)
        generalize whl ⟨f, t⟩ l a b = wh at *
        obtain ⟨hf, ht⟩ := wh
        simp only at g0 g1
        have gz := fun j => GW.out.free j
        have hnb : nb ≠ w1.heap.size := fun e => by
          have h1 := GA.out.om.rowIn HR.out nb rfl
          have h2 := HH.out.flt nb h1
          have := HSZ.out
          omega
        go_upto_region 6 with fail
        refine wp_region_M (S := fun w' => w'.cell? ⟨w.heap.size + 1 + 1, 0, none⟩ = some (.slice (some ⟨nb, no, none⟩) l.length cap) ∧ w'.cell? ⟨nb, no + b * 2, none⟩ = some (.int .i64 xf) ∧ w'.cell? ⟨w.heap.size, 1, none⟩ = some (.int .i64 t)) (late := []) (by kernel_rfl) (⟨q0, e0, q2⟩) (fun hHeld => ?_)
        (try simp only [List.size_toArray, List.length_cons, List.length_nil, Nat.zero_add, Nat.reduceAdd, Array.replicate, List.replicate])
        refine wpAnyM_take (i := 0) (oi := ⟨_, _, _, _, _, _⟩) (v := ?_) rfl (by kernel_rfl) (by kernel_rfl) (by kernel_rfl) (by kernel_rfl) (fun _ _ _ h => h) (Or.inl ⟨by rfl, ?_⟩) hHeld ?_
        rotate_left
        · (intro w' hSw; (try dsimp only at hSw); go_simp; try (with_reducible rfl))
        (try simp only [Act.put, List.setIfInBounds_toArray, List.set_cons_zero, List.set_cons_succ])
        refine wpAnyM_take (i := 1) (oi := ⟨_, _, _, _, _, _⟩) (v := ?_) rfl (by kernel_rfl) (by kernel_rfl) (by kernel_rfl) (by kernel_rfl) (fun _ _ _ h => h) (Or.inl ⟨by rfl, ?_⟩) hHeld ?_
        rotate_left
        · (intro w' hSw; (try dsimp only at hSw); go_simp; try (with_reducible rfl))
        (try simp only [Act.put, List.setIfInBounds_toArray, List.set_cons_zero, List.set_cons_succ])
        refine wpAnyM_take (i := 2) (oi := ⟨_, _, _, _, _, _⟩) (v := ?_) rfl (by kernel_rfl) (by kernel_rfl) (by kernel_rfl) (by kernel_rfl) (fun _ _ _ h => h) (Or.inl ⟨by rfl, ?_⟩) hHeld ?_
        rotate_left
        · (intro w' hSw; (try dsimp only at hSw); go_simp; try (with_reducible rfl))
        (try simp only [Act.put, List.setIfInBounds_toArray, List.set_cons_zero, List.set_cons_succ])
        refine wpAnyM_take (i := 3) (oi := ⟨_, _, _, _, _, _⟩) (v := ?_) rfl (by kernel_rfl) (by kernel_rfl) (by kernel_rfl) (by kernel_rfl) (fun _ _ _ h => h) (Or.inl ⟨by rfl, ?_⟩) hHeld ?_
        rotate_left
        · (intro w' hSw; (try dsimp only at hSw); go_simp; try (with_reducible rfl))
        (try simp only [Act.put, List.setIfInBounds_toArray, List.set_cons_zero, List.set_cons_succ])
        refine wpAnyM_take (i := 4) (oi := ⟨_, _, _, _, _, _⟩) (v := ?_) rfl (by kernel_rfl) (by kernel_rfl) (by kernel_rfl) (by kernel_rfl) (fun _ _ _ h => h) (Or.inl ⟨by rfl, ?_⟩) hHeld ?_
        rotate_left
        · (intro w' hSw; (try dsimp only at hSw); go_simp; try (with_reducible rfl))
        (try simp only [Act.put, List.setIfInBounds_toArray, List.set_cons_zero, List.set_cons_succ])
        refine wpAnyM_take (i := 5) (oi := ⟨_, _, _, _, _, _⟩) (v := ?_) rfl (by kernel_rfl) (by kernel_rfl) (by kernel_rfl) (by kernel_rfl) (fun _ _ _ h => h) (Or.inl ⟨by rfl, ?_⟩) hHeld ?_
        rotate_left
        · (intro w' hSw; (try dsimp only at hSw); go_simp; try (with_reducible rfl))
        (try simp only [Act.put, List.setIfInBounds_toArray, List.set_cons_zero, List.set_cons_succ])
        refine wpAnyM_take (i := 6) (oi := ⟨_, _, _, _, _, _⟩) (v := ?_) rfl (by kernel_rfl) (by kernel_rfl) (by kernel_rfl) (by kernel_rfl) (fun _ _ _ h => h) (Or.inl ⟨by rfl, ?_⟩) hHeld ?_
        rotate_left
        · (intro w' hSw; (try dsimp only at hSw); go_simp; try (with_reducible rfl))
        (try simp only [Act.put, List.setIfInBounds_toArray, List.set_cons_zero, List.set_cons_succ])
        refine wpAnyM_take (i := 7) (oi := ⟨_, _, _, _, _, _⟩) (v := ?_) rfl (by kernel_rfl) (by kernel_rfl) (by kernel_rfl) (by kernel_rfl) (fun _ _ _ h => h) (Or.inl ⟨by rfl, ?_⟩) hHeld ?_
        rotate_left
        · (intro w' hSw; (try dsimp only at hSw); go_simp; try (with_reducible rfl))
        (try simp only [Act.put, List.setIfInBounds_toArray, List.set_cons_zero, List.set_cons_succ])
        refine wpAnyM_take (i := 8) (oi := ⟨_, _, _, _, _, _⟩) (v := ?_) rfl (by kernel_rfl) (by kernel_rfl) (by kernel_rfl) (by kernel_rfl) (fun _ _ _ h => h) (Or.inl ⟨by rfl, ?_⟩) hHeld ?_
        rotate_left
        · (intro w' hSw; (try dsimp only at hSw); go_simp; try (with_reducible rfl))
        (try simp only [Act.put, List.setIfInBounds_toArray, List.set_cons_zero, List.set_cons_succ])
        refine wpAnyM_take (i := 9) (oi := ⟨_, _, _, _, _, _⟩) (v := ?_) rfl (by kernel_rfl) (by kernel_rfl) (by kernel_rfl) (by kernel_rfl) (fun _ _ _ h => h) (Or.inl ⟨by rfl, ?_⟩) hHeld ?_
        rotate_left
        · (intro w' hSw; (try dsimp only at hSw); go_simp; try (with_reducible rfl))
        (try simp only [Act.put, List.setIfInBounds_toArray, List.set_cons_zero, List.set_cons_succ])
        refine wpAnyM_take (i := 10) (oi := ⟨_, _, _, _, _, _⟩) (v := ?_) rfl (by kernel_rfl) (by kernel_rfl) (by kernel_rfl) (by kernel_rfl) (fun _ _ _ h => h) (Or.inl ⟨by rfl, ?_⟩) hHeld ?_
        rotate_left
        · (intro w' hSw; (try dsimp only at hSw); go_simp; try (with_reducible rfl))
        (try simp only [Act.put, List.setIfInBounds_toArray, List.set_cons_zero, List.set_cons_succ])
        refine wpAnyM_take (i := 11) (oi := ⟨_, _, _, _, _, _⟩) (v := ?_) rfl (by kernel_rfl) (by kernel_rfl) (by kernel_rfl) (by kernel_rfl) (fun _ _ _ h => h) (Or.inl ⟨by rfl, ?_⟩) hHeld ?_
        rotate_left
        · (intro w' hSw; (try dsimp only at hSw); go_simp; try (with_reducible rfl))
        (try simp only [Act.put, List.setIfInBounds_toArray, List.set_cons_zero, List.set_cons_succ])
        refine wpAnyM_take (i := 12) (oi := ⟨_, _, _, _, _, _⟩) (v := ?_) rfl (by kernel_rfl) (by kernel_rfl) (by kernel_rfl) (by kernel_rfl) (fun _ _ _ h => h) (Or.inl ⟨by rfl, ?_⟩) hHeld ?_
        rotate_left
        · (intro w' hSw; (try dsimp only at hSw); go_simp; try (with_reducible rfl))
        (try simp only [Act.put, List.setIfInBounds_toArray, List.set_cons_zero, List.set_cons_succ])
        refine wpAnyM_take (i := 13) (oi := ⟨_, _, _, _, _, _⟩) (v := ?_) rfl (by kernel_rfl) (by kernel_rfl) (by kernel_rfl) (by kernel_rfl) (fun _ _ _ h => h) (Or.inl ⟨by rfl, ?_⟩) hHeld ?_
        rotate_left
        · (intro w' hSw; (try dsimp only at hSw); go_simp; try (with_reducible rfl))
        (try simp only [Act.put, List.setIfInBounds_toArray, List.set_cons_zero, List.set_cons_succ])
        refine wpAnyM_done (by kernel_rfl) ?_ _
        go_wp2_with fail
        refine wp_region_M (S := fun w' => w'.cell? ⟨w.heap.size + 1 + 1, 0, none⟩ = some (.slice (some ⟨nb, no, none⟩) l.length cap) ∧ w'.cell? ⟨nb, no + b * 2, none⟩ = some (.int .i64 xf) ∧ w'.cell? ⟨nb, no + b * 2 + 1, none⟩ = some (.int .i64 xt) ∧ w'.cell? ⟨w1.heap.size, 0, none⟩ = some (.int .i64 hf) ∧ w'.cell? ⟨w1.heap.size, 1, none⟩ = some (.int .i64 ht)) (late := [17]) (by kernel_rfl) (⟨q0, e0, e1, g0, g1⟩) (fun hHeld => ?_)
        (try simp only [List.size_toArray, List.length_cons, List.length_nil, Nat.zero_add, Nat.reduceAdd, Array.replicate, List.replicate])
        refine wpAnyM_take (i := 0) (oi := ⟨_, _, _, _, _, _⟩) (v := ?_) rfl (by kernel_rfl) (by kernel_rfl) (by kernel_rfl) (by kernel_rfl) (fun _ _ _ h => h) (Or.inl ⟨by rfl, ?_⟩) hHeld ?_
        rotate_left
        · (intro w' hSw; (try dsimp only at hSw); go_simp; try (with_reducible rfl))
        (try simp only [Act.put, List.setIfInBounds_toArray, List.set_cons_zero, List.set_cons_succ])
        refine wpAnyM_take (i := 1) (oi := ⟨_, _, _, _, _, _⟩) (v := ?_) rfl (by kernel_rfl) (by kernel_rfl) (by kernel_rfl) (by kernel_rfl) (fun _ _ _ h => h) (Or.inl ⟨by rfl, ?_⟩) hHeld ?_
        rotate_left
        · (intro w' hSw; (try dsimp only at hSw); go_simp; try (with_reducible rfl))
        (try simp only [Act.put, List.setIfInBounds_toArray, List.set_cons_zero, List.set_cons_succ])
        refine wpAnyM_take (i := 2) (oi := ⟨_, _, _, _, _, _⟩) (v := ?_) rfl (by kernel_rfl) (by kernel_rfl) (by kernel_rfl) (by kernel_rfl) (fun _ _ _ h => h) (Or.inl ⟨by rfl, ?_⟩) hHeld ?_
        rotate_left
        · (intro w' hSw; (try dsimp only at hSw); go_simp; try (with_reducible rfl))
        (try simp only [Act.put, List.setIfInBounds_toArray, List.set_cons_zero, List.set_cons_succ])
        refine wpAnyM_take (i := 3) (oi := ⟨_, _, _, _, _, _⟩) (v := ?_) rfl (by kernel_rfl) (by kernel_rfl) (by kernel_rfl) (by kernel_rfl) (fun _ _ _ h => h) (Or.inl ⟨by rfl, ?_⟩) hHeld ?_
        rotate_left
        · (intro w' hSw; (try dsimp only at hSw); go_simp; try (with_reducible rfl))
        (try simp only [Act.put, List.setIfInBounds_toArray, List.set_cons_zero, List.set_cons_succ])
        refine wpAnyM_take (i := 4) (oi := ⟨_, _, _, _, _, _⟩) (v := ?_) rfl (by kernel_rfl) (by kernel_rfl) (by kernel_rfl) (by kernel_rfl) (fun _ _ _ h => h) (Or.inl ⟨by rfl, ?_⟩) hHeld ?_
        rotate_left
        · (intro w' hSw; (try dsimp only at hSw); go_simp; try (with_reducible rfl))
        (try simp only [Act.put, List.setIfInBounds_toArray, List.set_cons_zero, List.set_cons_succ])
        refine wpAnyM_take (i := 5) (oi := ⟨_, _, _, _, _, _⟩) (v := ?_) rfl (by kernel_rfl) (by kernel_rfl) (by kernel_rfl) (by kernel_rfl) (fun _ _ _ h => h) (Or.inl ⟨by rfl, ?_⟩) hHeld ?_
        rotate_left
        · (intro w' hSw; (try dsimp only at hSw); go_simp; try (with_reducible rfl))
        (try simp only [Act.put, List.setIfInBounds_toArray, List.set_cons_zero, List.set_cons_succ])
        refine wpAnyM_take (i := 6) (oi := ⟨_, _, _, _, _, _⟩) (v := ?_) rfl (by kernel_rfl) (by kernel_rfl) (by kernel_rfl) (by kernel_rfl) (fun _ _ _ h => h) (Or.inl ⟨by rfl, ?_⟩) hHeld ?_
        rotate_left
        · (intro w' hSw; (try dsimp only at hSw); go_simp; try (with_reducible rfl))
        (try simp only [Act.put, List.setIfInBounds_toArray, List.set_cons_zero, List.set_cons_succ])
        refine wpAnyM_take (i := 7) (oi := ⟨_, _, _, _, _, _⟩) (v := ?_) rfl (by kernel_rfl) (by kernel_rfl) (by kernel_rfl) (by kernel_rfl) (fun _ _ _ h => h) (Or.inl ⟨by rfl, ?_⟩) hHeld ?_
        rotate_left
        · (intro w' hSw; (try dsimp only at hSw); go_simp; try (with_reducible rfl))
        (try simp only [Act.put, List.setIfInBounds_toArray, List.set_cons_zero, List.set_cons_succ])
        refine wpAnyM_take (i := 8) (oi := ⟨_, _, _, _, _, _⟩) (v := ?_) rfl (by kernel_rfl) (by kernel_rfl) (by kernel_rfl) (by kernel_rfl) (fun _ _ _ h => h) (Or.inl ⟨by rfl, ?_⟩) hHeld ?_
        rotate_left
        · (intro w' hSw; (try dsimp only at hSw); go_simp; try (with_reducible rfl))
        (try simp only [Act.put, List.setIfInBounds_toArray, List.set_cons_zero, List.set_cons_succ])
        refine wpAnyM_take (i := 9) (oi := ⟨_, _, _, _, _, _⟩) (v := ?_) rfl (by kernel_rfl) (by kernel_rfl) (by kernel_rfl) (by kernel_rfl) (fun _ _ _ h => h) (Or.inl ⟨by rfl, ?_⟩) hHeld ?_
        rotate_left
        · (intro w' hSw; (try dsimp only at hSw); go_simp; try (with_reducible rfl))
        (try simp only [Act.put, List.setIfInBounds_toArray, List.set_cons_zero, List.set_cons_succ])
        refine wpAnyM_take (i := 10) (oi := ⟨_, _, _, _, _, _⟩) (v := ?_) rfl (by kernel_rfl) (by kernel_rfl) (by kernel_rfl) (by kernel_rfl) (fun _ _ _ h => h) (Or.inl ⟨by rfl, ?_⟩) hHeld ?_
        rotate_left
        · (intro w' hSw; (try dsimp only at hSw); go_simp; try (with_reducible rfl))
        (try simp only [Act.put, List.setIfInBounds_toArray, List.set_cons_zero, List.set_cons_succ])
        refine wpAnyM_take (i := 11) (oi := ⟨_, _, _, _, _, _⟩) (v := ?_) rfl (by kernel_rfl) (by kernel_rfl) (by kernel_rfl) (by kernel_rfl) (fun _ _ _ h => h) (Or.inl ⟨by rfl, ?_⟩) hHeld ?_
        rotate_left
        · (intro w' hSw; (try dsimp only at hSw); go_simp; try (with_reducible rfl))
        (try simp only [Act.put, List.setIfInBounds_toArray, List.set_cons_zero, List.set_cons_succ])
        refine wpAnyM_take (i := 12) (oi := ⟨_, _, _, _, _, _⟩) (v := ?_) rfl (by kernel_rfl) (by kernel_rfl) (by kernel_rfl) (by kernel_rfl) (fun _ _ _ h => h) (Or.inl ⟨by rfl, ?_⟩) hHeld ?_
        rotate_left
        · (intro w' hSw; (try dsimp only at hSw); go_simp; try (with_reducible rfl))
        (try simp only [Act.put, List.setIfInBounds_toArray, List.set_cons_zero, List.set_cons_succ])
        refine wpAnyM_take (i := 13) (oi := ⟨_, _, _, _, _, _⟩) (v := ?_) rfl (by kernel_rfl) (by kernel_rfl) (by kernel_rfl) (by kernel_rfl) (fun _ _ _ h => h) (Or.inl ⟨by rfl, ?_⟩) hHeld ?_
        rotate_left
        · (intro w' hSw; (try dsimp only at hSw); go_simp; try (with_reducible rfl))
        (try simp only [Act.put, List.setIfInBounds_toArray, List.set_cons_zero, List.set_cons_succ])
        refine wpAnyM_take (i := 14) (oi := ⟨_, _, _, _, _, _⟩) (v := ?_) rfl (by kernel_rfl) (by kernel_rfl) (by kernel_rfl) (by kernel_rfl) (fun _ _ _ h => h) (Or.inl ⟨by rfl, ?_⟩) hHeld ?_
        rotate_left
        · (intro w' hSw; (try dsimp only at hSw); go_simp; try (with_reducible rfl))
        (try simp only [Act.put, List.setIfInBounds_toArray, List.set_cons_zero, List.set_cons_succ])
        refine wpAnyM_take (i := 15) (oi := ⟨_, _, _, _, _, _⟩) (v := ?_) rfl (by kernel_rfl) (by kernel_rfl) (by kernel_rfl) (by kernel_rfl) (fun _ _ _ h => h) (Or.inl ⟨by rfl, ?_⟩) hHeld ?_
        rotate_left
        · (intro w' hSw; (try dsimp only at hSw); go_simp; try (with_reducible rfl))
        (try simp only [Act.put, List.setIfInBounds_toArray, List.set_cons_zero, List.set_cons_succ])
        refine wpAnyM_take (i := 16) (oi := ⟨_, _, _, _, _, _⟩) (v := ?_) rfl (by kernel_rfl) (by kernel_rfl) (by kernel_rfl) (by kernel_rfl) (fun _ _ _ h => h) (Or.inl ⟨by rfl, ?_⟩) hHeld ?_
        rotate_left
        · (intro w' hSw; (try dsimp only at hSw); go_simp; try (with_reducible rfl))
        (try simp only [Act.put, List.setIfInBounds_toArray, List.set_cons_zero, List.set_cons_succ])
        refine wpAnyM_last (i := 17) (o := ⟨_, _, _, _, _, _⟩) (by kernel_rfl) (by kernel_rfl) rfl (fun K hK => ?_)
        go_simp
        refine hK.out _ _ ?_
        clear hK K
        (try simp only [List.setIfInBounds_toArray, List.set_cons_zero, List.set_cons_succ])
        refine wpAnyM_done (by kernel_rfl) ?_ _
        go_wp2_with fail
        go_roundg go
        case rel =>
          have hgr := grownBy_trans (grownBy_set wr w1.heap.size 0 (.int .i64 (min hf xf))) (grownBy_set _ w1.heap.size 1 (.int .i64 (max ht xt)))
          refine ⟨b + 1, by go_num, by omega, by omega, by omega, (show ∀ i x, _ from fun i x h1 h2 hx => ?_), (GA.out.grown hgr HS3.out HH.out.flt).below ((Below.refl _ _).drew.drew), ?_⟩
          · by_cases e : i = b
            · subst e; rw [HX.out] at hx; cases hx; exact hxt
            · exact HM.out i x h1 (by omega) hx
          · show BoxT _ _ _ _
            rw [HWS.out]
            have := (GW.out.set 0 (.int .i64 (min hf xf))).set 1 (.int .i64 (max ht xt))
            simp at this
            exact this
        case measure => omega
      · have HADD := hide (HDONE.out false rfl (.inr ⟨x, hx, by omega⟩))
        clear hx HDONE
        obtain ⟨xf, xt⟩ := x
        simp only at e0 e1 hxt
        have hzt : decide (xf < t) = false := decide_eq_false hxt
        go_upto_region 6 with fail
        refine wp_region_M (S := fun w' => w'.cell? ⟨w.heap.size + 1 + 1, 0, none⟩ = some (.slice (some ⟨nb, no, none⟩) l.length cap) ∧ w'.cell? ⟨nb, no + b * 2, none⟩ = some (.int .i64 xf) ∧ w'.cell? ⟨w.heap.size, 1, none⟩ = some (.int .i64 t)) (late := []) (by kernel_rfl) (⟨q0, e0, q2⟩) (fun hHeld => ?_)
        (try simp only [List.size_toArray, List.length_cons, List.length_nil, Nat.zero_add, Nat.reduceAdd, Array.replicate, List.replicate])
        refine wpAnyM_take (i := 0) (oi := ⟨_, _, _, _, _, _⟩) (v := ?_) rfl (by kernel_rfl) (by kernel_rfl) (by kernel_rfl) (by kernel_rfl) (fun _ _ _ h => h) (Or.inl ⟨by rfl, ?_⟩) hHeld ?_
        rotate_left
        · (intro w' hSw; (try dsimp only at hSw); go_simp; try (with_reducible rfl))
        (try simp only [Act.put, List.setIfInBounds_toArray, List.set_cons_zero, List.set_cons_succ])
        refine wpAnyM_take (i := 1) (oi := ⟨_, _, _, _, _, _⟩) (v := ?_) rfl (by kernel_rfl) (by kernel_rfl) (by kernel_rfl) (by kernel_rfl) (fun _ _ _ h => h) (Or.inl ⟨by rfl, ?_⟩) hHeld ?_
        rotate_left
        · (intro w' hSw; (try dsimp only at hSw); go_simp; try (with_reducible rfl))
        (try simp only [Act.put, List.setIfInBounds_toArray, List.set_cons_zero, List.set_cons_succ])
        refine wpAnyM_take (i := 2) (oi := ⟨_, _, _, _, _, _⟩) (v := ?_) rfl (by kernel_rfl) (by kernel_rfl) (by kernel_rfl) (by kernel_rfl) (fun _ _ _ h => h) (Or.inl ⟨by rfl, ?_⟩) hHeld ?_
        rotate_left
        · (intro w' hSw; (try dsimp only at hSw); go_simp; try (with_reducible rfl))
        (try simp only [Act.put, List.setIfInBounds_toArray, List.set_cons_zero, List.set_cons_succ])
        refine wpAnyM_take (i := 3) (oi := ⟨_, _, _, _, _, _⟩) (v := ?_) rfl (by kernel_rfl) (by kernel_rfl) (by kernel_rfl) (by kernel_rfl) (fun _ _ _ h => h) (Or.inl ⟨by rfl, ?_⟩) hHeld ?_
        rotate_left
        · (intro w' hSw; (try dsimp only at hSw); go_simp; try (with_reducible rfl))
        (try simp only [Act.put, List.setIfInBounds_toArray, List.set_cons_zero, List.set_cons_succ])
        refine wpAnyM_take (i := 4) (oi := ⟨_, _, _, _, _, _⟩) (v := ?_) rfl (by kernel_rfl) (by kernel_rfl) (by kernel_rfl) (by kernel_rfl) (fun _ _ _ h => h) (Or.inl ⟨by rfl, ?_⟩) hHeld ?_
        rotate_left
        · (intro w' hSw; (try dsimp only at hSw); go_simp; try (with_reducible rfl))
        (try simp only [Act.put, List.setIfInBounds_toArray, List.set_cons_zero, List.set_cons_succ])
        refine wpAnyM_take (i := 5) (oi := ⟨_, _, _, _, _, _⟩) (v := ?_) rfl (by kernel_rfl) (by kernel_rfl) (by kernel_rfl) (by kernel_rfl) (fun _ _ _ h => h) (Or.inl ⟨by rfl, ?_⟩) hHeld ?_
        rotate_left
        · (intro w' hSw; (try dsimp only at hSw); go_simp; try (with_reducible rfl))
        (try simp only [Act.put, List.setIfInBounds_toArray, List.set_cons_zero, List.set_cons_succ])
        refine wpAnyM_take (i := 6) (oi := ⟨_, _, _, _, _, _⟩) (v := ?_) rfl (by kernel_rfl) (by kernel_rfl) (by kernel_rfl) (by kernel_rfl) (fun _ _ _ h => h) (Or.inl ⟨by rfl, ?_⟩) hHeld ?_
        rotate_left
        · (intro w' hSw; (try dsimp only at hSw); go_simp; try (with_reducible rfl))
        (try simp only [Act.put, List.setIfInBounds_toArray, List.set_cons_zero, List.set_cons_succ])
        refine wpAnyM_take (i := 7) (oi := ⟨_, _, _, _, _, _⟩) (v := ?_) rfl (by kernel_rfl) (by kernel_rfl) (by kernel_rfl) (by kernel_rfl) (fun _ _ _ h => h) (Or.inl ⟨by rfl, ?_⟩) hHeld ?_
        rotate_left
        · (intro w' hSw; (try dsimp only at hSw); go_simp; try (with_reducible rfl))
        (try simp only [Act.put, List.setIfInBounds_toArray, List.set_cons_zero, List.set_cons_succ])
        refine wpAnyM_take (i := 8) (oi := ⟨_, _, _, _, _, _⟩) (v := ?_) rfl (by kernel_rfl) (by kernel_rfl) (by kernel_rfl) (by kernel_rfl) (fun _ _ _ h => h) (Or.inl ⟨by rfl, ?_⟩) hHeld ?_
        rotate_left
        · (intro w' hSw; (try dsimp only at hSw); go_simp; try (with_reducible rfl))
        (try simp only [Act.put, List.setIfInBounds_toArray, List.set_cons_zero, List.set_cons_succ])
        refine wpAnyM_take (i := 9) (oi := ⟨_, _, _, _, _, _⟩) (v := ?_) rfl (by kernel_rfl) (by kernel_rfl) (by kernel_rfl) (by kernel_rfl) (fun _ _ _ h => h) (Or.inl ⟨by rfl, ?_⟩) hHeld ?_
        rotate_left
        · (intro w' hSw; (try dsimp only at hSw); go_simp; try (with_reducible rfl))
        (try simp only [Act.put, List.setIfInBounds_toArray, List.set_cons_zero, List.set_cons_succ])
        refine wpAnyM_take (i := 10) (oi := ⟨_, _, _, _, _, _⟩) (v := ?_) rfl (by kernel_rfl) (by kernel_rfl) (by kernel_rfl) (by kernel_rfl) (fun _ _ _ h => h) (Or.inl ⟨by rfl, ?_⟩) hHeld ?_
        rotate_left
        · (intro w' hSw; (try dsimp only at hSw); go_simp; try (with_reducible rfl))
        (try simp only [Act.put, List.setIfInBounds_toArray, List.set_cons_zero, List.set_cons_succ])
        refine wpAnyM_take (i := 11) (oi := ⟨_, _, _, _, _, _⟩) (v := ?_) rfl (by kernel_rfl) (by kernel_rfl) (by kernel_rfl) (by kernel_rfl) (fun _ _ _ h => h) (Or.inl ⟨by rfl, ?_⟩) hHeld ?_
        rotate_left
        · (intro w' hSw; (try dsimp only at hSw); go_simp; try (with_reducible rfl))
        (try simp only [Act.put, List.setIfInBounds_toArray, List.set_cons_zero, List.set_cons_succ])
        refine wpAnyM_take (i := 12) (oi := ⟨_, _, _, _, _, _⟩) (v := ?_) rfl (by kernel_rfl) (by kernel_rfl) (by kernel_rfl) (by kernel_rfl) (fun _ _ _ h => h) (Or.inl ⟨by rfl, ?_⟩) hHeld ?_
        rotate_left
        · (intro w' hSw; (try dsimp only at hSw); go_simp; try (with_reducible rfl))
        (try simp only [Act.put, List.setIfInBounds_toArray, List.set_cons_zero, List.set_cons_succ])
        refine wpAnyM_take (i := 13) (oi := ⟨_, _, _, _, _, _⟩) (v := ?_) rfl (by kernel_rfl) (by kernel_rfl) (by kernel_rfl) (by kernel_rfl) (fun _ _ _ h => h) (Or.inl ⟨by rfl, ?_⟩) hHeld ?_
        rotate_left
        · (intro w' hSw; (try dsimp only at hSw); go_simp; try (with_reducible rfl))
        (try simp only [Act.put, List.setIfInBounds_toArray, List.set_cons_zero, List.set_cons_succ])
        refine wpAnyM_done (by kernel_rfl) ?_ _
        have hno : no = 0 := by
          rcases (GA.out.om.row HR.out).2 with ⟨e, _⟩ | ⟨g, c, cur, e, _⟩ <;> simp at e
          exact e.1.2
        subst hno
        have hlc : l.length ≤ cap := by
          obtain ⟨_, _, _, _, hlc, _⟩ := own_cells (GA.out.om.row HR.out)
          exact hlc
        have hca : ¬ cap = a := fun e => by omega
        have HYS : Hid ((l.take b).drop a = [] ++ ((l.take b).drop a)) := (show _ = _ by rfl)
        have HSG := hide (seg_mid (GA.out.om.row HR.out) hab hbl hn (cap - a))
        have HSW : Hid (w.heap.size + 1 + 1 < wr.heap.size) := GA.out.bl.lt
        have HBS : Hid (w.heap.size ≤ wr.drew.heap.size) := GA.out.bel.size
        have HPU : Hid (∀ w5 : World, wr.drew.grownBy w5 none → AI w w5 o fq R (.slice (some ⟨nb, 0, none⟩) l.length cap) f t ∧ BoxT 68 w5 w1.heap.size #[.int .i64 (whl ⟨f, t⟩ l a b).f, .int .i64 (whl ⟨f, t⟩ l a b).t]) := fun w5 h2 => ⟨(GA.out.below (Below.refl _ _).drew).below ⟨h2.os, h2.tape, h2.output, h2.size, fun k hk => h2.block k hk (by simp)⟩, BoxT.below (t := 68) (w := wr.drew) GW.out ⟨h2.os, h2.tape, h2.output, h2.size, fun k hk => h2.block k hk (by simp)⟩⟩
        have bi1 : (a : Int) ≤ (b : Int) := by omega
        have bi2 : (b : Int) ≤ (cap : Int) := by omega
        have bi3 : (a : Int) ≤ (cap : Int) := by omega
        generalize hWH : whl ⟨f, t⟩ l a b = WH at *
        have HWH := hide hWH
        clear hWH
        obtain ⟨wf, wt⟩ := WH
        go_wp2_with (first | (at_builtin; refine app_segL Tryz.infoSp Tryz.underlying79 rfl (by decide) (by decide) Sp.cs_len Sp.cs_one rfl _ _ rfl w.heap.size _ [] rfl (OwnL.nil _ _ _ _ _) wr.heap.size _ ((l.take b).drop a) rfl HSG.out (by rw [List.length_nil, List.length_drop, List.length_take]; omega) HBS.out ?_; intro v5 w5 o5 g5 k5; obtain ⟨a5, u5⟩ := HPU.out w5 g5; have O5 := hide o5; have A5 := hide a5; have U5 := hide u5; have K5 := hide k5; clear o5 g5 a5 k5; obtain ⟨p0, p1⟩ := u5.cells2; clear u5; have p2 : w5.cell? ⟨w.heap.size + 1 + 1, 0, none⟩ = some (.slice (some ⟨nb, 0, none⟩) l.length cap) := (by have := A5.out.bl.cellAt 0; simpa using this); have HB5 := hide (below_box w5 (.cells #[.int .i64 wf, .int .i64 wt] 68)); have HREP := hide (replace_any (w := w5.alloc (.cells #[.int .i64 wf, .int .i64 wt] 68)) (base := 0) (x := ⟨wf, wt⟩) ((A5.out.om.row HR.out).below HB5.out) hn (Nat.zero_le _) (BoxT.new 68 w5 _) (fun e => by have := (A5.out.om.row HR.out).lt _ e; omega) hab hbl)) | (go_at_call 82; refine HREP.out.mono ?_; rintro e w6 ⟨u, rfl, h2, h3, h4⟩; obtain ⟨w7, hrun7, om7, mt7⟩ := (A5.out.om.below HB5.out).store hk HR.out h3 h2 (by simp) h4; have HFIN := hide (add_fin HH.out HR.out A5.out (Nat.lt_of_lt_of_le HS3.out (Nat.le_refl _)) U5.out O5.out HSW.out K5.out h3 h4 om7 mt7); clear om7 mt7 h2 h3 h4; obtain ⟨s0, s1⟩ := HFIN.out.1.cells2; have s2 := HFIN.out.2.1; have s3 := HFIN.out.2.2.1; have s4 := HFIN.out.2.2.2.1) | (at_mapUpdate; refine wp_putM rfl _ _ _ 74 rfl _ _ _ rfl rfl rfl hrun7 ?_) | fail)
        obtain ⟨f1, f2, f3, f4⟩ := HFIN.out.2.2.2.2 (.int .i64 wf) (.int .i64 wt)
        obtain ⟨r0, r1⟩ := f1.cells2
        exact bodyPost_ret (v := .tuple #[.agg #[.int .i64 wf, .int .i64 wt], v5]) (by simp [results, Tryz.results73, go_sem, r0, r1]) rfl ⟨a, b, v5, u, HADD.out, by rw [HWH.out]; rfl, by rw [HYS.out]; exact f2, by rw [HWH.out]; exact f3, f4⟩
    · have HADD := hide (HDONE.out false rfl (.inl (by omega)))
      clear HDONE
      have bt : ¬ (b : Int) < (l.length : Int) := by omega
      have hz : decide ((b : Int) < (l.length : Int)) = false := decide_eq_false bt
      go_upto_region 6 with fail
      refine wp_region_M (S := fun w' => w'.cell? ⟨w.heap.size + 1 + 1, 0, none⟩ = some (.slice ao l.length cap)) (late := []) (by kernel_rfl) (q0) (fun hHeld => ?_)
      (try simp only [List.size_toArray, List.length_cons, List.length_nil, Nat.zero_add, Nat.reduceAdd, Array.replicate, List.replicate])
      refine wpAnyM_take (i := 0) (oi := ⟨_, _, _, _, _, _⟩) (v := ?_) rfl (by kernel_rfl) (by kernel_rfl) (by kernel_rfl) (by kernel_rfl) (fun _ _ _ h => h) (Or.inl ⟨by rfl, ?_⟩) hHeld ?_
      rotate_left
      · (intro w' hSw; (try dsimp only at hSw); go_simp; try (with_reducible rfl))
      (try simp only [Act.put, List.setIfInBounds_toArray, List.set_cons_zero, List.set_cons_succ])
      refine wpAnyM_take (i := 1) (oi := ⟨_, _, _, _, _, _⟩) (v := ?_) rfl (by kernel_rfl) (by kernel_rfl) (by kernel_rfl) (by kernel_rfl) (fun _ _ _ h => h) (Or.inl ⟨by rfl, ?_⟩) hHeld ?_
      rotate_left
      · (intro w' hSw; (try dsimp only at hSw); go_simp; try (with_reducible rfl))
      (try simp only [Act.put, List.setIfInBounds_toArray, List.set_cons_zero, List.set_cons_succ])
      refine wpAnyM_take (i := 2) (oi := ⟨_, _, _, _, _, _⟩) (v := ?_) rfl (by kernel_rfl) (by kernel_rfl) (by kernel_rfl) (by kernel_rfl) (fun _ _ _ h => h) (Or.inl ⟨by rfl, ?_⟩) hHeld ?_
      rotate_left
      · (intro w' hSw; (try dsimp only at hSw); go_simp; try (with_reducible rfl))
      (try simp only [Act.put, List.setIfInBounds_toArray, List.set_cons_zero, List.set_cons_succ])
      refine wpAnyM_take (i := 3) (oi := ⟨_, _, _, _, _, _⟩) (v := ?_) rfl (by kernel_rfl) (by kernel_rfl) (by kernel_rfl) (by kernel_rfl) (fun _ _ _ h => h) (Or.inl ⟨by rfl, ?_⟩) hHeld ?_
      rotate_left
      · (intro w' hSw; (try dsimp only at hSw); go_simp; try (with_reducible rfl))
      (try simp only [Act.put, List.setIfInBounds_toArray, List.set_cons_zero, List.set_cons_succ])
      refine wpAnyM_take (i := 4) (oi := ⟨_, _, _, _, _, _⟩) (v := ?_) rfl (by kernel_rfl) (by kernel_rfl) (by kernel_rfl) (by kernel_rfl) (fun _ _ _ h => h) (Or.inl ⟨by rfl, ?_⟩) hHeld ?_
      rotate_left
      · (intro w' hSw; (try dsimp only at hSw); go_simp; try (with_reducible rfl))
      (try simp only [Act.put, List.setIfInBounds_toArray, List.set_cons_zero, List.set_cons_succ])
      refine wpAnyM_take (i := 5) (oi := ⟨_, _, _, _, _, _⟩) (v := undef) rfl (by kernel_rfl) (by kernel_rfl) (by kernel_rfl) (by kernel_rfl) (fun _ _ _ h => h) (Or.inr ⟨by rfl, rfl⟩) hHeld ?_
      (try simp only [Act.put, List.setIfInBounds_toArray, List.set_cons_zero, List.set_cons_succ])
      refine wpAnyM_take (i := 6) (oi := ⟨_, _, _, _, _, _⟩) (v := undef) rfl (by kernel_rfl) (by kernel_rfl) (by kernel_rfl) (by kernel_rfl) (fun _ _ _ h => h) (Or.inr ⟨by rfl, rfl⟩) hHeld ?_
      (try simp only [Act.put, List.setIfInBounds_toArray, List.set_cons_zero, List.set_cons_succ])
      refine wpAnyM_take (i := 7) (oi := ⟨_, _, _, _, _, _⟩) (v := undef) rfl (by kernel_rfl) (by kernel_rfl) (by kernel_rfl) (by kernel_rfl) (fun _ _ _ h => h) (Or.inr ⟨by rfl, rfl⟩) hHeld ?_
      (try simp only [Act.put, List.setIfInBounds_toArray, List.set_cons_zero, List.set_cons_succ])
      refine wpAnyM_take (i := 8) (oi := ⟨_, _, _, _, _, _⟩) (v := undef) rfl (by kernel_rfl) (by kernel_rfl) (by kernel_rfl) (by kernel_rfl) (fun _ _ _ h => h) (Or.inr ⟨by rfl, rfl⟩) hHeld ?_
      (try simp only [Act.put, List.setIfInBounds_toArray, List.set_cons_zero, List.set_cons_succ])
      refine wpAnyM_take (i := 9) (oi := ⟨_, _, _, _, _, _⟩) (v := undef) rfl (by kernel_rfl) (by kernel_rfl) (by kernel_rfl) (by kernel_rfl) (fun _ _ _ h => h) (Or.inr ⟨by rfl, rfl⟩) hHeld ?_
      (try simp only [Act.put, List.setIfInBounds_toArray, List.set_cons_zero, List.set_cons_succ])
      refine wpAnyM_take (i := 10) (oi := ⟨_, _, _, _, _, _⟩) (v := undef) rfl (by kernel_rfl) (by kernel_rfl) (by kernel_rfl) (by kernel_rfl) (fun _ _ _ h => h) (Or.inr ⟨by rfl, rfl⟩) hHeld ?_
      (try simp only [Act.put, List.setIfInBounds_toArray, List.set_cons_zero, List.set_cons_succ])
      refine wpAnyM_take (i := 11) (oi := ⟨_, _, _, _, _, _⟩) (v := undef) rfl (by kernel_rfl) (by kernel_rfl) (by kernel_rfl) (by kernel_rfl) (fun _ _ _ h => h) (Or.inr ⟨by rfl, rfl⟩) hHeld ?_
      (try simp only [Act.put, List.setIfInBounds_toArray, List.set_cons_zero, List.set_cons_succ])
      refine wpAnyM_take (i := 12) (oi := ⟨_, _, _, _, _, _⟩) (v := undef) rfl (by kernel_rfl) (by kernel_rfl) (by kernel_rfl) (by kernel_rfl) (fun _ _ _ h => h) (Or.inr ⟨by rfl, rfl⟩) hHeld ?_
      (try simp only [Act.put, List.setIfInBounds_toArray, List.set_cons_zero, List.set_cons_succ])
      refine wpAnyM_take (i := 13) (oi := ⟨_, _, _, _, _, _⟩) (v := ?_) rfl (by kernel_rfl) (by kernel_rfl) (by kernel_rfl) (by kernel_rfl) (fun _ _ _ h => h) (Or.inl ⟨by rfl, ?_⟩) hHeld ?_
      rotate_left
      · (intro w' hSw; (try dsimp only at hSw); go_simp; try (with_reducible rfl))
      (try simp only [Act.put, List.setIfInBounds_toArray, List.set_cons_zero, List.set_cons_succ])
      refine wpAnyM_done (by kernel_rfl) ?_ _
      have hlc : l.length ≤ cap := by
        rcases (GA.out.om.row HR.out).2 with ⟨e, h0⟩ | ⟨g, c, cur, e, _, _, h, _⟩
        · have := congrArg (fun v => match v with | Value.slice _ n _ => n | _ => 0) e; simp at this; omega
        · simp at e; omega
      by_cases hca : cap = a
      · have hca' : a = cap := hca.symm
        subst hca'
        have HYS : Hid ((l.take b).drop a = [] ++ ([] : List Sp)) := (show _ = _ by rw [List.drop_of_length_le (by rw [List.length_take]; omega)]; rfl)
        have HSW : Hid (w.heap.size + 1 + 1 < wr.heap.size) := GA.out.bl.lt
        have HBS : Hid (w.heap.size ≤ wr.drew.heap.size) := GA.out.bel.size
        have HPU : Hid (∀ w5 : World, wr.drew.grownBy w5 none → AI w w5 o fq R (.slice ao l.length a) f t ∧ BoxT 68 w5 w1.heap.size #[.int .i64 (whl ⟨f, t⟩ l a b).f, .int .i64 (whl ⟨f, t⟩ l a b).t]) := fun w5 h2 => ⟨(GA.out.below (Below.refl _ _).drew).below ⟨h2.os, h2.tape, h2.output, h2.size, fun k hk => h2.block k hk (by simp)⟩, BoxT.below (t := 68) (w := wr.drew) GW.out ⟨h2.os, h2.tape, h2.output, h2.size, fun k hk => h2.block k hk (by simp)⟩⟩
        have bi1 : (a : Int) ≤ (b : Int) := by omega
        have bi2 : (b : Int) ≤ (a : Int) := by omega
        have bi3 : (b : Int) ≤ (a : Int) := by omega
        generalize hWH : whl ⟨f, t⟩ l a b = WH at *
        have HWH := hide hWH
        clear hWH
        obtain ⟨wf, wt⟩ := WH
        go_wp2_with (first | (at_builtin; refine app_segL Tryz.infoSp Tryz.underlying79 rfl (by decide) (by decide) Sp.cs_len Sp.cs_one rfl _ _ rfl w.heap.size _ [] rfl (OwnL.nil _ _ _ _ _) wr.heap.size _ ([] : List Sp) rfl (lsegNil (by omega)) (by simp) HBS.out ?_; intro v5 w5 o5 g5 k5; obtain ⟨a5, u5⟩ := HPU.out w5 g5; have O5 := hide o5; have A5 := hide a5; have U5 := hide u5; have K5 := hide k5; clear o5 g5 a5 k5; obtain ⟨p0, p1⟩ := u5.cells2; clear u5; have p2 : w5.cell? ⟨w.heap.size + 1 + 1, 0, none⟩ = some (.slice ao l.length a) := (by have := A5.out.bl.cellAt 0; simpa using this); have HB5 := hide (below_box w5 (.cells #[.int .i64 wf, .int .i64 wt] 68)); have HREP := hide (replace_any (w := w5.alloc (.cells #[.int .i64 wf, .int .i64 wt] 68)) (base := 0) (x := ⟨wf, wt⟩) ((A5.out.om.row HR.out).below HB5.out) hn (Nat.zero_le _) (BoxT.new 68 w5 _) (fun e => by have := (A5.out.om.row HR.out).lt _ e; omega) hab hbl)) | (go_at_call 82; refine HREP.out.mono ?_; rintro e w6 ⟨u, rfl, h2, h3, h4⟩; obtain ⟨w7, hrun7, om7, mt7⟩ := (A5.out.om.below HB5.out).store hk HR.out h3 h2 (by simp) h4; have HFIN := hide (add_fin HH.out HR.out A5.out (Nat.lt_of_lt_of_le HS3.out (Nat.le_refl _)) U5.out O5.out HSW.out K5.out h3 h4 om7 mt7); clear om7 mt7 h2 h3 h4; obtain ⟨s0, s1⟩ := HFIN.out.1.cells2; have s2 := HFIN.out.2.1; have s3 := HFIN.out.2.2.1; have s4 := HFIN.out.2.2.2.1) | (at_mapUpdate; refine wp_putM rfl _ _ _ 74 rfl _ _ _ rfl rfl rfl hrun7 ?_) | fail)
        obtain ⟨f1, f2, f3, f4⟩ := HFIN.out.2.2.2.2 (.int .i64 wf) (.int .i64 wt)
        obtain ⟨r0, r1⟩ := f1.cells2
        exact bodyPost_ret (v := .tuple #[.agg #[.int .i64 wf, .int .i64 wt], v5]) (by simp [results, Tryz.results73, go_sem, r0, r1]) rfl ⟨a, b, v5, u, HADD.out, by rw [HWH.out]; rfl, by rw [HYS.out]; exact f2, by rw [HWH.out]; exact f3, f4⟩
      · obtain ⟨g, rfl⟩ : ∃ g, ao = some ⟨g, 0, none⟩ := by
          rcases (GA.out.om.row HR.out).2 with ⟨e, h0⟩ | ⟨g, c, cur, e, _⟩
          · simp at e; omega
          · simp at e; exact ⟨g, e.1⟩
        have HYS : Hid ((l.take b).drop a = [] ++ ((l.take b).drop a)) := (show _ = _ by rfl)
        have HSG := hide (seg_mid (GA.out.om.row HR.out) hab hbl hn (cap - a))
        have HSW : Hid (w.heap.size + 1 + 1 < wr.heap.size) := GA.out.bl.lt
        have HBS : Hid (w.heap.size ≤ wr.drew.heap.size) := GA.out.bel.size
        have HPU : Hid (∀ w5 : World, wr.drew.grownBy w5 none → AI w w5 o fq R (.slice (some ⟨g, 0, none⟩) l.length cap) f t ∧ BoxT 68 w5 w1.heap.size #[.int .i64 (whl ⟨f, t⟩ l a b).f, .int .i64 (whl ⟨f, t⟩ l a b).t]) := fun w5 h2 => ⟨(GA.out.below (Below.refl _ _).drew).below ⟨h2.os, h2.tape, h2.output, h2.size, fun k hk => h2.block k hk (by simp)⟩, BoxT.below (t := 68) (w := wr.drew) GW.out ⟨h2.os, h2.tape, h2.output, h2.size, fun k hk => h2.block k hk (by simp)⟩⟩
        have bi1 : (a : Int) ≤ (b : Int) := by omega
        have bi2 : (b : Int) ≤ (cap : Int) := by omega
        have bi3 : (a : Int) ≤ (cap : Int) := by omega
        generalize hWH : whl ⟨f, t⟩ l a b = WH at *
        have HWH := hide hWH
        clear hWH
        obtain ⟨wf, wt⟩ := WH
        go_wp2_with (first | (at_builtin; refine app_segL Tryz.infoSp Tryz.underlying79 rfl (by decide) (by decide) Sp.cs_len Sp.cs_one rfl _ _ rfl w.heap.size _ [] rfl (OwnL.nil _ _ _ _ _) wr.heap.size _ ((l.take b).drop a) rfl HSG.out (by rw [List.length_nil, List.length_drop, List.length_take]; omega) HBS.out ?_; intro v5 w5 o5 g5 k5; obtain ⟨a5, u5⟩ := HPU.out w5 g5; have O5 := hide o5; have A5 := hide a5; have U5 := hide u5; have K5 := hide k5; clear o5 g5 a5 k5; obtain ⟨p0, p1⟩ := u5.cells2; clear u5; have p2 : w5.cell? ⟨w.heap.size + 1 + 1, 0, none⟩ = some (.slice (some ⟨g, 0, none⟩) l.length cap) := (by have := A5.out.bl.cellAt 0; simpa using this); have HB5 := hide (below_box w5 (.cells #[.int .i64 wf, .int .i64 wt] 68)); have HREP := hide (replace_any (w := w5.alloc (.cells #[.int .i64 wf, .int .i64 wt] 68)) (base := 0) (x := ⟨wf, wt⟩) ((A5.out.om.row HR.out).below HB5.out) hn (Nat.zero_le _) (BoxT.new 68 w5 _) (fun e => by have := (A5.out.om.row HR.out).lt _ e; omega) hab hbl)) | (go_at_call 82; refine HREP.out.mono ?_; rintro e w6 ⟨u, rfl, h2, h3, h4⟩; obtain ⟨w7, hrun7, om7, mt7⟩ := (A5.out.om.below HB5.out).store hk HR.out h3 h2 (by simp) h4; have HFIN := hide (add_fin HH.out HR.out A5.out (Nat.lt_of_lt_of_le HS3.out (Nat.le_refl _)) U5.out O5.out HSW.out K5.out h3 h4 om7 mt7); clear om7 mt7 h2 h3 h4; obtain ⟨s0, s1⟩ := HFIN.out.1.cells2; have s2 := HFIN.out.2.1; have s3 := HFIN.out.2.2.1; have s4 := HFIN.out.2.2.2.1) | (at_mapUpdate; refine wp_putM rfl _ _ _ 74 rfl _ _ _ rfl rfl rfl hrun7 ?_) | fail)
        obtain ⟨f1, f2, f3, f4⟩ := HFIN.out.2.2.2.2 (.int .i64 wf) (.int .i64 wt)
        obtain ⟨r0, r1⟩ := f1.cells2
        exact bodyPost_ret (v := .tuple #[.agg #[.int .i64 wf, .int .i64 wt], v5]) (by simp [results, Tryz.results73, go_sem, r0, r1]) rfl ⟨a, b, v5, u, HADD.out, by rw [HWH.out]; rfl, by rw [HYS.out]; exact f2, by rw [HWH.out]; exact f3, f4⟩
end Go.Proofs.YtdoldohcimbdaaaGreat
