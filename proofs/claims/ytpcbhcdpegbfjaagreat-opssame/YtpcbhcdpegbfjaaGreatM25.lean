/-
  Texts in build order: SAdd, SGathP, SGath, SLay, SPut.
-/
import Derived.Test.YtpcbhcdpegbfjaaGreatM24
import Derived.Test.YtpcbhcdpegbfjaaGreatM23
/-
  add: one more span of a key, walked.
-/
namespace Go.Proofs.YtpcbhcdpegbfjaaGreat
open Go.RowKit

structure AI (w wr : World) (o : Nat) (fq : Nat → Prop) (R : List SRow) (v : Value) (f t : Int) : Prop where
  bel : Below w.heap.size w wr
  bf : BoxT 72 wr w.heap.size #[.int .i64 f, .int .i64 t]
  br : BoxT 72 wr (w.heap.size + 1) #[.int .i64 0, .int .i64 0]
  bl : BoxT 74 wr (w.heap.size + 1 + 1) #[v]
  om : OM wr o fq R
theorem AI.below {w wr w' : World} {o : Nat} {fq : Nat → Prop} {R : List SRow} {v : Value} {f t : Int} (h : AI w wr o fq R v f t) (hb : Below wr.heap.size wr w') : AI w w' o fq R v f t :=
  ⟨h.bel.trans (hb.mono h.bel.size), BoxT.below (t := 72) h.bf hb, BoxT.below (t := 72) h.br hb, BoxT.below (t := 74) h.bl hb, h.om.below hb⟩
theorem AI.grown {w wr w' : World} {o : Nat} {fq : Nat → Prop} {R : List SRow} {v : Value} {f t : Int} {K : Nat} (h : AI w wr o fq R v f t) (hg : wr.grownBy w' (some K)) (hK : w.heap.size + 1 + 1 < K) (hlt : ∀ i, fq i → i < w.heap.size) : AI w w' o fq R v f t := by
  refine ⟨h.bel.grown hg h.bel.size (fun k e => by cases e; omega), h.bf.grown hg (by omega), h.br.grown hg (by omega), h.bl.grown hg (by omega), h.om.back (fun i hi => hg.block i (h.om.flt i hi) (fun e => by cases e; have := hlt _ hi; omega)) hg.size⟩
theorem lsegNil {B : Nat} {w : World} {ao : Option Addr} {n c : Nat} (hn : n = 0) : LSeg 2 Sp.cs B w (.slice ao n c) ([] : List Sp) := by subst hn; exact ⟨ao, c, rfl, by simp, .inl rfl⟩
theorem seg_mid {w : World} {base g cap : Nat} {l : List Sp} (h : OwnL 72 2 Sp.cs base w (.slice (some ⟨g, 0, none⟩) l.length cap) l) {a b : Nat} (hab : a ≤ b) (hbl : b ≤ l.length) (hn : l.length ≤ 100000) (c : Nat) : LSeg 2 Sp.cs w.heap.size w (.slice (some ⟨g, a * 2, none⟩) (b - a) c) ((l.take b).drop a) := by
  obtain ⟨cur, _, _, hb, _, _, _, hc⟩ := own_cells h
  have hl : ((l.take b).drop a).length = b - a := by rw [List.length_drop, List.length_take]; omega
  refine ⟨some ⟨g, a * 2, none⟩, c, by rw [hl], by rw [hl]; omega, .inr ⟨g, a * 2, rfl, hb.lt, fun i x hx j u hu => ?_⟩⟩
  rw [List.getElem?_drop, List.getElem?_take] at hx
  split at hx
  · have := hc (a + i) x hx j u hu
    rw [hb.cellAt, show a * 2 + i * 2 + j = (a + i) * 2 + j by omega]; exact this
  · cases hx
theorem add_fin {w wr w5 w6 w7 : World} {o : Nat} {fq : Nat → Prop} {R R0 : List SRow} {V : Value} {l L : List Sp} {k f t : Int} {KW : Nat} {wf wt : Int} (HH : OM w o fq R) (hr : RowOf R R0 k V l) (A5 : AI w w5 o fq R V f t) (hKW : w.heap.size + 1 + 1 < KW) (W5 : BoxT 72 w5 KW #[.int .i64 wf, .int .i64 wt]) {u v5 : Value} {ys : List Sp} (o5 : OwnL 72 2 Sp.cs w.heap.size w5 v5 ys) (hs5 : w.heap.size + 1 + 1 < wr.heap.size) (k5 : v5.ownBlock = none ∨ v5.ownBlock = some wr.heap.size)
    (h3 : (w5.alloc (.cells #[.int .i64 wf, .int .i64 wt] 72)).grownBy w6 V.ownBlock) (h4 : ∀ g, u.ownBlock = some g → V.ownBlock = some g ∨ (w5.alloc (.cells #[.int .i64 wf, .int .i64 wt] 72)).heap.size ≤ g)
    (om7 : OM w7 o (fun i => fq i ∨ u.ownBlock = some i) (⟨k, u, L⟩ :: R0)) (mt7 : MTurn w6 w7 o) :
    BoxT 72 w7 KW #[.int .i64 wf, .int .i64 wt] ∧ (∀ j, w7.frozen? ⟨w.heap.size + 1, j, none⟩ = false) ∧ w7.cell? ⟨w.heap.size + 1, 0, none⟩ = some (.int .i64 0) ∧ w7.cell? ⟨w.heap.size + 1, 1, none⟩ = some (.int .i64 0) ∧
    ∀ x y, BoxT 72 ((w7.setCell ⟨w.heap.size + 1, 0, none⟩ x).setCell ⟨w.heap.size + 1, 1, none⟩ y) (w.heap.size + 1) #[x, y] ∧ OwnL 72 2 Sp.cs w.heap.size ((w7.setCell ⟨w.heap.size + 1, 0, none⟩ x).setCell ⟨w.heap.size + 1, 1, none⟩ y) v5 ys ∧
      OM ((w7.setCell ⟨w.heap.size + 1, 0, none⟩ x).setCell ⟨w.heap.size + 1, 1, none⟩ y) o (fun i => fq i ∨ u.ownBlock = some i) (⟨k, u, L⟩ :: R0) ∧ FT fq (fun i => fq i ∨ u.ownBlock = some i) w ((w7.setCell ⟨w.heap.size + 1, 0, none⟩ x).setCell ⟨w.heap.size + 1, 1, none⟩ y) := by
  have hV : ∀ g, V.ownBlock = some g → g < w.heap.size := fun g e => HH.flt g (HH.rowIn hr g e)
  have ho : o < w.heap.size := HH.flt o HH.fo
  have hsz5 := A5.bel.size
  have hW5s : (w5.alloc (.cells #[.int .i64 wf, .int .i64 wt] 72)).heap.size = w5.heap.size + 1 := by simp
  have stay : ∀ i, w.heap.size ≤ i → i < w5.heap.size → w7.heap[i]? = w5.heap[i]? := fun i h1 h2' => by
    rw [mt7.other (by omega), h3.block i (by omega) (fun e => by have := hV i e.symm; omega)]
    exact Below.heap_alloc w5 _ i h2'
  have hbr : BoxT 72 w7 (w.heap.size + 1) #[.int .i64 0, .int .i64 0] := by have := A5.br; unfold BoxT at *; rw [stay _ (by omega) A5.br.lt]; exact this
  obtain ⟨c0, c1⟩ := hbr.cells2
  have hltW := W5.lt
  have hbl5 := A5.bl.lt
  refine ⟨by have h := W5; unfold BoxT at h ⊢; rw [stay _ (by omega) hltW]; exact h, fun j => hbr.free j, c0, c1, fun x y => ?_⟩
  have g8 : w7.grownBy ((w7.setCell ⟨w.heap.size + 1, 0, none⟩ x).setCell ⟨w.heap.size + 1, 1, none⟩ y) (some (w.heap.size + 1)) := grownBy_trans (grownBy_set _ _ _ _) (grownBy_set _ _ _ _)
  have s7 : w7.heap.size = w6.heap.size := mt7.size
  have s6 := h3.size
  refine ⟨?_, ?_, ?_, ?_⟩
  · have := (hbr.set 0 x).set 1 y
    simpa using this
  · refine o5.back (fun g e => ?_)
    have e1 : g = wr.heap.size := by
      rcases k5 with e2 | e2
      · rw [e2] at e; cases e
      · rw [e2] at e; exact (Option.some.inj e).symm
    have e2 := o5.lt g e
    rw [g8.block g (by omega) (fun e => by cases e; omega), stay g (by omega) e2]
  · refine om7.back (fun i hi => g8.block i (om7.flt i hi) (fun e => ?_)) g8.size
    cases e
    rcases hi with hi | hi
    · have := HH.flt _ hi; omega
    · rcases h4 _ hi with e | e
      · have := hV _ e; omega
      · omega
  · refine ⟨g8.os.trans (mt7.grown.os.trans (h3.os.trans A5.bel.os)), g8.tape.trans (mt7.grown.tape.trans (h3.tape.trans A5.bel.tape)), g8.output.trans (mt7.grown.output.trans (h3.output.trans A5.bel.output)), by have := g8.size; omega, fun i hi hn => ?_, fun i hi => ?_⟩
    · rw [g8.block i (by omega) (fun e => by cases e; omega), mt7.other (fun e => hn (by rw [e]; exact HH.fo)), h3.block i (by omega) (fun e => hn (HH.rowIn hr i e.symm)), Below.heap_alloc w5 _ i (by omega)]
      exact A5.bel.block i hi
    · rcases hi with hi | hi
      · exact .inl hi
      · rcases h4 i hi with e | e
        · exact .inl (HH.rowIn hr i e)
        · exact .inr (by omega)
set_option maxHeartbeats 8000000 in
set_option maxRecDepth 100000 in
theorem oadd_any {w : World} {o : Nat} {fq : Nat → Prop} {R R0 : List SRow} {v : Value} {l : List Sp} {k f t : Int} (h : OM w o fq R) (hk : In64 k) (hr : RowOf R R0 k v l) (hf : f < t) (hrise : l.Pairwise fun a b => a.t ≤ b.f) (hfull : ∀ s ∈ l, s.f < s.t) (hn : l.length ≤ 100000) :
    Calls Tryz.prog 124 #[.map (some o), .int .i64 k, .agg #[.int .i64 f, .int .i64 t]] w fun e w' => ∃ a b gv v', AddR l f t a b ∧ e = .returned (.tuple #[(whl ⟨f, t⟩ l a b).val, gv]) ∧ OwnL 72 2 Sp.cs w.heap.size w' gv ((l.take b).drop a) ∧
      OM w' o (fun i => fq i ∨ v'.ownBlock = some i) (⟨k, v', l.take a ++ whl ⟨f, t⟩ l a b :: l.drop b⟩ :: R0) ∧ FT fq (fun i => fq i ∨ v'.ownBlock = some i) w w' := by
  obtain ⟨ao, cap, rfl⟩ := (h.row hr).shape
  have HR := hide hr
  have HRI := hide hrise
  have HFU := hide hfull
  have hb3 : Below w.heap.size w (((w.alloc (.cells #[.int .i64 f, .int .i64 t] 72)).alloc (.cells #[.int .i64 0, .int .i64 0] 72)).alloc (.cells #[.slice ao l.length cap] 74)) := (below_box2 w _ _).alloc (by simp; omega) _
  have hb2 := below_box2 w (.cells #[.int .i64 f, .int .i64 t] 72) (.cells #[.int .i64 0, .int .i64 0] 72)
  have HLK := hide ((h.below hb2).look hk hr)
  have HA : Hid (AI w (((w.alloc (.cells #[.int .i64 f, .int .i64 t] 72)).alloc (.cells #[.int .i64 0, .int .i64 0] 72)).alloc (.cells #[.slice ao l.length cap] 74)) o fq R (.slice ao l.length cap) f t) :=
    ⟨hb3, BoxT.alloc (t := 72) (BoxT.alloc (t := 72) (BoxT.new _ _ _) _) _, BoxT.alloc (t := 72) (BoxT.new_at (t := 72) (by simp)) _, BoxT.new_at (t := 74) (by simp), h.below hb3⟩
  obtain ⟨W0, hW0⟩ : ∃ W0, W0 = ((w.alloc (.cells #[.int .i64 f, .int .i64 t] 72)).alloc (.cells #[.int .i64 0, .int .i64 0] 72)).alloc (.cells #[.slice ao l.length cap] 74) := ⟨_, rfl⟩
  rw [← hW0] at HA
  have HSE := hide (Search_any (w := W0) (n := l.length) (by omega) 138 #[.pointer (some ⟨w.heap.size + 1 + 1, 0, none⟩), .pointer (some ⟨w.heap.size, 0, none⟩)] (fun i => match l[i]? with | some x => decide (x.t > f) | none => false)
    (fun a b hab hbn hq => by
      obtain ⟨y, hy⟩ := get_of_lt hbn
      obtain ⟨x, hx⟩ := get_of_lt (Nat.lt_of_le_of_lt hab hbn)
      simp only [hx, hy, decide_eq_true_eq] at hq ⊢
      rcases Nat.eq_or_lt_of_le hab with e | e
      · subst e; rw [hx] at hy; cases hy; exact hq
      · have h1 := rise_get hrise e hx hy
        have h2 := hfull y (List.mem_of_getElem? hy)
        omega) (fun args W => by kernel_rfl) (fun w1 hb i hi => by
      obtain ⟨x, hx⟩ := get_of_lt hi
      have hA := HA.out.below hb
      have := addC_any (w := w1) hA.bl hA.bf ((hA.om.row hr).seg Sp.cs_len (by omega)) hx
      simpa [hx] using this))
  have hmf : ∀ (fn : Fn) (first cap : Array Value) (w : World), (Instr.makeFunc fn first cap).run Tryz.prog w = .ok (.func fn first cap) w := fun _ _ _ _ => rfl
  have d1 : ¬ t ≤ f := by omega
  have HF := hide hf
  have HH := hide h
  clear h hr hrise hfull hb2 hb3 hf
  go_enter Tryz.func124, Tryz.ntmps124
  go_wp2_with (first | (at_lookup; refine wp_lookM rfl _ _ 115 false rfl _ _ rfl rfl HLK.out ?_) | (go_at_call 137; rw [← hW0]; refine HSE.out.mono ?_; rintro e w1 ⟨⟨a, rfl, hal, hlo, hhi⟩, b1⟩; have A1 := hide (HA.out.below b1); have HLO := hide hlo; have HHI := hide hhi; clear hlo hhi b1; obtain ⟨y0, y1⟩ := A1.out.bf.cells2) | fail)
  have HW : Hid (BoxT 72 (w1.alloc (.cells #[.int .i64 f, .int .i64 t] 72)) w1.heap.size #[.int .i64 (whl ⟨f, t⟩ l a a).f, .int .i64 (whl ⟨f, t⟩ l a a).t]) := (show BoxT _ _ _ _ by rw [whl_self]; exact BoxT.new _ _ _)
  have HA2 := hide (A1.out.below (below_box w1 (.cells #[.int .i64 f, .int .i64 t] 72)))
  have HSZ := hide A1.out.bel.size
  have HS3 : Hid (w.heap.size + 1 + 1 < w1.heap.size) := A1.out.bl.lt
  clear y0 y1 HSE HLK hW0 HA A1
  go_loopg [11] (l.length + 1) (fun gh ev wr => ∃ b : Nat, ev = .int .i64 (b : Int) ∧ a ≤ b ∧ b ≤ l.length ∧ l.length + 1 ≤ gh + b ∧ Hid (∀ i x, a ≤ i → i < b → l[i]? = some x → x.f < t) ∧ Hid (AI w wr o fq R (.slice ao l.length cap) f t) ∧ Hid (BoxT 72 wr w1.heap.size #[.int .i64 (whl ⟨f, t⟩ l a b).f, .int .i64 (whl ⟨f, t⟩ l a b).t]))
  case atStart => exact ⟨a, rfl, Nat.le_refl _, hal, by omega, (show ∀ i x, _ from fun i x h1 h2 => by omega), HA2, HW⟩
  case round =>
    clear HA2 HW
    obtain ⟨b, rfl, hab, hbl, hg, HM, GA, GW⟩ := hrel
    obtain ⟨go, rfl⟩ : ∃ go, gk = go + 1 := ⟨gk - 1, by omega⟩
    have q0 : wr.cell? ⟨w.heap.size + 1 + 1, 0, none⟩ = some (.slice ao l.length cap) := by have := GA.out.bl.cellAt 0; simpa using this
    obtain ⟨q1, q2⟩ := GA.out.bf.cells2
    have HDONE : Hid (∀ bb : Bool, bb = false → (b = l.length ∨ ∃ x, l[b]? = some x ∧ ¬ x.f < t) → AddR l f t a b) := fun _ _ hend => by
      refine ⟨hab, hbl, fun i x hi hx => ?_, fun i x h1 h2 hx => ⟨?_, HM.out i x h1 h2 hx⟩, fun i x hi hx => ?_⟩
      · have := HLO.out i hi; simp only [hx, decide_eq_false_iff_not] at this; omega
      · have := HHI.out i h1 (lt_of_get hx); simp only [hx, decide_eq_true_eq] at this; omega
      · rcases hend with e | ⟨y, hy, hyt⟩
        · have := lt_of_get hx; omega
        · rcases Nat.eq_or_lt_of_le hi with e | e
          · subst e; rw [hx] at hy; cases hy; omega
          · have h1 := rise_get HRI.out e hy hx
            have h2 := HFU.out y (List.mem_of_getElem? hy)
            omega
    by_cases hlt : b < l.length
    · obtain ⟨x, hx⟩ := get_of_lt hlt
      have bt : (b : Int) < (l.length : Int) := by omega
      obtain ⟨nb, no, rfl, nlt, e0, e1⟩ := ((GA.out.om.row HR.out).seg Sp.cs_len (by omega)).span hx
      have hz : decide ((b : Int) < (l.length : Int)) = true := decide_eq_true bt
      by_cases hxt : x.f < t
      · have HX := hide hx
        clear hx
        obtain ⟨xf, xt⟩ := x
        simp only at e0 e1 hxt
        have hzt : decide (xf < t) = true := decide_eq_true hxt
        obtain ⟨g0, g1⟩ := GW.out.cells2
        have HWS := hide (whl_step (s := ⟨f, t⟩) hab HX.out)
        generalize whl ⟨f, t⟩ l a b = wh at *
        obtain ⟨hf, ht⟩ := wh
        simp only at g0 g1
        have gz := fun j => GW.out.free j
        have hnb : nb ≠ w1.heap.size := fun e => by
          have h1 := GA.out.om.rowIn HR.out nb rfl
          have h2 := HH.out.flt nb h1
          have := HSZ.out
          omega
        go_upto_region 6 with fail
        refine wp_region_M (S := fun w' => w'.cell? ⟨w.heap.size + 1 + 1, 0, none⟩ = some (.slice (some ⟨nb, no, none⟩) l.length cap) ∧ w'.cell? ⟨nb, no + b * 2, none⟩ = some (.int .i64 xf) ∧ w'.cell? ⟨w.heap.size, 1, none⟩ = some (.int .i64 t)) (late := []) (by kernel_rfl) (⟨q0, e0, q2⟩) (fun hHeld => ?_)
        (try simp only [List.size_toArray, List.length_cons, List.length_nil, Nat.zero_add, Nat.reduceAdd, Array.replicate, List.replicate])
        refine wpAnyM_take (i := 0) (oi := ⟨_, _, _, _, _, _⟩) (v := ?_) rfl (by kernel_rfl) (by kernel_rfl) (by kernel_rfl) (by kernel_rfl) (fun _ _ _ h => h) (Or.inl ⟨by rfl, ?_⟩) hHeld ?_
        rotate_left
        · (intro w' hSw; (try dsimp only at hSw); go_simp; try (with_reducible rfl))
        (try simp only [Act.put, List.setIfInBounds_toArray, List.set_cons_zero, List.set_cons_succ])
        refine wpAnyM_take (i := 1) (oi := ⟨_, _, _, _, _, _⟩) (v := ?_) rfl (by kernel_rfl) (by kernel_rfl) (by kernel_rfl) (by kernel_rfl) (fun _ _ _ h => h) (Or.inl ⟨by rfl, ?_⟩) hHeld ?_
        rotate_left
        · (intro w' hSw; (try dsimp only at hSw); go_simp; try (with_reducible rfl))
        (try simp only [Act.put, List.setIfInBounds_toArray, List.set_cons_zero, List.set_cons_succ])
        refine wpAnyM_take (i := 2) (oi := ⟨_, _, _, _, _, _⟩) (v := ?_) rfl (by kernel_rfl) (by kernel_rfl) (by kernel_rfl) (by kernel_rfl) (fun _ _ _ h => h) (Or.inl ⟨by rfl, ?_⟩) hHeld ?_
        rotate_left
        · (intro w' hSw; (try dsimp only at hSw); go_simp; try (with_reducible rfl))
        (try simp only [Act.put, List.setIfInBounds_toArray, List.set_cons_zero, List.set_cons_succ])
        refine wpAnyM_take (i := 3) (oi := ⟨_, _, _, _, _, _⟩) (v := ?_) rfl (by kernel_rfl) (by kernel_rfl) (by kernel_rfl) (by kernel_rfl) (fun _ _ _ h => h) (Or.inl ⟨by rfl, ?_⟩) hHeld ?_
        rotate_left
        · (intro w' hSw; (try dsimp only at hSw); go_simp; try (with_reducible rfl))
        (try simp only [Act.put, List.setIfInBounds_toArray, List.set_cons_zero, List.set_cons_succ])
        refine wpAnyM_take (i := 4) (oi := ⟨_, _, _, _, _, _⟩) (v := ?_) rfl (by kernel_rfl) (by kernel_rfl) (by kernel_rfl) (by kernel_rfl) (fun _ _ _ h => h) (Or.inl ⟨by rfl, ?_⟩) hHeld ?_
        rotate_left
        · (intro w' hSw; (try dsimp only at hSw); go_simp; try (with_reducible rfl))
        (try simp only [Act.put, List.setIfInBounds_toArray, List.set_cons_zero, List.set_cons_succ])
        refine wpAnyM_take (i := 5) (oi := ⟨_, _, _, _, _, _⟩) (v := ?_) rfl (by kernel_rfl) (by kernel_rfl) (by kernel_rfl) (by kernel_rfl) (fun _ _ _ h => h) (Or.inl ⟨by rfl, ?_⟩) hHeld ?_
        rotate_left
        · (intro w' hSw; (try dsimp only at hSw); go_simp; try (with_reducible rfl))
        (try simp only [Act.put, List.setIfInBounds_toArray, List.set_cons_zero, List.set_cons_succ])
        refine wpAnyM_take (i := 6) (oi := ⟨_, _, _, _, _, _⟩) (v := ?_) rfl (by kernel_rfl) (by kernel_rfl) (by kernel_rfl) (by kernel_rfl) (fun _ _ _ h => h) (Or.inl ⟨by rfl, ?_⟩) hHeld ?_
        rotate_left
        · (intro w' hSw; (try dsimp only at hSw); go_simp; try (with_reducible rfl))
        (try simp only [Act.put, List.setIfInBounds_toArray, List.set_cons_zero, List.set_cons_succ])
        refine wpAnyM_take (i := 7) (oi := ⟨_, _, _, _, _, _⟩) (v := ?_) rfl (by kernel_rfl) (by kernel_rfl) (by kernel_rfl) (by kernel_rfl) (fun _ _ _ h => h) (Or.inl ⟨by rfl, ?_⟩) hHeld ?_
        rotate_left
        · (intro w' hSw; (try dsimp only at hSw); go_simp; try (with_reducible rfl))
        (try simp only [Act.put, List.setIfInBounds_toArray, List.set_cons_zero, List.set_cons_succ])
        refine wpAnyM_take (i := 8) (oi := ⟨_, _, _, _, _, _⟩) (v := ?_) rfl (by kernel_rfl) (by kernel_rfl) (by kernel_rfl) (by kernel_rfl) (fun _ _ _ h => h) (Or.inl ⟨by rfl, ?_⟩) hHeld ?_
        rotate_left
        · (intro w' hSw; (try dsimp only at hSw); go_simp; try (with_reducible rfl))
        (try simp only [Act.put, List.setIfInBounds_toArray, List.set_cons_zero, List.set_cons_succ])
        refine wpAnyM_take (i := 9) (oi := ⟨_, _, _, _, _, _⟩) (v := ?_) rfl (by kernel_rfl) (by kernel_rfl) (by kernel_rfl) (by kernel_rfl) (fun _ _ _ h => h) (Or.inl ⟨by rfl, ?_⟩) hHeld ?_
        rotate_left
        · (intro w' hSw; (try dsimp only at hSw); go_simp; try (with_reducible rfl))
        (try simp only [Act.put, List.setIfInBounds_toArray, List.set_cons_zero, List.set_cons_succ])
        refine wpAnyM_take (i := 10) (oi := ⟨_, _, _, _, _, _⟩) (v := ?_) rfl (by kernel_rfl) (by kernel_rfl) (by kernel_rfl) (by kernel_rfl) (fun _ _ _ h => h) (Or.inl ⟨by rfl, ?_⟩) hHeld ?_
        rotate_left
        · (intro w' hSw; (try dsimp only at hSw); go_simp; try (with_reducible rfl))
        (try simp only [Act.put, List.setIfInBounds_toArray, List.set_cons_zero, List.set_cons_succ])
        refine wpAnyM_take (i := 11) (oi := ⟨_, _, _, _, _, _⟩) (v := ?_) rfl (by kernel_rfl) (by kernel_rfl) (by kernel_rfl) (by kernel_rfl) (fun _ _ _ h => h) (Or.inl ⟨by rfl, ?_⟩) hHeld ?_
        rotate_left
        · (intro w' hSw; (try dsimp only at hSw); go_simp; try (with_reducible rfl))
        (try simp only [Act.put, List.setIfInBounds_toArray, List.set_cons_zero, List.set_cons_succ])
        refine wpAnyM_take (i := 12) (oi := ⟨_, _, _, _, _, _⟩) (v := ?_) rfl (by kernel_rfl) (by kernel_rfl) (by kernel_rfl) (by kernel_rfl) (fun _ _ _ h => h) (Or.inl ⟨by rfl, ?_⟩) hHeld ?_
        rotate_left
        · (intro w' hSw; (try dsimp only at hSw); go_simp; try (with_reducible rfl))
        (try simp only [Act.put, List.setIfInBounds_toArray, List.set_cons_zero, List.set_cons_succ])
        refine wpAnyM_take (i := 13) (oi := ⟨_, _, _, _, _, _⟩) (v := ?_) rfl (by kernel_rfl) (by kernel_rfl) (by kernel_rfl) (by kernel_rfl) (fun _ _ _ h => h) (Or.inl ⟨by rfl, ?_⟩) hHeld ?_
        rotate_left
        · (intro w' hSw; (try dsimp only at hSw); go_simp; try (with_reducible rfl))
        (try simp only [Act.put, List.setIfInBounds_toArray, List.set_cons_zero, List.set_cons_succ])
        refine wpAnyM_done (by kernel_rfl) ?_ _
        go_wp2_with fail
        refine wp_region_M (S := fun w' => w'.cell? ⟨w.heap.size + 1 + 1, 0, none⟩ = some (.slice (some ⟨nb, no, none⟩) l.length cap) ∧ w'.cell? ⟨nb, no + b * 2, none⟩ = some (.int .i64 xf) ∧ w'.cell? ⟨nb, no + b * 2 + 1, none⟩ = some (.int .i64 xt) ∧ w'.cell? ⟨w1.heap.size, 0, none⟩ = some (.int .i64 hf) ∧ w'.cell? ⟨w1.heap.size, 1, none⟩ = some (.int .i64 ht)) (late := [17]) (by kernel_rfl) (⟨q0, e0, e1, g0, g1⟩) (fun hHeld => ?_)
        (try simp only [List.size_toArray, List.length_cons, List.length_nil, Nat.zero_add, Nat.reduceAdd, Array.replicate, List.replicate])
        refine wpAnyM_take (i := 0) (oi := ⟨_, _, _, _, _, _⟩) (v := ?_) rfl (by kernel_rfl) (by kernel_rfl) (by kernel_rfl) (by kernel_rfl) (fun _ _ _ h => h) (Or.inl ⟨by rfl, ?_⟩) hHeld ?_
        rotate_left
        · (intro w' hSw; (try dsimp only at hSw); go_simp; try (with_reducible rfl))
        (try simp only [Act.put, List.setIfInBounds_toArray, List.set_cons_zero, List.set_cons_succ])
        refine wpAnyM_take (i := 1) (oi := ⟨_, _, _, _, _, _⟩) (v := ?_) rfl (by kernel_rfl) (by kernel_rfl) (by kernel_rfl) (by kernel_rfl) (fun _ _ _ h => h) (Or.inl ⟨by rfl, ?_⟩) hHeld ?_
        rotate_left
        · (intro w' hSw; (try dsimp only at hSw); go_simp; try (with_reducible rfl))
        (try simp only [Act.put, List.setIfInBounds_toArray, List.set_cons_zero, List.set_cons_succ])
        refine wpAnyM_take (i := 2) (oi := ⟨_, _, _, _, _, _⟩) (v := ?_) rfl (by kernel_rfl) (by kernel_rfl) (by kernel_rfl) (by kernel_rfl) (fun _ _ _ h => h) (Or.inl ⟨by rfl, ?_⟩) hHeld ?_
        rotate_left
        · (intro w' hSw; (try dsimp only at hSw); go_simp; try (with_reducible rfl))
        (try simp only [Act.put, List.setIfInBounds_toArray, List.set_cons_zero, List.set_cons_succ])
        refine wpAnyM_take (i := 3) (oi := ⟨_, _, _, _, _, _⟩) (v := ?_) rfl (by kernel_rfl) (by kernel_rfl) (by kernel_rfl) (by kernel_rfl) (fun _ _ _ h => h) (Or.inl ⟨by rfl, ?_⟩) hHeld ?_
        rotate_left
        · (intro w' hSw; (try dsimp only at hSw); go_simp; try (with_reducible rfl))
        (try simp only [Act.put, List.setIfInBounds_toArray, List.set_cons_zero, List.set_cons_succ])
        refine wpAnyM_take (i := 4) (oi := ⟨_, _, _, _, _, _⟩) (v := ?_) rfl (by kernel_rfl) (by kernel_rfl) (by kernel_rfl) (by kernel_rfl) (fun _ _ _ h => h) (Or.inl ⟨by rfl, ?_⟩) hHeld ?_
        rotate_left
        · (intro w' hSw; (try dsimp only at hSw); go_simp; try (with_reducible rfl))
        (try simp only [Act.put, List.setIfInBounds_toArray, List.set_cons_zero, List.set_cons_succ])
        refine wpAnyM_take (i := 5) (oi := ⟨_, _, _, _, _, _⟩) (v := ?_) rfl (by kernel_rfl) (by kernel_rfl) (by kernel_rfl) (by kernel_rfl) (fun _ _ _ h => h) (Or.inl ⟨by rfl, ?_⟩) hHeld ?_
        rotate_left
        · (intro w' hSw; (try dsimp only at hSw); go_simp; try (with_reducible rfl))
        (try simp only [Act.put, List.setIfInBounds_toArray, List.set_cons_zero, List.set_cons_succ])
        refine wpAnyM_take (i := 6) (oi := ⟨_, _, _, _, _, _⟩) (v := ?_) rfl (by kernel_rfl) (by kernel_rfl) (by kernel_rfl) (by kernel_rfl) (fun _ _ _ h => h) (Or.inl ⟨by rfl, ?_⟩) hHeld ?_
        rotate_left
        · (intro w' hSw; (try dsimp only at hSw); go_simp; try (with_reducible rfl))
        (try simp only [Act.put, List.setIfInBounds_toArray, List.set_cons_zero, List.set_cons_succ])
        refine wpAnyM_take (i := 7) (oi := ⟨_, _, _, _, _, _⟩) (v := ?_) rfl (by kernel_rfl) (by kernel_rfl) (by kernel_rfl) (by kernel_rfl) (fun _ _ _ h => h) (Or.inl ⟨by rfl, ?_⟩) hHeld ?_
        rotate_left
        · (intro w' hSw; (try dsimp only at hSw); go_simp; try (with_reducible rfl))
        (try simp only [Act.put, List.setIfInBounds_toArray, List.set_cons_zero, List.set_cons_succ])
        refine wpAnyM_take (i := 8) (oi := ⟨_, _, _, _, _, _⟩) (v := ?_) rfl (by kernel_rfl) (by kernel_rfl) (by kernel_rfl) (by kernel_rfl) (fun _ _ _ h => h) (Or.inl ⟨by rfl, ?_⟩) hHeld ?_
        rotate_left
        · (intro w' hSw; (try dsimp only at hSw); go_simp; try (with_reducible rfl))
        (try simp only [Act.put, List.setIfInBounds_toArray, List.set_cons_zero, List.set_cons_succ])
        refine wpAnyM_take (i := 9) (oi := ⟨_, _, _, _, _, _⟩) (v := ?_) rfl (by kernel_rfl) (by kernel_rfl) (by kernel_rfl) (by kernel_rfl) (fun _ _ _ h => h) (Or.inl ⟨by rfl, ?_⟩) hHeld ?_
        rotate_left
        · (intro w' hSw; (try dsimp only at hSw); go_simp; try (with_reducible rfl))
        (try simp only [Act.put, List.setIfInBounds_toArray, List.set_cons_zero, List.set_cons_succ])
        refine wpAnyM_take (i := 10) (oi := ⟨_, _, _, _, _, _⟩) (v := ?_) rfl (by kernel_rfl) (by kernel_rfl) (by kernel_rfl) (by kernel_rfl) (fun _ _ _ h => h) (Or.inl ⟨by rfl, ?_⟩) hHeld ?_
        rotate_left
        · (intro w' hSw; (try dsimp only at hSw); go_simp; try (with_reducible rfl))
        (try simp only [Act.put, List.setIfInBounds_toArray, List.set_cons_zero, List.set_cons_succ])
        refine wpAnyM_take (i := 11) (oi := ⟨_, _, _, _, _, _⟩) (v := ?_) rfl (by kernel_rfl) (by kernel_rfl) (by kernel_rfl) (by kernel_rfl) (fun _ _ _ h => h) (Or.inl ⟨by rfl, ?_⟩) hHeld ?_
        rotate_left
        · (intro w' hSw; (try dsimp only at hSw); go_simp; try (with_reducible rfl))
        (try simp only [Act.put, List.setIfInBounds_toArray, List.set_cons_zero, List.set_cons_succ])
        refine wpAnyM_take (i := 12) (oi := ⟨_, _, _, _, _, _⟩) (v := ?_) rfl (by kernel_rfl) (by kernel_rfl) (by kernel_rfl) (by kernel_rfl) (fun _ _ _ h => h) (Or.inl ⟨by rfl, ?_⟩) hHeld ?_
        rotate_left
        · (intro w' hSw; (try dsimp only at hSw); go_simp; try (with_reducible rfl))
        (try simp only [Act.put, List.setIfInBounds_toArray, List.set_cons_zero, List.set_cons_succ])
        refine wpAnyM_take (i := 13) (oi := ⟨_, _, _, _, _, _⟩) (v := ?_) rfl (by kernel_rfl) (by kernel_rfl) (by kernel_rfl) (by kernel_rfl) (fun _ _ _ h => h) (Or.inl ⟨by rfl, ?_⟩) hHeld ?_
        rotate_left
        · (intro w' hSw; (try dsimp only at hSw); go_simp; try (with_reducible rfl))
        (try simp only [Act.put, List.setIfInBounds_toArray, List.set_cons_zero, List.set_cons_succ])
        refine wpAnyM_take (i := 14) (oi := ⟨_, _, _, _, _, _⟩) (v := ?_) rfl (by kernel_rfl) (by kernel_rfl) (by kernel_rfl) (by kernel_rfl) (fun _ _ _ h => h) (Or.inl ⟨by rfl, ?_⟩) hHeld ?_
        rotate_left
        · (intro w' hSw; (try dsimp only at hSw); go_simp; try (with_reducible rfl))
        (try simp only [Act.put, List.setIfInBounds_toArray, List.set_cons_zero, List.set_cons_succ])
        refine wpAnyM_take (i := 15) (oi := ⟨_, _, _, _, _, _⟩) (v := ?_) rfl (by kernel_rfl) (by kernel_rfl) (by kernel_rfl) (by kernel_rfl) (fun _ _ _ h => h) (Or.inl ⟨by rfl, ?_⟩) hHeld ?_
        rotate_left
        · (intro w' hSw; (try dsimp only at hSw); go_simp; try (with_reducible rfl))
        (try simp only [Act.put, List.setIfInBounds_toArray, List.set_cons_zero, List.set_cons_succ])
        refine wpAnyM_take (i := 16) (oi := ⟨_, _, _, _, _, _⟩) (v := ?_) rfl (by kernel_rfl) (by kernel_rfl) (by kernel_rfl) (by kernel_rfl) (fun _ _ _ h => h) (Or.inl ⟨by rfl, ?_⟩) hHeld ?_
        rotate_left
        · (intro w' hSw; (try dsimp only at hSw); go_simp; try (with_reducible rfl))
        (try simp only [Act.put, List.setIfInBounds_toArray, List.set_cons_zero, List.set_cons_succ])
        refine wpAnyM_last (i := 17) (o := ⟨_, _, _, _, _, _⟩) (by kernel_rfl) (by kernel_rfl) rfl (fun K hK => ?_)
        go_simp
        refine hK.out _ _ ?_
        clear hK K
        (try simp only [List.setIfInBounds_toArray, List.set_cons_zero, List.set_cons_succ])
        refine wpAnyM_done (by kernel_rfl) ?_ _
        go_wp2_with fail
        go_roundg go
        case rel =>
          have hgr := grownBy_trans (grownBy_set wr w1.heap.size 0 (.int .i64 (min hf xf))) (grownBy_set _ w1.heap.size 1 (.int .i64 (max ht xt)))
          refine ⟨b + 1, by go_num, by omega, by omega, by omega, (show ∀ i x, _ from fun i x h1 h2 hx => ?_), (GA.out.grown hgr HS3.out HH.out.flt).below ((Below.refl _ _).drew.drew), ?_⟩
          · by_cases e : i = b
            · subst e; rw [HX.out] at hx; cases hx; exact hxt
            · exact HM.out i x h1 (by omega) hx
          · show BoxT _ _ _ _
            rw [HWS.out]
            have := (GW.out.set 0 (.int .i64 (min hf xf))).set 1 (.int .i64 (max ht xt))
            simp at this
            exact this
        case measure => omega
      · have HADD := hide (HDONE.out false rfl (.inr ⟨x, hx, by omega⟩))
        clear hx HDONE
        obtain ⟨xf, xt⟩ := x
        simp only at e0 e1 hxt
        have hzt : decide (xf < t) = false := decide_eq_false hxt
        go_upto_region 6 with fail
        refine wp_region_M (S := fun w' => w'.cell? ⟨w.heap.size + 1 + 1, 0, none⟩ = some (.slice (some ⟨nb, no, none⟩) l.length cap) ∧ w'.cell? ⟨nb, no + b * 2, none⟩ = some (.int .i64 xf) ∧ w'.cell? ⟨w.heap.size, 1, none⟩ = some (.int .i64 t)) (late := []) (by kernel_rfl) (⟨q0, e0, q2⟩) (fun hHeld => ?_)
        (try simp only [List.size_toArray, List.length_cons, List.length_nil, Nat.zero_add, Nat.reduceAdd, Array.replicate, List.replicate])
        refine wpAnyM_take (i := 0) (oi := ⟨_, _, _, _, _, _⟩) (v := ?_) rfl (by kernel_rfl) (by kernel_rfl) (by kernel_rfl) (by kernel_rfl) (fun _ _ _ h => h) (Or.inl ⟨by rfl, ?_⟩) hHeld ?_
        rotate_left
        · (intro w' hSw; (try dsimp only at hSw); go_simp; try (with_reducible rfl))
        (try simp only [Act.put, List.setIfInBounds_toArray, List.set_cons_zero, List.set_cons_succ])
        refine wpAnyM_take (i := 1) (oi := ⟨_, _, _, _, _, _⟩) (v := ?_) rfl (by kernel_rfl) (by kernel_rfl) (by kernel_rfl) (by kernel_rfl) (fun _ _ _ h => h) (Or.inl ⟨by rfl, ?_⟩) hHeld ?_
        rotate_left
        · (intro w' hSw; (try dsimp only at hSw); go_simp; try (with_reducible rfl))
        (try simp only [Act.put, List.setIfInBounds_toArray, List.set_cons_zero, List.set_cons_succ])
        refine wpAnyM_take (i := 2) (oi := ⟨_, _, _, _, _, _⟩) (v := ?_) rfl (by kernel_rfl) (by kernel_rfl) (by kernel_rfl) (by kernel_rfl) (fun _ _ _ h => h) (Or.inl ⟨by rfl, ?_⟩) hHeld ?_
        rotate_left
        · (intro w' hSw; (try dsimp only at hSw); go_simp; try (with_reducible rfl))
        (try simp only [Act.put, List.setIfInBounds_toArray, List.set_cons_zero, List.set_cons_succ])
        refine wpAnyM_take (i := 3) (oi := ⟨_, _, _, _, _, _⟩) (v := ?_) rfl (by kernel_rfl) (by kernel_rfl) (by kernel_rfl) (by kernel_rfl) (fun _ _ _ h => h) (Or.inl ⟨by rfl, ?_⟩) hHeld ?_
        rotate_left
        · (intro w' hSw; (try dsimp only at hSw); go_simp; try (with_reducible rfl))
        (try simp only [Act.put, List.setIfInBounds_toArray, List.set_cons_zero, List.set_cons_succ])
        refine wpAnyM_take (i := 4) (oi := ⟨_, _, _, _, _, _⟩) (v := ?_) rfl (by kernel_rfl) (by kernel_rfl) (by kernel_rfl) (by kernel_rfl) (fun _ _ _ h => h) (Or.inl ⟨by rfl, ?_⟩) hHeld ?_
        rotate_left
        · (intro w' hSw; (try dsimp only at hSw); go_simp; try (with_reducible rfl))
        (try simp only [Act.put, List.setIfInBounds_toArray, List.set_cons_zero, List.set_cons_succ])
        refine wpAnyM_take (i := 5) (oi := ⟨_, _, _, _, _, _⟩) (v := ?_) rfl (by kernel_rfl) (by kernel_rfl) (by kernel_rfl) (by kernel_rfl) (fun _ _ _ h => h) (Or.inl ⟨by rfl, ?_⟩) hHeld ?_
        rotate_left
        · (intro w' hSw; (try dsimp only at hSw); go_simp; try (with_reducible rfl))
        (try simp only [Act.put, List.setIfInBounds_toArray, List.set_cons_zero, List.set_cons_succ])
        refine wpAnyM_take (i := 6) (oi := ⟨_, _, _, _, _, _⟩) (v := ?_) rfl (by kernel_rfl) (by kernel_rfl) (by kernel_rfl) (by kernel_rfl) (fun _ _ _ h => h) (Or.inl ⟨by rfl, ?_⟩) hHeld ?_
        rotate_left
        · (intro w' hSw; (try dsimp only at hSw); go_simp; try (with_reducible rfl))
        (try simp only [Act.put, List.setIfInBounds_toArray, List.set_cons_zero, List.set_cons_succ])
        refine wpAnyM_take (i := 7) (oi := ⟨_, _, _, _, _, _⟩) (v := ?_) rfl (by kernel_rfl) (by kernel_rfl) (by kernel_rfl) (by kernel_rfl) (fun _ _ _ h => h) (Or.inl ⟨by rfl, ?_⟩) hHeld ?_
        rotate_left
        · (intro w' hSw; (try dsimp only at hSw); go_simp; try (with_reducible rfl))
        (try simp only [Act.put, List.setIfInBounds_toArray, List.set_cons_zero, List.set_cons_succ])
        refine wpAnyM_take (i := 8) (oi := ⟨_, _, _, _, _, _⟩) (v := ?_) rfl (by kernel_rfl) (by kernel_rfl) (by kernel_rfl) (by kernel_rfl) (fun _ _ _ h => h) (Or.inl ⟨by rfl, ?_⟩) hHeld ?_
        rotate_left
        · (intro w' hSw; (try dsimp only at hSw); go_simp; try (with_reducible rfl))
        (try simp only [Act.put, List.setIfInBounds_toArray, List.set_cons_zero, List.set_cons_succ])
        refine wpAnyM_take (i := 9) (oi := ⟨_, _, _, _, _, _⟩) (v := ?_) rfl (by kernel_rfl) (by kernel_rfl) (by kernel_rfl) (by kernel_rfl) (fun _ _ _ h => h) (Or.inl ⟨by rfl, ?_⟩) hHeld ?_
        rotate_left
        · (intro w' hSw; (try dsimp only at hSw); go_simp; try (with_reducible rfl))
        (try simp only [Act.put, List.setIfInBounds_toArray, List.set_cons_zero, List.set_cons_succ])
        refine wpAnyM_take (i := 10) (oi := ⟨_, _, _, _, _, _⟩) (v := ?_) rfl (by kernel_rfl) (by kernel_rfl) (by kernel_rfl) (by kernel_rfl) (fun _ _ _ h => h) (Or.inl ⟨by rfl, ?_⟩) hHeld ?_
        rotate_left
        · (intro w' hSw; (try dsimp only at hSw); go_simp; try (with_reducible rfl))
        (try simp only [Act.put, List.setIfInBounds_toArray, List.set_cons_zero, List.set_cons_succ])
        refine wpAnyM_take (i := 11) (oi := ⟨_, _, _, _, _, _⟩) (v := ?_) rfl (by kernel_rfl) (by kernel_rfl) (by kernel_rfl) (by kernel_rfl) (fun _ _ _ h => h) (Or.inl ⟨by rfl, ?_⟩) hHeld ?_
        rotate_left
        · (intro w' hSw; (try dsimp only at hSw); go_simp; try (with_reducible rfl))
        (try simp only [Act.put, List.setIfInBounds_toArray, List.set_cons_zero, List.set_cons_succ])
        refine wpAnyM_take (i := 12) (oi := ⟨_, _, _, _, _, _⟩) (v := ?_) rfl (by kernel_rfl) (by kernel_rfl) (by kernel_rfl) (by kernel_rfl) (fun _ _ _ h => h) (Or.inl ⟨by rfl, ?_⟩) hHeld ?_
        rotate_left
        · (intro w' hSw; (try dsimp only at hSw); go_simp; try (with_reducible rfl))
        (try simp only [Act.put, List.setIfInBounds_toArray, List.set_cons_zero, List.set_cons_succ])
        refine wpAnyM_take (i := 13) (oi := ⟨_, _, _, _, _, _⟩) (v := ?_) rfl (by kernel_rfl) (by kernel_rfl) (by kernel_rfl) (by kernel_rfl) (fun _ _ _ h => h) (Or.inl ⟨by rfl, ?_⟩) hHeld ?_
        rotate_left
        · (intro w' hSw; (try dsimp only at hSw); go_simp; try (with_reducible rfl))
        (try simp only [Act.put, List.setIfInBounds_toArray, List.set_cons_zero, List.set_cons_succ])
        refine wpAnyM_done (by kernel_rfl) ?_ _
        have hno : no = 0 := by
          rcases (GA.out.om.row HR.out).2 with ⟨e, _⟩ | ⟨g, c, cur, e, _⟩ <;> simp at e
          exact e.1.2
        subst hno
        have hlc : l.length ≤ cap := by
          obtain ⟨_, _, _, _, hlc, _⟩ := own_cells (GA.out.om.row HR.out)
          exact hlc
        have hca : ¬ cap = a := fun e => by omega
        have HYS : Hid ((l.take b).drop a = [] ++ ((l.take b).drop a)) := (show _ = _ by rfl)
        have HSG := hide (seg_mid (GA.out.om.row HR.out) hab hbl hn (cap - a))
        have HSW : Hid (w.heap.size + 1 + 1 < wr.heap.size) := GA.out.bl.lt
        have HBS : Hid (w.heap.size ≤ wr.drew.heap.size) := GA.out.bel.size
        have HPU : Hid (∀ w5 : World, wr.drew.grownBy w5 none → AI w w5 o fq R (.slice (some ⟨nb, 0, none⟩) l.length cap) f t ∧ BoxT 72 w5 w1.heap.size #[.int .i64 (whl ⟨f, t⟩ l a b).f, .int .i64 (whl ⟨f, t⟩ l a b).t]) := fun w5 h2 => ⟨(GA.out.below (Below.refl _ _).drew).below ⟨h2.os, h2.tape, h2.output, h2.size, fun k hk => h2.block k hk (by simp)⟩, BoxT.below (t := 72) (w := wr.drew) GW.out ⟨h2.os, h2.tape, h2.output, h2.size, fun k hk => h2.block k hk (by simp)⟩⟩
        have bi1 : (a : Int) ≤ (b : Int) := by omega
        have bi2 : (b : Int) ≤ (cap : Int) := by omega
        have bi3 : (a : Int) ≤ (cap : Int) := by omega
        generalize hWH : whl ⟨f, t⟩ l a b = WH at *
        have HWH := hide hWH
        clear hWH
        obtain ⟨wf, wt⟩ := WH
        go_wp2_with (first | (at_builtin; refine app_segL Tryz.infoSp Tryz.underlying74 rfl (by decide) (by decide) Sp.cs_len Sp.cs_one rfl _ _ rfl w.heap.size _ [] rfl (OwnL.nil _ _ _ _ _) wr.heap.size _ ((l.take b).drop a) rfl HSG.out (by rw [List.length_nil, List.length_drop, List.length_take]; omega) HBS.out ?_; intro v5 w5 o5 g5 k5; obtain ⟨a5, u5⟩ := HPU.out w5 g5; have O5 := hide o5; have A5 := hide a5; have U5 := hide u5; have K5 := hide k5; clear o5 g5 a5 k5; obtain ⟨p0, p1⟩ := u5.cells2; clear u5; have p2 : w5.cell? ⟨w.heap.size + 1 + 1, 0, none⟩ = some (.slice (some ⟨nb, 0, none⟩) l.length cap) := (by have := A5.out.bl.cellAt 0; simpa using this); have HB5 := hide (below_box w5 (.cells #[.int .i64 wf, .int .i64 wt] 72)); have HREP := hide (replace_any (w := w5.alloc (.cells #[.int .i64 wf, .int .i64 wt] 72)) (base := 0) (x := ⟨wf, wt⟩) ((A5.out.om.row HR.out).below HB5.out) hn (Nat.zero_le _) (BoxT.new 72 w5 _) (fun e => by have := (A5.out.om.row HR.out).lt _ e; omega) hab hbl)) | (go_at_call 139; refine HREP.out.mono ?_; rintro e w6 ⟨u, rfl, h2, h3, h4⟩; obtain ⟨w7, hrun7, om7, mt7⟩ := (A5.out.om.below HB5.out).store hk HR.out h3 h2 (by simp) h4; have HFIN := hide (add_fin HH.out HR.out A5.out (Nat.lt_of_lt_of_le HS3.out (Nat.le_refl _)) U5.out O5.out HSW.out K5.out h3 h4 om7 mt7); clear om7 mt7 h2 h3 h4; obtain ⟨s0, s1⟩ := HFIN.out.1.cells2; have s2 := HFIN.out.2.1; have s3 := HFIN.out.2.2.1; have s4 := HFIN.out.2.2.2.1) | (at_mapUpdate; refine wp_putM rfl _ _ _ 115 rfl _ _ _ rfl rfl rfl hrun7 ?_) | fail)
        obtain ⟨f1, f2, f3, f4⟩ := HFIN.out.2.2.2.2 (.int .i64 wf) (.int .i64 wt)
        obtain ⟨r0, r1⟩ := f1.cells2
        exact bodyPost_ret (v := .tuple #[.agg #[.int .i64 wf, .int .i64 wt], v5]) (by simp [results, Tryz.results124, go_sem, r0, r1]) rfl ⟨a, b, v5, u, HADD.out, by rw [HWH.out]; rfl, by rw [HYS.out]; exact f2, by rw [HWH.out]; exact f3, f4⟩
    · have HADD := hide (HDONE.out false rfl (.inl (by omega)))
      clear HDONE
      have bt : ¬ (b : Int) < (l.length : Int) := by omega
      have hz : decide ((b : Int) < (l.length : Int)) = false := decide_eq_false bt
      go_upto_region 6 with fail
      refine wp_region_M (S := fun w' => w'.cell? ⟨w.heap.size + 1 + 1, 0, none⟩ = some (.slice ao l.length cap)) (late := []) (by kernel_rfl) (q0) (fun hHeld => ?_)
      (try simp only [List.size_toArray, List.length_cons, List.length_nil, Nat.zero_add, Nat.reduceAdd, Array.replicate, List.replicate])
      refine wpAnyM_take (i := 0) (oi := ⟨_, _, _, _, _, _⟩) (v := ?_) rfl (by kernel_rfl) (by kernel_rfl) (by kernel_rfl) (by kernel_rfl) (fun _ _ _ h => h) (Or.inl ⟨by rfl, ?_⟩) hHeld ?_
      rotate_left
      · (intro w' hSw; (try dsimp only at hSw); go_simp; try (with_reducible rfl))
      (try simp only [Act.put, List.setIfInBounds_toArray, List.set_cons_zero, List.set_cons_succ])
      refine wpAnyM_take (i := 1) (oi := ⟨_, _, _, _, _, _⟩) (v := ?_) rfl (by kernel_rfl) (by kernel_rfl) (by kernel_rfl) (by kernel_rfl) (fun _ _ _ h => h) (Or.inl ⟨by rfl, ?_⟩) hHeld ?_
      rotate_left
      · (intro w' hSw; (try dsimp only at hSw); go_simp; try (with_reducible rfl))
      (try simp only [Act.put, List.setIfInBounds_toArray, List.set_cons_zero, List.set_cons_succ])
      refine wpAnyM_take (i := 2) (oi := ⟨_, _, _, _, _, _⟩) (v := ?_) rfl (by kernel_rfl) (by kernel_rfl) (by kernel_rfl) (by kernel_rfl) (fun _ _ _ h => h) (Or.inl ⟨by rfl, ?_⟩) hHeld ?_
      rotate_left
      · (intro w' hSw; (try dsimp only at hSw); go_simp; try (with_reducible rfl))
      (try simp only [Act.put, List.setIfInBounds_toArray, List.set_cons_zero, List.set_cons_succ])
      refine wpAnyM_take (i := 3) (oi := ⟨_, _, _, _, _, _⟩) (v := ?_) rfl (by kernel_rfl) (by kernel_rfl) (by kernel_rfl) (by kernel_rfl) (fun _ _ _ h => h) (Or.inl ⟨by rfl, ?_⟩) hHeld ?_
      rotate_left
      · (intro w' hSw; (try dsimp only at hSw); go_simp; try (with_reducible rfl))
      (try simp only [Act.put, List.setIfInBounds_toArray, List.set_cons_zero, List.set_cons_succ])
      refine wpAnyM_take (i := 4) (oi := ⟨_, _, _, _, _, _⟩) (v := ?_) rfl (by kernel_rfl) (by kernel_rfl) (by kernel_rfl) (by kernel_rfl) (fun _ _ _ h => h) (Or.inl ⟨by rfl, ?_⟩) hHeld ?_
      rotate_left
      · (intro w' hSw; (try dsimp only at hSw); go_simp; try (with_reducible rfl))
      (try simp only [Act.put, List.setIfInBounds_toArray, List.set_cons_zero, List.set_cons_succ])
      refine wpAnyM_take (i := 5) (oi := ⟨_, _, _, _, _, _⟩) (v := undef) rfl (by kernel_rfl) (by kernel_rfl) (by kernel_rfl) (by kernel_rfl) (fun _ _ _ h => h) (Or.inr ⟨by rfl, rfl⟩) hHeld ?_
      (try simp only [Act.put, List.setIfInBounds_toArray, List.set_cons_zero, List.set_cons_succ])
      refine wpAnyM_take (i := 6) (oi := ⟨_, _, _, _, _, _⟩) (v := undef) rfl (by kernel_rfl) (by kernel_rfl) (by kernel_rfl) (by kernel_rfl) (fun _ _ _ h => h) (Or.inr ⟨by rfl, rfl⟩) hHeld ?_
      (try simp only [Act.put, List.setIfInBounds_toArray, List.set_cons_zero, List.set_cons_succ])
      refine wpAnyM_take (i := 7) (oi := ⟨_, _, _, _, _, _⟩) (v := undef) rfl (by kernel_rfl) (by kernel_rfl) (by kernel_rfl) (by kernel_rfl) (fun _ _ _ h => h) (Or.inr ⟨by rfl, rfl⟩) hHeld ?_
      (try simp only [Act.put, List.setIfInBounds_toArray, List.set_cons_zero, List.set_cons_succ])
      refine wpAnyM_take (i := 8) (oi := ⟨_, _, _, _, _, _⟩) (v := undef) rfl (by kernel_rfl) (by kernel_rfl) (by kernel_rfl) (by kernel_rfl) (fun _ _ _ h => h) (Or.inr ⟨by rfl, rfl⟩) hHeld ?_
      (try simp only [Act.put, List.setIfInBounds_toArray, List.set_cons_zero, List.set_cons_succ])
      refine wpAnyM_take (i := 9) (oi := ⟨_, _, _, _, _, _⟩) (v := undef) rfl (by kernel_rfl) (by kernel_rfl) (by kernel_rfl) (by kernel_rfl) (fun _ _ _ h => h) (Or.inr ⟨by rfl, rfl⟩) hHeld ?_
      (try simp only [Act.put, List.setIfInBounds_toArray, List.set_cons_zero, List.set_cons_succ])
      refine wpAnyM_take (i := 10) (oi := ⟨_, _, _, _, _, _⟩) (v := undef) rfl (by kernel_rfl) (by kernel_rfl) (by kernel_rfl) (by kernel_rfl) (fun _ _ _ h => h) (Or.inr ⟨by rfl, rfl⟩) hHeld ?_
      (try simp only [Act.put, List.setIfInBounds_toArray, List.set_cons_zero, List.set_cons_succ])
      refine wpAnyM_take (i := 11) (oi := ⟨_, _, _, _, _, _⟩) (v := undef) rfl (by kernel_rfl) (by kernel_rfl) (by kernel_rfl) (by kernel_rfl) (fun _ _ _ h => h) (Or.inr ⟨by rfl, rfl⟩) hHeld ?_
      (try simp only [Act.put, List.setIfInBounds_toArray, List.set_cons_zero, List.set_cons_succ])
      refine wpAnyM_take (i := 12) (oi := ⟨_, _, _, _, _, _⟩) (v := undef) rfl (by kernel_rfl) (by kernel_rfl) (by kernel_rfl) (by kernel_rfl) (fun _ _ _ h => h) (Or.inr ⟨by rfl, rfl⟩) hHeld ?_
      (try simp only [Act.put, List.setIfInBounds_toArray, List.set_cons_zero, List.set_cons_succ])
      refine wpAnyM_take (i := 13) (oi := ⟨_, _, _, _, _, _⟩) (v := ?_) rfl (by kernel_rfl) (by kernel_rfl) (by kernel_rfl) (by kernel_rfl) (fun _ _ _ h => h) (Or.inl ⟨by rfl, ?_⟩) hHeld ?_
      rotate_left
      · (intro w' hSw; (try dsimp only at hSw); go_simp; try (with_reducible rfl))
      (try simp only [Act.put, List.setIfInBounds_toArray, List.set_cons_zero, List.set_cons_succ])
      refine wpAnyM_done (by kernel_rfl) ?_ _
      have hlc : l.length ≤ cap := by
        rcases (GA.out.om.row HR.out).2 with ⟨e, h0⟩ | ⟨g, c, cur, e, _, _, h, _⟩
        · have := congrArg (fun v => match v with | Value.slice _ n _ => n | _ => 0) e; simp at this; omega
        · simp at e; omega
      by_cases hca : cap = a
      · have hca' : a = cap := hca.symm
        subst hca'
        have HYS : Hid ((l.take b).drop a = [] ++ ([] : List Sp)) := (show _ = _ by rw [List.drop_of_length_le (by rw [List.length_take]; omega)]; rfl)
        have HSW : Hid (w.heap.size + 1 + 1 < wr.heap.size) := GA.out.bl.lt
        have HBS : Hid (w.heap.size ≤ wr.drew.heap.size) := GA.out.bel.size
        have HPU : Hid (∀ w5 : World, wr.drew.grownBy w5 none → AI w w5 o fq R (.slice ao l.length a) f t ∧ BoxT 72 w5 w1.heap.size #[.int .i64 (whl ⟨f, t⟩ l a b).f, .int .i64 (whl ⟨f, t⟩ l a b).t]) := fun w5 h2 => ⟨(GA.out.below (Below.refl _ _).drew).below ⟨h2.os, h2.tape, h2.output, h2.size, fun k hk => h2.block k hk (by simp)⟩, BoxT.below (t := 72) (w := wr.drew) GW.out ⟨h2.os, h2.tape, h2.output, h2.size, fun k hk => h2.block k hk (by simp)⟩⟩
        have bi1 : (a : Int) ≤ (b : Int) := by omega
        have bi2 : (b : Int) ≤ (a : Int) := by omega
        have bi3 : (b : Int) ≤ (a : Int) := by omega
        generalize hWH : whl ⟨f, t⟩ l a b = WH at *
        have HWH := hide hWH
        clear hWH
        obtain ⟨wf, wt⟩ := WH
        go_wp2_with (first | (at_builtin; refine app_segL Tryz.infoSp Tryz.underlying74 rfl (by decide) (by decide) Sp.cs_len Sp.cs_one rfl _ _ rfl w.heap.size _ [] rfl (OwnL.nil _ _ _ _ _) wr.heap.size _ ([] : List Sp) rfl (lsegNil (by omega)) (by simp) HBS.out ?_; intro v5 w5 o5 g5 k5; obtain ⟨a5, u5⟩ := HPU.out w5 g5; have O5 := hide o5; have A5 := hide a5; have U5 := hide u5; have K5 := hide k5; clear o5 g5 a5 k5; obtain ⟨p0, p1⟩ := u5.cells2; clear u5; have p2 : w5.cell? ⟨w.heap.size + 1 + 1, 0, none⟩ = some (.slice ao l.length a) := (by have := A5.out.bl.cellAt 0; simpa using this); have HB5 := hide (below_box w5 (.cells #[.int .i64 wf, .int .i64 wt] 72)); have HREP := hide (replace_any (w := w5.alloc (.cells #[.int .i64 wf, .int .i64 wt] 72)) (base := 0) (x := ⟨wf, wt⟩) ((A5.out.om.row HR.out).below HB5.out) hn (Nat.zero_le _) (BoxT.new 72 w5 _) (fun e => by have := (A5.out.om.row HR.out).lt _ e; omega) hab hbl)) | (go_at_call 139; refine HREP.out.mono ?_; rintro e w6 ⟨u, rfl, h2, h3, h4⟩; obtain ⟨w7, hrun7, om7, mt7⟩ := (A5.out.om.below HB5.out).store hk HR.out h3 h2 (by simp) h4; have HFIN := hide (add_fin HH.out HR.out A5.out (Nat.lt_of_lt_of_le HS3.out (Nat.le_refl _)) U5.out O5.out HSW.out K5.out h3 h4 om7 mt7); clear om7 mt7 h2 h3 h4; obtain ⟨s0, s1⟩ := HFIN.out.1.cells2; have s2 := HFIN.out.2.1; have s3 := HFIN.out.2.2.1; have s4 := HFIN.out.2.2.2.1) | (at_mapUpdate; refine wp_putM rfl _ _ _ 115 rfl _ _ _ rfl rfl rfl hrun7 ?_) | fail)
        obtain ⟨f1, f2, f3, f4⟩ := HFIN.out.2.2.2.2 (.int .i64 wf) (.int .i64 wt)
        obtain ⟨r0, r1⟩ := f1.cells2
        exact bodyPost_ret (v := .tuple #[.agg #[.int .i64 wf, .int .i64 wt], v5]) (by simp [results, Tryz.results124, go_sem, r0, r1]) rfl ⟨a, b, v5, u, HADD.out, by rw [HWH.out]; rfl, by rw [HYS.out]; exact f2, by rw [HWH.out]; exact f3, f4⟩
      · obtain ⟨g, rfl⟩ : ∃ g, ao = some ⟨g, 0, none⟩ := by
          rcases (GA.out.om.row HR.out).2 with ⟨e, h0⟩ | ⟨g, c, cur, e, _⟩
          · simp at e; omega
          · simp at e; exact ⟨g, e.1⟩
        have HYS : Hid ((l.take b).drop a = [] ++ ((l.take b).drop a)) := (show _ = _ by rfl)
        have HSG := hide (seg_mid (GA.out.om.row HR.out) hab hbl hn (cap - a))
        have HSW : Hid (w.heap.size + 1 + 1 < wr.heap.size) := GA.out.bl.lt
        have HBS : Hid (w.heap.size ≤ wr.drew.heap.size) := GA.out.bel.size
        have HPU : Hid (∀ w5 : World, wr.drew.grownBy w5 none → AI w w5 o fq R (.slice (some ⟨g, 0, none⟩) l.length cap) f t ∧ BoxT 72 w5 w1.heap.size #[.int .i64 (whl ⟨f, t⟩ l a b).f, .int .i64 (whl ⟨f, t⟩ l a b).t]) := fun w5 h2 => ⟨(GA.out.below (Below.refl _ _).drew).below ⟨h2.os, h2.tape, h2.output, h2.size, fun k hk => h2.block k hk (by simp)⟩, BoxT.below (t := 72) (w := wr.drew) GW.out ⟨h2.os, h2.tape, h2.output, h2.size, fun k hk => h2.block k hk (by simp)⟩⟩
        have bi1 : (a : Int) ≤ (b : Int) := by omega
        have bi2 : (b : Int) ≤ (cap : Int) := by omega
        have bi3 : (a : Int) ≤ (cap : Int) := by omega
        generalize hWH : whl ⟨f, t⟩ l a b = WH at *
        have HWH := hide hWH
        clear hWH
        obtain ⟨wf, wt⟩ := WH
        go_wp2_with (first | (at_builtin; refine app_segL Tryz.infoSp Tryz.underlying74 rfl (by decide) (by decide) Sp.cs_len Sp.cs_one rfl _ _ rfl w.heap.size _ [] rfl (OwnL.nil _ _ _ _ _) wr.heap.size _ ((l.take b).drop a) rfl HSG.out (by rw [List.length_nil, List.length_drop, List.length_take]; omega) HBS.out ?_; intro v5 w5 o5 g5 k5; obtain ⟨a5, u5⟩ := HPU.out w5 g5; have O5 := hide o5; have A5 := hide a5; have U5 := hide u5; have K5 := hide k5; clear o5 g5 a5 k5; obtain ⟨p0, p1⟩ := u5.cells2; clear u5; have p2 : w5.cell? ⟨w.heap.size + 1 + 1, 0, none⟩ = some (.slice (some ⟨g, 0, none⟩) l.length cap) := (by have := A5.out.bl.cellAt 0; simpa using this); have HB5 := hide (below_box w5 (.cells #[.int .i64 wf, .int .i64 wt] 72)); have HREP := hide (replace_any (w := w5.alloc (.cells #[.int .i64 wf, .int .i64 wt] 72)) (base := 0) (x := ⟨wf, wt⟩) ((A5.out.om.row HR.out).below HB5.out) hn (Nat.zero_le _) (BoxT.new 72 w5 _) (fun e => by have := (A5.out.om.row HR.out).lt _ e; omega) hab hbl)) | (go_at_call 139; refine HREP.out.mono ?_; rintro e w6 ⟨u, rfl, h2, h3, h4⟩; obtain ⟨w7, hrun7, om7, mt7⟩ := (A5.out.om.below HB5.out).store hk HR.out h3 h2 (by simp) h4; have HFIN := hide (add_fin HH.out HR.out A5.out (Nat.lt_of_lt_of_le HS3.out (Nat.le_refl _)) U5.out O5.out HSW.out K5.out h3 h4 om7 mt7); clear om7 mt7 h2 h3 h4; obtain ⟨s0, s1⟩ := HFIN.out.1.cells2; have s2 := HFIN.out.2.1; have s3 := HFIN.out.2.2.1; have s4 := HFIN.out.2.2.2.1) | (at_mapUpdate; refine wp_putM rfl _ _ _ 115 rfl _ _ _ rfl rfl rfl hrun7 ?_) | fail)
        obtain ⟨f1, f2, f3, f4⟩ := HFIN.out.2.2.2.2 (.int .i64 wf) (.int .i64 wt)
        obtain ⟨r0, r1⟩ := f1.cells2
        exact bodyPost_ret (v := .tuple #[.agg #[.int .i64 wf, .int .i64 wt], v5]) (by simp [results, Tryz.results124, go_sem, r0, r1]) rfl ⟨a, b, v5, u, HADD.out, by rw [HWH.out]; rfl, by rw [HYS.out]; exact f2, by rw [HWH.out]; exact f3, f4⟩
end Go.Proofs.YtpcbhcdpegbfjaaGreat
/-
  A session takes in all that it overlaps: the pure side.
-/
namespace Go.Proofs.YtpcbhcdpegbfjaaGreat
open Go.RowKit

theorem fold_lo {c : Int} (g : List Sp) : ∀ s : Sp, c ≤ s.f → (∀ x ∈ g, c ≤ x.f) → c ≤ (g.foldl jsp s).f := by
  induction g with
  | nil => intro s h _; exact h
  | cons x g ih => intro s h h2; exact ih _ (by have := h2 x (List.mem_cons_self ..); simp only [jsp]; omega) (fun y hy => h2 y (List.mem_cons_of_mem _ hy))
theorem fold_hi {c : Int} (g : List Sp) : ∀ s : Sp, s.t ≤ c → (∀ x ∈ g, x.t ≤ c) → (g.foldl jsp s).t ≤ c := by
  induction g with
  | nil => intro s h _; exact h
  | cons x g ih => intro s h h2; exact ih _ (by have := h2 x (List.mem_cons_self ..); simp only [jsp]; omega) (fun y hy => h2 y (List.mem_cons_of_mem _ hy))
theorem fold_over (g : List Sp) : ∀ s : Sp, (g.foldl jsp s).f ≤ s.f ∧ s.t ≤ (g.foldl jsp s).t := by
  induction g with
  | nil => intro s; exact ⟨Int.le_refl _, Int.le_refl _⟩
  | cons x g ih => intro s; have := ih (jsp s x); simp only [jsp] at this ⊢; simp only [List.foldl_cons]; simp only [jsp]; omega
theorem part_mem {l : List Sp} {a b : Nat} {x : Sp} (h : x ∈ (l.take b).drop a) : ∃ i, a ≤ i ∧ i < b ∧ l[i]? = some x := by
  obtain ⟨j, hj⟩ := List.getElem?_of_mem h
  rw [List.getElem?_drop, List.getElem?_take] at hj
  split at hj
  · exact ⟨a + j, by omega, by omega, hj⟩
  · cases hj
theorem mem_part {l : List Sp} {a b i : Nat} {x : Sp} (h1 : a ≤ i) (h2 : i < b) (hx : l[i]? = some x) : ((l.take b).drop a)[i - a]? = some x := by
  rw [List.getElem?_drop, List.getElem?_take, show a + (i - a) = i by omega, if_pos h2]; exact hx
structure GI (M : List Pn) (k : Int) (gone : List Sp) (i : Nat) (G N : List Pn) : Prop where
  all : M.Perm (G ++ N)
  len : G.length = i
  sp : ∀ (q : Nat) (x : Pn) (s : Sp), G[q]? = some x → gone[q]? = some s → x.k = k ∧ x.f = s.f ∧ x.t = s.t
def Places (M : List Pn) : Prop := M.Pairwise fun x y => ¬ (x.k = y.k ∧ x.f = y.f ∧ x.t = y.t)
theorem places_of {w : World} {m : Nat} {M : List Pn} (h : MapAt Tryz.prog 150 w m (M.map pEnt)) : Places M := by
  have h1 := h.nodup
  rw [List.map_map] at h1
  have h2 := List.pairwise_map.1 h1
  exact h2.imp (fun hne e => hne (by simp only [Function.comp, pEnt, plV]; rw [e.1, e.2.1, e.2.2]))
theorem Places.perm {M N : List Pn} (h : Places M) (hp : M.Perm N) : Places N := List.Pairwise.perm h hp (fun h1 h2 => h1 ⟨h2.1.symm, h2.2.1.symm, h2.2.2.symm⟩)
theorem GI.next {M : List Pn} {k : Int} {gone : List Sp} {i : Nat} {G N : List Pn} (h : GI M k gone i G N) (hdn : ∀ s ∈ gone, ∃ x ∈ M, x.k = k ∧ x.f = s.f ∧ x.t = s.t) (hfull : ∀ s ∈ gone, s.f < s.t) (hrise : gone.Pairwise fun a b => a.t ≤ b.f) {s : Sp} (hs : gone[i]? = some s) :
    ∃ x N', x.k = k ∧ x.f = s.f ∧ x.t = s.t ∧ x ∈ M ∧ N.Perm (x :: N') ∧ GI M k gone (i + 1) (G ++ [x]) N' := by
  obtain ⟨x, hx, e1, e2, e3⟩ := hdn s (List.mem_of_getElem? hs)
  rcases List.mem_append.1 (h.all.mem_iff.1 hx) with hg | hn
  · exfalso
    obtain ⟨q, hq⟩ := List.getElem?_of_mem hg
    have hql := lt_of_get hq
    rw [h.len] at hql
    obtain ⟨s', hs'⟩ := get_of_lt (show q < gone.length by have := lt_of_get hs; omega)
    have h1 := h.sp q x s' hq hs'
    have h2 := rise_get hrise hql hs' hs
    have h3 := hfull s' (List.mem_of_getElem? hs')
    omega
  · obtain ⟨u, v, rfl⟩ := List.append_of_mem hn
    refine ⟨x, u ++ v, e1, e2, e3, hx, List.perm_middle, ⟨?_, by simp [h.len], fun q y s' hy hs' => ?_⟩⟩
    · refine h.all.trans ?_
      rw [List.append_assoc]
      exact List.Perm.append_left G List.perm_middle
    · by_cases hq : q < G.length
      · rw [List.getElem?_append_left hq] at hy; exact h.sp q y s' hy hs'
      · have hq2 : q = G.length := by have := lt_of_get hy; simp at this; omega
        subst hq2
        simp at hy
        subst hy
        rw [h.len, hs] at hs'
        cases hs'
        exact ⟨e1, e2, e3⟩
theorem GI.spans {M : List Pn} {k : Int} {gone : List Sp} {G N : List Pn} (h : GI M k gone gone.length G N) : G.map (fun x => (⟨x.f, x.t⟩ : Sp)) = gone := by
  apply List.ext_getElem?
  intro q
  rw [List.getElem?_map]
  by_cases hq : q < gone.length
  · obtain ⟨s, hs⟩ := get_of_lt hq
    obtain ⟨x, hx⟩ := get_of_lt (show q < G.length by rw [h.len]; exact hq)
    have := h.sp q x s hx hs
    rw [hx, hs]
    cases s
    simp_all
  · have hl := h.len
    rw [List.getElem?_eq_none (show gone.length ≤ q by omega), List.getElem?_eq_none (show G.length ≤ q by omega)]; rfl
theorem fold_reds {J : Int → Int → Int} (fr : Pn) (N O : List Pn) : ∀ wh : Pn, Over fr wh → (∀ x ∈ O, mt true fr x) → Reds true J (wh :: (O ++ N)) (O.foldl (jp J) wh :: N) := by
  induction O with
  | nil => intro wh _ _; exact .refl _
  | cons p O ih =>
    intro wh hw hO
    have h1 := Reds.pair (J := J) (O ++ N) (hw.meets (hO p (List.mem_cons_self ..)))
    exact h1.trans (ih (jp J wh p) (hw.jp p) fun x hx => hO x (List.mem_cons_of_mem _ hx))
theorem fold_val {J : Int → Int → Int} (hc : ∀ x y, J x y = J y x) (G : List Pn) : ∀ p : Pn, G.foldl (jp J) p = ⟨p.k, ((G.map (fun x => (⟨x.f, x.t⟩ : Sp))).foldl jsp ⟨p.f, p.t⟩).f, ((G.map (fun x => (⟨x.f, x.t⟩ : Sp))).foldl jsp ⟨p.f, p.t⟩).t, G.foldl (fun a x => J x.a a) p.a⟩ := by
  induction G with
  | nil => intro p; rfl
  | cons x G ih =>
    intro p
    rw [List.foldl_cons, ih]
    simp only [List.map_cons, List.foldl_cons, jp, jsp]
    rw [hc p.a x.a]
theorem gath_pure {w : World} {s m o : Nat} {size slide ag : Int} {fq : Nat → Prop} {M : List Pn} {R R0 : List SRow} {k f t c : Int} {v v' : Value} {l : List Sp} {a b : Nat} {G N : List Pn} (h : StAt w s m o 3 size slide ag fq M R) (hr : RowOf R R0 k v l) (hf : f < t) (hA : AddR l f t a b) (hG : GI M k ((l.take b).drop a) ((l.take b).drop a).length G N) :
    Comes true (jn ag) (⟨k, f, t, c⟩ :: M) (G.foldl (jp (jn ag)) ⟨k, f, t, c⟩ :: N) ∧ (∀ y ∈ N, ¬ (y.k = k ∧ y.f = (whl ⟨f, t⟩ l a b).f ∧ y.t = (whl ⟨f, t⟩ l a b).t)) ∧
    (G.foldl (jp (jn ag)) ⟨k, f, t, c⟩ = ⟨k, (whl ⟨f, t⟩ l a b).f, (whl ⟨f, t⟩ l a b).t, G.foldl (fun a x => jn ag x.a a) c⟩) ∧ Inv 3 (G.foldl (jp (jn ag)) ⟨k, f, t, c⟩ :: N) (⟨k, v', l.take a ++ whl ⟨f, t⟩ l a b :: l.drop b⟩ :: R0) := by
  have hpl := places_of h.mp
  have hkeys : (R.map SRow.k).Nodup := by
    have h1 := h.om.op.nodup
    rw [List.map_map] at h1
    have h2 := List.pairwise_map.1 h1
    exact List.pairwise_map.2 (h2.imp (fun hne e => hne (by simp only [Function.comp, sEnt]; rw [e])))
  have hlrow : ∀ sp ∈ l, sp.f < sp.t ∧ ∃ x ∈ M, x.k = k ∧ x.f = sp.f ∧ x.t = sp.t := fun sp hsp => by
    rcases hr with ⟨_, _, _, rfl⟩ | hp
    · cases hsp
    · exact h.inv.dn _ (hp.mem_iff.2 (List.mem_cons_self ..)) sp hsp
  have hrise : l.Pairwise fun a b => a.t ≤ b.f := by
    rcases hr with ⟨_, _, _, rfl⟩ | hp
    · exact .nil
    · exact h.inv.rise _ (hp.mem_iff.2 (List.mem_cons_self ..))
  have hR0 : ∀ r ∈ R0, r ∈ R ∧ r.k ≠ k := fun r hr0 => by
    rcases hr with ⟨rfl, h1, _, _⟩ | hp
    · exact ⟨hr0, h1 r hr0⟩
    · refine ⟨hp.mem_iff.2 (List.mem_cons_of_mem _ hr0), fun e => ?_⟩
      have h2 : ((⟨k, v, l⟩ :: R0).map SRow.k).Nodup := (hp.map SRow.k).nodup_iff.1 hkeys
      rw [List.map_cons, List.nodup_cons] at h2
      exact h2.1 (List.mem_map.2 ⟨r, hr0, e⟩)
  have hup : ∀ x ∈ M, x.f < x.t → x.k = k → (⟨x.f, x.t⟩ : Sp) ∈ l := fun x hx hlt hk => by
    obtain ⟨r, h1, h2, h3⟩ := h.inv.up rfl x hx hlt
    rcases hr with ⟨rfl, h4, _, _⟩ | hp
    · exact absurd (h2.trans hk) (h4 r h1)
    · rcases List.mem_cons.1 (hp.mem_iff.1 h1) with rfl | h5
      · exact h3
      · exact absurd (h2.trans hk) (hR0 r h5).2
  have hGm : ∀ x ∈ G, x ∈ M ∧ ∃ i, a ≤ i ∧ i < b ∧ l[i]? = some (⟨x.f, x.t⟩ : Sp) ∧ x.k = k := fun x hx => by
    refine ⟨hG.all.mem_iff.2 (List.mem_append_left _ hx), ?_⟩
    obtain ⟨q, hq⟩ := List.getElem?_of_mem hx
    have hql := lt_of_get hq
    rw [hG.len] at hql
    obtain ⟨sp, hsp⟩ := get_of_lt hql
    have h1 := hG.sp q x sp hq hsp
    obtain ⟨i, i1, i2, i3⟩ := part_mem (List.mem_of_getElem? hsp)
    refine ⟨i, i1, i2, ?_, h1.1⟩
    rw [i3, h1.2.1, h1.2.2]
  have hNm : ∀ x ∈ N, x ∈ M := fun x hx => hG.all.mem_iff.2 (List.mem_append_right _ hx)
  have hmeet : ∀ x ∈ G, mt true ⟨k, f, t, c⟩ x := fun x hx => by
    obtain ⟨hxm, i, i1, i2, i3, i4⟩ := hGm x hx
    have h1 := hA.mi i _ i1 i2 i3
    have h2 := (hlrow _ (List.mem_of_getElem? i3)).1
    exact ⟨i4.symm, .inl ⟨rfl, by simp only at h1 h2 ⊢; omega, hf, by simp only at h1 h2 ⊢; omega, h2⟩⟩
  have hGN : ∀ x ∈ N, ∀ y ∈ G, ¬ (x.k = y.k ∧ x.f = y.f ∧ x.t = y.t) := fun x hx y hy e => by
    have h1 := hpl.perm hG.all
    have h2 := (List.pairwise_append.1 h1).2.2 y hy x hx
    exact h2 ⟨e.1.symm, e.2.1.symm, e.2.2.symm⟩
  have hout : ∀ x ∈ N, x.k = k → x.f < x.t → ∃ i, (i < a ∨ b ≤ i) ∧ l[i]? = some (⟨x.f, x.t⟩ : Sp) := fun x hx hk hlt => by
    obtain ⟨i, hi⟩ := List.getElem?_of_mem (hup x (hNm x hx) hlt hk)
    refine ⟨i, ?_, hi⟩
    by_cases h1 : i < a
    · exact .inl h1
    · by_cases h2 : b ≤ i
      · exact .inr h2
      · exfalso
        have h3 := mem_part (a := a) (b := b) (by omega) (by omega) hi
        obtain ⟨y, hy⟩ := get_of_lt (show i - a < G.length by rw [hG.len]; exact lt_of_get h3)
        have h4 := hG.sp _ y _ hy h3
        exact hGN x hx y (List.mem_of_getElem? hy) ⟨hk.trans h4.1.symm, h4.2.1.symm, h4.2.2.symm⟩
  have hno : ∀ x ∈ N, ¬ mt true ⟨k, f, t, c⟩ x := fun x hx hm => by
    obtain ⟨e1, ⟨_, e2⟩ | ⟨e2, _⟩⟩ := hm
    · simp only at e1 e2
      obtain ⟨i, hi, hl⟩ := hout x hx e1.symm e2.2.2.2
      rcases hi with hi | hi
      · have := hA.lo i _ hi hl; simp only at this; omega
      · have := hA.hi i _ hi hl; simp only at this; omega
    · cases e2
  have hMap : Apart true M := by
    have h1 : ∀ x ∈ M, ∀ y ∈ M, mt true x y → x.k = y.k ∧ x.f = y.f ∧ x.t = y.t := fun x hx y hy hm => by
      obtain ⟨e1, ⟨_, e2⟩ | ⟨e2, _⟩⟩ := hm
      · obtain ⟨r, r1, r2, r3⟩ := h.inv.up rfl x hx e2.2.1
        obtain ⟨r', q1, q2, q3⟩ := h.inv.up rfl y hy e2.2.2.2
        have hrr : r' = r := by
          obtain ⟨u1, u2, rfl⟩ := List.append_of_mem r1
          have h2 : ((r :: (u1 ++ u2)).map SRow.k).Nodup := (List.perm_middle.map SRow.k).nodup_iff.1 hkeys
          rw [List.map_cons, List.nodup_cons] at h2
          rcases List.mem_cons.1 (List.perm_middle.mem_iff.1 q1) with e | e
          · exact e
          · exact absurd (List.mem_map.2 ⟨r', e, by omega⟩) h2.1
        subst hrr
        obtain ⟨i, hi⟩ := List.getElem?_of_mem r3
        obtain ⟨j, hj⟩ := List.getElem?_of_mem q3
        rcases Nat.lt_trichotomy i j with e | e | e
        · have := rise_get (h.inv.rise r' r1) e hi hj; simp only at this; omega
        · subst e; rw [hi] at hj; simp at hj; exact ⟨e1, hj.1, hj.2⟩
        · have := rise_get (h.inv.rise r' r1) e hj hi; simp only at this; omega
      · cases e2
    exact List.Pairwise.imp_of_mem (fun hx hy hne hm => hne (h1 _ hx _ hy hm)) hpl
  have hNap : Apart true N := ((List.pairwise_append.1 (hMap.perm hG.all)).2.1)
  have hspans := hG.spans
  have hwh : G.foldl (jp (jn ag)) ⟨k, f, t, c⟩ = ⟨k, (whl ⟨f, t⟩ l a b).f, (whl ⟨f, t⟩ l a b).t, G.foldl (fun a x => jn ag x.a a) c⟩ := by
    rw [fold_val (jn_comm ag), hspans]; rfl
  have hov := fold_over ((l.take b).drop a) ⟨f, t⟩
  have hwf : (whl ⟨f, t⟩ l a b).f ≤ f ∧ t ≤ (whl ⟨f, t⟩ l a b).t := hov
  have hNpl : ∀ y ∈ N, ¬ (y.k = k ∧ y.f = (whl ⟨f, t⟩ l a b).f ∧ y.t = (whl ⟨f, t⟩ l a b).t) := fun y hy e => by
    exact hno y hy ⟨e.1.symm, .inl ⟨rfl, by show f < y.t; omega, hf, by show y.f < t; omega, by omega⟩⟩
  refine And.intro (And.intro ?_ ?_) (And.intro hNpl (And.intro hwh ?_))
  · exact (fold_reds (J := jn ag) ⟨k, f, t, c⟩ N G _ (Over.refl _) hmeet).perm (.cons _ hG.all.symm) (.refl _)
  · refine List.pairwise_cons.2 ⟨fun x hx hm => ?_, hNap⟩
    by_cases hxf : x.f < x.t
    · refine sess_away (J := jn ag) ⟨k, f, t, c⟩ x hxf G _ (Over.refl _) hmeet (fun y hy hmy => ?_) (hno x hx) hm
      have h1 := (List.pairwise_append.1 (hMap.perm hG.all)).2.2 y hy x hx
      exact h1 (mt_symm hmy)
    · obtain ⟨_, ⟨_, e2⟩ | ⟨e2, _⟩⟩ := hm
      · exact hxf e2.2.2.2
      · cases e2
  · rw [hwh]
    refine ⟨fun e => absurd rfl e, fun _ x hx hlt => ?_, fun r hrm sp hsp => ?_, fun r hrm => ?_⟩
    · rcases List.mem_cons.1 hx with rfl | hx
      · exact ⟨_, List.mem_cons_self .., rfl, List.mem_append_right _ (List.mem_cons_self ..)⟩
      · by_cases hk : x.k = k
        · obtain ⟨i, hi, hl⟩ := hout x hx hk hlt
          refine ⟨_, List.mem_cons_self .., hk.symm, ?_⟩
          rcases hi with hi | hi
          · refine List.mem_append_left _ (List.mem_of_getElem? (i := i) ?_)
            rw [List.getElem?_take, if_pos hi]; exact hl
          · refine List.mem_append_right _ (List.mem_cons_of_mem _ (List.mem_of_getElem? (i := i - b) ?_))
            rw [List.getElem?_drop, show b + (i - b) = i by omega]; exact hl
        · obtain ⟨r, r1, r2, r3⟩ := h.inv.up rfl x (hNm x hx) hlt
          refine ⟨r, List.mem_cons_of_mem _ ?_, r2, r3⟩
          rcases hr with ⟨rfl, _⟩ | hp
          · exact r1
          · rcases List.mem_cons.1 (hp.mem_iff.1 r1) with rfl | e
            · exact absurd r2.symm hk
            · exact e
    · rcases List.mem_cons.1 hrm with rfl | hrm
      · have hold : ∀ i, (i < a ∨ b ≤ i) → l[i]? = some sp → sp.f < sp.t ∧ ∃ x ∈ (⟨k, (whl ⟨f, t⟩ l a b).f, (whl ⟨f, t⟩ l a b).t, G.foldl (fun a x => jn ag x.a a) c⟩ :: N : List Pn), x.k = k ∧ x.f = sp.f ∧ x.t = sp.t := fun i hi hl => by
          obtain ⟨h1, x, h2, h3⟩ := hlrow sp (List.mem_of_getElem? hl)
          refine ⟨h1, x, List.mem_cons_of_mem _ ?_, h3⟩
          rcases List.mem_append.1 (hG.all.mem_iff.1 h2) with hg | hn
          · exfalso
            obtain ⟨_, j, j1, j2, j3, _⟩ := hGm x hg
            have e : (⟨x.f, x.t⟩ : Sp) = sp := by cases sp; simp_all
            rw [e] at j3
            rcases Nat.lt_trichotomy i j with u | u | u
            · have := rise_get hrise u hl j3; omega
            · omega
            · have := rise_get hrise u j3 hl; omega
          · exact hn
        rcases List.mem_append.1 hsp with hsp | hsp
        · obtain ⟨i, hi⟩ := List.getElem?_of_mem hsp
          rw [List.getElem?_take] at hi
          split at hi
          · exact hold i (.inl (by assumption)) hi
          · cases hi
        · rcases List.mem_cons.1 hsp with rfl | hsp
          · exact ⟨by omega, _, List.mem_cons_self .., rfl, rfl, rfl⟩
          · obtain ⟨i, hi⟩ := List.getElem?_of_mem hsp
            rw [List.getElem?_drop] at hi
            exact hold (b + i) (.inr (by omega)) hi
      · obtain ⟨h1, x, h2, h3⟩ := h.inv.dn r (hR0 r hrm).1 sp hsp
        refine ⟨h1, x, List.mem_cons_of_mem _ ?_, h3⟩
        rcases List.mem_append.1 (hG.all.mem_iff.1 h2) with hg | hn
        · obtain ⟨_, _, _, _, _, e⟩ := hGm x hg
          exact absurd (h3.1.symm.trans e) (hR0 r hrm).2
        · exact hn
    · rcases List.mem_cons.1 hrm with rfl | hrm
      · have hloF : ∀ y ∈ l.take a, y.t ≤ (whl ⟨f, t⟩ l a b).f := fun y hy => by
          obtain ⟨i, hi⟩ := List.getElem?_of_mem hy
          rw [List.getElem?_take] at hi
          split at hi
          · next hia =>
            refine fold_lo _ _ (hA.lo i y hia hi) (fun z hz => ?_)
            obtain ⟨j, j1, j2, j3⟩ := part_mem hz
            exact rise_get hrise (by omega) hi j3
          · cases hi
        have hhiT : ∀ z ∈ l.drop b, (whl ⟨f, t⟩ l a b).t ≤ z.f := fun z hz => by
          obtain ⟨i, hi⟩ := List.getElem?_of_mem hz
          rw [List.getElem?_drop] at hi
          refine fold_hi _ _ (hA.hi _ z (by omega) hi) (fun y hy => ?_)
          obtain ⟨j, j1, j2, j3⟩ := part_mem hy
          exact rise_get hrise (by omega) j3 hi
        refine List.pairwise_append.2 ⟨hrise.sublist (List.take_sublist ..), List.pairwise_cons.2 ⟨hhiT, hrise.sublist (List.drop_sublist ..)⟩, fun y hy z hz => ?_⟩
        rcases List.mem_cons.1 hz with rfl | hz
        · exact hloF y hy
        · have h1 := hloF y hy
          have h2 := hhiT z hz
          omega
      · exact h.inv.rise r (hR0 r hrm).1
end Go.Proofs.YtpcbhcdpegbfjaaGreat
/-
  gathered: a session with all that it overlaps, walked.
-/
namespace Go.Proofs.YtpcbhcdpegbfjaaGreat
open Go.RowKit

theorem GI.ex {M : List Pn} {k : Int} {gone : List Sp} (hdn : ∀ s ∈ gone, ∃ x ∈ M, x.k = k ∧ x.f = s.f ∧ x.t = s.t) (hfull : ∀ s ∈ gone, s.f < s.t) (hrise : gone.Pairwise fun a b => a.t ≤ b.f) (i : Nat) : i ≤ gone.length → ∃ G N, GI M k gone i G N := by
  induction i with
  | zero => intro _; exact ⟨[], M, .refl _, rfl, fun q x s h => by simp at h⟩
  | succ i ih =>
    intro hi
    obtain ⟨G, N, h⟩ := ih (by omega)
    obtain ⟨s, hs⟩ := get_of_lt (show i < gone.length by omega)
    obtain ⟨x, N', _, _, _, _, _, h2⟩ := h.next hdn hfull hrise hs
    exact ⟨_, _, h2⟩
theorem GI.le {M : List Pn} {k : Int} {gone : List Sp} {i : Nat} {G N : List Pn} (h : GI M k gone i G N) : i ≤ M.length := by
  have := h.all.length_eq
  rw [List.length_append, h.len] at this
  omega
structure GS (w wr : World) (s m o : Nat) (size slide ag : Int) (fq fq' : Nat → Prop) (R' : List SRow) (N : List Pn) (gv : Value) (gone : List Sp) (KW : Nat) (k f t c wf wt : Int) : Prop where
  box : BoxT 117 wr s #[.int .i64 3, .int .i64 size, .int .i64 slide, .int .i64 ag, .map (some m), .map (some o)]
  mp : MapAt Tryz.prog 150 wr m (N.map pEnt)
  om : OM wr o fq' R'
  ft : FT (FP s m fq) (FP s m fq') w wr
  bp : BoxT 79 wr w.heap.size #[.int .i64 k, .int .i64 f, .int .i64 t, .int .i64 c]
  br : BoxT 79 wr (w.heap.size + 1) #[.int .i64 0, .int .i64 0, .int .i64 0, .int .i64 0]
  bw : BoxT 72 wr KW #[.int .i64 wf, .int .i64 wt]
  gn : OwnL 72 2 Sp.cs w.heap.size wr gv gone
  ns : ¬ fq' s
  nm : ¬ fq' m
  n1 : ¬ fq' w.heap.size
  n2 : ¬ fq' (w.heap.size + 1)
  sl : s < w.heap.size
  ml : m < w.heap.size
section
variable {w wr w' : World} {s m o : Nat} {size slide ag : Int} {fq fq' : Nat → Prop} {R' : List SRow} {N : List Pn} {gv : Value} {gone : List Sp} {KW : Nat} {k f t c wf wt : Int}
theorem GS.below (h : GS w wr s m o size slide ag fq fq' R' N gv gone KW k f t c wf wt) (hb : Below wr.heap.size wr w') : GS w w' s m o size slide ag fq fq' R' N gv gone KW k f t c wf wt :=
  { h with box := BoxT.below (t := 117) h.box hb, mp := h.mp.back (hb.block _ h.mp.lt), om := h.om.below hb, ft := h.ft.trans (FT.of_below hb), bp := BoxT.below (t := 79) h.bp hb, br := BoxT.below (t := 79) h.br hb, bw := BoxT.below (t := 72) h.bw hb, gn := h.gn.below hb }
theorem GS.cells (h : GS w wr s m o size slide ag fq fq' R' N gv gone KW k f t c wf wt) : wr.cell? ⟨s, 3, none⟩ = some (.int .i64 ag) ∧ wr.cell? ⟨s, 4, none⟩ = some (.map (some m)) ∧ wr.cell? ⟨w.heap.size, 0, none⟩ = some (.int .i64 k) ∧ wr.cell? ⟨w.heap.size, 3, none⟩ = some (.int .i64 c) := by
  have h1 := h.box
  have h2 := h.bp
  unfold BoxT at h1 h2
  simp [World.cell?, h1, h2]
theorem GS.acc (h : GS w wr s m o size slide ag fq fq' R' N gv gone KW k f t c wf wt) (c' : Int) : GS w (wr.setCell ⟨w.heap.size, 3, none⟩ (.int .i64 c')) s m o size slide ag fq fq' R' N gv gone KW k f t c' wf wt := by
  have hg := grownBy_set wr w.heap.size 3 (.int .i64 c')
  have ho : ∀ i, i ≠ w.heap.size → i < wr.heap.size → (wr.setCell ⟨w.heap.size, 3, none⟩ (.int .i64 c')).heap[i]? = wr.heap[i]? := fun i hi hl => hg.block i hl (fun e => hi (by cases e; rfl))
  have hsl := h.sl
  have hml := h.ml
  have hKW : KW ≠ w.heap.size := fun e => by
    have h1 := h.bw
    have h2 := h.bp
    unfold BoxT at h1 h2
    rw [e, h2] at h1
    simp at h1
  have hgv : ∀ g, gv.ownBlock = some g → g ≠ w.heap.size := fun g e e' => by
    obtain ⟨cu, hcu⟩ := h.gn.has g e
    have h2 := h.bp
    unfold BoxT at h2
    rw [e', h2] at hcu
    simp at hcu
  refine { h with box := h.box.grown hg (by omega), mp := h.mp.back (ho m (by omega) h.mp.lt), om := h.om.back (fun i hi => ho i (fun e => h.n1 (e ▸ hi)) (h.om.flt i hi)) hg.size, ft := ⟨hg.os.trans h.ft.os, hg.tape.trans h.ft.tape, hg.output.trans h.ft.output, Nat.le_trans h.ft.size hg.size, fun i hi hn => (ho i (by omega) (Nat.lt_of_lt_of_le hi h.ft.size)).trans (h.ft.block i hi hn), h.ft.sub⟩, bp := ?_, br := h.br.grown hg (by omega), bw := h.bw.grown hg hKW, gn := h.gn.back (fun g e => ho g (hgv g e) (h.gn.lt g e)) }
  have := h.bp.set 3 (.int .i64 c')
  simpa using this
theorem GS.del (h : GS w wr s m o size slide ag fq fq' R' N gv gone KW k f t c wf wt) {N' : List Pn} (hm : MapAt Tryz.prog 150 w' m (N'.map pEnt)) (ht : MTurn wr w' m) : GS w w' s m o size slide ag fq fq' R' N' gv gone KW k f t c wf wt := by
  have hg := ht.grown
  have ho : ∀ i, i ≠ m → w'.heap[i]? = wr.heap[i]? := fun i hi => ht.other hi
  have nb : ∀ {ty : TypeId} {i : Nat} {cs : Array Value}, BoxT ty wr i cs → i ≠ m := fun {ty i cs} hb e => by
    obtain ⟨es, ck, h1⟩ := h.mp.isMap
    unfold BoxT at hb
    rw [e, h1] at hb
    cases hb
  have bk : ∀ {ty : TypeId} {i : Nat} {cs : Array Value}, BoxT ty wr i cs → BoxT ty w' i cs := fun {ty i cs} hb => by
    have h1 := ho i (nb hb)
    unfold BoxT at *
    rw [h1]; exact hb
  refine { h with box := bk h.box, mp := hm, om := h.om.back (fun i hi => ho i (fun e => h.nm (e ▸ hi))) hg.size, ft := ⟨hg.os.trans h.ft.os, hg.tape.trans h.ft.tape, hg.output.trans h.ft.output, Nat.le_trans h.ft.size hg.size, fun i hi hn => (ho i (fun e => hn (.inr (.inl e)))).trans (h.ft.block i hi hn), h.ft.sub⟩, bp := bk h.bp, br := bk h.br, bw := bk h.bw, gn := h.gn.back (fun g e => ?_) }
  obtain ⟨cu, hcu⟩ := h.gn.has g e
  exact ho g (nb (ty := 72) (cs := cu) hcu)
end
theorem cell_alloc {w : World} {a : Addr} {v : Value} (h : w.cell? a = some v) (o : Obj) : (w.alloc o).cell? a = some v := by
  have hl : a.block < w.heap.size := by
    rcases Nat.lt_or_ge a.block w.heap.size with h1 | h1
    · exact h1
    · rw [World.cell?, Array.getElem?_eq_none h1] at h; cases h
  rw [World.cell?] at h ⊢
  rw [Below.heap_alloc w o _ hl]; exact h
theorem cell_set2 {w : World} {a : Addr} {v : Value} {K : Nat} (h : w.cell? a = some v) (hK : a.block ≠ K) (x y : Value) : ((w.setCell ⟨K, 0, none⟩ x).setCell ⟨K, 1, none⟩ y).cell? a = some v := by
  have hl : a.block < w.heap.size := by
    rcases Nat.lt_or_ge a.block w.heap.size with h1 | h1
    · exact h1
    · rw [World.cell?, Array.getElem?_eq_none h1] at h; cases h
  have hg := grownBy_trans (grownBy_set w K 0 x) (grownBy_set _ K 1 y)
  rw [World.cell?] at h ⊢
  rw [hg.block _ hl (fun e => hK (by cases e; rfl))]; exact h
def S1 (s o K : Nat) (k f t : Int) (w' : World) : Prop := w'.cell? ⟨s, 5, none⟩ = some (.map (some o)) ∧ w'.cell? ⟨K, 0, none⟩ = some (.int .i64 k) ∧ w'.cell? ⟨K, 1, none⟩ = some (.int .i64 f) ∧ w'.cell? ⟨K, 2, none⟩ = some (.int .i64 t)
theorem S1.alloc {s o K : Nat} {k f t : Int} {w' : World} (h : S1 s o K k f t w') (ob : Obj) : S1 s o K k f t (w'.alloc ob) := ⟨cell_alloc h.1 _, cell_alloc h.2.1 _, cell_alloc h.2.2.1 _, cell_alloc h.2.2.2 _⟩
theorem S1.set {s o K Q : Nat} {k f t : Int} {w' : World} (h : S1 s o K k f t w') (h1 : s ≠ Q) (h2 : K ≠ Q) (x y : Value) : S1 s o K k f t ((w'.setCell ⟨Q, 0, none⟩ x).setCell ⟨Q, 1, none⟩ y) := ⟨cell_set2 h.1 h1 _ _, cell_set2 h.2.1 h2 _ _, cell_set2 h.2.2.1 h2 _ _, cell_set2 h.2.2.2 h2 _ _⟩
def S6 (s m K P : Nat) (ag c xk xf xt xa : Int) (w' : World) : Prop := w'.cell? ⟨s, 3, none⟩ = some (.int .i64 ag) ∧ w'.cell? ⟨s, 4, none⟩ = some (.map (some m)) ∧ w'.cell? ⟨P, 0, none⟩ = some (.int .i64 xk) ∧ w'.cell? ⟨P, 1, none⟩ = some (.int .i64 xf) ∧ w'.cell? ⟨P, 2, none⟩ = some (.int .i64 xt) ∧ w'.cell? ⟨K, 3, none⟩ = some (.int .i64 c) ∧ (Instr.lookup 113 (.map (some m)) (.agg #[.int .i64 xk, .int .i64 xf, .int .i64 xt]) false).run Tryz.prog w' = .ok (.int .i64 xa) w'
theorem Turned.setB (k b : Nat) (w : World) (j : Nat) (u : Value) : Turned k b w (w.setCell ⟨b, j, none⟩ u) :=
  ⟨rfl, rfl, rfl, by simp, fun i _ _ h1 => Below.heap_setCell w ⟨b, j, none⟩ u i h1⟩
theorem GS.fin {w wr w' : World} {s m o : Nat} {size slide ag : Int} {fq fq' : Nat → Prop} {R' : List SRow} {N : List Pn} {gv : Value} {gone : List Sp} {KW : Nat} {k f t c wf wt : Int} (h : GS w wr s m o size slide ag fq fq' R' N gv gone KW k f t c wf wt) (hT : Turned w.heap.size (w.heap.size + 1) wr w') :
    BoxT 117 w' s #[.int .i64 3, .int .i64 size, .int .i64 slide, .int .i64 ag, .map (some m), .map (some o)] ∧ MapAt Tryz.prog 150 w' m (N.map pEnt) ∧ OM w' o fq' R' ∧ FT (FP s m fq) (FP s m fq') w w' := by
  have hsl := h.sl
  have hml := h.ml
  refine ⟨?_, h.mp.back (hT.block m h.mp.lt (by omega) (by omega)), h.om.back (fun i hi => hT.block i (h.om.flt i hi) (fun e => h.n1 (e ▸ hi)) (fun e => h.n2 (e ▸ hi))) hT.size, ⟨hT.os.trans h.ft.os, hT.tape.trans h.ft.tape, hT.output.trans h.ft.output, Nat.le_trans h.ft.size hT.size, fun i hi hn => (hT.block i (Nat.lt_of_lt_of_le hi h.ft.size) (by omega) (by omega)).trans (h.ft.block i hi hn), h.ft.sub⟩⟩
  have h1 := h.box
  have h2 := hT.block s h1.lt (by omega) (by omega)
  unfold BoxT at *
  rw [h2]; exact h1
def S7 (s m P : Nat) (xk xf xt : Int) (w' : World) : Prop := w'.cell? ⟨s, 4, none⟩ = some (.map (some m)) ∧ w'.cell? ⟨P, 0, none⟩ = some (.int .i64 xk) ∧ w'.cell? ⟨P, 1, none⟩ = some (.int .i64 xf) ∧ w'.cell? ⟨P, 2, none⟩ = some (.int .i64 xt)
theorem step_del_run {P : Program} {w : World} {ops : Array Oper} {o : Oper} {a : Act} {K : Act → World → Prop} {Q : Exit → Act → World → Prop} {E : Prop} (hgd : o.guard = none) (m x : Operand) (t k : TypeId) (hop : o.op = Op.call { callee := Callee.builtin Builtin.delete, args := #[m, x], argTypes := #[t, k] }) (mv kv : Value) (hm : a.eval m = mv) (hx : a.eval x = kv) {w' : World} (hrun : (Builtin.delete_ #[t, k] o.type #[mv, kv]).run P w = .ok (.tuple #[]) w')
    (h : K (a.put o.dst (.tuple #[])) w') : if Region.wanted o (yielded ops a.tmps) = true then Oper.wp P o a w K Q else E := by
  have hw : Region.wanted o (yielded ops a.tmps) = true := by simp [Region.wanted, hgd]
  rw [if_pos hw]
  unfold Oper.wp
  simp [execOp, hop, resolve, invoke, builtin, hm, hx, hrun, Result.andThen]
  exact h
theorem step_put_run {P : Program} {w : World} {ops : Array Oper} {o : Oper} {a : Act} {K : Act → World → Prop} {Q : Exit → Act → World → Prop} {E : Prop} (hgd : o.guard = none) (m x v : Operand) (t : TypeId) (hop : o.op = Op.mapUpdate t m x v) (mv kv vv : Value) (hm : a.eval m = mv) (hx : a.eval x = kv) (hv : a.eval v = vv) {w' : World} (hrun : (Instr.mapUpdate t mv kv vv).run P w = .ok () w')
    (h : K (a.put o.dst undef) w') : if Region.wanted o (yielded ops a.tmps) = true then Oper.wp P o a w K Q else E := by
  have hw : Region.wanted o (yielded ops a.tmps) = true := by simp [Region.wanted, hgd]
  rw [if_pos hw]
  unfold Oper.wp
  simp [execOp, hop, hm, hx, hv, hrun, Result.andThen]
  exact h
theorem GS.start {w W1 Wa w2 w3 : World} {s m o : Nat} {size slide ag : Int} {fq : Nat → Prop} {M : List Pn} {R R' : List SRow} {gv v' : Value} {gone : List Sp} {KW : Nat} {k f t c wf wt : Int} (h : StAt w s m o 3 size slide ag fq M R)
    (hW1 : W1 = (w.alloc (.cells #[.int .i64 k, .int .i64 f, .int .i64 t, .int .i64 c] 79)).alloc (.cells #[.int .i64 0, .int .i64 0, .int .i64 0, .int .i64 0] 79)) (hWa : Below W1.heap.size W1 Wa)
    (hom : OM w2 o (fun i => fq i ∨ v'.ownBlock = some i) R') (hft : FT fq (fun i => fq i ∨ v'.ownBlock = some i) Wa w2) (hgn : OwnL 72 2 Sp.cs Wa.heap.size w2 gv gone)
    (h3 : w2.grownBy w3 (some KW)) (hKW : W1.heap.size ≤ KW) (hKv : KW < Wa.heap.size ∨ w2.heap.size ≤ KW) (hbw : BoxT 72 w3 KW #[.int .i64 wf, .int .i64 wt]) :
    GS w w3 s m o size slide ag fq (fun i => fq i ∨ v'.ownBlock = some i) R' M gv gone KW k f t c wf wt := by
  have hb1 : Below w.heap.size w W1 := by rw [hW1]; exact below_box2 w _ _
  have hs1 : W1.heap.size = w.heap.size + 2 := by rw [hW1]; simp
  have hp1 : BoxT 79 W1 w.heap.size #[.int .i64 k, .int .i64 f, .int .i64 t, .int .i64 c] := by rw [hW1]; exact BoxT.alloc (t := 79) (BoxT.new _ _ _) _
  have hp2 : BoxT 79 W1 (w.heap.size + 1) #[.int .i64 0, .int .i64 0, .int .i64 0, .int .i64 0] := by rw [hW1]; exact BoxT.new_at (t := 79) (by simp)
  have hsl := h.box.lt
  have hml := h.mp.lt
  have sa := hWa.size
  have s2 := hft.size
  have s3 := h3.size
  have nq : ∀ i, w.heap.size ≤ i → ¬ fq i := fun i hi e => by have := h.om.flt i e; omega
  have st : ∀ i, i < w.heap.size + 2 → ¬ fq i → w3.heap[i]? = W1.heap[i]? := fun i hi hn => by
    rw [h3.block i (by omega) (fun e => by cases e; omega), hft.block i (by omega) hn]
    exact hWa.block i (by omega)
  have bx : ∀ {ty : TypeId} {i : Nat} {cs : Array Value}, BoxT ty W1 i cs → i < w.heap.size + 2 → ¬ fq i → BoxT ty w3 i cs := fun {ty i cs} hb hi hn => by
    unfold BoxT at *
    rw [st i hi hn]; exact hb
  have nv : ∀ i, i < Wa.heap.size → ¬ fq i → ¬ (fq i ∨ v'.ownBlock = some i) := fun i hi hn e => by
    rcases hft.sub i e with e | e
    · exact hn e
    · omega
  have nK : ∀ i, (fq i ∨ v'.ownBlock = some i) → i ≠ KW := fun i hi e => by
    subst e
    rcases hKv with e2 | e2
    · exact nv _ e2 (nq _ (by omega)) hi
    · have := hom.flt _ hi; omega
  exact
    { box := bx (BoxT.below (t := 117) h.box hb1) (by omega) h.ns
      mp := (h.mp.back (hb1.block m h.mp.lt)).back (st m (by omega) h.nm)
      om := hom.back (fun i hi => h3.block i (hom.flt i hi) (fun e => nK i hi (by cases e; rfl))) s3
      ft := ⟨h3.os.trans (hft.os.trans (hWa.os.trans hb1.os)), h3.tape.trans (hft.tape.trans (hWa.tape.trans hb1.tape)), h3.output.trans (hft.output.trans (hWa.output.trans hb1.output)), by omega, fun i hi hn => by
        rw [st i (by omega) (fun e => hn (.inr (.inr e)))]; exact hb1.block i hi, fun i hi => by
        rcases hi with e | e | e
        · exact .inl (.inl e)
        · exact .inl (.inr (.inl e))
        · rcases hft.sub i e with e | e
          · exact .inl (.inr (.inr e))
          · exact .inr (by omega)⟩
      bp := bx hp1 (by omega) (nq _ (Nat.le_refl _))
      br := bx hp2 (by omega) (nq _ (by omega))
      bw := hbw
      gn := (hgn.mono (by omega)).back (fun g e => h3.block g (hgn.lt g e) (fun e' => by
        cases e'
        rcases hKv with e2 | e2
        · have := hgn.at _ e; omega
        · have := hgn.lt _ e; omega))
      ns := nv s (by omega) h.ns, nm := nv m (by omega) h.nm, n1 := nv _ (by omega) (nq _ (Nat.le_refl _)), n2 := nv _ (by omega) (nq _ (by omega)), sl := hsl, ml := hml }
def GPost (w : World) (s m o : Nat) (size slide ag : Int) (fq : Nat → Prop) (M : List Pn) (R : List SRow) (k f t c : Int) (e : Ending) (w' : World) : Prop := ∃ a b l v v' R0 G N, RowOf R R0 k v l ∧ AddR l f t a b ∧ GI M k ((l.take b).drop a) ((l.take b).drop a).length G N ∧
      e = .returned (.agg #[.int .i64 k, .int .i64 (whl ⟨f, t⟩ l a b).f, .int .i64 (whl ⟨f, t⟩ l a b).t, .int .i64 (G.foldl (fun a x => jn ag x.a a) c)]) ∧
      BoxT 117 w' s #[.int .i64 3, .int .i64 size, .int .i64 slide, .int .i64 ag, .map (some m), .map (some o)] ∧ MapAt Tryz.prog 150 w' m (N.map pEnt) ∧ OM w' o (fun i => fq i ∨ v'.ownBlock = some i) (⟨k, v', l.take a ++ whl ⟨f, t⟩ l a b :: l.drop b⟩ :: R0) ∧ FT (FP s m fq) (FP s m (fun i => fq i ∨ v'.ownBlock = some i)) w w' ∧ ¬ (fq s ∨ v'.ownBlock = some s) ∧ ¬ (fq m ∨ v'.ownBlock = some m)
set_option maxHeartbeats 8000000 in
set_option maxRecDepth 100000 in
theorem gathered_any {w : World} {s m o : Nat} {size slide ag : Int} {fq : Nat → Prop} {M : List Pn} {R : List SRow} {k f t c : Int} (h : StAt w s m o 3 size slide ag fq M R) (hk : In64 k) (hf : f < t) (hM : M.length ≤ 100000) :
    Calls Tryz.prog 113 #[.pointer (some ⟨s, 0, none⟩), .agg #[.int .i64 k, .int .i64 f, .int .i64 t, .int .i64 c]] w (GPost w s m o size slide ag fq M R k f t c) := by
  obtain ⟨R0, v, l, hr⟩ := rowOf R k
  have hlrow : ∀ sp ∈ l, sp.f < sp.t ∧ ∃ x ∈ M, x.k = k ∧ x.f = sp.f ∧ x.t = sp.t := fun sp hsp => by
    rcases hr with ⟨_, _, _, rfl⟩ | hp
    · cases hsp
    · exact h.inv.dn _ (hp.mem_iff.2 (List.mem_cons_self ..)) sp hsp
  have hrise : l.Pairwise fun a b => a.t ≤ b.f := by
    rcases hr with ⟨_, _, _, rfl⟩ | hp
    · exact .nil
    · exact h.inv.rise _ (hp.mem_iff.2 (List.mem_cons_self ..))
  have hll : l.length ≤ M.length := by
    obtain ⟨G, N, hg⟩ := GI.ex (M := M) (k := k) (fun sp hsp => (hlrow sp hsp).2) (fun sp hsp => (hlrow sp hsp).1) hrise l.length (Nat.le_refl _)
    exact hg.le
  have hb1 := below_box2 w (.cells #[.int .i64 k, .int .i64 f, .int .i64 t, .int .i64 c] 79) (.cells #[.int .i64 0, .int .i64 0, .int .i64 0, .int .i64 0] 79)
  obtain ⟨W1, hW1⟩ : ∃ W1, W1 = ((w.alloc (.cells #[.int .i64 k, .int .i64 f, .int .i64 t, .int .i64 c] 79)).alloc (.cells #[.int .i64 0, .int .i64 0, .int .i64 0, .int .i64 0] 79)) := ⟨_, rfl⟩
  rw [← hW1] at hb1
  have hst := h.below (fun i hi => hb1.block i (h.flt i hi)) hb1.size
  have HADD : Hid (∀ w', Below W1.heap.size W1 w' → Calls Tryz.prog 124 #[.map (some o), .int .i64 k, .agg #[.int .i64 f, .int .i64 t]] w' fun e w'' => ∃ a b gv v', AddR l f t a b ∧ e = .returned (.tuple #[(whl ⟨f, t⟩ l a b).val, gv]) ∧ OwnL 72 2 Sp.cs w'.heap.size w'' gv ((l.take b).drop a) ∧ OM w'' o (fun i => fq i ∨ v'.ownBlock = some i) (⟨k, v', l.take a ++ whl ⟨f, t⟩ l a b :: l.drop b⟩ :: R0) ∧ FT fq (fun i => fq i ∨ v'.ownBlock = some i) w' w'') := fun w' hb => oadd_any (hst.om.below hb) hk hr hf hrise (fun sp hsp => (hlrow sp hsp).1) (by omega)
  obtain ⟨_, _, _, _, _, y5⟩ := hst.cells
  have hpb : BoxT 79 W1 w.heap.size #[.int .i64 k, .int .i64 f, .int .i64 t, .int .i64 c] := by rw [hW1]; exact BoxT.alloc (t := 79) (BoxT.new _ _ _) _
  obtain ⟨x0, x1, x2, _⟩ := hpb.cells4
  have hs1 : W1.heap.size = w.heap.size + 2 := by rw [hW1]; simp
  have HS1 : Hid (S1 s o w.heap.size k f t W1) := ⟨y5, x0, x1, x2⟩
  have HKC : Hid (∀ Wa w' v', Below W1.heap.size W1 Wa → FT fq (fun i => fq i ∨ v' = some i) Wa w' → S1 s o w.heap.size k f t w') := fun Wa w' v' hba hft => by
    have hsl := h.box.lt
    have sa := hba.size
    have nq : ∀ i, w.heap.size ≤ i → ¬ fq i := fun i hi e => by have := h.om.flt i e; omega
    have c5 : BoxT 117 w' s #[.int .i64 3, .int .i64 size, .int .i64 slide, .int .i64 ag, .map (some m), .map (some o)] := by have hbx := hst.box; unfold BoxT at *; rw [hft.block s (by omega) h.ns, hba.block s (by omega)]; exact hbx
    have cp : BoxT 79 w' w.heap.size #[.int .i64 k, .int .i64 f, .int .i64 t, .int .i64 c] := by unfold BoxT at *; rw [hft.block w.heap.size (by omega) (nq _ (Nat.le_refl _)), hba.block _ (by omega)]; exact hpb
    exact ⟨by rw [c5.cellAt]; rfl, by rw [cp.cellAt]; rfl, by rw [cp.cellAt]; rfl, by rw [cp.cellAt]; rfl⟩
  have HSL := hide h.box.lt
  have HST := hide h
  have HLR := hide hlrow
  have HRI := hide hrise
  have HR := hide hr
  have HB1 := hide hb1
  have HW1 := hide hW1
  have HSZ := hide hs1
  clear h hst hr hlrow hrise hb1 hpb y5 x0 x1 x2 hs1
  go_enter Tryz.func113, Tryz.ntmps113
  go_upto_region 1 with fail
  rw [← hW1]
  clear hW1
  go_cut [5, 6] from 10 to 21 (fun p5 p6 wc => ∃ (a b KW : Nat) (gv v' : Value), p5 = .pointer (some ⟨KW, 0, none⟩) ∧ p6 = gv ∧ Hid (AddR l f t a b) ∧ Hid (GS w wc s m o size slide ag fq (fun i => fq i ∨ v'.ownBlock = some i) (⟨k, v', l.take a ++ whl ⟨f, t⟩ l a b :: l.drop b⟩ :: R0) M gv ((l.take b).drop a) KW k f t c (whl ⟨f, t⟩ l a b).f (whl ⟨f, t⟩ l a b).t))
  case first =>
    refine wp_region_M (S := fun w' => S1 s o w.heap.size k f t w') (late := []) (by kernel_rfl) HS1.out (fun hHeld => ?_)
    (try simp only [List.size_toArray, List.length_cons, List.length_nil, Nat.zero_add, Nat.reduceAdd, Array.replicate, List.replicate])
    refine wpAnyM_take (i := 0) (oi := ⟨_, _, _, _, _, _⟩) (v := ?_) rfl (by kernel_rfl) (by kernel_rfl) (by kernel_rfl) (by kernel_rfl) (fun _ _ _ h => h) (Or.inl ⟨by rfl, ?_⟩) hHeld ?_
    rotate_left
    · (intro w' hSw; unfold S1 at hSw; go_simp; try (with_reducible rfl))
    (try simp only [Act.put, List.setIfInBounds_toArray, List.set_cons_zero, List.set_cons_succ])
    refine wpAnyM_take (i := 1) (oi := ⟨_, _, _, _, _, _⟩) (v := ?_) rfl (by kernel_rfl) (by kernel_rfl) (by kernel_rfl) (by kernel_rfl) (fun _ _ _ h => h) (Or.inl ⟨by rfl, ?_⟩) hHeld ?_
    rotate_left
    · (intro w' hSw; unfold S1 at hSw; go_simp; try (with_reducible rfl))
    (try simp only [Act.put, List.setIfInBounds_toArray, List.set_cons_zero, List.set_cons_succ])
    refine wpAnyM_take (i := 2) (oi := ⟨_, _, _, _, _, _⟩) (v := ?_) rfl (by kernel_rfl) (by kernel_rfl) (by kernel_rfl) (by kernel_rfl) (fun _ _ _ h => h) (Or.inl ⟨by rfl, ?_⟩) hHeld ?_
    rotate_left
    · (intro w' hSw; unfold S1 at hSw; go_simp; try (with_reducible rfl))
    (try simp only [Act.put, List.setIfInBounds_toArray, List.set_cons_zero, List.set_cons_succ])
    refine wpAnyM_take (i := 3) (oi := ⟨_, _, _, _, _, _⟩) (v := ?_) rfl (by kernel_rfl) (by kernel_rfl) (by kernel_rfl) (by kernel_rfl) (fun _ _ _ h => h) (Or.inl ⟨by rfl, ?_⟩) hHeld ?_
    rotate_left
    · (intro w' hSw; unfold S1 at hSw; go_simp; try (with_reducible rfl))
    (try simp only [Act.put, List.setIfInBounds_toArray, List.set_cons_zero, List.set_cons_succ])
    refine wpAnyM_take (i := 4) (oi := ⟨_, _, _, _, _, _⟩) (v := ?_) rfl (by kernel_rfl) (by kernel_rfl) (by kernel_rfl) (by kernel_rfl) (fun _ _ _ h => h) (Or.inl ⟨by rfl, ?_⟩) hHeld ?_
    rotate_left
    · (intro w' hSw; unfold S1 at hSw; go_simp; try (with_reducible rfl))
    (try simp only [Act.put, List.setIfInBounds_toArray, List.set_cons_zero, List.set_cons_succ])
    refine wpAnyM_take (i := 5) (oi := ⟨_, _, _, _, _, _⟩) (v := ?_) rfl (by kernel_rfl) (by kernel_rfl) (by kernel_rfl) (by kernel_rfl) (fun _ _ _ h => h) (Or.inl ⟨by rfl, ?_⟩) hHeld ?_
    rotate_left
    · (intro w' hSw; unfold S1 at hSw; go_simp; try (with_reducible rfl))
    (try simp only [Act.put, List.setIfInBounds_toArray, List.set_cons_zero, List.set_cons_succ])
    refine wpAnyM_take (i := 6) (oi := ⟨_, _, _, _, _, _⟩) (v := ?_) rfl (by kernel_rfl) (by kernel_rfl) (by kernel_rfl) (by kernel_rfl) (fun _ _ _ h => h) (Or.inl ⟨by rfl, ?_⟩) hHeld ?_
    rotate_left
    · (intro w' hSw; unfold S1 at hSw; go_simp; try (with_reducible rfl))
    (try simp only [Act.put, List.setIfInBounds_toArray, List.set_cons_zero, List.set_cons_succ])
    refine wpAnyM_take (i := 7) (oi := ⟨_, _, _, _, _, _⟩) (v := ?_) rfl (by kernel_rfl) (by kernel_rfl) (by kernel_rfl) (by kernel_rfl) (fun _ _ _ h => h) (Or.inl ⟨by rfl, ?_⟩) hHeld ?_
    rotate_left
    · (intro w' hSw; unfold S1 at hSw; go_simp; try (with_reducible rfl))
    (try simp only [Act.put, List.setIfInBounds_toArray, List.set_cons_zero, List.set_cons_succ])
    refine wpAnyM_two (i := 8) (j := 12) (oi := ⟨_, _, _, _, _, _⟩) (oj := ⟨_, _, _, _, _, _⟩) (by kernel_rfl) rfl rfl (fun K hK => ?_) (fun K hK => ?_)
    · go_simp
      go_at_call 124
      refine (HADD.out W1.drew (Below.refl _ _).drew).mono ?_
      rintro e w2 ⟨a, b, gv, v', hA, rfl, hgn, hom, hft⟩
      have HA := hide hA
      have HK2 := hide (HKC.out _ _ _ (Below.refl _ _).drew hft)
      have HG := hide (And.intro hgn (And.intro hom hft))
      refine hK.out _ _ HK2.out (fun hHeld => ?_)
      clear hK K hA hgn hom hft
      unfold Sp.val
      generalize hWH : whl ⟨f, t⟩ l a b = WH at *
      have HWH := hide hWH
      clear hWH
      obtain ⟨wf, wt⟩ := WH
      simp only
      (try simp only [List.setIfInBounds_toArray, List.set_cons_zero, List.set_cons_succ])
      refine wpAnyM_take (i := 9) (oi := ⟨_, _, _, _, _, _⟩) (v := ?_) rfl (by kernel_rfl) (by kernel_rfl) (by kernel_rfl) (by kernel_rfl) (fun _ _ _ h => h) (Or.inl ⟨by rfl, ?_⟩) hHeld ?_
      rotate_left
      · (intro w' hSw; unfold S1 at hSw; go_simp; try (with_reducible rfl))
      (try simp only [Act.put, List.setIfInBounds_toArray, List.set_cons_zero, List.set_cons_succ])
      refine wpAnyM_take (i := 10) (oi := ⟨_, _, _, _, _, _⟩) (v := ?_) rfl (by kernel_rfl) (by kernel_rfl) (by kernel_rfl) (by kernel_rfl) (fun _ _ _ h => h) (Or.inl ⟨by rfl, ?_⟩) hHeld ?_
      rotate_left
      · (intro w' hSw; unfold S1 at hSw; go_simp; try (with_reducible rfl))
      (try simp only [Act.put, List.setIfInBounds_toArray, List.set_cons_zero, List.set_cons_succ])
      refine wpAnyM_take (i := 11) (oi := ⟨_, _, _, _, _, _⟩) (v := ?_) rfl (by kernel_rfl) (by kernel_rfl) (by kernel_rfl) (by kernel_rfl) (fun _ _ _ h => h) (Or.inl ⟨by rfl, ?_⟩) hHeld ?_
      rotate_left
      · (intro w' hSw; unfold S1 at hSw; go_simp; try (with_reducible rfl))
      (try simp only [Act.put, List.setIfInBounds_toArray, List.set_cons_zero, List.set_cons_succ])
      refine wpAnyM_one (i := 12) (o := ⟨_, _, _, _, _, _⟩) (by kernel_rfl) rfl (fun K hK => ?_)
      go_simp
      refine hK.out _ _ (HK2.out.alloc _) (fun hHeld => ?_)
      clear hK K
      (try simp only [List.setIfInBounds_toArray, List.set_cons_zero, List.set_cons_succ])
      refine wpAnyM_one (i := 13) (o := ⟨_, _, _, _, _, _⟩) (by kernel_rfl) rfl (fun K hK => ?_)
      go_simp
      refine hK.out _ _ (HK2.out.alloc _) (fun hHeld => ?_)
      clear hK K
      (try simp only [List.setIfInBounds_toArray, List.set_cons_zero, List.set_cons_succ])
      refine wpAnyM_take (i := 14) (oi := ⟨_, _, _, _, _, _⟩) (v := ?_) rfl (by kernel_rfl) (by kernel_rfl) (by kernel_rfl) (by kernel_rfl) (fun _ _ _ h => h) (Or.inl ⟨by rfl, ?_⟩) hHeld ?_
      rotate_left
      · (intro w' hSw; unfold S1 at hSw; go_simp; try (with_reducible rfl))
      (try simp only [Act.put, List.setIfInBounds_toArray, List.set_cons_zero, List.set_cons_succ])
      refine wpAnyM_done (by kernel_rfl) ?_ _
      go_wp2_with fail
      go_meet
      case rel => exact ⟨a, b, w2.heap.size, gv, v', rfl, rfl, HA, (show GS _ _ _ _ _ _ _ _ _ _ _ _ _ _ _ _ _ _ _ _ _ by rw [HWH.out]; exact GS.start HST.out HW1.out (Below.refl _ _).drew HG.out.2.1 HG.out.2.2 HG.out.1 (grownBy_alloc' w2 _ _) (by have := HG.out.2.2.size; exact this) (.inr (Nat.le_refl _)) (BoxT.new _ _ _))⟩
    · go_simp
      refine hK.out _ _ (HS1.out.alloc _) (fun hHeld => ?_)
      clear hK K
      (try simp only [List.setIfInBounds_toArray, List.set_cons_zero, List.set_cons_succ])
      have HBA : Hid (Below W1.heap.size W1 (W1.alloc (.cells #[.int .i64 0, .int .i64 0] 72)).drew) := (below_box W1 _).drew
      refine wpAnyM_one (i := 8) (o := ⟨_, _, _, _, _, _⟩) (by kernel_rfl) rfl (fun K hK => ?_)
      go_simp
      go_at_call 124
      refine (HADD.out _ HBA.out).mono ?_
      rintro e w2 ⟨a, b, gv, v', hA, rfl, hgn, hom, hft⟩
      have HA := hide hA
      have HK2 := hide (HKC.out _ _ _ HBA.out hft)
      have hbz : BoxT 72 w2 W1.heap.size #[.int .i64 0, .int .i64 0] := by
        have h1 : BoxT 72 (W1.alloc (.cells #[.int .i64 0, .int .i64 0] 72)).drew W1.heap.size #[.int .i64 0, .int .i64 0] := BoxT.new _ _ _
        have h2 := hft.block W1.heap.size (by simp [World.drew]) (fun e => by have := HST.out.om.flt _ e; have := HSZ.out; omega)
        unfold BoxT at *
        rw [h2]; exact h1
      have HBZ := hide hbz
      obtain ⟨z0, z1⟩ := hbz.cells2
      have zf := fun j => hbz.free j
      clear hbz
      have HG := hide (And.intro hgn (And.intro hom hft))
      refine hK.out _ _ HK2.out (fun hHeld => ?_)
      clear hK K hA hgn hom hft
      unfold Sp.val
      generalize hWH : whl ⟨f, t⟩ l a b = WH at *
      have HWH := hide hWH
      clear hWH
      obtain ⟨wf, wt⟩ := WH
      simp only
      (try simp only [List.setIfInBounds_toArray, List.set_cons_zero, List.set_cons_succ])
      refine wpAnyM_take (i := 9) (oi := ⟨_, _, _, _, _, _⟩) (v := ?_) rfl (by kernel_rfl) (by kernel_rfl) (by kernel_rfl) (by kernel_rfl) (fun _ _ _ h => h) (Or.inl ⟨by rfl, ?_⟩) hHeld ?_
      rotate_left
      · (intro w' hSw; unfold S1 at hSw; go_simp; try (with_reducible rfl))
      (try simp only [Act.put, List.setIfInBounds_toArray, List.set_cons_zero, List.set_cons_succ])
      refine wpAnyM_take (i := 10) (oi := ⟨_, _, _, _, _, _⟩) (v := ?_) rfl (by kernel_rfl) (by kernel_rfl) (by kernel_rfl) (by kernel_rfl) (fun _ _ _ h => h) (Or.inl ⟨by rfl, ?_⟩) hHeld ?_
      rotate_left
      · (intro w' hSw; unfold S1 at hSw; go_simp; try (with_reducible rfl))
      (try simp only [Act.put, List.setIfInBounds_toArray, List.set_cons_zero, List.set_cons_succ])
      refine wpAnyM_take (i := 11) (oi := ⟨_, _, _, _, _, _⟩) (v := ?_) rfl (by kernel_rfl) (by kernel_rfl) (by kernel_rfl) (by kernel_rfl) (fun _ _ _ h => h) (Or.inl ⟨by rfl, ?_⟩) hHeld ?_
      rotate_left
      · (intro w' hSw; unfold S1 at hSw; go_simp; try (with_reducible rfl))
      (try simp only [Act.put, List.setIfInBounds_toArray, List.set_cons_zero, List.set_cons_succ])
      refine wpAnyM_one (i := 13) (o := ⟨_, _, _, _, _, _⟩) (by kernel_rfl) rfl (fun K hK => ?_)
      go_simp
      refine hK.out _ _ (HK2.out.set (by have := HSL.out; have := HSZ.out; omega) (by have := HSZ.out; omega) _ _) (fun hHeld => ?_)
      clear hK K
      (try simp only [List.setIfInBounds_toArray, List.set_cons_zero, List.set_cons_succ])
      refine wpAnyM_take (i := 14) (oi := ⟨_, _, _, _, _, _⟩) (v := ?_) rfl (by kernel_rfl) (by kernel_rfl) (by kernel_rfl) (by kernel_rfl) (fun _ _ _ h => h) (Or.inl ⟨by rfl, ?_⟩) hHeld ?_
      rotate_left
      · (intro w' hSw; unfold S1 at hSw; go_simp; try (with_reducible rfl))
      (try simp only [Act.put, List.setIfInBounds_toArray, List.set_cons_zero, List.set_cons_succ])
      refine wpAnyM_done (by kernel_rfl) ?_ _
      go_wp2_with fail
      go_meet
      case rel => exact ⟨a, b, W1.heap.size, gv, v', rfl, rfl, HA, (show GS _ _ _ _ _ _ _ _ _ _ _ _ _ _ _ _ _ _ _ _ _ by rw [HWH.out]; exact GS.start HST.out HW1.out HBA.out HG.out.2.1 HG.out.2.2 HG.out.1 (grownBy_trans (grownBy_set _ _ _ _) (grownBy_set _ _ _ _)) (Nat.le_refl _) (.inl (by simp [World.drew])) (by have := (HBZ.out.set 0 (.int .i64 wf)).set 1 (.int .i64 wt); simpa using this))⟩
  case rest =>
    obtain ⟨a, b, KW, gv, v', rfl, rfl, HA, HGS⟩ := hcut
    obtain ⟨gone, hgone⟩ : ∃ gone, gone = (l.take b).drop a := ⟨_, rfl⟩
    have HGO := hide hgone
    rw [← hgone] at HGS
    have hsub : ∀ sp ∈ gone, sp ∈ l := fun sp hsp => by rw [hgone] at hsp; exact List.mem_of_mem_take (List.mem_of_mem_drop hsp)
    have HDN : Hid (∀ sp ∈ gone, ∃ x ∈ M, x.k = k ∧ x.f = sp.f ∧ x.t = sp.t) := fun sp hsp => (HLR.out sp (hsub sp hsp)).2
    have HFU : Hid (∀ sp ∈ gone, sp.f < sp.t) := fun sp hsp => (HLR.out sp (hsub sp hsp)).1
    have HRG : Hid (gone.Pairwise fun a b => a.t ≤ b.f) := (show List.Pairwise _ _ by rw [hgone]; exact (HRI.out.sublist (List.take_sublist ..)).sublist (List.drop_sublist ..))
    have hgl : gone.length ≤ 100000 := by
      obtain ⟨G, N, hg⟩ := GI.ex HDN.out HFU.out HRG.out gone.length (Nat.le_refl _)
      exact Nat.le_trans hg.le hM
    clear hgone hsub
    obtain ⟨ga, gc, rfl⟩ := HGS.out.gn.shape
    generalize hWH : whl ⟨f, t⟩ l a b = WH at *
    have HWH := hide hWH
    clear hWH
    obtain ⟨wf, wt⟩ := WH
    generalize hRR : (⟨k, v', l.take a ++ (⟨wf, wt⟩ : Sp) :: l.drop b⟩ :: R0 : List SRow) = RR at *
    have HRR := hide hRR
    clear hRR
    generalize hFQ : (fun i => fq i ∨ v'.ownBlock = some i) = FQ at *
    have HFQ := hide hFQ
    clear hFQ
    simp only at HGS
    go_wp2_with fail
    go_loopg [24] (gone.length + 1) (fun gh iv wr => ∃ (i : Nat) (G N : List Pn), iv = .int .i64 (i : Int) ∧ i ≤ gone.length ∧ gone.length + 1 ≤ gh + i ∧ Hid (GI M k gone i G N) ∧ Hid (GS w wr s m o size slide ag fq FQ RR N (.slice ga gone.length gc) gone KW k f t (G.foldl (fun a x => jn ag x.a a) c) wf wt))
    case atStart => exact ⟨0, [], M, rfl, by omega, by omega, ⟨.refl _, rfl, fun q x s h => by simp at h⟩, HGS⟩
    case round =>
      clear HGS
      obtain ⟨i, G, N, rfl, hi, hg, HGI, HG⟩ := hrel
      obtain ⟨go, rfl⟩ : ∃ go, gk = go + 1 := ⟨gk - 1, by omega⟩
      by_cases hlt : i < gone.length
      · obtain ⟨sp, hsp⟩ := get_of_lt hlt
        have bt : (i : Int) < (gone.length : Int) := by omega
        obtain ⟨nb, no, rfl, nlt, e0, e1⟩ := (HG.out.gn.seg Sp.cs_len (by omega)).span hsp
        obtain ⟨x, N', x1, x2, x3, x4, hN, hGI⟩ := HGI.out.next HDN.out HFU.out HRG.out hsp
        have HN := hide hN
        have HGI2 := hide hGI
        have hpx := HST.out.ok x x4
        have HPX := hide hpx
        clear hN hGI hsp x4 hpx
        obtain ⟨xk, xf, xt, xa⟩ := x
        obtain ⟨sf, sto⟩ := sp
        simp only at x1 x2 x3 e0 e1
        subst x1 x2 x3
        have HFO : Hid ((G ++ [(⟨xk, xf, xt, xa⟩ : Pn)]).foldl (fun a x => jn ag x.a a) c = jn ag xa (G.foldl (fun a x => jn ag x.a a) c)) := (show _ = _ by rw [List.foldl_append]; rfl)
        generalize hC : G.foldl (fun a x => jn ag x.a a) c = C at *
        clear hC
        obtain ⟨WB, hWB⟩ : ∃ WB, WB = (wr.alloc (.cells #[.int .i64 xf, .int .i64 xt] 72)).alloc (.cells #[.int .i64 xk, .int .i64 xf, .int .i64 xt] 150) := ⟨_, rfl⟩
        have hbb : Below wr.heap.size wr WB := by rw [hWB]; exact below_box2 wr _ _
        have HGB := hide (HG.out.below hbb)
        have hpl : BoxT 150 WB (wr.heap.size + 1) #[.int .i64 xk, .int .i64 xf, .int .i64 xt] := by rw [hWB]; exact BoxT.new_at (t := 150) (by simp)
        have HPL := hide hpl
        clear hbb hpl
        obtain ⟨c3, c4, cc0, cc3⟩ := HG.out.cells
        have HMG : Hid (∀ w', Below WB.heap.size WB w' → Calls Tryz.prog 114 #[.int .i64 ag, .int .i64 xa, .int .i64 C] w' fun e w'' => e = .returned (.int .i64 (jn ag xa C)) ∧ Below WB.heap.size WB w'') := fun w' hb => (Merge_any w' ag xa C).mono (by rintro e w'' ⟨rfl, h2⟩; exact ⟨rfl, hb.trans (h2.mono hb.size)⟩)
        generalize hJ : jn ag xa C = J at *
        clear hJ
        have HKC2 : Hid (∀ w', Below WB.heap.size WB w' → S6 s m w.heap.size (wr.heap.size + 1) ag C xk xf xt xa w') := fun w' hb => by
          have h1 := HGB.out.below hb
          obtain ⟨d3, d4, _, d3'⟩ := h1.cells
          have h2 := BoxT.below (t := 150) HPL.out hb
          obtain ⟨p0, p1, p2⟩ := h2.cells3
          obtain ⟨lk, hlk⟩ := HPX.out.key
          exact ⟨d3, d4, p0, p1, p2, d3', h1.mp.look_hit Tryz.lawPl Tryz.underlying113 hlk (R := N'.map pEnt) (by have := HN.out.map pEnt; rwa [List.map_cons] at this) false⟩
        have cc0' := cell_alloc cc0 (.cells #[.int .i64 xf, .int .i64 xt] 72)
        go_upto_region 6 with fail
        rw [← hWB]
        clear hWB
        refine wp_region_M (S := fun w' => S6 s m w.heap.size (wr.heap.size + 1) ag C xk xf xt xa w') (late := [14]) (by kernel_rfl) (HKC2.out _ (Below.refl _ _).drew) (fun hHeld => ?_)
        (try simp only [List.size_toArray, List.length_cons, List.length_nil, Nat.zero_add, Nat.reduceAdd, Array.replicate, List.replicate])
        refine wpAnyM_take (i := 0) (oi := ⟨_, _, _, _, _, _⟩) (v := ?_) rfl (by kernel_rfl) (by kernel_rfl) (by kernel_rfl) (by kernel_rfl) (fun _ _ _ h => h) (Or.inl ⟨by rfl, ?_⟩) hHeld ?_
        rotate_left
        · (intro w' hSw; unfold S6 at hSw; go_simp; try (with_reducible rfl))
        (try simp only [Act.put, List.setIfInBounds_toArray, List.set_cons_zero, List.set_cons_succ])
        refine wpAnyM_take (i := 1) (oi := ⟨_, _, _, _, _, _⟩) (v := ?_) rfl (by kernel_rfl) (by kernel_rfl) (by kernel_rfl) (by kernel_rfl) (fun _ _ _ h => h) (Or.inl ⟨by rfl, ?_⟩) hHeld ?_
        rotate_left
        · (intro w' hSw; unfold S6 at hSw; go_simp; try (with_reducible rfl))
        (try simp only [Act.put, List.setIfInBounds_toArray, List.set_cons_zero, List.set_cons_succ])
        refine wpAnyM_take (i := 2) (oi := ⟨_, _, _, _, _, _⟩) (v := ?_) rfl (by kernel_rfl) (by kernel_rfl) (by kernel_rfl) (by kernel_rfl) (fun _ _ _ h => h) (Or.inl ⟨by rfl, ?_⟩) hHeld ?_
        rotate_left
        · (intro w' hSw; unfold S6 at hSw; go_simp; try (with_reducible rfl))
        (try simp only [Act.put, List.setIfInBounds_toArray, List.set_cons_zero, List.set_cons_succ])
        refine wpAnyM_take (i := 3) (oi := ⟨_, _, _, _, _, _⟩) (v := ?_) rfl (by kernel_rfl) (by kernel_rfl) (by kernel_rfl) (by kernel_rfl) (fun _ _ _ h => h) (Or.inl ⟨by rfl, ?_⟩) hHeld ?_
        rotate_left
        · (intro w' hSw; unfold S6 at hSw; go_simp; try (with_reducible rfl))
        (try simp only [Act.put, List.setIfInBounds_toArray, List.set_cons_zero, List.set_cons_succ])
        refine wpAnyM_take (i := 4) (oi := ⟨_, _, _, _, _, _⟩) (v := ?_) rfl (by kernel_rfl) (by kernel_rfl) (by kernel_rfl) (by kernel_rfl) (fun _ _ _ h => h) (Or.inl ⟨by rfl, ?_⟩) hHeld ?_
        rotate_left
        · (intro w' hSw; unfold S6 at hSw; go_simp; try (with_reducible rfl))
        (try simp only [Act.put, List.setIfInBounds_toArray, List.set_cons_zero, List.set_cons_succ])
        refine wpAnyM_take (i := 5) (oi := ⟨_, _, _, _, _, _⟩) (v := ?_) rfl (by kernel_rfl) (by kernel_rfl) (by kernel_rfl) (by kernel_rfl) (fun _ _ _ h => h) (Or.inl ⟨by rfl, ?_⟩) hHeld ?_
        rotate_left
        · (intro w' hSw; unfold S6 at hSw; go_simp; try (with_reducible rfl))
        (try simp only [Act.put, List.setIfInBounds_toArray, List.set_cons_zero, List.set_cons_succ])
        refine wpAnyM_take (i := 6) (oi := ⟨_, _, _, _, _, _⟩) (v := ?_) rfl (by kernel_rfl) (by kernel_rfl) (by kernel_rfl) (by kernel_rfl) (fun _ _ _ h => h) (Or.inl ⟨by rfl, ?_⟩) hHeld ?_
        rotate_left
        · (intro w' hSw; unfold S6 at hSw; go_simp; try (with_reducible rfl))
        (try simp only [Act.put, List.setIfInBounds_toArray, List.set_cons_zero, List.set_cons_succ])
        refine wpAnyM_take (i := 7) (oi := ⟨_, _, _, _, _, _⟩) (v := ?_) rfl (by kernel_rfl) (by kernel_rfl) (by kernel_rfl) (by kernel_rfl) (fun _ _ _ h => h) (Or.inl ⟨by rfl, ?_⟩) hHeld ?_
        rotate_left
        · (intro w' hSw; unfold S6 at hSw; go_simp; try (with_reducible rfl))
        (try simp only [Act.put, List.setIfInBounds_toArray, List.set_cons_zero, List.set_cons_succ])
        refine wpAnyM_take (i := 8) (oi := ⟨_, _, _, _, _, _⟩) (v := ?_) rfl (by kernel_rfl) (by kernel_rfl) (by kernel_rfl) (by kernel_rfl) (fun _ _ _ h => h) (Or.inl ⟨by rfl, ?_⟩) hHeld ?_
        rotate_left
        · (intro w' hSw; unfold S6 at hSw; go_simp; try (with_reducible rfl))
        (try simp only [Act.put, List.setIfInBounds_toArray, List.set_cons_zero, List.set_cons_succ])
        refine wpAnyM_take (i := 9) (oi := ⟨_, _, _, _, _, _⟩) (v := ?_) rfl (by kernel_rfl) (by kernel_rfl) (by kernel_rfl) (by kernel_rfl) (fun _ _ _ h => h) (Or.inl ⟨by rfl, ?_⟩) hHeld ?_
        rotate_left
        · (intro w' hSw; unfold S6 at hSw; go_simp; try (with_reducible rfl))
        (try simp only [Act.put, List.setIfInBounds_toArray, List.set_cons_zero, List.set_cons_succ])
        refine wpAnyM_take (i := 10) (oi := ⟨_, _, _, _, _, _⟩) (v := ?_) rfl (by kernel_rfl) (by kernel_rfl) (by kernel_rfl) (by kernel_rfl) (fun _ _ _ h => h) (Or.inl ⟨by rfl, ?_⟩) hHeld ?_
        rotate_left
        · (intro w' hSw; unfold S6 at hSw; go_simp; try (with_reducible rfl))
        (try simp only [Act.put, List.setIfInBounds_toArray, List.set_cons_zero, List.set_cons_succ])
        refine wpAnyM_take (i := 11) (oi := ⟨_, _, _, _, _, _⟩) (v := ?_) rfl (by kernel_rfl) (by kernel_rfl) (by kernel_rfl) (by kernel_rfl) (fun _ _ _ h => h) (Or.inl ⟨by rfl, ?_⟩) hHeld ?_
        rotate_left
        · (intro w' hSw; unfold S6 at hSw; go_simp; try (with_reducible rfl))
        (try simp only [Act.put, List.setIfInBounds_toArray, List.set_cons_zero, List.set_cons_succ])
        refine wpAnyM_one (i := 12) (o := ⟨_, _, _, _, _, _⟩) (by kernel_rfl) rfl (fun K hK => ?_)
        go_simp
        go_at_call 114
        refine (HMG.out _ (Below.refl _ _).drew).mono ?_
        rintro e w3 ⟨rfl, b3⟩
        have B3 := hide b3
        refine hK.out _ _ (HKC2.out _ b3) (fun hHeld => ?_)
        clear hK K b3
        (try simp only [List.setIfInBounds_toArray, List.set_cons_zero, List.set_cons_succ])
        refine wpAnyM_take (i := 13) (oi := ⟨_, _, _, _, _, _⟩) (v := ?_) rfl (by kernel_rfl) (by kernel_rfl) (by kernel_rfl) (by kernel_rfl) (fun _ _ _ h => h) (Or.inl ⟨by rfl, ?_⟩) hHeld ?_
        rotate_left
        · (intro w' hSw; unfold S6 at hSw; go_simp; try (with_reducible rfl))
        (try simp only [Act.put, List.setIfInBounds_toArray, List.set_cons_zero, List.set_cons_succ])
        have G3 := hide (HGB.out.below B3.out)
        have hf3 := fun j => G3.out.bp.free j
        have hc3 : w3.cell? ⟨w.heap.size, 3, none⟩ = some (.int .i64 C) := G3.out.cells.2.2.2
        refine wpAnyM_last (i := 14) (o := ⟨_, _, _, _, _, _⟩) (by kernel_rfl) (by kernel_rfl) rfl (fun K hK => ?_)
        go_simp
        refine hK.out _ _ ?_
        clear hK K
        (try simp only [List.setIfInBounds_toArray, List.set_cons_zero, List.set_cons_succ])
        refine wpAnyM_done (by kernel_rfl) ?_ _
        have G4 := hide (G3.out.acc J)
        have P4 : Hid (BoxT 150 (w3.setCell ⟨w.heap.size, 3, none⟩ (.int .i64 J)) (wr.heap.size + 1) #[.int .i64 xk, .int .i64 xf, .int .i64 xt]) := (BoxT.below (t := 150) HPL.out B3.out).grown (grownBy_set _ _ _ _) (by have := HG.out.bp.lt; omega)
        clear hf3 hc3 hHeld
        generalize hw4 : w3.setCell ⟨w.heap.size, 3, none⟩ (.int .i64 J) = w4 at *
        clear hw4
        go_upto_region 7 with fail
        obtain ⟨lk, hlk⟩ := HPX.out.key
        obtain ⟨w5, hrun5, hm5, ht5⟩ := (G4.out.below ((Below.refl _ _).drew)).mp.drop_hit Tryz.lawPl Tryz.underlying113 hlk (R := N'.map pEnt) (by have := HN.out.map pEnt; rwa [List.map_cons] at this) 0
        obtain ⟨_, e4, _, _⟩ := G4.out.cells
        obtain ⟨p0, p1, p2⟩ := P4.out.cells3
        have hS7 : S7 s m (wr.heap.size + 1) xk xf xt w5 := by
          have g5 := (G4.out.below ((Below.refl _ _).drew)).del hm5 ht5
          have hne : wr.heap.size + 1 ≠ m := fun e => by have := HG.out.ml; have := HG.out.ft.size; omega
          have hp : BoxT 150 w5 (wr.heap.size + 1) #[.int .i64 xk, .int .i64 xf, .int .i64 xt] := by have h1 := P4.out; unfold BoxT at *; rw [ht5.other hne]; exact h1
          obtain ⟨q0, q1, q2⟩ := hp.cells3
          exact ⟨g5.cells.2.1, q0, q1, q2⟩
        have HS7 := hide hS7
        have G5 := hide ((G4.out.below ((Below.refl _ _).drew)).del hm5 ht5)
        clear hS7 hm5 ht5
        refine wp_region_M (S := fun w' => S7 s m (wr.heap.size + 1) xk xf xt w') (late := []) (by kernel_rfl) ⟨e4, p0, p1, p2⟩ (fun hHeld => ?_)
        (try simp only [List.size_toArray, List.length_cons, List.length_nil, Nat.zero_add, Nat.reduceAdd, Array.replicate, List.replicate])
        refine wpAnyM_take (i := 0) (oi := ⟨_, _, _, _, _, _⟩) (v := ?_) rfl (by kernel_rfl) (by kernel_rfl) (by kernel_rfl) (by kernel_rfl) (fun _ _ _ h => h) (Or.inl ⟨by rfl, ?_⟩) hHeld ?_
        rotate_left
        · (intro w' hSw; unfold S7 at hSw; go_simp; try (with_reducible rfl))
        (try simp only [Act.put, List.setIfInBounds_toArray, List.set_cons_zero, List.set_cons_succ])
        refine wpAnyM_take (i := 1) (oi := ⟨_, _, _, _, _, _⟩) (v := ?_) rfl (by kernel_rfl) (by kernel_rfl) (by kernel_rfl) (by kernel_rfl) (fun _ _ _ h => h) (Or.inl ⟨by rfl, ?_⟩) hHeld ?_
        rotate_left
        · (intro w' hSw; unfold S7 at hSw; go_simp; try (with_reducible rfl))
        (try simp only [Act.put, List.setIfInBounds_toArray, List.set_cons_zero, List.set_cons_succ])
        refine wpAnyM_take (i := 2) (oi := ⟨_, _, _, _, _, _⟩) (v := ?_) rfl (by kernel_rfl) (by kernel_rfl) (by kernel_rfl) (by kernel_rfl) (fun _ _ _ h => h) (Or.inl ⟨by rfl, ?_⟩) hHeld ?_
        rotate_left
        · (intro w' hSw; unfold S7 at hSw; go_simp; try (with_reducible rfl))
        (try simp only [Act.put, List.setIfInBounds_toArray, List.set_cons_zero, List.set_cons_succ])
        refine wpAnyM_take (i := 3) (oi := ⟨_, _, _, _, _, _⟩) (v := ?_) rfl (by kernel_rfl) (by kernel_rfl) (by kernel_rfl) (by kernel_rfl) (fun _ _ _ h => h) (Or.inl ⟨by rfl, ?_⟩) hHeld ?_
        rotate_left
        · (intro w' hSw; unfold S7 at hSw; go_simp; try (with_reducible rfl))
        (try simp only [Act.put, List.setIfInBounds_toArray, List.set_cons_zero, List.set_cons_succ])
        refine wpAnyM_take (i := 4) (oi := ⟨_, _, _, _, _, _⟩) (v := ?_) rfl (by kernel_rfl) (by kernel_rfl) (by kernel_rfl) (by kernel_rfl) (fun _ _ _ h => h) (Or.inl ⟨by rfl, ?_⟩) hHeld ?_
        rotate_left
        · (intro w' hSw; unfold S7 at hSw; go_simp; try (with_reducible rfl))
        (try simp only [Act.put, List.setIfInBounds_toArray, List.set_cons_zero, List.set_cons_succ])
        refine wpAnyM_one (i := 5) (o := ⟨_, _, _, _, _, _⟩) (by kernel_rfl) rfl (fun K hK => ?_)
        refine step_del_run rfl _ _ 113 150 rfl _ _ rfl rfl hrun5 ?_
        refine hK.out _ _ HS7.out (fun hHeld => ?_)
        clear hK K
        (try simp only [List.setIfInBounds_toArray, List.set_cons_zero, List.set_cons_succ])
        refine wpAnyM_done (by kernel_rfl) ?_ _
        go_wp2_with fail
        go_roundg go
        case rel => exact ⟨i + 1, G ++ [⟨xk, xf, xt, xa⟩], N', by go_num, by omega, by omega, HGI2, (show GS _ _ _ _ _ _ _ _ _ _ _ _ _ _ _ _ _ _ _ _ _ by rw [HFO.out]; exact G5.out)⟩
        case measure => omega
      · obtain rfl : i = gone.length := by omega
        have bt : ¬ ((gone.length : Nat) : Int) < (gone.length : Int) := by omega
        obtain ⟨c0, c1, c2, c3⟩ := HG.out.bp.cells4
        obtain ⟨r0, r1, r2, r3⟩ := HG.out.br.cells4
        obtain ⟨u0, u1⟩ := HG.out.bw.cells2
        have hfp := fun j => HG.out.bp.free j
        have hfr := fun j => HG.out.br.free j
        have hKW : ¬ KW = w.heap.size := fun e => by
          have h1 := HG.out.bw
          have h2 := HG.out.bp
          unfold BoxT at h1 h2
          rw [e, h2] at h1
          simp at h1
        generalize hC : G.foldl (fun a x => jn ag x.a a) c = C at *
        have HC := hide hC
        clear hC
        go_wp2_with fail
        obtain ⟨Wf, hWf⟩ : ∃ Wf, Wf = (((((wr.setCell ⟨w.heap.size, 1, none⟩ (.int .i64 wf)).setCell ⟨w.heap.size, 2, none⟩ (.int .i64 wt)).setCell ⟨w.heap.size + 1, 0, none⟩ (.int .i64 k)).setCell ⟨w.heap.size + 1, 1, none⟩ (.int .i64 wf)).setCell ⟨w.heap.size + 1, 2, none⟩ (.int .i64 wt)).setCell ⟨w.heap.size + 1, 3, none⟩ (.int .i64 C) := ⟨_, rfl⟩
        rw [← hWf]
        have hT : Turned w.heap.size (w.heap.size + 1) wr Wf := by
          rw [hWf]
          exact ((((((Turned.set _ _ _ _ _).trans (Turned.set _ _ _ _ _)).trans (Turned.setB _ _ _ _ _)).trans (Turned.setB _ _ _ _ _)).trans (Turned.setB _ _ _ _ _)).trans (Turned.setB _ _ _ _ _))
        have hbr : BoxT 79 Wf (w.heap.size + 1) #[.int .i64 k, .int .i64 wf, .int .i64 wt, .int .i64 C] := by
          rw [hWf]
          have h1 : BoxT 79 ((wr.setCell ⟨w.heap.size, 1, none⟩ (.int .i64 wf)).setCell ⟨w.heap.size, 2, none⟩ (.int .i64 wt)) (w.heap.size + 1) #[.int .i64 0, .int .i64 0, .int .i64 0, .int .i64 0] := (HG.out.br.other _ _ (by omega)).other _ _ (by omega)
          have := (((h1.set 0 (.int .i64 k)).set 1 (.int .i64 wf)).set 2 (.int .i64 wt)).set 3 (.int .i64 C)
          simpa using this
        obtain ⟨q0, q1, q2, q3⟩ := hbr.cells4
        have hfin := HG.out.fin hT
        refine bodyPost_ret (v := .agg #[.int .i64 k, .int .i64 wf, .int .i64 wt, .int .i64 C]) (by simp [results, Tryz.results113, go_sem, q0, q1, q2, q3]) rfl ⟨a, b, l, v, v', R0, G, N, HR.out, HA.out, by rw [← HGO.out]; exact HGI.out, by rw [HWH.out, HC.out], hfin.1, hfin.2.1, by rw [HWH.out, HRR.out, HFQ.out]; exact hfin.2.2.1, by rw [HFQ.out]; exact hfin.2.2.2, ?_, ?_⟩
        · have := HG.out.ns; rw [← HFQ.out] at this; exact this
        · have := HG.out.nm; rw [← HFQ.out] at this; exact this
end Go.Proofs.YtpcbhcdpegbfjaaGreat
/-
  lay: a pane becomes one with what lies at its place; a session's, with all that it overlaps.
-/
namespace Go.Proofs.YtpcbhcdpegbfjaaGreat
open Go.RowKit

def sess (k : Int) : Bool := decide (k = 3)
theorem whl_in {l : List Sp} {f t : Int} {a b : Nat} (hf : In64 f) (ht : In64 t) (hl : ∀ sp ∈ l, In64 sp.f ∧ In64 sp.t) : In64 (whl ⟨f, t⟩ l a b).f ∧ In64 (whl ⟨f, t⟩ l a b).t := by
  have h : ∀ (g : List Sp) (s : Sp), In64 s.f → In64 s.t → (∀ x ∈ g, In64 x.f ∧ In64 x.t) → In64 (g.foldl jsp s).f ∧ In64 (g.foldl jsp s).t := by
    intro g
    induction g with
    | nil => intro s h1 h2 _; exact ⟨h1, h2⟩
    | cons x g ih =>
      intro s h1 h2 h3
      have hx := h3 x (List.mem_cons_self ..)
      exact ih _ (by unfold In64 at *; simp only [jsp]; omega) (by unfold In64 at *; simp only [jsp]; omega) (fun y hy => h3 y (List.mem_cons_of_mem _ hy))
  exact h _ _ hf ht (fun x hx => hl x (List.mem_of_mem_take (List.mem_of_mem_drop hx)))
theorem foldJ_in {ag : Int} (G : List Pn) : ∀ c, In64 c → (∀ x ∈ G, In64 x.a) → In64 (G.foldl (fun a x => jn ag x.a a) c) := by
  induction G with
  | nil => intro c h _; exact h
  | cons x G ih => intro c h h2; exact ih _ (jn_in (h2 x (List.mem_cons_self ..)) h) (fun y hy => h2 y (List.mem_cons_of_mem _ hy))
theorem Inv.plain {kd : Int} {M : List Pn} {R : List SRow} (h : Inv kd M R) (hkd : kd ≠ 3) (M' : List Pn) : Inv kd M' R := by
  have hR := h.none hkd
  subst hR
  exact ⟨fun _ => rfl, fun e => absurd e hkd, fun r hr => (by cases hr), fun r hr => (by cases hr)⟩
structure LI (w wr : World) (s m o : Nat) (kd size slide ag : Int) (fq fq' : Nat → Prop) (N : List Pn) (R' : List SRow) (k f t c : Int) : Prop where
  box : BoxT 117 wr s #[.int .i64 kd, .int .i64 size, .int .i64 slide, .int .i64 ag, .map (some m), .map (some o)]
  mp : MapAt Tryz.prog 150 wr m (N.map pEnt)
  om : OM wr o fq' R'
  ft : FT (FP s m fq) (FP s m fq') w wr
  bp : BoxT 79 wr w.heap.size #[.int .i64 k, .int .i64 f, .int .i64 t, .int .i64 c]
  ns : ¬ fq' s
  nm : ¬ fq' m
  n1 : ¬ fq' w.heap.size
  sl : s < w.heap.size
  ml : m < w.heap.size
section
variable {w wr w' : World} {s m o : Nat} {kd size slide ag : Int} {fq fq' : Nat → Prop} {R' : List SRow} {N : List Pn} {k f t c : Int}
theorem LI.below (h : LI w wr s m o kd size slide ag fq fq' N R' k f t c) (hb : Below wr.heap.size wr w') : LI w w' s m o kd size slide ag fq fq' N R' k f t c :=
  { h with box := BoxT.below (t := 117) h.box hb, mp := h.mp.back (hb.block _ h.mp.lt), om := h.om.below hb, ft := h.ft.trans (FT.of_below hb), bp := BoxT.below (t := 79) h.bp hb }
theorem LI.cells (h : LI w wr s m o kd size slide ag fq fq' N R' k f t c) : wr.cell? ⟨s, 3, none⟩ = some (.int .i64 ag) ∧ wr.cell? ⟨s, 4, none⟩ = some (.map (some m)) ∧ wr.cell? ⟨w.heap.size, 3, none⟩ = some (.int .i64 c) := by
  have h1 := h.box
  have h2 := h.bp
  unfold BoxT at h1 h2
  simp [World.cell?, h1, h2]
theorem LI.set (h : LI w wr s m o kd size slide ag fq fq' N R' k f t c) (hg : wr.grownBy w' (some w.heap.size)) {k' f' t' c' : Int} (hb : BoxT 79 w' w.heap.size #[.int .i64 k', .int .i64 f', .int .i64 t', .int .i64 c']) : LI w w' s m o kd size slide ag fq fq' N R' k' f' t' c' := by
  have ho : ∀ i, i ≠ w.heap.size → i < wr.heap.size → w'.heap[i]? = wr.heap[i]? := fun i hi hl => hg.block i hl (fun e => hi (by cases e; rfl))
  have hsl := h.sl
  have hml := h.ml
  exact { h with box := h.box.grown hg (by omega), mp := h.mp.back (ho m (by omega) h.mp.lt), om := h.om.back (fun i hi => ho i (fun e => h.n1 (e ▸ hi)) (h.om.flt i hi)) hg.size, ft := ⟨hg.os.trans h.ft.os, hg.tape.trans h.ft.tape, hg.output.trans h.ft.output, Nat.le_trans h.ft.size hg.size, fun i hi hn => (ho i (by omega) (Nat.lt_of_lt_of_le hi h.ft.size)).trans (h.ft.block i hi hn), h.ft.sub⟩, bp := hb }
theorem LI.fin (h : LI w wr s m o kd size slide ag fq fq' N R' k f t c) {N' : List Pn} (hm : MapAt Tryz.prog 150 w' m (N'.map pEnt)) (ht : MTurn wr w' m) (hok : ∀ x ∈ N', PnOk x) (hinv : Inv kd N' R') : StAt w' s m o kd size slide ag fq' N' R' ∧ FT (FP s m fq) (FP s m fq') w w' := by
  have hg := ht.grown
  have ho : ∀ i, i ≠ m → w'.heap[i]? = wr.heap[i]? := fun i hi => ht.other hi
  have hsm : s ≠ m := fun e => by
    obtain ⟨es, ck, h1⟩ := h.mp.isMap
    have h2 := h.box
    unfold BoxT at h2
    rw [e, h1] at h2
    cases h2
  refine ⟨⟨?_, hm, h.om.back (fun i hi => ho i (fun e => h.nm (e ▸ hi))) hg.size, hok, h.ns, h.nm, hinv⟩, ⟨hg.os.trans h.ft.os, hg.tape.trans h.ft.tape, hg.output.trans h.ft.output, Nat.le_trans h.ft.size hg.size, fun i hi hn => (ho i (fun e => hn (.inr (.inl e)))).trans (h.ft.block i hi hn), h.ft.sub⟩⟩
  have h1 := ho s hsm
  have h2 := h.box
  unfold BoxT at *
  rw [h1]; exact h2
end
def L4 (s m P : Nat) (k f t xa : Int) (is : Bool) (w' : World) : Prop := w'.cell? ⟨s, 4, none⟩ = some (.map (some m)) ∧ w'.cell? ⟨P, 0, none⟩ = some (.int .i64 k) ∧ w'.cell? ⟨P, 1, none⟩ = some (.int .i64 f) ∧ w'.cell? ⟨P, 2, none⟩ = some (.int .i64 t) ∧ (Instr.lookup 113 (.map (some m)) (.agg #[.int .i64 k, .int .i64 f, .int .i64 t]) true).run Tryz.prog w' = .ok (.tuple #[.int .i64 xa, .bool is]) w'
def L6 (s K : Nat) (ag c : Int) (w' : World) : Prop := w'.cell? ⟨s, 3, none⟩ = some (.int .i64 ag) ∧ w'.cell? ⟨K, 3, none⟩ = some (.int .i64 c)
def L7 (s m P K : Nat) (k f t c : Int) (w' : World) : Prop := w'.cell? ⟨s, 4, none⟩ = some (.map (some m)) ∧ w'.cell? ⟨P, 0, none⟩ = some (.int .i64 k) ∧ w'.cell? ⟨P, 1, none⟩ = some (.int .i64 f) ∧ w'.cell? ⟨P, 2, none⟩ = some (.int .i64 t) ∧ w'.cell? ⟨K, 3, none⟩ = some (.int .i64 c)
theorem Tryz.zeroI (w : World) : (zeroValue 2).run Tryz.prog w = .ok (.int .i64 0) w := by kernel_rfl
def LPost (w : World) (s m o : Nat) (kd size slide ag : Int) (fq : Nat → Prop) (M : List Pn) (p : Pn) (e : Ending) (w' : World) : Prop := e = .returned (.tuple #[]) ∧ ∃ fq' M' R', StAt w' s m o kd size slide ag fq' M' R' ∧ FT (FP s m fq) (FP s m fq') w w' ∧ Comes (sess kd) (jn ag) (p :: M) M'
set_option maxHeartbeats 8000000 in
set_option maxRecDepth 100000 in
theorem lay_plain {w : World} {s m o : Nat} {kd size slide ag : Int} {fq : Nat → Prop} {M : List Pn} {R : List SRow} (h : StAt w s m o kd size slide ag fq M R) (hkd : kd ≠ 3) {k f t c : Int} (hp : PnOk ⟨k, f, t, c⟩) :
    Calls Tryz.prog 99 #[.pointer (some ⟨s, 0, none⟩), .agg #[.int .i64 k, .int .i64 f, .int .i64 t, .int .i64 c]] w (LPost w s m o kd size slide ag fq M ⟨k, f, t, c⟩) := by
  have hb1 := below_box w (.cells #[.int .i64 k, .int .i64 f, .int .i64 t, .int .i64 c] 79)
  have HL : Hid (LI w (w.alloc (.cells #[.int .i64 k, .int .i64 f, .int .i64 t, .int .i64 c] 79)) s m o kd size slide ag fq fq M R k f t c) :=
    ⟨BoxT.below (t := 117) h.box hb1, h.mp.back (hb1.block m h.mp.lt), h.om.below hb1, FT.of_below hb1, BoxT.new _ _ _, h.ns, h.nm, fun e => by have := h.om.flt _ e; omega, h.box.lt, h.mp.lt⟩
  have HKEY := hide (keyPl hp.k hp.f hp.t)
  have HST := hide h
  have HP := hide hp
  have hk1 : (w.alloc (.cells #[.int .i64 k, .int .i64 f, .int .i64 t, .int .i64 c] 79)).cell? ⟨s, 0, none⟩ = some (.int .i64 kd) := by have := HL.out.box.cellAt 0; simpa using this
  have d3 : ¬ kd = 3 := hkd
  obtain ⟨fq', hfq⟩ : ∃ fq', fq' = fq := ⟨_, rfl⟩
  obtain ⟨N, hN⟩ : ∃ N, N = M := ⟨_, rfl⟩
  obtain ⟨R', hR⟩ : ∃ R', R' = R := ⟨_, rfl⟩
  have HEQ := hide (And.intro hfq (And.intro hN hR))
  have hsess : sess kd = false := decide_eq_false hkd
  have HSE := hide hsess
  rw [show LI w (w.alloc (.cells #[.int .i64 k, .int .i64 f, .int .i64 t, .int .i64 c] 79)) s m o kd size slide ag fq fq M R k f t c = LI w (w.alloc (.cells #[.int .i64 k, .int .i64 f, .int .i64 t, .int .i64 c] 79)) s m o kd size slide ag fq fq' N R' k f t c by rw [hfq, hN, hR]] at HL
  clear h hb1 hfq hN hR hsess hp
  by_cases hx : ∃ x ∈ N, x.k = k ∧ x.f = f ∧ x.t = t
  · obtain ⟨x, hxN, x1, x2, x3⟩ := hx
    obtain ⟨u, v, huv⟩ := List.append_of_mem hxN
    obtain ⟨xk, xf, xt, xa⟩ := x
    simp only at x1 x2 x3
    have e1 := x1.symm
    have e2 := x2.symm
    have e3 := x3.symm
    clear x1 x2 x3
    subst e1 e2 e3
    obtain ⟨N0, hN0⟩ : ∃ N0, N0 = u ++ v := ⟨_, rfl⟩
    have HN0 : Hid (N.Perm (⟨k, f, t, xa⟩ :: N0)) := (show List.Perm _ _ by rw [huv, hN0]; exact List.perm_middle)
    clear huv hN0 hxN
    go_enter Tryz.func99, Tryz.ntmps99
    obtain ⟨b0, b1, b2, b3⟩ := HL.out.bp.cells4
    have HPO := hide (fun w' => placeOf_any w' ⟨k, f, t, c⟩)
    unfold Pn.val plV at HPO
    simp only at HPO
    go_upto_region 4 with (first | (go_at_call 104; refine (HPO.out _).mono ?_; rintro e w3 ⟨rfl, b3'⟩; have H3 := hide (HL.out.below b3'); clear b3') | fail)
    obtain ⟨W4, hW4⟩ : ∃ W4, W4 = w3.alloc (.cells #[.int .i64 k, .int .i64 f, .int .i64 t] 150) := ⟨_, rfl⟩
    rw [← hW4]
    have H4 : Hid (LI w W4 s m o kd size slide ag fq fq' N R' k f t c) := (show LI _ _ _ _ _ _ _ _ _ _ _ _ _ _ _ _ _ by rw [hW4]; exact H3.out.below (below_box w3 _))
    have P4 : Hid (BoxT 150 W4 w3.heap.size #[.int .i64 k, .int .i64 f, .int .i64 t]) := (show BoxT _ _ _ _ by rw [hW4]; exact BoxT.new _ _ _)
    clear hW4 b0 b1 b2 b3 HPO
    have HK4 : Hid (∀ w', Below W4.heap.size W4 w' → L4 s m w3.heap.size k f t xa true w') := fun w' hb => by
      have h1 := H4.out.below hb
      obtain ⟨p0, p1, p2⟩ := (BoxT.below (t := 150) P4.out hb).cells3
      obtain ⟨lk, hlk⟩ := HKEY.out
      exact ⟨h1.cells.2.1, p0, p1, p2, h1.mp.look_hit Tryz.lawPl Tryz.underlying113 hlk (R := N0.map pEnt) (by have := HN0.out.map pEnt; rwa [List.map_cons] at this) true⟩
    refine wp_region_M (S := fun w' => L4 s m w3.heap.size k f t xa true w') (late := []) (by kernel_rfl) (HK4.out _ (Below.refl _ _).drew) (fun hHeld => ?_)
    (try simp only [List.size_toArray, List.length_cons, List.length_nil, Nat.zero_add, Nat.reduceAdd, Array.replicate, List.replicate])
    refine wpAnyM_take (i := 0) (oi := ⟨_, _, _, _, _, _⟩) (v := ?_) rfl (by kernel_rfl) (by kernel_rfl) (by kernel_rfl) (by kernel_rfl) (fun _ _ _ h => h) (Or.inl ⟨by rfl, ?_⟩) hHeld ?_
    rotate_left
    · (intro w' hSw; unfold L4 at hSw; go_simp; try (with_reducible rfl))
    (try simp only [Act.put, List.setIfInBounds_toArray, List.set_cons_zero, List.set_cons_succ])
    refine wpAnyM_take (i := 1) (oi := ⟨_, _, _, _, _, _⟩) (v := ?_) rfl (by kernel_rfl) (by kernel_rfl) (by kernel_rfl) (by kernel_rfl) (fun _ _ _ h => h) (Or.inl ⟨by rfl, ?_⟩) hHeld ?_
    rotate_left
    · (intro w' hSw; unfold L4 at hSw; go_simp; try (with_reducible rfl))
    (try simp only [Act.put, List.setIfInBounds_toArray, List.set_cons_zero, List.set_cons_succ])
    refine wpAnyM_take (i := 2) (oi := ⟨_, _, _, _, _, _⟩) (v := ?_) rfl (by kernel_rfl) (by kernel_rfl) (by kernel_rfl) (by kernel_rfl) (fun _ _ _ h => h) (Or.inl ⟨by rfl, ?_⟩) hHeld ?_
    rotate_left
    · (intro w' hSw; unfold L4 at hSw; go_simp; try (with_reducible rfl))
    (try simp only [Act.put, List.setIfInBounds_toArray, List.set_cons_zero, List.set_cons_succ])
    refine wpAnyM_take (i := 3) (oi := ⟨_, _, _, _, _, _⟩) (v := ?_) rfl (by kernel_rfl) (by kernel_rfl) (by kernel_rfl) (by kernel_rfl) (fun _ _ _ h => h) (Or.inl ⟨by rfl, ?_⟩) hHeld ?_
    rotate_left
    · (intro w' hSw; unfold L4 at hSw; go_simp; try (with_reducible rfl))
    (try simp only [Act.put, List.setIfInBounds_toArray, List.set_cons_zero, List.set_cons_succ])
    refine wpAnyM_take (i := 4) (oi := ⟨_, _, _, _, _, _⟩) (v := ?_) rfl (by kernel_rfl) (by kernel_rfl) (by kernel_rfl) (by kernel_rfl) (fun _ _ _ h => h) (Or.inl ⟨by rfl, ?_⟩) hHeld ?_
    rotate_left
    · (intro w' hSw; unfold L4 at hSw; go_simp; try (with_reducible rfl))
    (try simp only [Act.put, List.setIfInBounds_toArray, List.set_cons_zero, List.set_cons_succ])
    refine wpAnyM_take (i := 5) (oi := ⟨_, _, _, _, _, _⟩) (v := ?_) rfl (by kernel_rfl) (by kernel_rfl) (by kernel_rfl) (by kernel_rfl) (fun _ _ _ h => h) (Or.inl ⟨by rfl, ?_⟩) hHeld ?_
    rotate_left
    · (intro w' hSw; unfold L4 at hSw; go_simp; try (with_reducible rfl))
    (try simp only [Act.put, List.setIfInBounds_toArray, List.set_cons_zero, List.set_cons_succ])
    refine wpAnyM_take (i := 6) (oi := ⟨_, _, _, _, _, _⟩) (v := ?_) rfl (by kernel_rfl) (by kernel_rfl) (by kernel_rfl) (by kernel_rfl) (fun _ _ _ h => h) (Or.inl ⟨by rfl, ?_⟩) hHeld ?_
    rotate_left
    · (intro w' hSw; unfold L4 at hSw; go_simp; try (with_reducible rfl))
    (try simp only [Act.put, List.setIfInBounds_toArray, List.set_cons_zero, List.set_cons_succ])
    refine wpAnyM_take (i := 7) (oi := ⟨_, _, _, _, _, _⟩) (v := ?_) rfl (by kernel_rfl) (by kernel_rfl) (by kernel_rfl) (by kernel_rfl) (fun _ _ _ h => h) (Or.inl ⟨by rfl, ?_⟩) hHeld ?_
    rotate_left
    · (intro w' hSw; unfold L4 at hSw; go_simp; try (with_reducible rfl))
    (try simp only [Act.put, List.setIfInBounds_toArray, List.set_cons_zero, List.set_cons_succ])
    refine wpAnyM_take (i := 8) (oi := ⟨_, _, _, _, _, _⟩) (v := ?_) rfl (by kernel_rfl) (by kernel_rfl) (by kernel_rfl) (by kernel_rfl) (fun _ _ _ h => h) (Or.inl ⟨by rfl, ?_⟩) hHeld ?_
    rotate_left
    · (intro w' hSw; unfold L4 at hSw; go_simp; try (with_reducible rfl))
    (try simp only [Act.put, List.setIfInBounds_toArray, List.set_cons_zero, List.set_cons_succ])
    refine wpAnyM_take (i := 9) (oi := ⟨_, _, _, _, _, _⟩) (v := ?_) rfl (by kernel_rfl) (by kernel_rfl) (by kernel_rfl) (by kernel_rfl) (fun _ _ _ h => h) (Or.inl ⟨by rfl, ?_⟩) hHeld ?_
    rotate_left
    · (intro w' hSw; unfold L4 at hSw; go_simp; try (with_reducible rfl))
    (try simp only [Act.put, List.setIfInBounds_toArray, List.set_cons_zero, List.set_cons_succ])
    refine wpAnyM_take (i := 10) (oi := ⟨_, _, _, _, _, _⟩) (v := ?_) rfl (by kernel_rfl) (by kernel_rfl) (by kernel_rfl) (by kernel_rfl) (fun _ _ _ h => h) (Or.inl ⟨by rfl, ?_⟩) hHeld ?_
    rotate_left
    · (intro w' hSw; unfold L4 at hSw; go_simp; try (with_reducible rfl))
    (try simp only [Act.put, List.setIfInBounds_toArray, List.set_cons_zero, List.set_cons_succ])
    refine wpAnyM_done (by kernel_rfl) ?_ _
    go_upto_region 6 with fail
    have HMG : Hid (∀ w', Below W4.heap.size W4 w' → Calls Tryz.prog 114 #[.int .i64 ag, .int .i64 xa, .int .i64 c] w' fun e w'' => e = .returned (.int .i64 (jn ag xa c)) ∧ Below W4.heap.size W4 w'') := fun w' hb => (Merge_any w' ag xa c).mono (by rintro e w'' ⟨rfl, h2⟩; exact ⟨rfl, hb.trans (h2.mono hb.size)⟩)
    generalize hJ : jn ag xa c = J at *
    have HJ := hide hJ
    clear hJ
    have HK6 : Hid (∀ w', Below W4.heap.size W4 w' → L6 s w.heap.size ag c w') := fun w' hb => ⟨(H4.out.below hb).cells.1, (H4.out.below hb).cells.2.2⟩
    refine wp_region_M (S := fun w' => L6 s w.heap.size ag c w') (late := [9]) (by kernel_rfl) (HK6.out _ ((Below.refl _ _).drew.drew)) (fun hHeld => ?_)
    (try simp only [List.size_toArray, List.length_cons, List.length_nil, Nat.zero_add, Nat.reduceAdd, Array.replicate, List.replicate])
    refine wpAnyM_take (i := 0) (oi := ⟨_, _, _, _, _, _⟩) (v := ?_) rfl (by kernel_rfl) (by kernel_rfl) (by kernel_rfl) (by kernel_rfl) (fun _ _ _ h => h) (Or.inl ⟨by rfl, ?_⟩) hHeld ?_
    rotate_left
    · (intro w' hSw; unfold L6 at hSw; go_simp; try (with_reducible rfl))
    (try simp only [Act.put, List.setIfInBounds_toArray, List.set_cons_zero, List.set_cons_succ])
    refine wpAnyM_take (i := 1) (oi := ⟨_, _, _, _, _, _⟩) (v := ?_) rfl (by kernel_rfl) (by kernel_rfl) (by kernel_rfl) (by kernel_rfl) (fun _ _ _ h => h) (Or.inl ⟨by rfl, ?_⟩) hHeld ?_
    rotate_left
    · (intro w' hSw; unfold L6 at hSw; go_simp; try (with_reducible rfl))
    (try simp only [Act.put, List.setIfInBounds_toArray, List.set_cons_zero, List.set_cons_succ])
    refine wpAnyM_take (i := 2) (oi := ⟨_, _, _, _, _, _⟩) (v := ?_) rfl (by kernel_rfl) (by kernel_rfl) (by kernel_rfl) (by kernel_rfl) (fun _ _ _ h => h) (Or.inl ⟨by rfl, ?_⟩) hHeld ?_
    rotate_left
    · (intro w' hSw; unfold L6 at hSw; go_simp; try (with_reducible rfl))
    (try simp only [Act.put, List.setIfInBounds_toArray, List.set_cons_zero, List.set_cons_succ])
    refine wpAnyM_take (i := 3) (oi := ⟨_, _, _, _, _, _⟩) (v := ?_) rfl (by kernel_rfl) (by kernel_rfl) (by kernel_rfl) (by kernel_rfl) (fun _ _ _ h => h) (Or.inl ⟨by rfl, ?_⟩) hHeld ?_
    rotate_left
    · (intro w' hSw; unfold L6 at hSw; go_simp; try (with_reducible rfl))
    (try simp only [Act.put, List.setIfInBounds_toArray, List.set_cons_zero, List.set_cons_succ])
    refine wpAnyM_take (i := 4) (oi := ⟨_, _, _, _, _, _⟩) (v := ?_) rfl (by kernel_rfl) (by kernel_rfl) (by kernel_rfl) (by kernel_rfl) (fun _ _ _ h => h) (Or.inl ⟨by rfl, ?_⟩) hHeld ?_
    rotate_left
    · (intro w' hSw; unfold L6 at hSw; go_simp; try (with_reducible rfl))
    (try simp only [Act.put, List.setIfInBounds_toArray, List.set_cons_zero, List.set_cons_succ])
    refine wpAnyM_take (i := 5) (oi := ⟨_, _, _, _, _, _⟩) (v := ?_) rfl (by kernel_rfl) (by kernel_rfl) (by kernel_rfl) (by kernel_rfl) (fun _ _ _ h => h) (Or.inl ⟨by rfl, ?_⟩) hHeld ?_
    rotate_left
    · (intro w' hSw; unfold L6 at hSw; go_simp; try (with_reducible rfl))
    (try simp only [Act.put, List.setIfInBounds_toArray, List.set_cons_zero, List.set_cons_succ])
    refine wpAnyM_take (i := 6) (oi := ⟨_, _, _, _, _, _⟩) (v := ?_) rfl (by kernel_rfl) (by kernel_rfl) (by kernel_rfl) (by kernel_rfl) (fun _ _ _ h => h) (Or.inl ⟨by rfl, ?_⟩) hHeld ?_
    rotate_left
    · (intro w' hSw; unfold L6 at hSw; go_simp; try (with_reducible rfl))
    (try simp only [Act.put, List.setIfInBounds_toArray, List.set_cons_zero, List.set_cons_succ])
    refine wpAnyM_one (i := 7) (o := ⟨_, _, _, _, _, _⟩) (by kernel_rfl) rfl (fun K hK => ?_)
    go_simp
    go_at_call 114
    refine (HMG.out _ ((Below.refl _ _).drew.drew)).mono ?_
    rintro e w5 ⟨rfl, b5⟩
    have B5 := hide b5
    refine hK.out _ _ (HK6.out _ b5) (fun hHeld => ?_)
    clear hK K b5
    (try simp only [List.setIfInBounds_toArray, List.set_cons_zero, List.set_cons_succ])
    refine wpAnyM_take (i := 8) (oi := ⟨_, _, _, _, _, _⟩) (v := ?_) rfl (by kernel_rfl) (by kernel_rfl) (by kernel_rfl) (by kernel_rfl) (fun _ _ _ h => h) (Or.inl ⟨by rfl, ?_⟩) hHeld ?_
    rotate_left
    · (intro w' hSw; unfold L6 at hSw; go_simp; try (with_reducible rfl))
    (try simp only [Act.put, List.setIfInBounds_toArray, List.set_cons_zero, List.set_cons_succ])
    have H5 := hide (H4.out.below B5.out)
    have hf5 := fun j => H5.out.bp.free j
    have hc5 : w5.cell? ⟨w.heap.size, 3, none⟩ = some (.int .i64 c) := H5.out.cells.2.2
    refine wpAnyM_last (i := 9) (o := ⟨_, _, _, _, _, _⟩) (by kernel_rfl) (by kernel_rfl) rfl (fun K hK => ?_)
    go_simp
    refine hK.out _ _ ?_
    clear hK K
    (try simp only [List.setIfInBounds_toArray, List.set_cons_zero, List.set_cons_succ])
    refine wpAnyM_done (by kernel_rfl) ?_ _
    have H6 := hide (H5.out.set (grownBy_set w5 w.heap.size 3 (.int .i64 J)) (k' := k) (f' := f) (t' := t) (c' := J) (by have := H5.out.bp.set 3 (.int .i64 J); simpa using this))
    have P6 : Hid (BoxT 150 (w5.setCell ⟨w.heap.size, 3, none⟩ (.int .i64 J)) w3.heap.size #[.int .i64 k, .int .i64 f, .int .i64 t]) := (BoxT.below (t := 150) P4.out B5.out).grown (grownBy_set _ _ _ _) (by have := H3.out.bp.lt; omega)
    clear hf5 hc5 hHeld
    generalize hw6 : w5.setCell ⟨w.heap.size, 3, none⟩ (.int .i64 J) = w6 at *
    clear hw6
    go_upto_region 7 with fail
    have H7 := hide (H6.out.below ((Below.refl _ _).drew))
    obtain ⟨lk, hlk⟩ := HKEY.out
    obtain ⟨w7, hrun7, hm7, ht7⟩ := H7.out.mp.store_old (v := .int .i64 J) Tryz.lawPl Tryz.underlying113 hlk (R := N0.map pEnt) (by have := HN0.out.map pEnt; rwa [List.map_cons] at this)
    obtain ⟨_, e4, e3⟩ := H6.out.cells
    obtain ⟨p0, p1, p2⟩ := P6.out.cells3
    have hL7 : L7 s m w3.heap.size w.heap.size k f t J w7 := by
      have hne : ∀ {ty : TypeId} {i : Nat} {cs : Array Value}, BoxT ty w6.drew i cs → BoxT ty w7 i cs := fun {ty i cs} hb => by
        have h1 : i ≠ m := fun e => by
          obtain ⟨es, ck, h1⟩ := H7.out.mp.isMap
          unfold BoxT at hb
          rw [e, h1] at hb
          cases hb
        have h2 := ht7.other h1
        unfold BoxT at *
        rw [h2]; exact hb
      have q1 := hne H7.out.box
      have q2 := hne H7.out.bp
      have q3 := hne (ty := 150) P6.out
      obtain ⟨r0, r1, r2⟩ := q3.cells3
      obtain ⟨_, _, _, r3⟩ := q2.cells4
      exact ⟨by rw [q1.cellAt]; rfl, r0, r1, r2, r3⟩
    have HL7 := hide hL7
    have HM7 := hide (And.intro hm7 ht7)
    clear hL7 hm7 ht7
    refine wp_region_M (S := fun w' => L7 s m w3.heap.size w.heap.size k f t J w') (late := []) (by kernel_rfl) ⟨e4, p0, p1, p2, e3⟩ (fun hHeld => ?_)
    (try simp only [List.size_toArray, List.length_cons, List.length_nil, Nat.zero_add, Nat.reduceAdd, Array.replicate, List.replicate])
    refine wpAnyM_take (i := 0) (oi := ⟨_, _, _, _, _, _⟩) (v := ?_) rfl (by kernel_rfl) (by kernel_rfl) (by kernel_rfl) (by kernel_rfl) (fun _ _ _ h => h) (Or.inl ⟨by rfl, ?_⟩) hHeld ?_
    rotate_left
    · (intro w' hSw; unfold L7 at hSw; go_simp; try (with_reducible rfl))
    (try simp only [Act.put, List.setIfInBounds_toArray, List.set_cons_zero, List.set_cons_succ])
    refine wpAnyM_take (i := 1) (oi := ⟨_, _, _, _, _, _⟩) (v := ?_) rfl (by kernel_rfl) (by kernel_rfl) (by kernel_rfl) (by kernel_rfl) (fun _ _ _ h => h) (Or.inl ⟨by rfl, ?_⟩) hHeld ?_
    rotate_left
    · (intro w' hSw; unfold L7 at hSw; go_simp; try (with_reducible rfl))
    (try simp only [Act.put, List.setIfInBounds_toArray, List.set_cons_zero, List.set_cons_succ])
    refine wpAnyM_take (i := 2) (oi := ⟨_, _, _, _, _, _⟩) (v := ?_) rfl (by kernel_rfl) (by kernel_rfl) (by kernel_rfl) (by kernel_rfl) (fun _ _ _ h => h) (Or.inl ⟨by rfl, ?_⟩) hHeld ?_
    rotate_left
    · (intro w' hSw; unfold L7 at hSw; go_simp; try (with_reducible rfl))
    (try simp only [Act.put, List.setIfInBounds_toArray, List.set_cons_zero, List.set_cons_succ])
    refine wpAnyM_take (i := 3) (oi := ⟨_, _, _, _, _, _⟩) (v := ?_) rfl (by kernel_rfl) (by kernel_rfl) (by kernel_rfl) (by kernel_rfl) (fun _ _ _ h => h) (Or.inl ⟨by rfl, ?_⟩) hHeld ?_
    rotate_left
    · (intro w' hSw; unfold L7 at hSw; go_simp; try (with_reducible rfl))
    (try simp only [Act.put, List.setIfInBounds_toArray, List.set_cons_zero, List.set_cons_succ])
    refine wpAnyM_take (i := 4) (oi := ⟨_, _, _, _, _, _⟩) (v := ?_) rfl (by kernel_rfl) (by kernel_rfl) (by kernel_rfl) (by kernel_rfl) (fun _ _ _ h => h) (Or.inl ⟨by rfl, ?_⟩) hHeld ?_
    rotate_left
    · (intro w' hSw; unfold L7 at hSw; go_simp; try (with_reducible rfl))
    (try simp only [Act.put, List.setIfInBounds_toArray, List.set_cons_zero, List.set_cons_succ])
    refine wpAnyM_take (i := 5) (oi := ⟨_, _, _, _, _, _⟩) (v := ?_) rfl (by kernel_rfl) (by kernel_rfl) (by kernel_rfl) (by kernel_rfl) (fun _ _ _ h => h) (Or.inl ⟨by rfl, ?_⟩) hHeld ?_
    rotate_left
    · (intro w' hSw; unfold L7 at hSw; go_simp; try (with_reducible rfl))
    (try simp only [Act.put, List.setIfInBounds_toArray, List.set_cons_zero, List.set_cons_succ])
    refine wpAnyM_take (i := 6) (oi := ⟨_, _, _, _, _, _⟩) (v := ?_) rfl (by kernel_rfl) (by kernel_rfl) (by kernel_rfl) (by kernel_rfl) (fun _ _ _ h => h) (Or.inl ⟨by rfl, ?_⟩) hHeld ?_
    rotate_left
    · (intro w' hSw; unfold L7 at hSw; go_simp; try (with_reducible rfl))
    (try simp only [Act.put, List.setIfInBounds_toArray, List.set_cons_zero, List.set_cons_succ])
    refine wpAnyM_one (i := 7) (o := ⟨_, _, _, _, _, _⟩) (by kernel_rfl) rfl (fun K hK => ?_)
    refine step_put_run rfl _ _ _ 113 rfl _ _ _ rfl rfl rfl hrun7 ?_
    refine hK.out _ _ HL7.out (fun hHeld => ?_)
    clear hK K
    (try simp only [List.setIfInBounds_toArray, List.set_cons_zero, List.set_cons_succ])
    refine wpAnyM_done (by kernel_rfl) ?_ _
    go_wp2_with fail
    go_end0
    obtain ⟨e1, e2, e3⟩ := HEQ.out
    subst e1 e2 e3
    have hnew : (⟨k, f, t, J⟩ :: N0 : List Pn).map pEnt = (plV ⟨k, f, t, c⟩, .int .i64 J) :: N0.map pEnt := rfl
    have hxok := HST.out.ok ⟨k, f, t, xa⟩ (HN0.out.mem_iff.2 (List.mem_cons_self ..))
    obtain ⟨q1, q2⟩ := H7.out.fin (N' := ⟨k, f, t, J⟩ :: N0) (by rw [hnew]; exact HM7.out.1) HM7.out.2 (fun y hy => by
      rcases List.mem_cons.1 hy with rfl | hy
      · exact ⟨HP.out.k, HP.out.f, HP.out.t, by rw [← HJ.out]; exact jn_in hxok.a HP.out.a⟩
      · exact HST.out.ok y (HN0.out.mem_iff.2 (List.mem_cons_of_mem _ hy))) (HST.out.inv.plain hkd _)
    refine ⟨rfl, _, _, _, q1, q2, ?_⟩
    rw [HSE.out]
    have hpl := (places_of HST.out.mp).perm HN0.out
    have hm : mt false ⟨k, f, t, c⟩ ⟨k, f, t, xa⟩ := ⟨rfl, .inr ⟨rfl, rfl, rfl⟩⟩
    have hj : jp (jn ag) ⟨k, f, t, c⟩ ⟨k, f, t, xa⟩ = ⟨k, f, t, J⟩ := by
      rw [← HJ.out]
      refine Pn.same rfl ?_ ?_ ?_ <;> simp only [jp]
      · omega
      · omega
      · exact jn_comm _ _ _
    have hr := Reds.pair (J := jn ag) N0 hm
    rw [hj] at hr
    refine ⟨hr.perm (.cons _ HN0.out.symm) (.refl _), ?_⟩
    have hpa := List.pairwise_cons.1 hpl
    refine List.pairwise_cons.2 ⟨fun y hy hmy => ?_, hpa.2.imp (fun hne hmy => hne ?_)⟩
    · obtain ⟨m1, ⟨m2, _⟩ | ⟨_, m2, m3⟩⟩ := hmy
      · cases m2
      · exact hpa.1 y hy ⟨m1, m2, m3⟩
    · obtain ⟨m1, ⟨m2, _⟩ | ⟨_, m2, m3⟩⟩ := hmy
      · cases m2
      · exact ⟨m1, m2, m3⟩
  · have HNO : Hid (∀ p ∈ N.map pEnt, p.1 ≠ (.agg #[.int .i64 k, .int .i64 f, .int .i64 t] : Value)) := fun p hp e => by
      obtain ⟨y, hy, rfl⟩ := List.mem_map.1 hp
      simp [pEnt, plV] at e
      exact hx ⟨y, hy, e⟩
    have HX := hide hx
    clear hx
    go_enter Tryz.func99, Tryz.ntmps99
    obtain ⟨b0, b1, b2, b3⟩ := HL.out.bp.cells4
    have HPO := hide (fun w' => placeOf_any w' ⟨k, f, t, c⟩)
    unfold Pn.val plV at HPO
    simp only at HPO
    go_upto_region 4 with (first | (go_at_call 104; refine (HPO.out _).mono ?_; rintro e w3 ⟨rfl, b3'⟩; have H3 := hide (HL.out.below b3'); clear b3') | fail)
    obtain ⟨W4, hW4⟩ : ∃ W4, W4 = w3.alloc (.cells #[.int .i64 k, .int .i64 f, .int .i64 t] 150) := ⟨_, rfl⟩
    rw [← hW4]
    have H4 : Hid (LI w W4 s m o kd size slide ag fq fq' N R' k f t c) := (show LI _ _ _ _ _ _ _ _ _ _ _ _ _ _ _ _ _ by rw [hW4]; exact H3.out.below (below_box w3 _))
    have P4 : Hid (BoxT 150 W4 w3.heap.size #[.int .i64 k, .int .i64 f, .int .i64 t]) := (show BoxT _ _ _ _ by rw [hW4]; exact BoxT.new _ _ _)
    clear hW4 b0 b1 b2 b3 HPO
    have HK4 : Hid (∀ w', Below W4.heap.size W4 w' → L4 s m w3.heap.size k f t 0 false w') := fun w' hb => by
      have h1 := H4.out.below hb
      obtain ⟨p0, p1, p2⟩ := (BoxT.below (t := 150) P4.out hb).cells3
      obtain ⟨lk, hlk⟩ := HKEY.out
      exact ⟨h1.cells.2.1, p0, p1, p2, h1.mp.look_miss Tryz.lawPl Tryz.underlying113 (Tryz.zeroI w') hlk HNO.out true⟩
    refine wp_region_M (S := fun w' => L4 s m w3.heap.size k f t 0 false w') (late := []) (by kernel_rfl) (HK4.out _ (Below.refl _ _).drew) (fun hHeld => ?_)
    (try simp only [List.size_toArray, List.length_cons, List.length_nil, Nat.zero_add, Nat.reduceAdd, Array.replicate, List.replicate])
    refine wpAnyM_take (i := 0) (oi := ⟨_, _, _, _, _, _⟩) (v := ?_) rfl (by kernel_rfl) (by kernel_rfl) (by kernel_rfl) (by kernel_rfl) (fun _ _ _ h => h) (Or.inl ⟨by rfl, ?_⟩) hHeld ?_
    rotate_left
    · (intro w' hSw; unfold L4 at hSw; go_simp; try (with_reducible rfl))
    (try simp only [Act.put, List.setIfInBounds_toArray, List.set_cons_zero, List.set_cons_succ])
    refine wpAnyM_take (i := 1) (oi := ⟨_, _, _, _, _, _⟩) (v := ?_) rfl (by kernel_rfl) (by kernel_rfl) (by kernel_rfl) (by kernel_rfl) (fun _ _ _ h => h) (Or.inl ⟨by rfl, ?_⟩) hHeld ?_
    rotate_left
    · (intro w' hSw; unfold L4 at hSw; go_simp; try (with_reducible rfl))
    (try simp only [Act.put, List.setIfInBounds_toArray, List.set_cons_zero, List.set_cons_succ])
    refine wpAnyM_take (i := 2) (oi := ⟨_, _, _, _, _, _⟩) (v := ?_) rfl (by kernel_rfl) (by kernel_rfl) (by kernel_rfl) (by kernel_rfl) (fun _ _ _ h => h) (Or.inl ⟨by rfl, ?_⟩) hHeld ?_
    rotate_left
    · (intro w' hSw; unfold L4 at hSw; go_simp; try (with_reducible rfl))
    (try simp only [Act.put, List.setIfInBounds_toArray, List.set_cons_zero, List.set_cons_succ])
    refine wpAnyM_take (i := 3) (oi := ⟨_, _, _, _, _, _⟩) (v := ?_) rfl (by kernel_rfl) (by kernel_rfl) (by kernel_rfl) (by kernel_rfl) (fun _ _ _ h => h) (Or.inl ⟨by rfl, ?_⟩) hHeld ?_
    rotate_left
    · (intro w' hSw; unfold L4 at hSw; go_simp; try (with_reducible rfl))
    (try simp only [Act.put, List.setIfInBounds_toArray, List.set_cons_zero, List.set_cons_succ])
    refine wpAnyM_take (i := 4) (oi := ⟨_, _, _, _, _, _⟩) (v := ?_) rfl (by kernel_rfl) (by kernel_rfl) (by kernel_rfl) (by kernel_rfl) (fun _ _ _ h => h) (Or.inl ⟨by rfl, ?_⟩) hHeld ?_
    rotate_left
    · (intro w' hSw; unfold L4 at hSw; go_simp; try (with_reducible rfl))
    (try simp only [Act.put, List.setIfInBounds_toArray, List.set_cons_zero, List.set_cons_succ])
    refine wpAnyM_take (i := 5) (oi := ⟨_, _, _, _, _, _⟩) (v := ?_) rfl (by kernel_rfl) (by kernel_rfl) (by kernel_rfl) (by kernel_rfl) (fun _ _ _ h => h) (Or.inl ⟨by rfl, ?_⟩) hHeld ?_
    rotate_left
    · (intro w' hSw; unfold L4 at hSw; go_simp; try (with_reducible rfl))
    (try simp only [Act.put, List.setIfInBounds_toArray, List.set_cons_zero, List.set_cons_succ])
    refine wpAnyM_take (i := 6) (oi := ⟨_, _, _, _, _, _⟩) (v := ?_) rfl (by kernel_rfl) (by kernel_rfl) (by kernel_rfl) (by kernel_rfl) (fun _ _ _ h => h) (Or.inl ⟨by rfl, ?_⟩) hHeld ?_
    rotate_left
    · (intro w' hSw; unfold L4 at hSw; go_simp; try (with_reducible rfl))
    (try simp only [Act.put, List.setIfInBounds_toArray, List.set_cons_zero, List.set_cons_succ])
    refine wpAnyM_take (i := 7) (oi := ⟨_, _, _, _, _, _⟩) (v := ?_) rfl (by kernel_rfl) (by kernel_rfl) (by kernel_rfl) (by kernel_rfl) (fun _ _ _ h => h) (Or.inl ⟨by rfl, ?_⟩) hHeld ?_
    rotate_left
    · (intro w' hSw; unfold L4 at hSw; go_simp; try (with_reducible rfl))
    (try simp only [Act.put, List.setIfInBounds_toArray, List.set_cons_zero, List.set_cons_succ])
    refine wpAnyM_take (i := 8) (oi := ⟨_, _, _, _, _, _⟩) (v := ?_) rfl (by kernel_rfl) (by kernel_rfl) (by kernel_rfl) (by kernel_rfl) (fun _ _ _ h => h) (Or.inl ⟨by rfl, ?_⟩) hHeld ?_
    rotate_left
    · (intro w' hSw; unfold L4 at hSw; go_simp; try (with_reducible rfl))
    (try simp only [Act.put, List.setIfInBounds_toArray, List.set_cons_zero, List.set_cons_succ])
    refine wpAnyM_take (i := 9) (oi := ⟨_, _, _, _, _, _⟩) (v := ?_) rfl (by kernel_rfl) (by kernel_rfl) (by kernel_rfl) (by kernel_rfl) (fun _ _ _ h => h) (Or.inl ⟨by rfl, ?_⟩) hHeld ?_
    rotate_left
    · (intro w' hSw; unfold L4 at hSw; go_simp; try (with_reducible rfl))
    (try simp only [Act.put, List.setIfInBounds_toArray, List.set_cons_zero, List.set_cons_succ])
    refine wpAnyM_take (i := 10) (oi := ⟨_, _, _, _, _, _⟩) (v := ?_) rfl (by kernel_rfl) (by kernel_rfl) (by kernel_rfl) (by kernel_rfl) (fun _ _ _ h => h) (Or.inl ⟨by rfl, ?_⟩) hHeld ?_
    rotate_left
    · (intro w' hSw; unfold L4 at hSw; go_simp; try (with_reducible rfl))
    (try simp only [Act.put, List.setIfInBounds_toArray, List.set_cons_zero, List.set_cons_succ])
    refine wpAnyM_done (by kernel_rfl) ?_ _
    have H6 := hide (H4.out.below ((Below.refl _ _).drew))
    have P6 : Hid (BoxT 150 W4.drew w3.heap.size #[.int .i64 k, .int .i64 f, .int .i64 t]) := P4.out
    clear hHeld
    generalize hw6 : W4.drew = w6 at *
    clear hw6
    go_upto_region 7 with fail
    have H7 := hide (H6.out.below ((Below.refl _ _).drew))
    obtain ⟨lk, hlk⟩ := HKEY.out
    obtain ⟨w7, hrun7, hm7, ht7⟩ := H7.out.mp.store_new (v := .int .i64 c) Tryz.lawPl Tryz.underlying113 hlk HNO.out
    obtain ⟨_, e4, e3⟩ := H6.out.cells
    obtain ⟨p0, p1, p2⟩ := P6.out.cells3
    have hL7 : L7 s m w3.heap.size w.heap.size k f t c w7 := by
      have hne : ∀ {ty : TypeId} {i : Nat} {cs : Array Value}, BoxT ty w6.drew i cs → BoxT ty w7 i cs := fun {ty i cs} hb => by
        have h1 : i ≠ m := fun e => by
          obtain ⟨es, ck, h1⟩ := H7.out.mp.isMap
          unfold BoxT at hb
          rw [e, h1] at hb
          cases hb
        have h2 := ht7.other h1
        unfold BoxT at *
        rw [h2]; exact hb
      have q1 := hne H7.out.box
      have q2 := hne H7.out.bp
      have q3 := hne (ty := 150) P6.out
      obtain ⟨r0, r1, r2⟩ := q3.cells3
      obtain ⟨_, _, _, r3⟩ := q2.cells4
      exact ⟨by rw [q1.cellAt]; rfl, r0, r1, r2, r3⟩
    have HL7 := hide hL7
    have HM7 := hide (And.intro hm7 ht7)
    clear hL7 hm7 ht7
    refine wp_region_M (S := fun w' => L7 s m w3.heap.size w.heap.size k f t c w') (late := []) (by kernel_rfl) ⟨e4, p0, p1, p2, e3⟩ (fun hHeld => ?_)
    (try simp only [List.size_toArray, List.length_cons, List.length_nil, Nat.zero_add, Nat.reduceAdd, Array.replicate, List.replicate])
    refine wpAnyM_take (i := 0) (oi := ⟨_, _, _, _, _, _⟩) (v := ?_) rfl (by kernel_rfl) (by kernel_rfl) (by kernel_rfl) (by kernel_rfl) (fun _ _ _ h => h) (Or.inl ⟨by rfl, ?_⟩) hHeld ?_
    rotate_left
    · (intro w' hSw; unfold L7 at hSw; go_simp; try (with_reducible rfl))
    (try simp only [Act.put, List.setIfInBounds_toArray, List.set_cons_zero, List.set_cons_succ])
    refine wpAnyM_take (i := 1) (oi := ⟨_, _, _, _, _, _⟩) (v := ?_) rfl (by kernel_rfl) (by kernel_rfl) (by kernel_rfl) (by kernel_rfl) (fun _ _ _ h => h) (Or.inl ⟨by rfl, ?_⟩) hHeld ?_
    rotate_left
    · (intro w' hSw; unfold L7 at hSw; go_simp; try (with_reducible rfl))
    (try simp only [Act.put, List.setIfInBounds_toArray, List.set_cons_zero, List.set_cons_succ])
    refine wpAnyM_take (i := 2) (oi := ⟨_, _, _, _, _, _⟩) (v := ?_) rfl (by kernel_rfl) (by kernel_rfl) (by kernel_rfl) (by kernel_rfl) (fun _ _ _ h => h) (Or.inl ⟨by rfl, ?_⟩) hHeld ?_
    rotate_left
    · (intro w' hSw; unfold L7 at hSw; go_simp; try (with_reducible rfl))
    (try simp only [Act.put, List.setIfInBounds_toArray, List.set_cons_zero, List.set_cons_succ])
    refine wpAnyM_take (i := 3) (oi := ⟨_, _, _, _, _, _⟩) (v := ?_) rfl (by kernel_rfl) (by kernel_rfl) (by kernel_rfl) (by kernel_rfl) (fun _ _ _ h => h) (Or.inl ⟨by rfl, ?_⟩) hHeld ?_
    rotate_left
    · (intro w' hSw; unfold L7 at hSw; go_simp; try (with_reducible rfl))
    (try simp only [Act.put, List.setIfInBounds_toArray, List.set_cons_zero, List.set_cons_succ])
    refine wpAnyM_take (i := 4) (oi := ⟨_, _, _, _, _, _⟩) (v := ?_) rfl (by kernel_rfl) (by kernel_rfl) (by kernel_rfl) (by kernel_rfl) (fun _ _ _ h => h) (Or.inl ⟨by rfl, ?_⟩) hHeld ?_
    rotate_left
    · (intro w' hSw; unfold L7 at hSw; go_simp; try (with_reducible rfl))
    (try simp only [Act.put, List.setIfInBounds_toArray, List.set_cons_zero, List.set_cons_succ])
    refine wpAnyM_take (i := 5) (oi := ⟨_, _, _, _, _, _⟩) (v := ?_) rfl (by kernel_rfl) (by kernel_rfl) (by kernel_rfl) (by kernel_rfl) (fun _ _ _ h => h) (Or.inl ⟨by rfl, ?_⟩) hHeld ?_
    rotate_left
    · (intro w' hSw; unfold L7 at hSw; go_simp; try (with_reducible rfl))
    (try simp only [Act.put, List.setIfInBounds_toArray, List.set_cons_zero, List.set_cons_succ])
    refine wpAnyM_take (i := 6) (oi := ⟨_, _, _, _, _, _⟩) (v := ?_) rfl (by kernel_rfl) (by kernel_rfl) (by kernel_rfl) (by kernel_rfl) (fun _ _ _ h => h) (Or.inl ⟨by rfl, ?_⟩) hHeld ?_
    rotate_left
    · (intro w' hSw; unfold L7 at hSw; go_simp; try (with_reducible rfl))
    (try simp only [Act.put, List.setIfInBounds_toArray, List.set_cons_zero, List.set_cons_succ])
    refine wpAnyM_one (i := 7) (o := ⟨_, _, _, _, _, _⟩) (by kernel_rfl) rfl (fun K hK => ?_)
    refine step_put_run rfl _ _ _ 113 rfl _ _ _ rfl rfl rfl hrun7 ?_
    refine hK.out _ _ HL7.out (fun hHeld => ?_)
    clear hK K
    (try simp only [List.setIfInBounds_toArray, List.set_cons_zero, List.set_cons_succ])
    refine wpAnyM_done (by kernel_rfl) ?_ _
    go_wp2_with fail
    go_end0
    obtain ⟨e1, e2, e3⟩ := HEQ.out
    subst e1 e2 e3
    have hnew : (⟨k, f, t, c⟩ :: N : List Pn).map pEnt = (plV ⟨k, f, t, c⟩, .int .i64 c) :: N.map pEnt := rfl
    obtain ⟨q1, q2⟩ := H7.out.fin (N' := ⟨k, f, t, c⟩ :: N) (by rw [hnew]; exact HM7.out.1) HM7.out.2 (fun y hy => by
      rcases List.mem_cons.1 hy with rfl | hy
      · exact HP.out
      · exact HST.out.ok y hy) (HST.out.inv.plain hkd _)
    refine ⟨rfl, _, _, _, q1, q2, ?_⟩
    rw [HSE.out]
    refine Comes.refl (List.pairwise_cons.2 ⟨fun y hy hmy => ?_, (places_of HST.out.mp).imp (fun hne hmy => hne ?_)⟩)
    · obtain ⟨m1, ⟨m2, _⟩ | ⟨_, m2, m3⟩⟩ := hmy
      · cases m2
      · exact HX.out ⟨y, hy, m1.symm, m2.symm, m3.symm⟩
    · obtain ⟨m1, ⟨m2, _⟩ | ⟨_, m2, m3⟩⟩ := hmy
      · cases m2
      · exact ⟨m1, m2, m3⟩
theorem LI.start {w w2 : World} {s m o : Nat} {size slide ag : Int} {fq fq' : Nat → Prop} {M N : List Pn} {R R' : List SRow} {k f t c : Int} (h : StAt w s m o 3 size slide ag fq M R) (hbox : BoxT 117 w2 s #[.int .i64 3, .int .i64 size, .int .i64 slide, .int .i64 ag, .map (some m), .map (some o)]) (hmp : MapAt Tryz.prog 150 w2 m (N.map pEnt)) (hom : OM w2 o fq' R')
    (hft : FT (FP s m fq) (FP s m fq') (w.alloc (.cells #[.int .i64 k, .int .i64 f, .int .i64 t, .int .i64 c] 79)) w2) (hns : ¬ fq' s) (hnm : ¬ fq' m) :
    LI w w2 s m o 3 size slide ag fq fq' N R' k f t c := by
  have hsl := h.box.lt
  have hml := h.mp.lt
  have hW : (w.alloc (.cells #[.int .i64 k, .int .i64 f, .int .i64 t, .int .i64 c] 79)).heap.size = w.heap.size + 1 := by simp
  have nfp : ¬ FP s m fq w.heap.size := fun e => by
    rcases e with e | e | e
    · omega
    · omega
    · have := h.om.flt _ e; omega
  have n1 : ¬ fq' w.heap.size := fun e => by
    rcases hft.sub _ (.inr (.inr e)) with e | e
    · exact nfp e
    · omega
  have hb2 : BoxT 79 w2 w.heap.size #[.int .i64 k, .int .i64 f, .int .i64 t, .int .i64 c] := by
    have h1 : BoxT 79 (w.alloc (.cells #[.int .i64 k, .int .i64 f, .int .i64 t, .int .i64 c] 79)) w.heap.size #[.int .i64 k, .int .i64 f, .int .i64 t, .int .i64 c] := BoxT.new _ _ _
    have h2 := hft.block w.heap.size (by omega) nfp
    unfold BoxT at *
    rw [h2]; exact h1
  have hft0 : FT (FP s m fq) (FP s m fq') w w2 := (FT.of_below (below_box w _)).trans hft
  exact ⟨hbox, hmp, hom, hft0, hb2, hns, hnm, n1, hsl, hml⟩
set_option maxHeartbeats 8000000 in
set_option maxRecDepth 100000 in
theorem lay_sess {w : World} {s m o : Nat} {size slide ag : Int} {fq : Nat → Prop} {M : List Pn} {R : List SRow} (h : StAt w s m o 3 size slide ag fq M R) {k f t c : Int} (hp : PnOk ⟨k, f, t, c⟩) (hf : f < t) (hM : M.length ≤ 100000) :
    Calls Tryz.prog 99 #[.pointer (some ⟨s, 0, none⟩), .agg #[.int .i64 k, .int .i64 f, .int .i64 t, .int .i64 c]] w (LPost w s m o 3 size slide ag fq M ⟨k, f, t, c⟩) := by
  have hb1 := below_box w (.cells #[.int .i64 k, .int .i64 f, .int .i64 t, .int .i64 c] 79)
  have h1 := h.below (fun i hi => hb1.block i (h.flt i hi)) hb1.size
  have HGA := hide (gathered_any (c := c) h1 hp.k hf hM)
  have HST := hide h
  have HS1 := hide h1
  have HP := hide hp
  have hk1 : (w.alloc (.cells #[.int .i64 k, .int .i64 f, .int .i64 t, .int .i64 c] 79)).cell? ⟨s, 0, none⟩ = some (.int .i64 3) := h1.cells.1
  clear h h1 hb1 hp
  have d3 : ((3 : Int) == 3) = true := rfl
  go_enter Tryz.func99, Tryz.ntmps99
  go_upto_region 3 with (first | (go_at_call 113; refine HGA.out.mono ?_; rintro e w2 ⟨a, b, l, v, v', R0, G, N, hr, hA, hG, rfl, g1, g2, g3, g4, g5, g6⟩; have HRW := hide hr; have HAD := hide hA; have HGI := hide hG; have HL0 := hide (LI.start HST.out g1 g2 g3 g4 g5 g6); clear hr hA hG g1 g2 g3 g4 g5 g6; obtain ⟨y0, y1, y2, y3⟩ := HL0.out.bp.cells4; have yf := fun j => HL0.out.bp.free j) | fail)
  obtain ⟨hcom, hNpl, hwh, hinv⟩ := gath_pure (c := c) (v' := v') HST.out HRW.out hf HAD.out HGI.out
  have hspin : ∀ sp ∈ l, In64 sp.f ∧ In64 sp.t := fun sp hsp => by
    have hrow : ∃ x ∈ M, x.k = k ∧ x.f = sp.f ∧ x.t = sp.t := by
      rcases HRW.out with ⟨_, _, _, rfl⟩ | hp
      · cases hsp
      · exact (HST.out.inv.dn _ (hp.mem_iff.2 (List.mem_cons_self ..)) sp hsp).2
    obtain ⟨x, h1, _, h2, h3⟩ := hrow
    have h4 := HST.out.ok x h1
    exact ⟨h2 ▸ h4.f, h3 ▸ h4.t⟩
  have hwin := whl_in (a := a) (b := b) HP.out.f HP.out.t hspin
  have hcin : In64 (G.foldl (fun a x => jn ag x.a a) c) := foldJ_in G c HP.out.a (fun x hx => (HST.out.ok x (HGI.out.all.mem_iff.2 (List.mem_append_left _ hx))).a)
  have HNok : Hid (∀ x ∈ N, PnOk x) := fun x hx => HST.out.ok x (HGI.out.all.mem_iff.2 (List.mem_append_right _ hx))
  rw [hwh] at hcom hinv
  generalize hWH : whl ⟨f, t⟩ l a b = WH at *
  clear hWH
  obtain ⟨wf, wt⟩ := WH
  simp only at hcom hinv hNpl hwin
  have hgr : w2.grownBy ((((w2.setCell ⟨w.heap.size, 0, none⟩ (.int .i64 k)).setCell ⟨w.heap.size, 1, none⟩ (.int .i64 wf)).setCell ⟨w.heap.size, 2, none⟩ (.int .i64 wt)).setCell ⟨w.heap.size, 3, none⟩ (.int .i64 (G.foldl (fun a x => jn ag x.a a) c))) (some w.heap.size) := grownBy_trans (grownBy_trans (grownBy_trans (grownBy_set _ _ _ _) (grownBy_set _ _ _ _)) (grownBy_set _ _ _ _)) (grownBy_set _ _ _ _)
  have HL := hide (HL0.out.set hgr (k' := k) (f' := wf) (t' := wt) (c' := G.foldl (fun a x => jn ag x.a a) c) (by have := (((HL0.out.bp.set 0 (.int .i64 k)).set 1 (.int .i64 wf)).set 2 (.int .i64 wt)).set 3 (.int .i64 (G.foldl (fun a x => jn ag x.a a) c)); simpa using this))
  have HKEY := hide (keyPl HP.out.k hwin.1 hwin.2)
  have HNO : Hid (∀ p ∈ N.map pEnt, p.1 ≠ (.agg #[.int .i64 k, .int .i64 wf, .int .i64 wt] : Value)) := fun p hp e => by
    obtain ⟨y, hy, rfl⟩ := List.mem_map.1 hp
    simp [pEnt, plV] at e
    exact hNpl y hy e
  have HPK : Hid (PnOk ⟨k, wf, wt, G.foldl (fun a x => jn ag x.a a) c⟩) := ⟨HP.out.k, hwin.1, hwin.2, hcin⟩
  have HCO := hide hcom
  have HIV := hide hinv
  clear hcom hinv hNpl hwin hcin hspin hwh HL0 y0 y1 y2 y3 yf
  generalize hWX : ((((w2.setCell ⟨w.heap.size, 0, none⟩ (.int .i64 k)).setCell ⟨w.heap.size, 1, none⟩ (.int .i64 wf)).setCell ⟨w.heap.size, 2, none⟩ (.int .i64 wt)).setCell ⟨w.heap.size, 3, none⟩ (.int .i64 (G.foldl (fun a x => jn ag x.a a) c))) = WX at *
  clear hWX hgr
  generalize hCC : G.foldl (fun a x => jn ag x.a a) c = CC at *
  clear hCC
  generalize hRR : (⟨k, v', l.take a ++ (⟨wf, wt⟩ : Sp) :: l.drop b⟩ :: R0 : List SRow) = R' at *
  clear hRR
  generalize hFQ : (fun i => fq i ∨ v'.ownBlock = some i) = fq' at *
  clear hFQ
  obtain ⟨b0, b1, b2, b3⟩ := HL.out.bp.cells4
  have HPO := hide (fun w' => placeOf_any w' ⟨k, wf, wt, CC⟩)
  unfold Pn.val plV at HPO
  simp only at HPO
  go_upto_region 4 with (first | (go_at_call 104; refine (HPO.out _).mono ?_; rintro e w3 ⟨rfl, b3'⟩; have H3 := hide (HL.out.below b3'); clear b3') | fail)
  obtain ⟨W4, hW4⟩ : ∃ W4, W4 = w3.alloc (.cells #[.int .i64 k, .int .i64 wf, .int .i64 wt] 150) := ⟨_, rfl⟩
  rw [← hW4]
  have H4 : Hid (LI w W4 s m o 3 size slide ag fq fq' N R' k wf wt CC) := (show LI _ _ _ _ _ _ _ _ _ _ _ _ _ _ _ _ _ by rw [hW4]; exact H3.out.below (below_box w3 _))
  have P4 : Hid (BoxT 150 W4 w3.heap.size #[.int .i64 k, .int .i64 wf, .int .i64 wt]) := (show BoxT _ _ _ _ by rw [hW4]; exact BoxT.new _ _ _)
  clear hW4 b0 b1 b2 b3 HPO
  have HK4 : Hid (∀ w', Below W4.heap.size W4 w' → L4 s m w3.heap.size k wf wt 0 false w') := fun w' hb => by
    have h1 := H4.out.below hb
    obtain ⟨p0, p1, p2⟩ := (BoxT.below (t := 150) P4.out hb).cells3
    obtain ⟨lk, hlk⟩ := HKEY.out
    exact ⟨h1.cells.2.1, p0, p1, p2, h1.mp.look_miss Tryz.lawPl Tryz.underlying113 (Tryz.zeroI w') hlk HNO.out true⟩
  refine wp_region_M (S := fun w' => L4 s m w3.heap.size k wf wt 0 false w') (late := []) (by kernel_rfl) (HK4.out _ (Below.refl _ _).drew) (fun hHeld => ?_)
  (try simp only [List.size_toArray, List.length_cons, List.length_nil, Nat.zero_add, Nat.reduceAdd, Array.replicate, List.replicate])
  refine wpAnyM_take (i := 0) (oi := ⟨_, _, _, _, _, _⟩) (v := ?_) rfl (by kernel_rfl) (by kernel_rfl) (by kernel_rfl) (by kernel_rfl) (fun _ _ _ h => h) (Or.inl ⟨by rfl, ?_⟩) hHeld ?_
  rotate_left
  · (intro w' hSw; unfold L4 at hSw; go_simp; try (with_reducible rfl))
  (try simp only [Act.put, List.setIfInBounds_toArray, List.set_cons_zero, List.set_cons_succ])
  refine wpAnyM_take (i := 1) (oi := ⟨_, _, _, _, _, _⟩) (v := ?_) rfl (by kernel_rfl) (by kernel_rfl) (by kernel_rfl) (by kernel_rfl) (fun _ _ _ h => h) (Or.inl ⟨by rfl, ?_⟩) hHeld ?_
  rotate_left
  · (intro w' hSw; unfold L4 at hSw; go_simp; try (with_reducible rfl))
  (try simp only [Act.put, List.setIfInBounds_toArray, List.set_cons_zero, List.set_cons_succ])
  refine wpAnyM_take (i := 2) (oi := ⟨_, _, _, _, _, _⟩) (v := ?_) rfl (by kernel_rfl) (by kernel_rfl) (by kernel_rfl) (by kernel_rfl) (fun _ _ _ h => h) (Or.inl ⟨by rfl, ?_⟩) hHeld ?_
  rotate_left
  · (intro w' hSw; unfold L4 at hSw; go_simp; try (with_reducible rfl))
  (try simp only [Act.put, List.setIfInBounds_toArray, List.set_cons_zero, List.set_cons_succ])
  refine wpAnyM_take (i := 3) (oi := ⟨_, _, _, _, _, _⟩) (v := ?_) rfl (by kernel_rfl) (by kernel_rfl) (by kernel_rfl) (by kernel_rfl) (fun _ _ _ h => h) (Or.inl ⟨by rfl, ?_⟩) hHeld ?_
  rotate_left
  · (intro w' hSw; unfold L4 at hSw; go_simp; try (with_reducible rfl))
  (try simp only [Act.put, List.setIfInBounds_toArray, List.set_cons_zero, List.set_cons_succ])
  refine wpAnyM_take (i := 4) (oi := ⟨_, _, _, _, _, _⟩) (v := ?_) rfl (by kernel_rfl) (by kernel_rfl) (by kernel_rfl) (by kernel_rfl) (fun _ _ _ h => h) (Or.inl ⟨by rfl, ?_⟩) hHeld ?_
  rotate_left
  · (intro w' hSw; unfold L4 at hSw; go_simp; try (with_reducible rfl))
  (try simp only [Act.put, List.setIfInBounds_toArray, List.set_cons_zero, List.set_cons_succ])
  refine wpAnyM_take (i := 5) (oi := ⟨_, _, _, _, _, _⟩) (v := ?_) rfl (by kernel_rfl) (by kernel_rfl) (by kernel_rfl) (by kernel_rfl) (fun _ _ _ h => h) (Or.inl ⟨by rfl, ?_⟩) hHeld ?_
  rotate_left
  · (intro w' hSw; unfold L4 at hSw; go_simp; try (with_reducible rfl))
  (try simp only [Act.put, List.setIfInBounds_toArray, List.set_cons_zero, List.set_cons_succ])
  refine wpAnyM_take (i := 6) (oi := ⟨_, _, _, _, _, _⟩) (v := ?_) rfl (by kernel_rfl) (by kernel_rfl) (by kernel_rfl) (by kernel_rfl) (fun _ _ _ h => h) (Or.inl ⟨by rfl, ?_⟩) hHeld ?_
  rotate_left
  · (intro w' hSw; unfold L4 at hSw; go_simp; try (with_reducible rfl))
  (try simp only [Act.put, List.setIfInBounds_toArray, List.set_cons_zero, List.set_cons_succ])
  refine wpAnyM_take (i := 7) (oi := ⟨_, _, _, _, _, _⟩) (v := ?_) rfl (by kernel_rfl) (by kernel_rfl) (by kernel_rfl) (by kernel_rfl) (fun _ _ _ h => h) (Or.inl ⟨by rfl, ?_⟩) hHeld ?_
  rotate_left
  · (intro w' hSw; unfold L4 at hSw; go_simp; try (with_reducible rfl))
  (try simp only [Act.put, List.setIfInBounds_toArray, List.set_cons_zero, List.set_cons_succ])
  refine wpAnyM_take (i := 8) (oi := ⟨_, _, _, _, _, _⟩) (v := ?_) rfl (by kernel_rfl) (by kernel_rfl) (by kernel_rfl) (by kernel_rfl) (fun _ _ _ h => h) (Or.inl ⟨by rfl, ?_⟩) hHeld ?_
  rotate_left
  · (intro w' hSw; unfold L4 at hSw; go_simp; try (with_reducible rfl))
  (try simp only [Act.put, List.setIfInBounds_toArray, List.set_cons_zero, List.set_cons_succ])
  refine wpAnyM_take (i := 9) (oi := ⟨_, _, _, _, _, _⟩) (v := ?_) rfl (by kernel_rfl) (by kernel_rfl) (by kernel_rfl) (by kernel_rfl) (fun _ _ _ h => h) (Or.inl ⟨by rfl, ?_⟩) hHeld ?_
  rotate_left
  · (intro w' hSw; unfold L4 at hSw; go_simp; try (with_reducible rfl))
  (try simp only [Act.put, List.setIfInBounds_toArray, List.set_cons_zero, List.set_cons_succ])
  refine wpAnyM_take (i := 10) (oi := ⟨_, _, _, _, _, _⟩) (v := ?_) rfl (by kernel_rfl) (by kernel_rfl) (by kernel_rfl) (by kernel_rfl) (fun _ _ _ h => h) (Or.inl ⟨by rfl, ?_⟩) hHeld ?_
  rotate_left
  · (intro w' hSw; unfold L4 at hSw; go_simp; try (with_reducible rfl))
  (try simp only [Act.put, List.setIfInBounds_toArray, List.set_cons_zero, List.set_cons_succ])
  refine wpAnyM_done (by kernel_rfl) ?_ _
  have H6 := hide (H4.out.below ((Below.refl _ _).drew))
  have P6 : Hid (BoxT 150 W4.drew w3.heap.size #[.int .i64 k, .int .i64 wf, .int .i64 wt]) := P4.out
  clear hHeld
  generalize hw6 : W4.drew = w6 at *
  clear hw6
  go_upto_region 7 with fail
  have H7 := hide (H6.out.below ((Below.refl _ _).drew))
  obtain ⟨lk, hlk⟩ := HKEY.out
  obtain ⟨w7, hrun7, hm7, ht7⟩ := H7.out.mp.store_new (v := .int .i64 CC) Tryz.lawPl Tryz.underlying113 hlk HNO.out
  obtain ⟨_, e4, e3⟩ := H6.out.cells
  obtain ⟨p0, p1, p2⟩ := P6.out.cells3
  have hL7 : L7 s m w3.heap.size w.heap.size k wf wt CC w7 := by
    have hne : ∀ {ty : TypeId} {i : Nat} {cs : Array Value}, BoxT ty w6.drew i cs → BoxT ty w7 i cs := fun {ty i cs} hb => by
      have h1 : i ≠ m := fun e => by
        obtain ⟨es, ck, h1⟩ := H7.out.mp.isMap
        unfold BoxT at hb
        rw [e, h1] at hb
        cases hb
      have h2 := ht7.other h1
      unfold BoxT at *
      rw [h2]; exact hb
    have q1 := hne H7.out.box
    have q2 := hne H7.out.bp
    have q3 := hne (ty := 150) P6.out
    obtain ⟨r0, r1, r2⟩ := q3.cells3
    obtain ⟨_, _, _, r3⟩ := q2.cells4
    exact ⟨by rw [q1.cellAt]; rfl, r0, r1, r2, r3⟩
  have HL7 := hide hL7
  have HM7 := hide (And.intro hm7 ht7)
  clear hL7 hm7 ht7
  refine wp_region_M (S := fun w' => L7 s m w3.heap.size w.heap.size k wf wt CC w') (late := []) (by kernel_rfl) ⟨e4, p0, p1, p2, e3⟩ (fun hHeld => ?_)
  (try simp only [List.size_toArray, List.length_cons, List.length_nil, Nat.zero_add, Nat.reduceAdd, Array.replicate, List.replicate])
  refine wpAnyM_take (i := 0) (oi := ⟨_, _, _, _, _, _⟩) (v := ?_) rfl (by kernel_rfl) (by kernel_rfl) (by kernel_rfl) (by kernel_rfl) (fun _ _ _ h => h) (Or.inl ⟨by rfl, ?_⟩) hHeld ?_
  rotate_left
  · (intro w' hSw; unfold L7 at hSw; go_simp; try (with_reducible rfl))
  (try simp only [Act.put, List.setIfInBounds_toArray, List.set_cons_zero, List.set_cons_succ])
  refine wpAnyM_take (i := 1) (oi := ⟨_, _, _, _, _, _⟩) (v := ?_) rfl (by kernel_rfl) (by kernel_rfl) (by kernel_rfl) (by kernel_rfl) (fun _ _ _ h => h) (Or.inl ⟨by rfl, ?_⟩) hHeld ?_
  rotate_left
  · (intro w' hSw; unfold L7 at hSw; go_simp; try (with_reducible rfl))
  (try simp only [Act.put, List.setIfInBounds_toArray, List.set_cons_zero, List.set_cons_succ])
  refine wpAnyM_take (i := 2) (oi := ⟨_, _, _, _, _, _⟩) (v := ?_) rfl (by kernel_rfl) (by kernel_rfl) (by kernel_rfl) (by kernel_rfl) (fun _ _ _ h => h) (Or.inl ⟨by rfl, ?_⟩) hHeld ?_
  rotate_left
  · (intro w' hSw; unfold L7 at hSw; go_simp; try (with_reducible rfl))
  (try simp only [Act.put, List.setIfInBounds_toArray, List.set_cons_zero, List.set_cons_succ])
  refine wpAnyM_take (i := 3) (oi := ⟨_, _, _, _, _, _⟩) (v := ?_) rfl (by kernel_rfl) (by kernel_rfl) (by kernel_rfl) (by kernel_rfl) (fun _ _ _ h => h) (Or.inl ⟨by rfl, ?_⟩) hHeld ?_
  rotate_left
  · (intro w' hSw; unfold L7 at hSw; go_simp; try (with_reducible rfl))
  (try simp only [Act.put, List.setIfInBounds_toArray, List.set_cons_zero, List.set_cons_succ])
  refine wpAnyM_take (i := 4) (oi := ⟨_, _, _, _, _, _⟩) (v := ?_) rfl (by kernel_rfl) (by kernel_rfl) (by kernel_rfl) (by kernel_rfl) (fun _ _ _ h => h) (Or.inl ⟨by rfl, ?_⟩) hHeld ?_
  rotate_left
  · (intro w' hSw; unfold L7 at hSw; go_simp; try (with_reducible rfl))
  (try simp only [Act.put, List.setIfInBounds_toArray, List.set_cons_zero, List.set_cons_succ])
  refine wpAnyM_take (i := 5) (oi := ⟨_, _, _, _, _, _⟩) (v := ?_) rfl (by kernel_rfl) (by kernel_rfl) (by kernel_rfl) (by kernel_rfl) (fun _ _ _ h => h) (Or.inl ⟨by rfl, ?_⟩) hHeld ?_
  rotate_left
  · (intro w' hSw; unfold L7 at hSw; go_simp; try (with_reducible rfl))
  (try simp only [Act.put, List.setIfInBounds_toArray, List.set_cons_zero, List.set_cons_succ])
  refine wpAnyM_take (i := 6) (oi := ⟨_, _, _, _, _, _⟩) (v := ?_) rfl (by kernel_rfl) (by kernel_rfl) (by kernel_rfl) (by kernel_rfl) (fun _ _ _ h => h) (Or.inl ⟨by rfl, ?_⟩) hHeld ?_
  rotate_left
  · (intro w' hSw; unfold L7 at hSw; go_simp; try (with_reducible rfl))
  (try simp only [Act.put, List.setIfInBounds_toArray, List.set_cons_zero, List.set_cons_succ])
  refine wpAnyM_one (i := 7) (o := ⟨_, _, _, _, _, _⟩) (by kernel_rfl) rfl (fun K hK => ?_)
  refine step_put_run rfl _ _ _ 113 rfl _ _ _ rfl rfl rfl hrun7 ?_
  refine hK.out _ _ HL7.out (fun hHeld => ?_)
  clear hK K
  (try simp only [List.setIfInBounds_toArray, List.set_cons_zero, List.set_cons_succ])
  refine wpAnyM_done (by kernel_rfl) ?_ _
  go_wp2_with fail
  go_end0
  have hnew : (⟨k, wf, wt, CC⟩ :: N : List Pn).map pEnt = (plV ⟨k, wf, wt, CC⟩, .int .i64 CC) :: N.map pEnt := rfl
  obtain ⟨q1, q2⟩ := H7.out.fin (N' := ⟨k, wf, wt, CC⟩ :: N) (by rw [hnew]; exact HM7.out.1) HM7.out.2 (fun y hy => by
    rcases List.mem_cons.1 hy with rfl | hy
    · exact HPK.out
    · exact HNok.out y hy) HIV.out
  exact ⟨rfl, _, _, _, q1, q2, HCO.out⟩
theorem lay_any {w : World} {s m o : Nat} {kd size slide ag : Int} {fq : Nat → Prop} {M : List Pn} {R : List SRow} (h : StAt w s m o kd size slide ag fq M R) {k f t c : Int} (hp : PnOk ⟨k, f, t, c⟩) (hf : kd = 3 → f < t) (hM : M.length ≤ 100000) :
    Calls Tryz.prog 99 #[.pointer (some ⟨s, 0, none⟩), .agg #[.int .i64 k, .int .i64 f, .int .i64 t, .int .i64 c]] w (LPost w s m o kd size slide ag fq M ⟨k, f, t, c⟩) := by
  by_cases hk : kd = 3
  · subst hk
    exact lay_sess h hp (hf rfl) hM
  · exact lay_plain h hk hp
end Go.Proofs.YtpcbhcdpegbfjaaGreat
/-
  spans, Put, New, Load.
-/
namespace Go.Proofs.YtpcbhcdpegbfjaaGreat
open Go.RowKit

def sps (kd size slide t : Int) : List Sp := if kd = 0 then [⟨-9223372036854775808, 2199023255553⟩] else pSpans kd size slide t
def frS (kd size slide ag : Int) (r : Rc) : List Pn := (sps kd size slide r.t).map fun sp => ⟨r.k, sp.f, sp.t, ad ag (zr ag) r.v⟩
theorem sps_len (kd size slide t : Int) : (sps kd size slide t).length ≤ 64 := by
  unfold sps
  split
  · simp
  · exact pSpans_len _ _ _ _
set_option maxHeartbeats 8000000 in
set_option maxRecDepth 100000 in
theorem sspans_any {w : World} {s m o : Nat} {kd size slide ag : Int} {fq : Nat → Prop} {M : List Pn} {R : List SRow} (h : StAt w s m o kd size slide ag fq M R) (hs : In64 size) (hl : In64 slide) (t : Int) :
    Calls Tryz.prog 110 #[.pointer (some ⟨s, 0, none⟩), .int .i64 t] w fun e w' => ∃ u, e = .returned u ∧ OwnL 72 2 Sp.cs w.heap.size w' u (sps kd size slide t) ∧ Below w.heap.size w w' := by
  obtain ⟨c0, c1, c2, _⟩ := h.cells
  have HR := hide (isReduce_any c0)
  have HSP := hide (Spans_any w kd t hs hl)
  clear h
  unfold sps
  by_cases hk : kd = 0
  · rw [if_pos hk]
    subst hk
    have ho : OwnL 72 2 Sp.cs w.heap.size (w.alloc (.cells (Sp.cs ⟨-9223372036854775808, 2199023255553⟩).toArray 72)) (.slice (some ⟨w.heap.size, 0, none⟩) 1 1) [⟨-9223372036854775808, 2199023255553⟩] := own_one _ rfl rfl (Nat.le_refl _)
    have HO := hide ho
    clear ho
    go_enter Tryz.func110, Tryz.ntmps110
    go_wp2_with (first | (go_at_call 100; refine HR.out.mono ?_; rintro e w1 ⟨rfl, rfl⟩) | fail)
    go_ret
    exact ⟨_, rfl, HO.out, below_box w1 _⟩
  · rw [if_neg hk]
    have hk' : (kd == 0) = false := by simpa using hk
    rw [hk'] at HR
    go_enter Tryz.func110, Tryz.ntmps110
    go_wp2_with (first | (go_at_call 100; refine HR.out.mono ?_; rintro e w1 ⟨rfl, rfl⟩) | (go_at_call 119; refine HSP.out.mono ?_; rintro e w2 ⟨u, rfl, o2, b2⟩) | fail)
    go_ret
    exact ⟨u, rfl, o2, b2⟩
def P1 (s K : Nat) (ag v : Int) (w' : World) : Prop := w'.cell? ⟨s, 3, none⟩ = some (.int .i64 ag) ∧ w'.cell? ⟨K, 2, none⟩ = some (.int .i64 v)
structure PI (w wr : World) (s m o : Nat) (kd size slide ag : Int) (fq fq' : Nat → Prop) (M' : List Pn) (R' : List SRow) (r : Rc) (u : Value) (ss : List Sp) : Prop where
  st : StAt wr s m o kd size slide ag fq' M' R'
  ft : FT (FP s m fq) (FP s m fq') w wr
  bx : BoxT 38 wr w.heap.size #[.int .i64 r.k, .int .i64 r.t, .int .i64 r.v]
  row : OwnL 72 2 Sp.cs (w.heap.size + 1) wr u ss
  n1 : ¬ FP s m fq' w.heap.size
  n2 : ∀ g, u.ownBlock = some g → ¬ FP s m fq' g
theorem PI.step {w wr w' : World} {s m o : Nat} {kd size slide ag : Int} {fq fq' fq'' : Nat → Prop} {M' M'' : List Pn} {R' R'' : List SRow} {r : Rc} {u : Value} {ss : List Sp} {W : World} (h : PI w wr s m o kd size slide ag fq fq' M' R' r u ss) (hb : Below wr.heap.size wr W) (hst : StAt w' s m o kd size slide ag fq'' M'' R'') (hft : FT (FP s m fq') (FP s m fq'') W w') : PI w w' s m o kd size slide ag fq fq'' M'' R'' r u ss := by
  have hl := h.bx.lt
  have sz := hb.size
  have keep : ∀ g, g < wr.heap.size → ¬ FP s m fq' g → w'.heap[g]? = wr.heap[g]? := fun g hg hn => (hft.block g (by omega) hn).trans (hb.block g hg)
  have nn : ∀ g, g < wr.heap.size → ¬ FP s m fq' g → ¬ FP s m fq'' g := fun g hg hn e => by
    rcases hft.sub g e with e | e
    · exact hn e
    · omega
  refine ⟨hst, (h.ft.trans (FT.of_below hb)).trans hft, ?_, h.row.back (fun g e => keep g (h.row.lt g e) (h.n2 g e)), nn _ hl h.n1, fun g e => nn g (h.row.lt g e) (h.n2 g e)⟩
  have h1 := h.bx
  have h2 := keep _ hl h.n1
  unfold BoxT at *
  rw [h2]; exact h1
def PPost (w : World) (s m o : Nat) (kd size slide ag : Int) (fq : Nat → Prop) (M : List Pn) (r : Rc) (e : Ending) (w' : World) : Prop := e = .returned (.tuple #[]) ∧ ∃ fq' M' R', StAt w' s m o kd size slide ag fq' M' R' ∧ FT (FP s m fq) (FP s m fq') w w' ∧ Comes (sess kd) (jn ag) (frS kd size slide ag r ++ M) M'
theorem take_map_snoc {l : List Sp} {i : Nat} {x : Sp} (h : l[i]? = some x) (g : Sp → Pn) : ((l.take (i + 1)).map g) = (l.take i).map g ++ [g x] := by
  have hl := lt_of_get h
  have e : l[i] = x := by rw [List.getElem?_eq_getElem hl] at h; exact Option.some.inj h
  rw [List.take_succ_eq_append_getElem hl, e, List.map_append]; rfl
set_option maxHeartbeats 8000000 in
set_option maxRecDepth 100000 in
theorem Put_st {w : World} {s m o : Nat} {kd size slide ag : Int} {fq : Nat → Prop} {M : List Pn} {R : List SRow} (h : StAt w s m o kd size slide ag fq M R) (hs : In64 size) (hl : In64 slide) (r : Rc) (hrk : In64 r.k) (hrv : In64 r.v) (hsp : ∀ sp ∈ sps kd size slide r.t, In64 sp.f ∧ In64 sp.t ∧ (kd = 3 → sp.f < sp.t)) (hM : M.length ≤ 90000) (hap : Apart (sess kd) M) :
    Calls Tryz.prog 97 #[.pointer (some ⟨s, 0, none⟩), .agg #[.int .i64 r.k, .int .i64 r.t, .int .i64 r.v]] w (PPost w s m o kd size slide ag fq M r) := by
  obtain ⟨rk, rt, rv⟩ := r
  simp only at hrk hrv hsp
  have hb1 := below_box w (.cells #[.int .i64 rk, .int .i64 rt, .int .i64 rv] 38)
  obtain ⟨W1, hW1⟩ : ∃ W1, W1 = w.alloc (.cells #[.int .i64 rk, .int .i64 rt, .int .i64 rv] 38) := ⟨_, rfl⟩
  rw [← hW1] at hb1
  have hs1 : W1.heap.size = w.heap.size + 1 := by rw [hW1]; simp
  have hr1 : BoxT 38 W1 w.heap.size #[.int .i64 rk, .int .i64 rt, .int .i64 rv] := by rw [hW1]; exact BoxT.new _ _ _
  have h1 := h.below (fun i hi => hb1.block i (h.flt i hi)) hb1.size
  have HK : Hid (∀ w', Below W1.heap.size W1 w' → P1 s w.heap.size ag rv w') := fun w' hb => ⟨by rw [(BoxT.below (t := 117) h1.box hb).cellAt]; rfl, by rw [(BoxT.below (t := 38) hr1 hb).cellAt]; rfl⟩
  have HZ : Hid (∀ w', Below W1.heap.size W1 w' → Calls Tryz.prog 109 #[.int .i64 ag] w' fun e w'' => e = .returned (.int .i64 (zr ag)) ∧ Below W1.heap.size W1 w'') := fun w' hb => (Zero_any w' ag).mono (by rintro e w'' ⟨rfl, h2⟩; exact ⟨rfl, hb.trans (h2.mono hb.size)⟩)
  have HAD : Hid (∀ w', Below W1.heap.size W1 w' → Calls Tryz.prog 108 #[.int .i64 ag, .int .i64 (zr ag), .int .i64 rv] w' fun e w'' => e = .returned (.int .i64 (ad ag (zr ag) rv)) ∧ Below W1.heap.size W1 w'') := fun w' hb => (Add_any w' ag (zr ag) rv).mono (by rintro e w'' ⟨rfl, h2⟩; exact ⟨rfl, hb.trans (h2.mono hb.size)⟩)
  have HSPA : Hid (∀ w', Below W1.heap.size W1 w' → Calls Tryz.prog 110 #[.pointer (some ⟨s, 0, none⟩), .int .i64 rt] w' fun e w'' => ∃ u, e = .returned u ∧ OwnL 72 2 Sp.cs w'.heap.size w'' u (sps kd size slide rt) ∧ Below w'.heap.size w' w'') := fun w' hb => sspans_any (h1.below (fun i hi => hb.block i (h1.flt i hi)) hb.size) hs hl rt
  have HH := hide h
  have H1 := hide h1
  have HR1 := hide hr1
  have HB1 := hide hb1
  have HSZ := hide hs1
  have HIN : Hid (In64 (ad ag (zr ag) rv)) := ad_in (zr_in ag) hrv
  have HSI := hide hsp
  have HSL := hide (sps_len kd size slide rt)
  have HFR : Hid (frS kd size slide ag ⟨rk, rt, rv⟩ = (sps kd size slide rt).map fun sp => ⟨rk, sp.f, sp.t, ad ag (zr ag) rv⟩) := rfl
  have HAP := hide hap
  generalize ad ag (zr ag) rv = V at *
  generalize zr ag = Z at *
  clear h h1 hr1 hb1 hs1 hsp hap
  go_enter Tryz.func97, Tryz.ntmps97
  go_upto_region 1 with fail
  rw [← hW1]
  clear hW1
  refine wp_region_M (S := fun w' => P1 s w.heap.size ag rv w') (late := []) (by kernel_rfl) (HK.out _ (Below.refl _ _).drew) (fun hHeld => ?_)
  (try simp only [List.size_toArray, List.length_cons, List.length_nil, Nat.zero_add, Nat.reduceAdd, Array.replicate, List.replicate])
  refine wpAnyM_take (i := 0) (oi := ⟨_, _, _, _, _, _⟩) (v := ?_) rfl (by kernel_rfl) (by kernel_rfl) (by kernel_rfl) (by kernel_rfl) (fun _ _ _ h => h) (Or.inl ⟨by rfl, ?_⟩) hHeld ?_
  rotate_left
  · (intro w' hSw; unfold P1 at hSw; go_simp; try (with_reducible rfl))
  (try simp only [Act.put, List.setIfInBounds_toArray, List.set_cons_zero, List.set_cons_succ])
  refine wpAnyM_take (i := 1) (oi := ⟨_, _, _, _, _, _⟩) (v := ?_) rfl (by kernel_rfl) (by kernel_rfl) (by kernel_rfl) (by kernel_rfl) (fun _ _ _ h => h) (Or.inl ⟨by rfl, ?_⟩) hHeld ?_
  rotate_left
  · (intro w' hSw; unfold P1 at hSw; go_simp; try (with_reducible rfl))
  (try simp only [Act.put, List.setIfInBounds_toArray, List.set_cons_zero, List.set_cons_succ])
  refine wpAnyM_take (i := 2) (oi := ⟨_, _, _, _, _, _⟩) (v := ?_) rfl (by kernel_rfl) (by kernel_rfl) (by kernel_rfl) (by kernel_rfl) (fun _ _ _ h => h) (Or.inl ⟨by rfl, ?_⟩) hHeld ?_
  rotate_left
  · (intro w' hSw; unfold P1 at hSw; go_simp; try (with_reducible rfl))
  (try simp only [Act.put, List.setIfInBounds_toArray, List.set_cons_zero, List.set_cons_succ])
  refine wpAnyM_take (i := 3) (oi := ⟨_, _, _, _, _, _⟩) (v := ?_) rfl (by kernel_rfl) (by kernel_rfl) (by kernel_rfl) (by kernel_rfl) (fun _ _ _ h => h) (Or.inl ⟨by rfl, ?_⟩) hHeld ?_
  rotate_left
  · (intro w' hSw; unfold P1 at hSw; go_simp; try (with_reducible rfl))
  (try simp only [Act.put, List.setIfInBounds_toArray, List.set_cons_zero, List.set_cons_succ])
  refine wpAnyM_take (i := 4) (oi := ⟨_, _, _, _, _, _⟩) (v := ?_) rfl (by kernel_rfl) (by kernel_rfl) (by kernel_rfl) (by kernel_rfl) (fun _ _ _ h => h) (Or.inl ⟨by rfl, ?_⟩) hHeld ?_
  rotate_left
  · (intro w' hSw; unfold P1 at hSw; go_simp; try (with_reducible rfl))
  (try simp only [Act.put, List.setIfInBounds_toArray, List.set_cons_zero, List.set_cons_succ])
  refine wpAnyM_take (i := 5) (oi := ⟨_, _, _, _, _, _⟩) (v := ?_) rfl (by kernel_rfl) (by kernel_rfl) (by kernel_rfl) (by kernel_rfl) (fun _ _ _ h => h) (Or.inl ⟨by rfl, ?_⟩) hHeld ?_
  rotate_left
  · (intro w' hSw; unfold P1 at hSw; go_simp; try (with_reducible rfl))
  (try simp only [Act.put, List.setIfInBounds_toArray, List.set_cons_zero, List.set_cons_succ])
  refine wpAnyM_take (i := 6) (oi := ⟨_, _, _, _, _, _⟩) (v := ?_) rfl (by kernel_rfl) (by kernel_rfl) (by kernel_rfl) (by kernel_rfl) (fun _ _ _ h => h) (Or.inl ⟨by rfl, ?_⟩) hHeld ?_
  rotate_left
  · (intro w' hSw; unfold P1 at hSw; go_simp; try (with_reducible rfl))
  (try simp only [Act.put, List.setIfInBounds_toArray, List.set_cons_zero, List.set_cons_succ])
  refine wpAnyM_take (i := 7) (oi := ⟨_, _, _, _, _, _⟩) (v := ?_) rfl (by kernel_rfl) (by kernel_rfl) (by kernel_rfl) (by kernel_rfl) (fun _ _ _ h => h) (Or.inl ⟨by rfl, ?_⟩) hHeld ?_
  rotate_left
  · (intro w' hSw; unfold P1 at hSw; go_simp; try (with_reducible rfl))
  (try simp only [Act.put, List.setIfInBounds_toArray, List.set_cons_zero, List.set_cons_succ])
  refine wpAnyM_take (i := 9) (oi := ⟨_, _, _, _, _, _⟩) (v := ?_) rfl (by kernel_rfl) (by kernel_rfl) (by kernel_rfl) (by kernel_rfl) (fun _ _ _ h => h) (Or.inl ⟨by rfl, ?_⟩) hHeld ?_
  rotate_left
  · (intro w' hSw; unfold P1 at hSw; go_simp; try (with_reducible rfl))
  (try simp only [Act.put, List.setIfInBounds_toArray, List.set_cons_zero, List.set_cons_succ])
  refine wpAnyM_take (i := 10) (oi := ⟨_, _, _, _, _, _⟩) (v := ?_) rfl (by kernel_rfl) (by kernel_rfl) (by kernel_rfl) (by kernel_rfl) (fun _ _ _ h => h) (Or.inl ⟨by rfl, ?_⟩) hHeld ?_
  rotate_left
  · (intro w' hSw; unfold P1 at hSw; go_simp; try (with_reducible rfl))
  (try simp only [Act.put, List.setIfInBounds_toArray, List.set_cons_zero, List.set_cons_succ])
  refine wpAnyM_one (i := 8) (o := ⟨_, _, _, _, _, _⟩) (by kernel_rfl) rfl (fun K hK => ?_)
  go_simp
  go_at_call 109
  refine (HZ.out _ (Below.refl _ _).drew).mono ?_
  rintro e w2 ⟨rfl, b2⟩
  have B2 := hide b2
  refine hK.out _ _ (HK.out _ b2) (fun hHeld => ?_)
  clear hK K b2
  (try simp only [List.setIfInBounds_toArray, List.set_cons_zero, List.set_cons_succ])
  refine wpAnyM_one (i := 11) (o := ⟨_, _, _, _, _, _⟩) (by kernel_rfl) rfl (fun K hK => ?_)
  go_simp
  go_at_call 108
  refine (HAD.out _ B2.out).mono ?_
  rintro e w3 ⟨rfl, b3⟩
  have B3 := hide b3
  refine hK.out _ _ (HK.out _ b3) (fun hHeld => ?_)
  clear hK K b3
  (try simp only [List.setIfInBounds_toArray, List.set_cons_zero, List.set_cons_succ])
  refine wpAnyM_take (i := 12) (oi := ⟨_, _, _, _, _, _⟩) (v := ?_) rfl (by kernel_rfl) (by kernel_rfl) (by kernel_rfl) (by kernel_rfl) (fun _ _ _ h => h) (Or.inl ⟨by rfl, ?_⟩) hHeld ?_
  rotate_left
  · (intro w' hSw; unfold P1 at hSw; go_simp; try (with_reducible rfl))
  (try simp only [Act.put, List.setIfInBounds_toArray, List.set_cons_zero, List.set_cons_succ])
  refine wpAnyM_done (by kernel_rfl) ?_ _
  clear hHeld
  have HS3 := hide (HSPA.out _ B3.out)
  obtain ⟨r0, r1, r2⟩ := (BoxT.below (t := 38) HR1.out B3.out).cells3
  go_wp2_with (first | (go_at_call 110; refine HS3.out.mono ?_; rintro e w4 ⟨u, rfl, o4, b4⟩; obtain ⟨ua, uc, rfl⟩ := o4.shape; have O4 := hide o4; have B4 := hide (B3.out.trans (b4.mono B3.out.size)); clear o4 b4) | fail)
  have HI : Hid (PI w w4 s m o kd size slide ag fq fq M R ⟨rk, rt, rv⟩ (.slice ua (sps kd size slide rt).length uc) (sps kd size slide rt)) := by
    have hbw := HB1.out.trans (B4.out.mono HB1.out.size)
    have hsz3 := B3.out.size
    have hfl := HH.out.flt
    refine ⟨HH.out.below (fun i hi => hbw.block i (hfl i hi)) hbw.size, FT.of_below hbw, BoxT.below (t := 38) HR1.out B4.out, O4.out.mono (by have := HSZ.out; omega), fun e => by have := hfl _ e; omega, fun g e e2 => ?_⟩
    have h1 := O4.out.at g e
    have h2 := hfl g e2
    have := HSZ.out
    omega
  generalize hSS : sps kd size slide rt = SS at *
  clear hSS r0 r1 r2 HS3
  go_loopg [24] (SS.length + 1) (fun gh iv wr => ∃ (i : Nat) (fq' : Nat → Prop) (M' : List Pn) (R' : List SRow), iv = .int .i64 (i : Int) ∧ i ≤ SS.length ∧ SS.length + 1 ≤ gh + i ∧ Hid (PI w wr s m o kd size slide ag fq fq' M' R' ⟨rk, rt, rv⟩ (.slice ua SS.length uc) SS) ∧ Hid (Comes (sess kd) (jn ag) ((SS.take i).map (fun sp => ⟨rk, sp.f, sp.t, V⟩) ++ M) M'))
  case atStart => exact ⟨0, fq, M, R, rfl, by omega, by omega, HI, (show Comes _ _ _ _ from Comes.refl HAP.out)⟩
  case round =>
    clear HI
    obtain ⟨i, fq', M', R', rfl, hi, hg, HP, HC⟩ := hrel
    obtain ⟨go, rfl⟩ : ∃ go, gk = go + 1 := ⟨gk - 1, by omega⟩
    have hs64 := HSL.out
    by_cases hlt : i < SS.length
    · obtain ⟨sp, hx⟩ := get_of_lt hlt
      have bt : (i : Int) < (SS.length : Int) := by omega
      obtain ⟨nb, no, rfl, nlt, e0, e1⟩ := (HP.out.row.seg Sp.cs_len (by have := HSL.out; omega)).span hx
      have hin := HSI.out sp (List.mem_of_getElem? hx)
      have HTS := hide (take_map_snoc hx (fun sp => (⟨rk, sp.f, sp.t, V⟩ : Pn)))
      obtain ⟨xf, xt⟩ := sp
      simp only at e0 e1 hin
      obtain ⟨r0, r1, r2⟩ := HP.out.bx.cells3
      have hbx := below_box wr (.cells #[.int .i64 xf, .int .i64 xt] 72)
      have hst := HP.out.st.below (fun i hi => hbx.block i (HP.out.st.flt i hi)) hbx.size
      have hml : M'.length ≤ 100000 := by
        have h1 := HC.out.1.len
        rw [List.length_append, List.length_map, List.length_take] at h1
        have := HSL.out
        omega
      have HLA := hide (lay_any hst (k := rk) (f := xf) (t := xt) (c := V) ⟨hrk, hin.1, hin.2.1, HIN.out⟩ hin.2.2 hml)
      have HBX := hide hbx
      have r0' := cell_alloc r0 (.cells #[.int .i64 xf, .int .i64 xt] 72)
      clear hbx hst hml hx hin
      go_wp2_with (first | (go_at_call 99; refine HLA.out.mono ?_; rintro e w5 ⟨rfl, fq'', M'', R'', st5, ft5, c5⟩; have H5 := hide (HP.out.step HBX.out st5 ft5); have C5 := hide c5; clear st5 ft5 c5) | fail)
      go_roundg go
      case rel =>
        refine ⟨i + 1, fq'', M'', R'', by go_num, by omega, by omega, H5, (show Comes _ _ _ _ from ?_)⟩
        rw [HTS.out, List.append_assoc]
        have h6 := Comes.step (q := [⟨rk, xf, xt, V⟩]) HC.out C5.out
        exact h6.perm (by rw [List.cons_append, List.nil_append, List.cons_append, List.nil_append]; exact List.perm_middle.symm) (.refl _)
      case measure => omega
    · obtain rfl : i = SS.length := by omega
      have bt : ¬ ((SS.length : Nat) : Int) < (SS.length : Int) := by omega
      go_wp2_with fail
      go_end0
      refine ⟨rfl, fq', M', R', HP.out.st, HP.out.ft, ?_⟩
      have h6 := HC.out
      rw [List.take_of_length_le (Nat.le_refl _)] at h6
      rw [HFR.out]; exact h6
def APost (w : World) (s : Nat) (kd size slide ag : Int) (fp : Nat → Prop) (L : List Pn) (w' : World) : Prop := ∃ fp' M', SA w' s kd size slide ag fp' M' ∧ FT fp fp' w w' ∧ Comes (sess kd) (jn ag) L M'
theorem FT.congr {fp fp' fq fq' : Nat → Prop} {w w' : World} (h : FT fq fq' w w') (h1 : ∀ i, fp i ↔ fq i) (h2 : ∀ i, fp' i ↔ fq' i) : FT fp fp' w w' :=
  ⟨h.os, h.tape, h.output, h.size, fun i hi hn => h.block i hi (fun e => hn ((h1 i).2 e)), fun i hi => by
    rcases h.sub i ((h2 i).1 hi) with e | e
    · exact .inl ((h1 i).2 e)
    · exact .inr e⟩
theorem SA.places {w : World} {s : Nat} {kd size slide ag : Int} {fp : Nat → Prop} {M : List Pn} (h : SA w s kd size slide ag fp M) : Places M := by
  obtain ⟨m, o, fq, R, h, _⟩ := h
  exact places_of h.mp
theorem Put_any {w : World} {s : Nat} {kd size slide ag : Int} {fp : Nat → Prop} {M : List Pn} (h : SA w s kd size slide ag fp M) (hs : In64 size) (hl : In64 slide) (r : Rc) (hrk : In64 r.k) (hrv : In64 r.v) (hsp : ∀ sp ∈ sps kd size slide r.t, In64 sp.f ∧ In64 sp.t ∧ (kd = 3 → sp.f < sp.t)) (hM : M.length ≤ 90000) (hap : Apart (sess kd) M) :
    Calls Tryz.prog 97 #[.pointer (some ⟨s, 0, none⟩), .agg #[.int .i64 r.k, .int .i64 r.t, .int .i64 r.v]] w fun e w' => e = .returned (.tuple #[]) ∧ APost w s kd size slide ag fp (frS kd size slide ag r ++ M) w' := by
  obtain ⟨m, o, fq, R, h, hf⟩ := h
  refine (Put_st h hs hl r hrk hrv hsp hM hap).mono ?_
  rintro e w' ⟨rfl, fq', M', R', h1, h2, h3⟩
  exact ⟨rfl, FP s m fq', M', ⟨m, o, fq', R', h1, fun _ => Iff.rfl⟩, h2.congr hf (fun _ => Iff.rfl), h3⟩
end Go.Proofs.YtpcbhcdpegbfjaaGreat
