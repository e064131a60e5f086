/-
  Texts in build order: ONevW, OLawN.
-/
import Derived.Test.YtpcbhcdpegbfjaaGreatM24
import Derived.Test.YtpcbhcdpegbfjaaGreatM45
import Derived.Test.YtpcbhcdpegbfjaaGreatM13
import Derived.Deep.CutBlock
import Derived.Deep.CutRange
/-
  A window's operator and a law's step, side by side.
-/
namespace Go.Proofs.YtpcbhcdpegbfjaaGreat
open Go.RowKit

/-- A step of a script. -/
structure Stp where
  wh : Int
  rk : Int
  rt : Int
  rv : Int
  mm : Int
def Stp.cs (x : Stp) : List Value := [.int .i64 x.wh, .int .i64 x.rk, .int .i64 x.rt, .int .i64 x.rv, .int .i64 x.mm]
theorem LSeg.stp {B : Nat} {w : World} {ao : Option Addr} {n cap : Nat} {xs : List Stp} (h : LSeg 5 Stp.cs B w (.slice ao n cap) xs) {i : Nat} {x : Stp} (hx : xs[i]? = some x) : ∃ b o, ao = some ⟨b, o, none⟩ ∧ b < B ∧ w.cell? ⟨b, o + i * 5, none⟩ = some (.int .i64 x.wh) ∧ w.cell? ⟨b, o + i * 5 + 1, none⟩ = some (.int .i64 x.rk) ∧ w.cell? ⟨b, o + i * 5 + 2, none⟩ = some (.int .i64 x.rt) ∧ w.cell? ⟨b, o + i * 5 + 3, none⟩ = some (.int .i64 x.rv) ∧ w.cell? ⟨b, o + i * 5 + 4, none⟩ = some (.int .i64 x.mm) := by
  obtain ⟨ao', cap', e, _, hs⟩ := h
  cases e
  rcases hs with rfl | ⟨b, off, rfl, hb, hc⟩
  · simp at hx
  · exact ⟨b, off, rfl, hb, hc i x hx 0 _ rfl, hc i x hx 1 _ rfl, hc i x hx 2 _ rfl, hc i x hx 3 _ rfl, hc i x hx 4 _ rfl⟩
theorem BoxT.all5 {t : TypeId} {W : World} {R : Nat} {a0 a1 a2 a3 a4 : Value} (h : BoxT t W R #[a0, a1, a2, a3, a4]) : W.cell? ⟨R, 0, none⟩ = some a0 ∧ W.cell? ⟨R, 1, none⟩ = some a1 ∧ W.cell? ⟨R, 2, none⟩ = some a2 ∧ W.cell? ⟨R, 3, none⟩ = some a3 ∧ W.cell? ⟨R, 4, none⟩ = some a4 := by
  unfold BoxT at h
  simp [World.cell?, h]
/-- The operator, by what was there at the start. -/
def NW (w W : World) (O K s : Nat) (k size slide a : Int) (M : List Pn) (g : Int) (KK : Nat → Prop) : Prop := ∃ fp, OW W O K s k size slide a fp M g 0 ∧ (∀ i, FO O K fp i → w.heap.size ≤ i) ∧ (∀ i, KK i → ¬ FO O K fp i ∧ i < W.heap.size) ∧ Below w.heap.size w W
structure NP (k : Int) (M : List Pn) (g : Int) (i : Nat) : Prop where
  up : ∀ p ∈ M, Up k g p
  ap : Apart (sess k) M
  ln : M.length ≤ 64 * i
section
variable {w W : World} {O K s : Nat} {k size slide a : Int} {M : List Pn} {g : Int} {KK : Nat → Prop}
theorem OW.flt' {fp : Nat → Prop} {d : Int} (h : OW W O K s k size slide a fp M g d) : ∀ i, FO O K fp i → i < W.heap.size := fun i hi => by
  rcases hi with rfl | rfl | hi
  · exact h.ob.lt
  · exact h.kb.lt
  · exact h.sa.flt i hi
theorem NW.bl (h : NW w W O K s k size slide a M g KK) : Below w.heap.size w W := by obtain ⟨_, _, _, _, h⟩ := h; exact h
theorem NW.grow (h : NW w W O K s k size slide a M g KK) {W' : World} (hb : Below W.heap.size W W') : NW w W' O K s k size slide a M g KK := by
  obtain ⟨fp, o, h1, h2, h3⟩ := h
  exact ⟨fp, o.below hb, h1, fun i hi => ⟨(h2 i hi).1, Nat.lt_of_lt_of_le (h2 i hi).2 hb.size⟩, h3.trans (hb.mono h3.size)⟩
theorem NW.box (h : NW w W O K s k size slide a M g (fun _ => False)) (cs : Array Value) (t : TypeId) : NW w (W.alloc (.cells cs t)) O K s k size slide a M g (fun i => i = W.heap.size) := by
  obtain ⟨fp, o, h1, h2, h3⟩ := h
  have hb := below_box W (.cells cs t)
  exact ⟨fp, o.below hb, h1, fun i hi => ⟨fun e => by have := o.flt' i e; omega, by rw [hi]; exact (BoxT.new t W cs).lt⟩, h3.trans (hb.mono h3.size)⟩
theorem NW.free (h : NW w W O K s k size slide a M g KK) : NW w W O K s k size slide a M g (fun _ => False) := by
  obtain ⟨fp, o, h1, h2, h3⟩ := h
  exact ⟨fp, o, h1, fun i hi => hi.elim, h3⟩
theorem NW.step {fp fp' : Nat → Prop} {W' : World} (h1 : ∀ i, FO O K fp i → w.heap.size ≤ i) (h2 : ∀ i, KK i → ¬ FO O K fp i ∧ i < W.heap.size) (h3 : Below w.heap.size w W) (t : FT (FO O K fp) (FO O K fp') W W') : (∀ i, FO O K fp' i → w.heap.size ≤ i) ∧ (∀ i, KK i → ¬ FO O K fp' i ∧ i < W'.heap.size) ∧ Below w.heap.size w W' ∧ ∀ i, KK i → W'.heap[i]? = W.heap[i]? := by
  refine ⟨fun i hi => (t.sub i hi).elim (h1 i) fun h => by have := h3.size; omega, fun i hi => ⟨fun e => ?_, Nat.lt_of_lt_of_le (h2 i hi).2 t.size⟩, h3.trans (t.below h3.size h1), fun i hi => t.block i (h2 i hi).2 (h2 i hi).1⟩
  rcases t.sub i e with e | e
  · exact (h2 i hi).1 e
  · have := (h2 i hi).2; omega
theorem NW.record (h : NW w W O K s k size slide a M g KK) (hw : FitW k size slide) (ha : 1 ≤ a ∧ a ≤ 5) (hs : In64 size) (hsl : In64 slide) (rk rt rv : Int) (hrk : In64 rk) (hrv : In64 rv) (ht : TimeOk rt) {i : Nat} (hi : i ≤ 80) (hp : NP k M g i) (hg : g < rt) :
    Calls Tryz.prog 14 #[.pointer (some ⟨O, 0, none⟩), .agg #[.int .i64 rk, .int .i64 rt, .int .i64 rv]] W fun e w' => e = .returned (.slice none 0 0) ∧ ∃ M', NW w w' O K s k size slide a M' g KK ∧ NP k M' g (i + 1) := by
  obtain ⟨fp, o, h1, h2, h3⟩ := h
  have hnl := late_none hw ht hg
  refine (Record_any o hw ha hs hsl rk rt rv hrk hrv ht (by have := hp.ln; omega) hp.ap (.inl hnl)).mono ?_
  rintro e w' ⟨rfl, fp', M', d', o', t', c'⟩
  obtain ⟨g1, g2, g3, _⟩ := NW.step h1 h2 h3 t'
  rcases c' with ⟨c, rfl, _⟩ | ⟨_, _, hne, c⟩
  · refine ⟨rfl, M', ⟨fp', o', g1, g2, g3⟩, ⟨c.1.up fun p hq => ?_, c.2, ?_⟩⟩
    · rcases List.mem_append.1 hq with hq | hq
      · exact frS_up hw (r := ⟨rk, rt, rv⟩) ht hg p hq
      · exact hp.up p hq
    · have e1 := c.1.len
      have e2 := frS_len k size slide a ⟨rk, rt, rv⟩
      have e3 := hp.ln
      rw [List.length_append] at e1
      omega
  · exfalso
    obtain ⟨sp, hsp⟩ := List.exists_mem_of_ne_nil _ hne
    have e1 := c sp hsp
    rw [hnl sp hsp] at e1
    cases e1
theorem NW.mark (h : NW w W O K s k size slide a M g KK) (m : Int) (hk : k ≠ 0) {i : Nat} (hi : i ≤ 80) (hp : NP k M g i) :
    Calls Tryz.prog 16 #[.pointer (some ⟨O, 0, none⟩), .int .i64 m] W fun e w' => ∃ ua un uc os, e = .returned (.slice ua un uc) ∧ os.length = un ∧ un ≤ 5120 ∧ LSeg 3 Rc.cs w'.heap.size w' (.slice ua un uc) os ∧ (∀ r ∈ os, g < r.t ∧ r.t ≤ m) ∧ (∀ i, KK i → w'.heap[i]? = W.heap[i]?) ∧ ∃ M', NW w w' O K s k size slide a M' (max g m) KK ∧ NP k M' (max g m) (i + 1) := by
  obtain ⟨fp, o, h1, h2, h3⟩ := h
  refine (Mark_any o m hk (by have := hp.ln; omega)).mono ?_
  rintro e w' ⟨u, fp', rfl, r, o', t'⟩
  obtain ⟨g1, g2, g3, g4⟩ := NW.step h1 h2 h3 t'
  have hl := outM_len g m M
  have hl2 := hp.ln
  have r2 := r.seg (fun _ => rfl) (by omega)
  obtain ⟨q, c, rfl⟩ := r.shape
  refine ⟨q, _, c, _, rfl, rfl, by omega, r2, out_in hp.up, g4, _, ⟨fp', o', g1, g2, g3⟩, ⟨left_up hp.up, leftM_ap hp.ap, ?_⟩⟩
  have := leftM_len g m M
  omega
theorem NW.late (h : NW w W O K s k size slide a M g KK) : Calls Tryz.prog 20 #[.pointer (some ⟨O, 0, none⟩)] W fun e w' => e = .returned (.int .i64 0) ∧ w' = W := by
  obtain ⟨_, o, _⟩ := h
  exact Late_any o
end
end Go.Proofs.YtpcbhcdpegbfjaaGreat
/-
  The law OpsNever, walked.
-/
namespace Go.Proofs.YtpcbhcdpegbfjaaGreat
open Go.RowKit

theorem LSeg.rcd {B : Nat} {w : World} {ao : Option Addr} {n cap : Nat} {xs : List Rc} (h : LSeg 3 Rc.cs B w (.slice ao n cap) xs) {i : Nat} {x : Rc} (hx : xs[i]? = some x) : ∃ b o, ao = some ⟨b, o, none⟩ ∧ b < B ∧ w.cell? ⟨b, o + i * 3, none⟩ = some (.int .i64 x.k) ∧ w.cell? ⟨b, o + i * 3 + 1, none⟩ = some (.int .i64 x.t) ∧ w.cell? ⟨b, o + i * 3 + 2, none⟩ = some (.int .i64 x.v) := by
  obtain ⟨ao', cap', e, _, hs⟩ := h
  cases e
  rcases hs with rfl | ⟨b, off, rfl, hb, hc⟩
  · simp at hx
  · exact ⟨b, off, rfl, hb, hc i x hx 0 _ rfl, hc i x hx 1 _ rfl, hc i x hx 2 _ rfl⟩
set_option maxHeartbeats 8000000 in
set_option maxRecDepth 100000 in
theorem OpsNever_walk {w : World} {v : Value} {xs : List Stp} (hl : LSeg 5 Stp.cs w.heap.size w v xs) (hrs : ∀ r ∈ xs, In64 r.rk ∧ In64 r.rv) {n : J.Nd} (hi : n.ins.length ≤ 140737488355328) (hE : J.In w n.e) :
    Calls Tryz.prog 4 #[n.val, v] w fun e w' => e = .returned (.bool true) ∧ Below w.heap.size w w' := by
  obtain ⟨ao, cap, rfl⟩ := hl.shapeOf
  have HFT := hide (fun (W : World) (hb : Below w.heap.size w W) => J.fitO_any (w := W) hi (hE.below hb))
  have HWI : Hid (J.FtO n → n.kind = 7 → (1 ≤ n.agg ∧ n.agg ≤ 5) ∧ FitW n.wk n.ws n.wl) := (show _ → _ → _ from fun h h7 => by
    have h1 := h.win h7
    exact ⟨h1.1, h1.2⟩)
  obtain ⟨kind, ia, ic, ins, par, ex, ag, k, size, slide⟩ := n
  obtain ⟨op, nn, ea, ec, el⟩ := ex
  have HK := hide (fun W => known_any W)
  have HL := hide hl
  have HRS := hide hrs
  clear hl hrs hE hi
  simp only [J.Nd.val] at HFT ⊢
  generalize ins.length = il at *
  generalize el.length = en at *
  have HB0 := hide (below_box w (.cells #[.int .i64 kind, .slice ia il ic, .int .i64 par, .int .i64 op, .int .i64 nn, .slice ea en ec, .int .i64 ag, .int .i64 k, .int .i64 size, .int .i64 slide] 29))
  have HBX := hide (BoxT.new 29 w #[.int .i64 kind, .slice ia il ic, .int .i64 par, .int .i64 op, .int .i64 nn, .slice ea en ec, .int .i64 ag, .int .i64 k, .int .i64 size, .int .i64 slide])
  by_cases hgo : kind = 7 ∧ xs.length ≤ 80
  case neg =>
    have hgo2 : (80 : Int) < (xs.length : Int) ∨ ((¬ (80 : Int) < (xs.length : Int)) ∧ kind ≠ 7) := by omega
    clear hgo
    rcases hgo2 with bn | ⟨bn, bk⟩
    all_goals
      try have bk1 : (kind == 7) = false := by simp; exact bk
      try have bk2 : ¬ kind = 7 := bk
      try have bk3 : (kind != 7) = true := by simp; exact bk
      go_enter Tryz.func4, Tryz.ntmps4
      go_upto_region 3 with (go_at_call 8; refine (HK.out _).mono ?_; rintro e w1 ⟨rfl, b1⟩; have HB1 := hide (HB0.out.trans (b1.mono HB0.out.size)); have HX1 := hide (BoxT.below (t := 29) HBX.out b1); have HFN := hide (HFT.out w1 HB1.out); clear b1)
      have y0 : w1.cell? ⟨w.heap.size, 0, none⟩ = _ := HX1.out.cellAt 0
      have y1 : w1.cell? ⟨w.heap.size, 1, none⟩ = _ := HX1.out.cellAt 1
      have y2 : w1.cell? ⟨w.heap.size, 2, none⟩ = _ := HX1.out.cellAt 2
      have y3 : w1.cell? ⟨w.heap.size, 3, none⟩ = _ := HX1.out.cellAt 3
      have y4 : w1.cell? ⟨w.heap.size, 4, none⟩ = _ := HX1.out.cellAt 4
      have y5 : w1.cell? ⟨w.heap.size, 5, none⟩ = _ := HX1.out.cellAt 5
      have y6 : w1.cell? ⟨w.heap.size, 6, none⟩ = _ := HX1.out.cellAt 6
      have y7 : w1.cell? ⟨w.heap.size, 7, none⟩ = _ := HX1.out.cellAt 7
      have y8 : w1.cell? ⟨w.heap.size, 8, none⟩ = _ := HX1.out.cellAt 8
      have y9 : w1.cell? ⟨w.heap.size, 9, none⟩ = _ := HX1.out.cellAt 9
      go_wp2_with (go_at_call 9; refine HFN.out.mono ?_; rintro e w2 ⟨b, rfl, hb, b2⟩; have HB2 := hide (HB1.out.trans (b2.mono HB1.out.size)); have HX2 := hide (BoxT.below (t := 29) HX1.out b2); have HF := hide hb; have z0 : w2.cell? ⟨w.heap.size, 0, none⟩ = _ := HX2.out.cellAt 0; clear b2 hb y0 y1 y2 y3 y4 y5 y6 y7 y8 y9; cases b)
      all_goals
        go_ret
        exact ⟨rfl, HB2.out⟩
  case pos =>
      obtain ⟨rfl, hn80⟩ := hgo
      have bn : ¬ (80 : Int) < (xs.length : Int) := by omega
      go_enter Tryz.func4, Tryz.ntmps4
      go_upto_region 3 with (go_at_call 8; refine (HK.out _).mono ?_; rintro e w1 ⟨rfl, b1⟩; have HB1 := hide (HB0.out.trans (b1.mono HB0.out.size)); have HX1 := hide (BoxT.below (t := 29) HBX.out b1); have HFN := hide (HFT.out w1 HB1.out); clear b1)
      have y0 : w1.cell? ⟨w.heap.size, 0, none⟩ = _ := HX1.out.cellAt 0
      have y1 : w1.cell? ⟨w.heap.size, 1, none⟩ = _ := HX1.out.cellAt 1
      have y2 : w1.cell? ⟨w.heap.size, 2, none⟩ = _ := HX1.out.cellAt 2
      have y3 : w1.cell? ⟨w.heap.size, 3, none⟩ = _ := HX1.out.cellAt 3
      have y4 : w1.cell? ⟨w.heap.size, 4, none⟩ = _ := HX1.out.cellAt 4
      have y5 : w1.cell? ⟨w.heap.size, 5, none⟩ = _ := HX1.out.cellAt 5
      have y6 : w1.cell? ⟨w.heap.size, 6, none⟩ = _ := HX1.out.cellAt 6
      have y7 : w1.cell? ⟨w.heap.size, 7, none⟩ = _ := HX1.out.cellAt 7
      have y8 : w1.cell? ⟨w.heap.size, 8, none⟩ = _ := HX1.out.cellAt 8
      have y9 : w1.cell? ⟨w.heap.size, 9, none⟩ = _ := HX1.out.cellAt 9
      go_upto_region 5 with (go_at_call 9; refine HFN.out.mono ?_; rintro e w2 ⟨b, rfl, hb, b2⟩; have HB2 := hide (HB1.out.trans (b2.mono HB1.out.size)); have HX2 := hide (BoxT.below (t := 29) HX1.out b2); have HF := hide hb; have z0 : w2.cell? ⟨w.heap.size, 0, none⟩ = _ := HX2.out.cellAt 0; clear b2 hb y0 y1 y2 y3 y4 y5 y6 y7 y8 y9; cases b)
      all_goals clear HFN HFT HK HX1 HB1 HBX HB0
      · go_ret
        exact ⟨rfl, HB2.out⟩
      obtain ⟨hag, hfw⟩ := HWI.out (HF.out trivial (by simp) (by simp)) trivial
      have HAG := hide hag
      have HFW := hide hfw
      have HS : Hid (In64 size) := (show _ ∧ _ from by have := hfw.2.2.1; have := hfw.2.2.2.1; omega)
      have HSL : Hid (In64 slide) := (show _ ∧ _ from by obtain ⟨_, _, _, _, ⟨_, h1, h2, _⟩ | ⟨_, h1⟩⟩ := hfw <;> omega)
      have HK0 : Hid (k ≠ 0) := (show k ≠ 0 by have := hfw.1; omega)
      clear hag hfw HF HWI z0
      have z0 : w2.cell? ⟨w.heap.size, 0, none⟩ = _ := HX2.out.cellAt 0
      have z1 : w2.cell? ⟨w.heap.size, 1, none⟩ = _ := HX2.out.cellAt 1
      have z2 : w2.cell? ⟨w.heap.size, 2, none⟩ = _ := HX2.out.cellAt 2
      have z3 : w2.cell? ⟨w.heap.size, 3, none⟩ = _ := HX2.out.cellAt 3
      have z4 : w2.cell? ⟨w.heap.size, 4, none⟩ = _ := HX2.out.cellAt 4
      have z5 : w2.cell? ⟨w.heap.size, 5, none⟩ = _ := HX2.out.cellAt 5
      have z6 : w2.cell? ⟨w.heap.size, 6, none⟩ = _ := HX2.out.cellAt 6
      have z7 : w2.cell? ⟨w.heap.size, 7, none⟩ = _ := HX2.out.cellAt 7
      have z8 : w2.cell? ⟨w.heap.size, 8, none⟩ = _ := HX2.out.cellAt 8
      have z9 : w2.cell? ⟨w.heap.size, 9, none⟩ = _ := HX2.out.cellAt 9
      clear HX2
      go_upto_region 6 with (go_at_call 10; refine (New_win _ ia il ic par op nn ea en ec k size slide ag).mono ?_; rintro e w3 ⟨O, K, s, fp, rfl, o3, l3, b3⟩; have N3 : Hid (NW w w3 O K s k size slide ag [] (-9223372036854775808) (fun _ => False)) := (show NW _ _ _ _ _ _ _ _ _ _ _ _ from ⟨fp, o3, fun i hi => Nat.le_trans HB2.out.size (l3 i hi), fun i hi => hi.elim, HB2.out.trans (b3.mono HB2.out.size)⟩); clear o3 l3 b3)
      clear HB2 z0 z1 z2 z3 z4 z5 z6 z7 z8 z9
      go_wp2_with fail
      go_loopg [6, 7, 8, 9, 10] (xs.length + 1) (fun gh gv iv _ _ _ wr => ∃ (i : Nat) (M : List Pn) (g : Int), gv = .int .i64 g ∧ iv = .int .i64 (i : Int) ∧ i ≤ xs.length ∧ xs.length + 1 ≤ gh + i ∧ Hid (NW w wr O K s k size slide ag M g (fun _ => False)) ∧ Hid (NP k M g i))
      case atStart => exact ⟨0, [], _, rfl, rfl, by omega, by omega, N3, (show NP _ _ _ _ from ⟨fun p h => (by cases h), List.Pairwise.nil, by simp⟩)⟩
      clear N3
      obtain ⟨i, M, g, rfl, rfl, hi, hg, GT, GP⟩ := hrel
      obtain ⟨go, rfl⟩ : ∃ go, gk = go + 1 := ⟨gk - 1, by omega⟩
      by_cases hlt : i < xs.length
      · obtain ⟨x, hx⟩ := get_of_lt hlt
        have bt : (i : Int) < (xs.length : Int) := by omega
        obtain ⟨nb, no, rfl, nlt, e0, e1, e2, e3, e4⟩ := (HL.out.below GT.out.bl).stp hx
        have HIN := hide (HRS.out x (List.mem_of_getElem? hx))
        obtain ⟨wh, rk, rt, rv, mk⟩ := x
        simp only at e0 e1 e2 e3 e4 HIN
        clear hx
        go_upto_region 11 with fail
        clear e0 e1 e2 e3 e4
        refine wp_at (fun W => NW w W O K s k size slide ag M g (fun i => i = wr.heap.size) ∧ BoxT 40 W wr.heap.size #[.int .i64 wh, .int .i64 rk, .int .i64 rt, .int .i64 rv, .int .i64 mk]) ⟨GT.out.box _ _, BoxT.new _ _ _⟩ ?_
        clear GT
        generalize wr.heap.size = xb at *
        rintro V ⟨GT, XB⟩
        have HGT := hide GT
        have HXB := hide XB
        obtain ⟨x0, x1, x2, x3, x4⟩ := XB.all5
        clear GT XB
        by_cases h3 : wh < 3
        · by_cases hT : TimeOk rt
          · have HTI := hide (time_yes hT)
            by_cases hgt : g < rt
            · have HRC := hide (HGT.out.record HFW.out HAG.out HS.out HSL.out rk rt rv HIN.out.1 HIN.out.2 hT (show i ≤ 80 by omega) GP.out hgt)
              clear hT
              go_wp2_with (first
                | (go_at_call 12; refine (HTI.out _).mono ?_; rintro e w5 ⟨rfl, e5⟩; have e6 := e5.symm; subst e6)
                | (go_at_call 14; refine HRC.out.mono ?_; rintro e w6 ⟨rfl, M6, g6, p6⟩; have G6 := hide g6; have P6 := hide p6; clear g6 p6))
              go_roundg go
              case rel => exact ⟨i + 1, M6, g, rfl, by go_num, by omega, by omega, G6.out.free, P6⟩
              case measure => omega
            · clear hT
              go_wp2_with (first
                | (go_at_call 12; refine (HTI.out _).mono ?_; rintro e w5 ⟨rfl, e5⟩; have e6 := e5.symm; subst e6) | fail)
              go_roundg go
              case rel => exact ⟨i + 1, M, g, rfl, by go_num, by omega, by omega, HGT.out.free, (show NP _ _ _ _ from ⟨GP.out.up, GP.out.ap, by have := GP.out.ln; omega⟩)⟩
              case measure => omega
          · have HTI := hide (time_no hT)
            clear hT
            go_wp2_with (first
                | (go_at_call 12; refine (HTI.out _).mono ?_; rintro e w5 ⟨rfl, e5⟩; have e6 := e5.symm; subst e6) | fail)
            go_ret
            exact ⟨rfl, HGT.out.bl⟩
        · have HMK := hide (HGT.out.mark mk HK0.out (show i ≤ 80 by omega) GP.out)
          go_upto_region 17 with (go_at_call 16; refine HMK.out.mono ?_; rintro e w6 ⟨ua, un, uc, os, rfl, ho, hu, l6, hin, hkk, M6, g6, p6⟩; have G6 := hide g6; have P6 := hide p6; have L6 := hide l6; have HIO := hide hin; have HO := hide ho; have HU := hide hu; have X6 : Hid (BoxT 40 w6 xb _) := (show BoxT _ _ _ _ from HXB.out.back (hkk xb rfl)); clear l6 hin hkk g6 p6 ho hu)
          clear HMK HGT HXB x0 x1 x2 x3 x4
          go_wp2_with fail
          go_loopg [10] (un + 1) (fun gh kv wy => ∃ j : Nat, kv = .int .i64 (j : Int) ∧ j ≤ un ∧ un + 1 ≤ gh + j ∧ Hid (∀ B, Below B w6 wy))
          case atStart => exact ⟨0, rfl, by omega, by omega, (show ∀ B, _ from fun B => Below.refl _ _)⟩
          case round =>
            obtain ⟨j, rfl, hj, hgj, HD⟩ := hrel
            obtain ⟨gj, rfl⟩ : ∃ gj, gk = gj + 1 := ⟨gk - 1, by omega⟩
            by_cases hlj : j < un
            · have btj : (j : Int) < (un : Int) := by omega
              obtain ⟨y, hy⟩ := get_of_lt (show j < os.length by rw [HO.out]; exact hlj)
              obtain ⟨hy1, hy2⟩ := HIO.out y (List.mem_of_getElem? hy)
              obtain ⟨pb, po, rfl, _, p0, p1, p2⟩ := (L6.out.below (HD.out _)).rcd hy
              obtain ⟨x0, x1, x2, x3, x4⟩ := (BoxT.below (t := 40) X6.out (HD.out _)).all5
              obtain ⟨yk, yt, yv⟩ := y
              simp only at p0 p1 p2 hy1 hy2
              clear hy
              have by1 : ¬ mk < yt := by omega
              have by2 : ¬ yt ≤ g := by omega
              clear hy1 hy2
              have hu5 := HU.out
              go_wp2_with fail
              go_quiet (fail)
              go_wp2_with fail
              go_roundg gj
              case rel => exact ⟨j + 1, by go_num, by omega, by omega, (show ∀ B, _ from fun B => below_drewN (HD.out B) _)⟩
              case measure => omega
            · have btj : ¬ (j : Int) < (un : Int) := by omega
              obtain ⟨x0, x1, x2, x3, x4⟩ := (BoxT.below (t := 40) X6.out (HD.out _)).all5
              go_wp2_with fail
              go_roundg go
              case rel => exact ⟨i + 1, M6, max g mk, rfl, by go_num, by omega, by omega, (G6.out.grow (HD.out _)).free, P6⟩
              case measure => omega
      · have bt : ¬ (i : Int) < (xs.length : Int) := by omega
        have HLT := hide GT.out.late
        go_wp2_with (go_at_call 20; refine HLT.out.mono ?_; rintro e w7 ⟨rfl, e7⟩; have e8 := e7.symm; subst e8)
        go_ret
        exact ⟨rfl, GT.out.bl⟩
end Go.Proofs.YtpcbhcdpegbfjaaGreat
