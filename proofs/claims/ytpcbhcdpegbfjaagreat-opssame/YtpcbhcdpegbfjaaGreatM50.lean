/-
  Texts in build order: ONevW, OSameW.
-/
import Derived.Test.YtpcbhcdpegbfjaaGreatM29
import Derived.Test.YtpcbhcdpegbfjaaGreatM49
import Derived.Deep.CutBlock
import Derived.Deep.CutRange
/-
  A window's operator and a law's step, side by side.
-/
namespace Go.Proofs.YtpcbhcdpegbfjaaGreat
open Go.RowKit

structure Stp where
  wh : Int
  rk : Int
  rt : Int
  rv : Int
  mm : Int
def Stp.cs (x : Stp) : List Value := [.int .i64 x.wh, .int .i64 x.rk, .int .i64 x.rt, .int .i64 x.rv, .int .i64 x.mm]
theorem LSeg.stp {B : Nat} {w : World} {ao : Option Addr} {n cap : Nat} {xs : List Stp} (h : LSeg 5 Stp.cs B w (.slice ao n cap) xs) {i : Nat} {x : Stp} (hx : xs[i]? = some x) : ∃ b o, ao = some ⟨b, o, none⟩ ∧ b < B ∧ w.cell? ⟨b, o + i * 5, none⟩ = some (.int .i64 x.wh) ∧ w.cell? ⟨b, o + i * 5 + 1, none⟩ = some (.int .i64 x.rk) ∧ w.cell? ⟨b, o + i * 5 + 2, none⟩ = some (.int .i64 x.rt) ∧ w.cell? ⟨b, o + i * 5 + 3, none⟩ = some (.int .i64 x.rv) ∧ w.cell? ⟨b, o + i * 5 + 4, none⟩ = some (.int .i64 x.mm) := by
  obtain ⟨ao', cap', e, _, hs⟩ := h
  cases e
  rcases hs with rfl | ⟨b, off, rfl, hb, hc⟩
  · simp at hx
  · exact ⟨b, off, rfl, hb, hc i x hx 0 _ rfl, hc i x hx 1 _ rfl, hc i x hx 2 _ rfl, hc i x hx 3 _ rfl, hc i x hx 4 _ rfl⟩
def NW (w W : World) (O K s : Nat) (k size slide a : Int) (M : List Pn) (g : Int) (KK : Nat → Prop) : Prop := ∃ fp, OW W O K s k size slide a fp M g 0 ∧ (∀ i, FO O K fp i → w.heap.size ≤ i) ∧ (∀ i, KK i → ¬ FO O K fp i ∧ i < W.heap.size) ∧ Below w.heap.size w W
structure NP (k : Int) (M : List Pn) (g : Int) (i : Nat) : Prop where
  up : ∀ p ∈ M, Up k g p
  ap : Apart (sess k) M
  ln : M.length ≤ 64 * i
section
variable {w W : World} {O K s : Nat} {k size slide a : Int} {M : List Pn} {g : Int} {KK : Nat → Prop}
theorem OW.flt' {fp : Nat → Prop} {d : Int} (h : OW W O K s k size slide a fp M g d) : ∀ i, FO O K fp i → i < W.heap.size := fun i hi => by
  rcases hi with rfl | rfl | hi
  · exact h.ob.lt
  · exact h.kb.lt
  · exact h.sa.flt i hi
theorem NW.bl (h : NW w W O K s k size slide a M g KK) : Below w.heap.size w W := by obtain ⟨_, _, _, _, h⟩ := h; exact h
theorem NW.grow (h : NW w W O K s k size slide a M g KK) {W' : World} (hb : Below W.heap.size W W') : NW w W' O K s k size slide a M g KK := by
  obtain ⟨fp, o, h1, h2, h3⟩ := h
  exact ⟨fp, o.below hb, h1, fun i hi => ⟨(h2 i hi).1, Nat.lt_of_lt_of_le (h2 i hi).2 hb.size⟩, h3.trans (hb.mono h3.size)⟩
theorem NW.box (h : NW w W O K s k size slide a M g (fun _ => False)) (cs : Array Value) (t : TypeId) : NW w (W.alloc (.cells cs t)) O K s k size slide a M g (fun i => i = W.heap.size) := by
  obtain ⟨fp, o, h1, h2, h3⟩ := h
  have hb := below_box W (.cells cs t)
  exact ⟨fp, o.below hb, h1, fun i hi => ⟨fun e => by have := o.flt' i e; omega, by rw [hi]; exact (BoxT.new t W cs).lt⟩, h3.trans (hb.mono h3.size)⟩
theorem NW.free (h : NW w W O K s k size slide a M g KK) : NW w W O K s k size slide a M g (fun _ => False) := by
  obtain ⟨fp, o, h1, h2, h3⟩ := h
  exact ⟨fp, o, h1, fun i hi => hi.elim, h3⟩
theorem NW.step {fp fp' : Nat → Prop} {W' : World} (h1 : ∀ i, FO O K fp i → w.heap.size ≤ i) (h2 : ∀ i, KK i → ¬ FO O K fp i ∧ i < W.heap.size) (h3 : Below w.heap.size w W) (t : FT (FO O K fp) (FO O K fp') W W') : (∀ i, FO O K fp' i → w.heap.size ≤ i) ∧ (∀ i, KK i → ¬ FO O K fp' i ∧ i < W'.heap.size) ∧ Below w.heap.size w W' ∧ ∀ i, KK i → W'.heap[i]? = W.heap[i]? := by
  refine ⟨fun i hi => (t.sub i hi).elim (h1 i) fun h => by have := h3.size; omega, fun i hi => ⟨fun e => ?_, Nat.lt_of_lt_of_le (h2 i hi).2 t.size⟩, h3.trans (t.below h3.size h1), fun i hi => t.block i (h2 i hi).2 (h2 i hi).1⟩
  rcases t.sub i e with e | e
  · exact (h2 i hi).1 e
  · have := (h2 i hi).2; omega
theorem NW.record (h : NW w W O K s k size slide a M g KK) (hw : FitW k size slide) (ha : 1 ≤ a ∧ a ≤ 5) (hs : In64 size) (hsl : In64 slide) (rk rt rv : Int) (hrk : In64 rk) (hrv : In64 rv) (ht : TimeOk rt) {i : Nat} (hi : i ≤ 80) (hp : NP k M g i) (hg : g < rt) :
    Calls Tryz.prog 14 #[.pointer (some ⟨O, 0, none⟩), .agg #[.int .i64 rk, .int .i64 rt, .int .i64 rv]] W fun e w' => e = .returned (.slice none 0 0) ∧ ∃ M', NW w w' O K s k size slide a M' g KK ∧ NP k M' g (i + 1) := by
  obtain ⟨fp, o, h1, h2, h3⟩ := h
  have hnl := late_none hw ht hg
  refine (Record_any o hw ha hs hsl rk rt rv hrk hrv ht (by have := hp.ln; omega) hp.ap (.inl hnl)).mono ?_
  rintro e w' ⟨rfl, fp', M', d', o', t', c'⟩
  obtain ⟨g1, g2, g3, _⟩ := NW.step h1 h2 h3 t'
  rcases c' with ⟨c, rfl, _⟩ | ⟨_, _, hne, c⟩
  · refine ⟨rfl, M', ⟨fp', o', g1, g2, g3⟩, ⟨c.1.up fun p hq => ?_, c.2, ?_⟩⟩
    · rcases List.mem_append.1 hq with hq | hq
      · exact frS_up hw (r := ⟨rk, rt, rv⟩) ht hg p hq
      · exact hp.up p hq
    · have e1 := c.1.len
      have e2 := frS_len k size slide a ⟨rk, rt, rv⟩
      have e3 := hp.ln
      rw [List.length_append] at e1
      omega
  · exfalso
    obtain ⟨sp, hsp⟩ := List.exists_mem_of_ne_nil _ hne
    have e1 := c sp hsp
    rw [hnl sp hsp] at e1
    cases e1
theorem NW.mark (h : NW w W O K s k size slide a M g KK) (m : Int) (hk : k ≠ 0) {i : Nat} (hi : i ≤ 80) (hp : NP k M g i) :
    Calls Tryz.prog 16 #[.pointer (some ⟨O, 0, none⟩), .int .i64 m] W fun e w' => ∃ ua un uc os, e = .returned (.slice ua un uc) ∧ os.length = un ∧ un ≤ 5120 ∧ LSeg 3 Rc.cs w'.heap.size w' (.slice ua un uc) os ∧ (∀ r ∈ os, g < r.t ∧ r.t ≤ m) ∧ (∀ i, KK i → w'.heap[i]? = W.heap[i]?) ∧ ∃ M', NW w w' O K s k size slide a M' (max g m) KK ∧ NP k M' (max g m) (i + 1) := by
  obtain ⟨fp, o, h1, h2, h3⟩ := h
  refine (Mark_any o m hk (by have := hp.ln; omega)).mono ?_
  rintro e w' ⟨u, fp', rfl, r, o', t'⟩
  obtain ⟨g1, g2, g3, g4⟩ := NW.step h1 h2 h3 t'
  have hl := outM_len g m M
  have hl2 := hp.ln
  have r2 := r.seg (fun _ => rfl) (by omega)
  obtain ⟨q, c, rfl⟩ := r.shape
  refine ⟨q, _, c, _, rfl, rfl, by omega, r2, out_in hp.up, g4, _, ⟨fp', o', g1, g2, g3⟩, ⟨left_up hp.up, leftM_ap hp.ap, ?_⟩⟩
  have := leftM_len g m M
  omega
theorem NW.late (h : NW w W O K s k size slide a M g KK) : Calls Tryz.prog 20 #[.pointer (some ⟨O, 0, none⟩)] W fun e w' => e = .returned (.int .i64 0) ∧ w' = W := by
  obtain ⟨_, o, _⟩ := h
  exact Late_any o
end
end Go.Proofs.YtpcbhcdpegbfjaaGreat
/-
  The law OpsSame, walked.
-/
namespace Go.Proofs.YtpcbhcdpegbfjaaGreat
open Go.RowKit

theorem J.ck_expr {ns : List J.Nd} {n : J.Nd} (h : J.ckE ns n = 0) (hk : 2 ≤ n.kind ∧ n.kind ≤ 4) : J.chk n.e = 0 := by
  unfold J.ckE J.ckN at h
  by_cases h1 : n.kind < 1 ∨ 8 < n.kind
  · rw [if_pos h1] at h; cases h
  rw [if_neg h1] at h
  by_cases h2 : J.inB (ns.map J.Nd.kind) n.kind n.ins = false
  · rw [if_pos h2] at h; cases h
  rw [if_neg h2] at h
  by_cases h3 : n.par < 1 ∨ 4 < n.par
  · rw [if_pos h3] at h; cases h
  rw [if_neg h3] at h
  by_cases h4 : J.exB n.kind n.e.op n.e.n n.e.l.length (J.chk n.e) = false
  · rw [if_pos h4] at h; cases h
  have i4 : J.exB n.kind n.e.op n.e.n n.e.l.length (J.chk n.e) = true := by simpa using h4
  unfold J.exB at i4
  rw [if_pos hk] at i4
  exact of_decide_eq_true i4
theorem few_of {e : J.Ex} (h0 : J.chk e = 0) : (J.cnt e 1 0).2 ≠ 71 := by
  rcases J.chk_of e with h1 | h1 | h1
  · rw [h1.1]; decide
  · rw [h1.1]; decide
  · rw [h0] at h1
    exfalso
    have := h1.2
    split at this <;> omega
theorem FtO.few {n : J.Nd} (h : J.FtO n) (hk : n.kind = 2 ∨ n.kind = 3 ∨ n.kind = 4) : (J.cnt n.e 1 0).2 ≠ 71 := by
  obtain ⟨_, a, c, a2, c2, ck⟩ := h
  have h1 := ck.lt.ck (J.nMid n a c) (by simp)
  exact few_of (J.ck_expr (n := J.nMid n a c) h1 (by show 2 ≤ n.kind ∧ n.kind ≤ 4; omega))
set_option maxHeartbeats 8000000 in
set_option maxRecDepth 100000 in
theorem OpsSame_walk {w : World} {v : Value} {xs : List Stp} (hl : LSeg 5 Stp.cs w.heap.size w v xs) {n : J.Nd} (hi : n.ins.length ≤ 140737488355328) (hE : J.In w n.e) (rk rt rv : Int) :
    Calls Tryz.prog 7 #[n.val, v, .agg #[.int .i64 rk, .int .i64 rt, .int .i64 rv]] w fun e w' => e = .returned (.bool true) ∧ Below w.heap.size w w' := by
  obtain ⟨ao, cap, rfl⟩ := hl.shapeOf
  have HFT := hide (fun (W : World) (hb : Below w.heap.size w W) => J.fitO_any (w := W) hi (hE.below hb))
  have HNW := hide (fun (W : World) (hb : Below w.heap.size w W) (hf : n.kind ≠ 1 → n.kind ≠ 8 → J.FtO n) (hk : n.kind ≠ 6 ∧ n.kind ≠ 7) => New_st (w := W) (hE.below hb) (fun h24 => FtO.few (hf (by omega) (by omega)) h24) hk)
  obtain ⟨kind, ia, ic, ins, par, ex, ag, k, size, slide⟩ := n
  obtain ⟨op, nn, ea, ec, el⟩ := ex
  have HK := hide (fun W => known_any W)
  have HL := hide hl
  clear hl hE hi
  simp only [J.Nd.val] at HFT HNW ⊢
  generalize ins.length = il at *
  generalize el.length = en at *
  have HB0 := hide (below_box2 w (.cells #[.int .i64 kind, .slice ia il ic, .int .i64 par, .int .i64 op, .int .i64 nn, .slice ea en ec, .int .i64 ag, .int .i64 k, .int .i64 size, .int .i64 slide] 29) (.cells #[.int .i64 rk, .int .i64 rt, .int .i64 rv] 38))
  have HBX := hide ((BoxT.new 29 w #[.int .i64 kind, .slice ia il ic, .int .i64 par, .int .i64 op, .int .i64 nn, .slice ea en ec, .int .i64 ag, .int .i64 k, .int .i64 size, .int .i64 slide]).alloc (.cells #[.int .i64 rk, .int .i64 rt, .int .i64 rv] 38))
  have HBR : Hid (BoxT 38 ((w.alloc (.cells #[.int .i64 kind, .slice ia il ic, .int .i64 par, .int .i64 op, .int .i64 nn, .slice ea en ec, .int .i64 ag, .int .i64 k, .int .i64 size, .int .i64 slide] 29)).alloc (.cells #[.int .i64 rk, .int .i64 rt, .int .i64 rv] 38)) (w.heap.size + 1) #[.int .i64 rk, .int .i64 rt, .int .i64 rv]) := BoxT.new_at (by simp)
  by_cases hgo : (kind ≠ 6 ∧ kind ≠ 7) ∧ xs.length ≤ 80
  case neg =>
    have hgo2 : (80 : Int) < (xs.length : Int) ∨ ((¬ (80 : Int) < (xs.length : Int)) ∧ kind = 7) ∨ ((¬ (80 : Int) < (xs.length : Int)) ∧ kind = 6) := by omega
    clear hgo
    rcases hgo2 with bn | ⟨bn, rfl⟩ | ⟨bn, rfl⟩
    all_goals
      go_enter Tryz.func7, Tryz.ntmps7
      go_upto_region 3 with (go_at_call 8; refine (HK.out _).mono ?_; rintro e w1 ⟨rfl, b1⟩; have HB1 := hide (HB0.out.trans (b1.mono HB0.out.size)); have HX1 := hide (BoxT.below (t := 29) HBX.out b1); have HFN := hide (HFT.out w1 HB1.out); clear b1)
      have y0 : w1.cell? ⟨w.heap.size, 0, none⟩ = _ := HX1.out.cellAt 0
      have y1 : w1.cell? ⟨w.heap.size, 1, none⟩ = _ := HX1.out.cellAt 1
      have y2 : w1.cell? ⟨w.heap.size, 2, none⟩ = _ := HX1.out.cellAt 2
      have y3 : w1.cell? ⟨w.heap.size, 3, none⟩ = _ := HX1.out.cellAt 3
      have y4 : w1.cell? ⟨w.heap.size, 4, none⟩ = _ := HX1.out.cellAt 4
      have y5 : w1.cell? ⟨w.heap.size, 5, none⟩ = _ := HX1.out.cellAt 5
      have y6 : w1.cell? ⟨w.heap.size, 6, none⟩ = _ := HX1.out.cellAt 6
      have y7 : w1.cell? ⟨w.heap.size, 7, none⟩ = _ := HX1.out.cellAt 7
      have y8 : w1.cell? ⟨w.heap.size, 8, none⟩ = _ := HX1.out.cellAt 8
      have y9 : w1.cell? ⟨w.heap.size, 9, none⟩ = _ := HX1.out.cellAt 9
      go_wp2_with (go_at_call 9; refine HFN.out.mono ?_; rintro e w2 ⟨b, rfl, hb, b2⟩; have HB2 := hide (HB1.out.trans (b2.mono HB1.out.size)); have HX2 := hide (BoxT.below (t := 29) HX1.out b2); have HF := hide hb; have z0 : w2.cell? ⟨w.heap.size, 0, none⟩ = _ := HX2.out.cellAt 0; clear b2 hb y0 y1 y2 y3 y4 y5 y6 y7 y8 y9; cases b)
      all_goals
        go_ret
        exact ⟨rfl, HB2.out⟩
  case pos =>
      obtain ⟨⟨bk6, bk7⟩, hn80⟩ := hgo
      have bn : ¬ (80 : Int) < (xs.length : Int) := by omega
      have bk61 : (kind == 6) = false := by simp [bk6]
      have bk71 : (kind == 7) = false := by simp [bk7]
      go_enter Tryz.func7, Tryz.ntmps7
      go_upto_region 3 with (go_at_call 8; refine (HK.out _).mono ?_; rintro e w1 ⟨rfl, b1⟩; have HB1 := hide (HB0.out.trans (b1.mono HB0.out.size)); have HX1 := hide (BoxT.below (t := 29) HBX.out b1); have HR1 := hide (BoxT.below (t := 38) HBR.out b1); have HFN := hide (HFT.out w1 HB1.out); clear b1)
      have y0 : w1.cell? ⟨w.heap.size, 0, none⟩ = _ := HX1.out.cellAt 0
      have y1 : w1.cell? ⟨w.heap.size, 1, none⟩ = _ := HX1.out.cellAt 1
      have y2 : w1.cell? ⟨w.heap.size, 2, none⟩ = _ := HX1.out.cellAt 2
      have y3 : w1.cell? ⟨w.heap.size, 3, none⟩ = _ := HX1.out.cellAt 3
      have y4 : w1.cell? ⟨w.heap.size, 4, none⟩ = _ := HX1.out.cellAt 4
      have y5 : w1.cell? ⟨w.heap.size, 5, none⟩ = _ := HX1.out.cellAt 5
      have y6 : w1.cell? ⟨w.heap.size, 6, none⟩ = _ := HX1.out.cellAt 6
      have y7 : w1.cell? ⟨w.heap.size, 7, none⟩ = _ := HX1.out.cellAt 7
      have y8 : w1.cell? ⟨w.heap.size, 8, none⟩ = _ := HX1.out.cellAt 8
      have y9 : w1.cell? ⟨w.heap.size, 9, none⟩ = _ := HX1.out.cellAt 9
      go_upto_region 5 with (go_at_call 9; refine HFN.out.mono ?_; rintro e w2 ⟨b, rfl, hb, b2⟩; have HB2 := hide (HB1.out.trans (b2.mono HB1.out.size)); have HX2 := hide (BoxT.below (t := 29) HX1.out b2); have HR2 := hide (BoxT.below (t := 38) HR1.out b2); have HF := hide hb; have z0 : w2.cell? ⟨w.heap.size, 0, none⟩ = _ := HX2.out.cellAt 0; clear b2 hb y0 y1 y2 y3 y4 y5 y6 y7 y8 y9; cases b)
      all_goals clear HFN HFT HK HX1 HB1 HBX HB0 HR1 HBR
      · go_ret
        exact ⟨rfl, HB2.out⟩
      have HNX := hide (HNW.out w2 HB2.out (HF.out trivial) ⟨bk6, bk7⟩)
      clear HF HNW z0 bk6 bk7 bk61 bk71
      generalize kdO kind = T at *
      have z0 : w2.cell? ⟨w.heap.size, 0, none⟩ = _ := HX2.out.cellAt 0
      have z1 : w2.cell? ⟨w.heap.size, 1, none⟩ = _ := HX2.out.cellAt 1
      have z2 : w2.cell? ⟨w.heap.size, 2, none⟩ = _ := HX2.out.cellAt 2
      have z3 : w2.cell? ⟨w.heap.size, 3, none⟩ = _ := HX2.out.cellAt 3
      have z4 : w2.cell? ⟨w.heap.size, 4, none⟩ = _ := HX2.out.cellAt 4
      have z5 : w2.cell? ⟨w.heap.size, 5, none⟩ = _ := HX2.out.cellAt 5
      have z6 : w2.cell? ⟨w.heap.size, 6, none⟩ = _ := HX2.out.cellAt 6
      have z7 : w2.cell? ⟨w.heap.size, 7, none⟩ = _ := HX2.out.cellAt 7
      have z8 : w2.cell? ⟨w.heap.size, 8, none⟩ = _ := HX2.out.cellAt 8
      have z9 : w2.cell? ⟨w.heap.size, 9, none⟩ = _ := HX2.out.cellAt 9
      clear HX2
      go_upto_region 6 with (go_at_call 10; refine HNX.out.mono ?_; rintro e w3 ⟨O, e', rfl, so, hwth, hO, b3⟩; have SO3 := hide so; have HR3 := hide (BoxT.below (t := 38) HR2.out b3); have HB3 := hide (HB2.out.trans (b3.mono HB2.out.size)); have HRC := hide (so.record rk rt rv); clear so hwth hO b3)
      clear HNX HR2 HB2 z0 z1 z2 z3 z4 z5 z6 z7 z8 z9
      obtain ⟨p0, p1, p2⟩ := HR3.out.cells3
      go_upto_region 7 with (go_at_call 14; refine HRC.out.mono ?_; rintro e w4 ⟨u, rfl, l4, b4⟩; obtain ⟨ua, uc, rfl⟩ := l4.shapeOf; have L4 := hide l4; have SO4 := hide (SO3.out.below b4); have HR4 := hide (BoxT.below (t := 38) HR3.out b4); have HB4 := hide (HB3.out.trans (b4.mono HB3.out.size)); clear l4 b4)
      clear HRC SO3 HR3 HB3 p0 p1 p2
      have hun := rsO_len T e' rk rt rv
      have HUN := hide hun
      have HREC := hide (fun (W : World) (hb : Below w4.heap.size w4 W) (a b c : Int) => (SO4.out.below hb).record a b c)
      have HMRK := hide (fun (W : World) (hb : Below w4.heap.size w4 W) (m : Int) => (SO4.out.below hb).mark m)
      have HPNS := hide (fun (W : World) (hb : Below w4.heap.size w4 W) => (SO4.out.below hb).panes)
      have HLTE := hide (fun (W : World) (hb : Below w4.heap.size w4 W) => (SO4.out.below hb).late)
      clear SO4 hun
      generalize hU : rsO T e' rk rt rv = U at *
      have HUQ := hide hU
      clear hU
      generalize hun2 : U.length = un at *
      have HU2 := hide hun2
      clear hun2
      have HLL := hide (HL.out.below HB4.out)
      clear HL
      go_wp2_with fail
      go_loopg [9] (xs.length + 1) (fun gh iv wr => ∃ i : Nat, iv = .int .i64 (i : Int) ∧ i ≤ xs.length ∧ xs.length + 1 ≤ gh + i ∧ Hid (Below w4.heap.size w4 wr))
      case atStart => exact ⟨0, rfl, by omega, by omega, (show Below _ _ _ from Below.refl _ _)⟩
      case round =>
        obtain ⟨i, rfl, hi, hg, HD⟩ := hrel
        obtain ⟨go, rfl⟩ : ∃ go, gk = go + 1 := ⟨gk - 1, by omega⟩
        obtain ⟨p0, p1, p2⟩ := (BoxT.below (t := 38) HR4.out HD.out).cells3
        have hle : (un : Int) ≤ 1 := by have := HUN.out; omega
        by_cases hlt : i < xs.length
        · obtain ⟨x, hx⟩ := get_of_lt hlt
          have bt : (i : Int) < (xs.length : Int) := by omega
          obtain ⟨nb, no, rfl, nlt, e0, e1, e2, e3, e4⟩ := (HLL.out.below (HD.out.mono HB4.out.size)).stp hx
          obtain ⟨wh, qk, qt, qv, mk⟩ := x
          simp only at e0 e1 e2 e3 e4
          clear hx
          by_cases h3 : wh < 3
          · have HQ := hide (HREC.out wr HD.out qk qt qv)
            go_upto_region 14 with (go_at_call 14; refine HQ.out.mono ?_; rintro e w5 ⟨u5, rfl, l5, b5⟩; have HD5 := hide (HD.out.trans (b5.mono HD.out.size)); clear l5 b5)
            clear e0 e1 e2 e3 e4 p0 p1 p2 HQ HD
            obtain ⟨p0, p1, p2⟩ := (BoxT.below (t := 38) HR4.out HD5.out).cells3
            have HQ := hide (HREC.out w5 HD5.out rk rt rv)
            go_wp2_with (first
              | (go_at_call 14; refine HQ.out.mono ?_; rintro e w6 ⟨u6, rfl, l6, b6⟩; have HD6 := hide (HD5.out.trans (b6.mono HD5.out.size)); have H13 := hide (hRecords_any l6 (show LSeg 3 Rc.cs w6.heap.size w6 _ (rsO T e' rk rt rv) from by rw [HUQ.out]; exact (L4.out.below HD6.out).mono HD6.out.size) (by have := rsO_len T e' rk rt rv; omega)); clear l6 b6)
              | (go_at_call 13; refine H13.out.mono ?_; rintro e w7 ⟨rfl, b7⟩; have HD7 := hide (HD6.out.trans (b7.mono HD6.out.size)); have HP7 := hide (HPNS.out w7 HD7.out); clear b7)
              | (go_at_call 19; refine HP7.out.mono ?_; rintro e w8 ⟨rfl, b8⟩; have HD8 := hide (HD7.out.trans (b8.mono HD7.out.size)); have HP8 := hide (HLTE.out w8 HD8.out); clear b8)
              | (go_at_call 20; refine HP8.out.mono ?_; rintro e w9 ⟨rfl, b9⟩; have HD9 := hide (HD8.out.trans (b9.mono HD8.out.size)); clear b9))
            go_roundg go
            case rel => exact ⟨i + 1, by go_num, by omega, by omega, HD9⟩
            case measure => omega
          · have HQ := hide (HMRK.out wr HD.out mk)
            go_upto_region 14 with (go_at_call 16; refine HQ.out.mono ?_; rintro e w5 ⟨rfl, b5⟩; have HD5 := hide (HD.out.trans (b5.mono HD.out.size)); clear b5)
            clear e0 e1 e2 e3 e4 p0 p1 p2 HQ HD
            obtain ⟨p0, p1, p2⟩ := (BoxT.below (t := 38) HR4.out HD5.out).cells3
            have HQ := hide (HREC.out w5 HD5.out rk rt rv)
            go_wp2_with (first
              | (go_at_call 14; refine HQ.out.mono ?_; rintro e w6 ⟨u6, rfl, l6, b6⟩; have HD6 := hide (HD5.out.trans (b6.mono HD5.out.size)); have H13 := hide (hRecords_any l6 (show LSeg 3 Rc.cs w6.heap.size w6 _ (rsO T e' rk rt rv) from by rw [HUQ.out]; exact (L4.out.below HD6.out).mono HD6.out.size) (by have := rsO_len T e' rk rt rv; omega)); clear l6 b6)
              | (go_at_call 13; refine H13.out.mono ?_; rintro e w7 ⟨rfl, b7⟩; have HD7 := hide (HD6.out.trans (b7.mono HD6.out.size)); have HP7 := hide (HPNS.out w7 HD7.out); clear b7)
              | (go_at_call 19; refine HP7.out.mono ?_; rintro e w8 ⟨rfl, b8⟩; have HD8 := hide (HD7.out.trans (b8.mono HD7.out.size)); have HP8 := hide (HLTE.out w8 HD8.out); clear b8)
              | (go_at_call 20; refine HP8.out.mono ?_; rintro e w9 ⟨rfl, b9⟩; have HD9 := hide (HD8.out.trans (b9.mono HD8.out.size)); clear b9))
            go_roundg go
            case rel => exact ⟨i + 1, by go_num, by omega, by omega, HD9⟩
            case measure => omega
        · have bt : ¬ (i : Int) < (xs.length : Int) := by omega
          go_wp2_with fail
          go_ret
          exact ⟨rfl, HB4.out.trans (HD.out.mono HB4.out.size)⟩
end Go.Proofs.YtpcbhcdpegbfjaaGreat
