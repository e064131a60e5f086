/-
  Texts in build order: ONevW, OSameW, OAll.
-/
import Derived.Test.YtpcbhcdpegbfjaaGreatM26
import Derived.Test.YtpcbhcdpegbfjaaGreatM42
import Derived.Deep.CutBlock
import Derived.Deep.CutRange
import Derived.Test.YtpcbhcdpegbfjaaGreatM23
/-
 A window's operator and a law's step, side by side.
-/
namespace Go.Proofs.YtpcbhcdpegbfjaaGreat
open Go.RowKit
structure Stp where
 wh : Int
 rk : Int
 rt : Int
 rv : Int
 mm : Int
def Stp.cs (x : Stp) : List Value := [.int .i64 x.wh, .int .i64 x.rk, .int .i64 x.rt, .int .i64 x.rv, .int .i64 x.mm]
theorem LSeg.stp {B : Nat} {w : World} {ao : Option Addr} {n cap : Nat} {xs : List Stp} (h : LSeg 5 Stp.cs B w (.slice ao n cap) xs) {i : Nat} {x : Stp} (hx : xs[i]? = some x) : ∃ b o, ao = some ⟨b, o, none⟩ ∧ b < B ∧ w.cell? ⟨b, o + i * 5, none⟩ = some (.int .i64 x.wh) ∧ w.cell? ⟨b, o + i * 5 + 1, none⟩ = some (.int .i64 x.rk) ∧ w.cell? ⟨b, o + i * 5 + 2, none⟩ = some (.int .i64 x.rt) ∧ w.cell? ⟨b, o + i * 5 + 3, none⟩ = some (.int .i64 x.rv) ∧ w.cell? ⟨b, o + i * 5 + 4, none⟩ = some (.int .i64 x.mm) := by
 obtain ⟨ao', cap', e, _, hs⟩ := h
 cases e
 rcases hs with rfl | ⟨b, off, rfl, hb, hc⟩
 ·simp at hx
 ·exact ⟨b, off, rfl, hb, hc i x hx 0 _ rfl, hc i x hx 1 _ rfl, hc i x hx 2 _ rfl, hc i x hx 3 _ rfl, hc i x hx 4 _ rfl⟩
def NW (w W : World) (O K s : Nat) (k size slide a : Int) (M : List Pn) (g : Int) (KK : Nat → Prop) : Prop := ∃ fp, OW W O K s k size slide a fp M g 0 ∧ (∀ i, FO O K fp i → w.heap.size ≤ i) ∧ (∀ i, KK i → ¬ FO O K fp i ∧ i < W.heap.size) ∧ Below w.heap.size w W
structure NP (k : Int) (M : List Pn) (g : Int) (i : Nat) : Prop where
 up : ∀ p ∈ M, Up k g p
 ap : Apart (sess k) M
 ln : M.length ≤ 64 * i
section
variable {w W : World} {O K s : Nat} {k size slide a : Int} {M : List Pn} {g : Int} {KK : Nat → Prop}
theorem OW.flt' {fp : Nat → Prop} {d : Int} (h : OW W O K s k size slide a fp M g d) : ∀ i, FO O K fp i → i < W.heap.size := fun i hi => by
 rcases hi with rfl | rfl | hi
 ·exact h.ob.lt
 ·exact h.kb.lt
 ·exact h.sa.flt i hi
theorem NW.bl (h : NW w W O K s k size slide a M g KK) : Below w.heap.size w W := by obtain ⟨_, _, _, _, h⟩ := h; exact h
theorem NW.grow (h : NW w W O K s k size slide a M g KK) {W' : World} (hb : Below W.heap.size W W') : NW w W' O K s k size slide a M g KK := by
 obtain ⟨fp, o, h1, h2, h3⟩ := h
 exact ⟨fp, o.below hb, h1, fun i hi => ⟨(h2 i hi).1, Nat.lt_of_lt_of_le (h2 i hi).2 hb.size⟩, h3.trans (hb.mono h3.size)⟩
theorem NW.box (h : NW w W O K s k size slide a M g (fun _ => False)) (cs : Array Value) (t : TypeId) : NW w (W.alloc (.cells cs t)) O K s k size slide a M g (fun i => i = W.heap.size) := by
 obtain ⟨fp, o, h1, h2, h3⟩ := h
 have hb := below_box W (.cells cs t)
 exact ⟨fp, o.below hb, h1, fun i hi => ⟨fun e => by have := o.flt' i e; omega, by rw [hi]; exact (BoxT.new t W cs).lt⟩, h3.trans (hb.mono h3.size)⟩
theorem NW.free (h : NW w W O K s k size slide a M g KK) : NW w W O K s k size slide a M g (fun _ => False) := by
 obtain ⟨fp, o, h1, h2, h3⟩ := h
 exact ⟨fp, o, h1, fun i hi => hi.elim, h3⟩
theorem NW.step {fp fp' : Nat → Prop} {W' : World} (h1 : ∀ i, FO O K fp i → w.heap.size ≤ i) (h2 : ∀ i, KK i → ¬ FO O K fp i ∧ i < W.heap.size) (h3 : Below w.heap.size w W) (t : FT (FO O K fp) (FO O K fp') W W') : (∀ i, FO O K fp' i → w.heap.size ≤ i) ∧ (∀ i, KK i → ¬ FO O K fp' i ∧ i < W'.heap.size) ∧ Below w.heap.size w W' ∧ ∀ i, KK i → W'.heap[i]? = W.heap[i]? := by
 refine ⟨fun i hi => (t.sub i hi).elim (h1 i) fun h => by have := h3.size; omega, fun i hi => ⟨fun e => ?_, Nat.lt_of_lt_of_le (h2 i hi).2 t.size⟩, h3.trans (t.below h3.size h1), fun i hi => t.block i (h2 i hi).2 (h2 i hi).1⟩
 rcases t.sub i e with e | e
 ·exact (h2 i hi).1 e
 ·have := (h2 i hi).2; omega
theorem NW.record (h : NW w W O K s k size slide a M g KK) (hw : FitW k size slide) (ha : 1 ≤ a ∧ a ≤ 5) (hs : In64 size) (hsl : In64 slide) (rk rt rv : Int) (hrk : In64 rk) (hrv : In64 rv) (ht : TimeOk rt) {i : Nat} (hi : i ≤ 80) (hp : NP k M g i) (hg : g < rt) :
  Calls Tryz.prog 14 #[.pointer (some ⟨O, 0, none⟩), .agg #[.int .i64 rk, .int .i64 rt, .int .i64 rv]] W fun e w' => e = .returned (.slice none 0 0) ∧ ∃ M', NW w w' O K s k size slide a M' g KK ∧ NP k M' g (i + 1) := by
 obtain ⟨fp, o, h1, h2, h3⟩ := h
 have hnl := late_none hw ht hg
 refine (Record_any o hw ha hs hsl rk rt rv hrk hrv ht (by have := hp.ln; omega) hp.ap (.inl hnl)).mono ?_
 rintro e w' ⟨rfl, fp', M', d', o', t', c'⟩
 obtain ⟨g1, g2, g3, _⟩ := NW.step h1 h2 h3 t'
 rcases c' with ⟨c, rfl, _⟩ | ⟨_, _, hne, c⟩
 ·refine ⟨rfl, M', ⟨fp', o', g1, g2, g3⟩, ⟨c.1.up fun p hq => ?_, c.2, ?_⟩⟩
  ·rcases List.mem_append.1 hq with hq | hq
   ·exact frS_up hw (r := ⟨rk, rt, rv⟩) ht hg p hq
   ·exact hp.up p hq
  ·have e1 := c.1.len
   have e2 := frS_len k size slide a ⟨rk, rt, rv⟩
   have e3 := hp.ln
   rw [List.length_append] at e1
   omega
 ·exfalso
  obtain ⟨sp, hsp⟩ := List.exists_mem_of_ne_nil _ hne
  have e1 := c sp hsp
  rw [hnl sp hsp] at e1
  cases e1
theorem NW.mark (h : NW w W O K s k size slide a M g KK) (m : Int) (hk : k ≠ 0) {i : Nat} (hi : i ≤ 80) (hp : NP k M g i) :
  Calls Tryz.prog 16 #[.pointer (some ⟨O, 0, none⟩), .int .i64 m] W fun e w' => ∃ ua un uc os, e = .returned (.slice ua un uc) ∧ os.length = un ∧ un ≤ 5120 ∧ LSeg 3 Rc.cs w'.heap.size w' (.slice ua un uc) os ∧ (∀ r ∈ os, g < r.t ∧ r.t ≤ m) ∧ (∀ i, KK i → w'.heap[i]? = W.heap[i]?) ∧ ∃ M', NW w w' O K s k size slide a M' (max g m) KK ∧ NP k M' (max g m) (i + 1) := by
 obtain ⟨fp, o, h1, h2, h3⟩ := h
 refine (Mark_any o m hk (by have := hp.ln; omega)).mono ?_
 rintro e w' ⟨u, fp', rfl, r, o', t'⟩
 obtain ⟨g1, g2, g3, g4⟩ := NW.step h1 h2 h3 t'
 have hl := outM_len g m M
 have hl2 := hp.ln
 have r2 := r.seg (fun _ => rfl) (by omega)
 obtain ⟨q, c, rfl⟩ := r.shape
 refine ⟨q, _, c, _, rfl, rfl, by omega, r2, out_in hp.up, g4, _, ⟨fp', o', g1, g2, g3⟩, ⟨left_up hp.up, leftM_ap hp.ap, ?_⟩⟩
 have := leftM_len g m M
 omega
theorem NW.late (h : NW w W O K s k size slide a M g KK) : Calls Tryz.prog 20 #[.pointer (some ⟨O, 0, none⟩)] W fun e w' => e = .returned (.int .i64 0) ∧ w' = W := by
 obtain ⟨_, o, _⟩ := h
 exact Late_any o
end
end Go.Proofs.YtpcbhcdpegbfjaaGreat
/-
 The law OpsSame, walked.
-/
namespace Go.Proofs.YtpcbhcdpegbfjaaGreat
open Go.RowKit
theorem J.ck_expr {ns : List J.Nd} {n : J.Nd} (h : J.ckE ns n = 0) (hk : 2 ≤ n.kind ∧ n.kind ≤ 4) : J.chk n.e = 0 := by
 unfold J.ckE J.ckN at h
 by_cases h1 : n.kind < 1 ∨ 8 < n.kind
 ·rw [if_pos h1] at h; cases h
 rw [if_neg h1] at h
 by_cases h2 : J.inB (ns.map J.Nd.kind) n.kind n.ins = false
 ·rw [if_pos h2] at h; cases h
 rw [if_neg h2] at h
 by_cases h3 : n.par < 1 ∨ 4 < n.par
 ·rw [if_pos h3] at h; cases h
 rw [if_neg h3] at h
 by_cases h4 : J.exB n.kind n.e.op n.e.n n.e.l.length (J.chk n.e) = false
 ·rw [if_pos h4] at h; cases h
 have i4 : J.exB n.kind n.e.op n.e.n n.e.l.length (J.chk n.e) = true := by simpa using h4
 unfold J.exB at i4
 rw [if_pos hk] at i4
 exact of_decide_eq_true i4
theorem few_of {e : J.Ex} (h0 : J.chk e = 0) : (J.cnt e 1 0).2 ≠ 71 := by
 rcases J.chk_of e with h1 | h1 | h1
 ·rw [h1.1]; decide
 ·rw [h1.1]; decide
 ·rw [h0] at h1
  exfalso
  have := h1.2
  split at this <;> omega
theorem FtO.few {n : J.Nd} (h : J.FtO n) (hk : n.kind = 2 ∨ n.kind = 3 ∨ n.kind = 4) : (J.cnt n.e 1 0).2 ≠ 71 := by
 obtain ⟨_, a, c, a2, c2, ck⟩ := h
 have h1 := ck.lt.ck (J.nMid n a c) (by simp)
 exact few_of (J.ck_expr (n := J.nMid n a c) h1 (by show 2 ≤ n.kind ∧ n.kind ≤ 4; omega))
end Go.Proofs.YtpcbhcdpegbfjaaGreat
/-
 The operator of any node.
-/
namespace Go.Proofs.YtpcbhcdpegbfjaaGreat
set_option maxHeartbeats 16000000
set_option maxRecDepth 100000
open Go.RowKit
theorem J.FtO.red {n : J.Nd} (h : J.FtO n) (h6 : n.kind = 6) : 1 ≤ n.agg ∧ n.agg ≤ 5 := by
 obtain ⟨_, a, c, a2, c2, ck⟩ := h
 have h1 := ck.lt.ck (J.nMid n a c) (by simp)
 unfold J.ckE J.ckN at h1
 have hag : J.aggB n.kind n.agg = true := by
  cases hb : J.aggB n.kind n.agg with
  | true => rfl
  | false =>
   exfalso
   rw [show (J.nMid n a c).agg = n.agg from rfl, show (J.nMid n a c).kind = n.kind from rfl, hb] at h1
   revert h1
   split <;> (try split) <;> (try split) <;> (try split) <;> simp
 unfold J.aggB at hag
 rw [if_pos (by omega)] at hag
 exact of_decide_eq_true hag
structure NdOk (nd : J.Nd) : Prop where
 f7 : nd.kind = 7 → (1 ≤ nd.agg ∧ nd.agg ≤ 5) ∧ FitW nd.wk nd.ws nd.wl
 f6 : nd.kind = 6 → 1 ≤ nd.agg ∧ nd.agg ≤ 5
 few : nd.kind = 2 ∨ nd.kind = 3 ∨ nd.kind = 4 → (J.cnt nd.e 1 0).2 ≠ 71
theorem NdOk.of {nd : J.Nd} (h : nd.kind ≠ 1 → nd.kind ≠ 8 → J.FtO nd) : NdOk nd :=
 ⟨fun e => by
  have h1 := (h (by omega) (by omega)).win e
  exact ⟨h1.1, h1.2⟩, fun e => (h (by omega) (by omega)).red e, fun e => FtO.few (h (by omega) (by omega)) e⟩
def NrPost (w : World) (a : Int) (e : Ending) (w' : World) : Prop := ∃ K s fp, e = .returned (.iface 92 (.pointer (some ⟨K, 0, none⟩))) ∧ BoxT 99 w' K #[.pointer (some ⟨s, 0, none⟩), .slice none 0 0, .int .i64 (-9223372036854775808), .int .i64 0] ∧ SA w' s 0 0 0 a fp [] ∧ (∀ i, fp i → w.heap.size ≤ i) ∧ w.heap.size ≤ K ∧ ¬ fp K ∧ Below w.heap.size w w'
theorem opOf_red (w : World) (ia : Option Addr) (il ic : Nat) (par op nn : Int) (ea : Option Addr) (el ec : Nat) (k size slide a : Int) :
  Calls Tryz.prog 27 #[.agg #[.int .i64 6, .slice ia il ic, .int .i64 par, .int .i64 op, .int .i64 nn, .slice ea el ec, .int .i64 a, .int .i64 k, .int .i64 size, .int .i64 slide]] w (NrPost w a) := by
 have HX := hide (BoxT.new 29 w #[.int .i64 6, .slice ia il ic, .int .i64 par, .int .i64 op, .int .i64 nn, .slice ea el ec, .int .i64 a, .int .i64 k, .int .i64 size, .int .i64 slide])
 have HB := hide (below_box w (.cells #[.int .i64 6, .slice ia il ic, .int .i64 par, .int .i64 op, .int .i64 nn, .slice ea el ec, .int .i64 a, .int .i64 k, .int .i64 size, .int .i64 slide] 29))
 have HN := hide (fun W => New_any W 0 0 0 a)
 obtain ⟨x0, x1, x2, x3, x4, x5, x6, x7, x8, x9⟩ := HX.out.all10
 go_enter Tryz.func27, Tryz.ntmps27
 go_wp2_with (first
  | (go_at_call 39; refine (HN.out _).mono ?_; rintro e w2 ⟨s, fp, rfl, s2, f2, b2⟩; have S2 := hide s2; have F2 := hide f2; have HB2 := hide (HB.out.trans (b2.mono HB.out.size)); clear s2 f2 b2)
  | (go_at_call 38; refine (newKeyed_any _ _).mono ?_; rintro e w3 ⟨rfl, b3⟩; have S3 := hide (S2.out.below b3); have HB3 := hide (HB2.out.trans (b3.mono HB2.out.size)); clear b3))
 go_ret
 have hb4 := below_box w3 (.cells #[.pointer (some ⟨s, 0, none⟩), .slice none 0 0, .int .i64 (-9223372036854775808), .int .i64 0] 99)
 exact ⟨w3.heap.size, s, fp, rfl, BoxT.new 99 w3 _, S3.out.below hb4, fun i hi => Nat.le_trans HB.out.size (F2.out i hi), HB3.out.size, fun e => by have := S3.out.flt _ e; omega, HB3.out.trans (hb4.mono HB3.out.size)⟩
theorem New_red (w : World) (ia : Option Addr) (il ic : Nat) (par op nn : Int) (ea : Option Addr) (el ec : Nat) (k size slide a : Int) :
  Calls Tryz.prog 10 #[.agg #[.int .i64 6, .slice ia il ic, .int .i64 par, .int .i64 op, .int .i64 nn, .slice ea el ec, .int .i64 a, .int .i64 k, .int .i64 size, .int .i64 slide]] w fun e w' => ∃ O K s fp, e = .returned (.pointer (some ⟨O, 0, none⟩)) ∧ BoxT 68 w' O #[.iface 92 (.pointer (some ⟨K, 0, none⟩))] ∧ BoxT 99 w' K #[.pointer (some ⟨s, 0, none⟩), .slice none 0 0, .int .i64 (-9223372036854775808), .int .i64 0] ∧ SA w' s 0 0 0 a fp [] ∧ ¬ fp O ∧ ¬ fp K ∧ (∀ i, FO O K fp i → w.heap.size ≤ i) ∧ Below w.heap.size w w' := by
 have HX := hide (BoxT.new 29 w #[.int .i64 6, .slice ia il ic, .int .i64 par, .int .i64 op, .int .i64 nn, .slice ea el ec, .int .i64 a, .int .i64 k, .int .i64 size, .int .i64 slide])
 have HB := hide (below_box w (.cells #[.int .i64 6, .slice ia il ic, .int .i64 par, .int .i64 op, .int .i64 nn, .slice ea el ec, .int .i64 a, .int .i64 k, .int .i64 size, .int .i64 slide] 29))
 have HO := hide (fun W => opOf_red W ia il ic par op nn ea el ec k size slide a)
 obtain ⟨x0, x1, x2, x3, x4, x5, x6, x7, x8, x9⟩ := HX.out.all10
 go_enter Tryz.func10, Tryz.ntmps10
 go_wp2_with (go_at_call 27; refine (HO.out _).mono ?_; rintro e w2 ⟨K, s, fp, rfl, k2, s2, f2, g2, n2, b2⟩; have K2 := hide k2; have S2 := hide s2; have F2 := hide (And.intro f2 (And.intro g2 n2)); have B2 := hide (HB.out.trans (b2.mono HB.out.size)); clear k2 s2 f2 g2 n2 b2)
 go_ret
 have hb4 := below_box w2 (.cells #[.iface 92 (.pointer (some ⟨K, 0, none⟩))] 68)
 have hz := HB.out.size
 refine ⟨w2.heap.size, K, s, fp, rfl, BoxT.new 68 w2 _, K2.out.below hb4, S2.out.below hb4, fun e => by have := S2.out.flt _ e; omega, F2.out.2.2, fun i hi => ?_, B2.out.trans (hb4.mono B2.out.size)⟩
 rcases hi with rfl | rfl | hi
 ·exact B2.out.size
 ·exact Nat.le_trans hz F2.out.2.1
 ·exact Nat.le_trans hz (F2.out.1 i hi)
def FS (O : Nat) (e : J.Ex) (i : Nat) : Prop := i = O ∨ ∃ x ∈ e.sub, x.l ≠ [] ∧ ∃ o, x.a = some ⟨i, o, none⟩
theorem SO.flt {W : World} {O T : Nat} {e : J.Ex} (h : SO W O T e) : ∀ i, FS O e i → i < W.heap.size := fun i hi => by
 rcases hi with rfl | ⟨x, hx, hl, o, ha⟩
 ·exact h.ob.lt
 ·obtain ⟨y, r, hy⟩ := List.exists_cons_of_ne_nil hl
  obtain ⟨b, o2, e1, c1, _, _⟩ := (h.inn x hx).at_ 0 y (by rw [hy]; rfl)
  rw [ha] at e1
  simp only [Option.some.injEq, Addr.mk.injEq] at e1
  obtain ⟨rfl, _⟩ := e1
  exact J.cell_lt c1
theorem SO.beside {W W' : World} {O T : Nat} {e : J.Ex} (h : SO W O T e) (hb : ∀ i, FS O e i → W'.heap[i]? = W.heap[i]?) : SO W' O T e := by
 refine ⟨h.ob.back' (hb O (.inl rfl)), h.kd, fun x hx => ?_, h.few⟩
 have hL := h.inn x hx
 refine ⟨hL.op1, hL.op2, hL.n1, hL.n2, hL.len, hL.cap, fun i y hy => ?_⟩
 obtain ⟨b, o, e1, c1, c2, c3⟩ := hL.at_ i y hy
 have he := hb b (.inr ⟨x, hx, fun e2 => by rw [e2] at hy; simp at hy, o, e1⟩)
 refine ⟨b, o, e1, ?_, ?_, ?_⟩ <;> simp only [World.cell?, he] at * <;> assumption
theorem FS.new {B O : Nat} {e : J.Ex} (hO : B ≤ O) (hf : J.Far B e) : ∀ i, FS O e i → B ≤ i := fun i hi => by
 rcases hi with rfl | ⟨x, hx, _, o, ha⟩
 ·exact hO
 ·exact hf x hx i o ha
def OpAt (W : World) (nd : J.Nd) (O n : Nat) (F : Nat → Prop) (X : List Pn) (g d : Int) : Prop :=
 (nd.kind ≠ 6 ∧ nd.kind ≠ 7 ∧ (∃ e', SO W O (kdO nd.kind) e' ∧ Wth nd.kind nd.e e' ∧ ∀ i, F i ↔ FS O e' i) ∧ X = [] ∧ d = 0) ∨
 (nd.kind = 7 ∧ ∃ K s Fk, BoxT 68 W O #[.iface 100 (.pointer (some ⟨K, 0, none⟩))] ∧ KX W K 102 (wRest nd.wk nd.ws nd.wl nd.agg) s nd.wk nd.ws nd.wl nd.agg n Fk X g d ∧ ¬ Fk O ∧ ∀ i, F i ↔ (i = O ∨ Fk i)) ∨
 (nd.kind = 6 ∧ ∃ K s Fk, BoxT 68 W O #[.iface 92 (.pointer (some ⟨K, 0, none⟩))] ∧ KX W K 99 [] s 0 0 0 nd.agg n Fk X g d ∧ ¬ Fk O ∧ ∀ i, F i ↔ (i = O ∨ Fk i))
def sN (nd : J.Nd) : Bool := if nd.kind = 7 then sess nd.wk else false
def outR (nd : J.Nd) (r : Rc) : List Rc := if nd.kind = 6 ∨ nd.kind = 7 then [] else rsO (kdO nd.kind) nd.e r.k r.t r.v
def FrN (nd : J.Nd) (g : Int) (r : Rc) : List Pn := if nd.kind = 7 then FrK nd.wk nd.ws nd.wl nd.agg g r else if nd.kind = 6 then frS 0 0 0 nd.agg r else []
def outMk (nd : J.Nd) (g m : Int) (X : List Pn) : List Rc := if nd.kind = 7 then outG nd.wk g m X else if nd.kind = 6 then outG 0 g m X else []
def leftMk (nd : J.Nd) (g m : Int) (X : List Pn) : List Pn := if nd.kind = 7 then leftG nd.wk g m X else if nd.kind = 6 then leftG 0 g m X else []
def DN (nd : J.Nd) (g t d d' : Int) : Prop := if nd.kind = 7 then DNext nd.wk nd.ws nd.wl g t d d' else d' = d
theorem outR_len (nd : J.Nd) (r : Rc) : (outR nd r).length ≤ 1 := by
 unfold outR
 split
 ·simp
 ·exact rsO_len ..
theorem outMk_len (nd : J.Nd) (g m : Int) (X : List Pn) : (outMk nd g m X).length ≤ X.length := by
 unfold outMk
 split
 ·exact outG_len ..
 ·split
  ·exact outG_len ..
  ·simp
theorem rsO_wth {nd : J.Nd} {e' : J.Ex} (hw : Wth nd.kind nd.e e') (rk rt rv : Int) : rsO (kdO nd.kind) e' rk rt rv = rsO (kdO nd.kind) nd.e rk rt rv := by
 by_cases h : nd.kind = 2 ∨ nd.kind = 3 ∨ nd.kind = 4
 ·unfold rsO
  rw [hw h rk rt rv]
 ·have h1 : kdO nd.kind = 91 ∨ kdO nd.kind = 85 := by
   unfold kdO
   rw [if_neg (by omega), if_neg (by omega), if_neg (by omega)]
   split
   ·exact .inl rfl
   ·exact .inr rfl
  rcases h1 with h1 | h1 <;> rw [h1] <;> rfl
section
variable {W W' : World} {nd : J.Nd} {O n : Nat} {F : Nat → Prop} {X : List Pn} {g d : Int}
theorem OpAt.flt (h : OpAt W nd O n F X g d) : ∀ i, F i → i < W.heap.size := fun i hi => by
 rcases h with ⟨_, _, ⟨e', so, _, hf⟩, _, _⟩ | ⟨_, K, s, Fk, hb, hk, _, hf⟩ | ⟨_, K, s, Fk, hb, hk, _, hf⟩
 ·exact so.flt i ((hf i).1 hi)
 ·rcases (hf i).1 hi with rfl | e
  ·exact hb.lt
  ·exact hk.flt i e
 ·rcases (hf i).1 hi with rfl | e
  ·exact hb.lt
  ·exact hk.flt i e
theorem OpAt.below (h : OpAt W nd O n F X g d) (hb : Below W.heap.size W W') : OpAt W' nd O n F X g d := by
 rcases h with ⟨h1, h2, ⟨e', so, hw⟩, h3⟩ | ⟨h1, K, s, Fk, ho, hk, h2⟩ | ⟨h1, K, s, Fk, ho, hk, h2⟩
 ·exact .inl ⟨h1, h2, ⟨e', so.below hb, hw⟩, h3⟩
 ·exact .inr (.inl ⟨h1, K, s, Fk, ho.below hb, hk.below hb, h2⟩)
 ·exact .inr (.inr ⟨h1, K, s, Fk, ho.below hb, hk.below hb, h2⟩)
theorem OpAt.perm {Y : List Pn} (h : OpAt W nd O n F X g d) (hp : X.Perm Y) : OpAt W nd O n F Y g d := by
 rcases h with ⟨h1, h2, h4, h5, h3⟩ | ⟨h1, K, s, Fk, ho, hk, h2⟩ | ⟨h1, K, s, Fk, ho, hk, h2⟩
 ·subst h5
  exact .inl ⟨h1, h2, h4, List.nil_perm.1 hp, h3⟩
 ·exact .inr (.inl ⟨h1, K, s, Fk, ho, hk.perm hp, h2⟩)
 ·exact .inr (.inr ⟨h1, K, s, Fk, ho, hk.perm hp, h2⟩)
theorem OpAt.more {n' : Nat} (h : OpAt W nd O n F X g d) (hn : n ≤ n') : OpAt W nd O n' F X g d := by
 rcases h with h | ⟨h1, K, s, Fk, ho, hk, h2⟩ | ⟨h1, K, s, Fk, ho, hk, h2⟩
 ·exact .inl h
 ·exact .inr (.inl ⟨h1, K, s, Fk, ho, hk.more hn, h2⟩)
 ·exact .inr (.inr ⟨h1, K, s, Fk, ho, hk.more hn, h2⟩)
theorem OpAt.len (h : OpAt W nd O n F X g d) : X.length ≤ n := by
 rcases h with ⟨_, _, _, rfl, _⟩ | ⟨h1, K, s, Fk, ho, hk, h2⟩ | ⟨h1, K, s, Fk, ho, hk, h2⟩
 ·exact Nat.zero_le _
 ·exact hk.len
 ·exact hk.len
theorem OpAt.apart (h : OpAt W nd O n F X g d) : Apart (sN nd) X := by
 unfold sN
 rcases h with ⟨_, h7, _, rfl, _⟩ | ⟨h1, K, s, Fk, ho, hk, h2⟩ | ⟨h1, K, s, Fk, ho, hk, h2⟩
 ·exact List.Pairwise.nil
 ·rw [if_pos h1]; exact hk.apart
 ·rw [if_neg (by omega)]; exact hk.apart
theorem OpAt.okX (h : OpAt W nd O n F X g d) : ∀ x ∈ X, PnOk x ∧ (nd.kind = 7 → nd.wk = 3 → x.f < x.t) := by
 rcases h with ⟨_, _, _, rfl, _⟩ | ⟨h1, K, s, Fk, ho, hk, h2⟩ | ⟨h1, K, s, Fk, ho, hk, h2⟩
 ·intro x hx; cases hx
 ·exact fun x hx => ⟨(hk.okX x hx).1, fun _ => (hk.okX x hx).2⟩
 ·exact fun x hx => ⟨(hk.okX x hx).1, fun e => by omega⟩
theorem OpAt.beside {fq fq' : Nat → Prop} (h : OpAt W nd O n F X g d) (hf : FT fq fq' W W') (hd : ∀ i, F i → ¬ fq i) : OpAt W' nd O n F X g d := by
 have hlt := h.flt
 have hbl : ∀ i, F i → W'.heap[i]? = W.heap[i]? := fun i hi => hf.block i (hlt i hi) (hd i hi)
 rcases h with ⟨h1, h2, ⟨e', so, hw, h5⟩, h3, h4⟩ | ⟨h1, K, s, Fk, ho, hk, h2, h3⟩ | ⟨h1, K, s, Fk, ho, hk, h2, h3⟩
 ·exact .inl ⟨h1, h2, ⟨e', so.beside (fun i hi => hbl i ((h5 i).2 hi)), hw, h5⟩, h3, h4⟩
 ·exact .inr (.inl ⟨h1, K, s, Fk, ho.back' (hbl O ((h3 O).2 (.inl rfl))), hk.beside (fun i hi => hbl i ((h3 i).2 (.inr hi))) hf.size, h2, h3⟩)
 ·exact .inr (.inr ⟨h1, K, s, Fk, ho.back' (hbl O ((h3 O).2 (.inl rfl))), hk.beside (fun i hi => hbl i ((h3 i).2 (.inr hi))) hf.size, h2, h3⟩)
end
end Go.Proofs.YtpcbhcdpegbfjaaGreat
