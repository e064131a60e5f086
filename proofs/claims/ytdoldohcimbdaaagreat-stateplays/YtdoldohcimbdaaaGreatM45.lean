/-
  Texts in build order: SRRec.
-/
import Derived.Test.YtdoldohcimbdaaaGreatM39
import Derived.Test.YtdoldohcimbdaaaGreatM43
import Derived.Test.YtdoldohcimbdaaaGreatM44
/-
  The document's Record at a window whose mark is the least one: each span takes the record.
-/
namespace Go.Proofs.YtdoldohcimbdaaaGreat
open Go.RowKit

/-- The document's operator as it lies, with the panes l. -/
structure OpAt (KK : Nat → Prop) (w : World) (o : Nat) (k size slide a : Int) (lv : Value) (l : List Pn) : Prop where
  box : BoxT 46 w o (opCs k size slide a lv (-9223372036854775808) 0)
  seg : LSeg 4 Pn.cs w.heap.size w lv l
  off : l ≠ [] → lv.ownBlock ≠ some o
  kb : ∀ i, KK i → i < w.heap.size
  nk : l ≠ [] → ∀ b, lv.ownBlock = some b → ¬ KK b
def at1 (o b : Nat) : Prop := b = o
theorem OpAt.below {KK : Nat → Prop} {w w' : World} {o : Nat} {k size slide a : Int} {lv : Value} {l : List Pn} (h : OpAt KK w o k size slide a lv l) (hb : Below w.heap.size w w') : OpAt KK w' o k size slide a lv l :=
  ⟨BoxT.below (t := 46) h.box hb, h.seg.on hb, h.off, fun i hi => Nat.lt_of_lt_of_le (h.kb i hi) hb.size, h.nk⟩
theorem OpAt.lay {KK : Nat → Prop} {w w' : World} {o : Nat} {k size slide a : Int} {lv lv' : Value} {l l' : List Pn} (h : OpAt KK w o k size slide a lv l) (hb : Below w.heap.size w w') (hs : LSeg 4 Pn.cs w'.heap.size w' lv' l') (hn : ∀ b, lv'.ownBlock = some b → w.heap.size ≤ b) : OpAt KK (w'.setCell ⟨o, 10, none⟩ lv') o k size slide a lv' l' := by
  have hx := BoxT.below (t := 46) h.box hb
  have hlt := h.box.lt
  have h2 := BoxT.set (t := 46) hx 10 lv'
  refine ⟨?_, hs.back (fun b e => Below.heap_setCell w' ⟨o, 10, none⟩ _ b (by have := hn b e; show b ≠ o; omega)) (by simp), fun _ e => by have := hn _ e; omega, fun i hi => by have := h.kb i hi; have := hb.size; simp; omega, fun _ b e e2 => by have := hn b e; have := h.kb b e2; omega⟩
  have h3 : BoxT 46 (w'.setCell ⟨o, 10, none⟩ lv') o (opCs k size slide a lv' (-9223372036854775808) 0) := by simpa [opCs] using h2
  exact h3
theorem FT.lay {w w' : World} {o : Nat} (hb : Below w.heap.size w w') (v : Value) : FT (at1 o) (at1 o) w (w'.setCell ⟨o, 10, none⟩ v) :=
  ⟨hb.os, hb.tape, hb.output, by simpa using hb.size, fun i hi hn => (Below.heap_setCell w' ⟨o, 10, none⟩ _ i (fun e => hn e)).trans (hb.block i hi), fun _ h => .inl h⟩
def RcPost (KK : Nat → Prop) (w : World) (o : Nat) (k size slide a : Int) (A : List Pn) (e : Ending) (w' : World) : Prop := ∃ u lv' l', e = .returned u ∧ OpAt KK w' o k size slide a lv' l' ∧ FT (at1 o) (at1 o) w w' ∧ Comes (sess k) (jn a) A l'
set_option maxHeartbeats 32000000 in
set_option maxRecDepth 100000 in
theorem rRecord_win {KK : Nat → Prop} {w : World} {o : Nat} {k size slide a : Int} {lv : Value} {l0 : List Pn} (h : OpAt KK w o k size slide a lv l0) (hk0 : k ≠ 0) (hw : FitW k size slide) (rk rt rv : Int) (ht : TimeOk rt) (hn : l0.length ≤ 40000) (hap : Apart (sess k) l0) (hfu : k = 3 → ∀ x ∈ l0, Full x) :
    Calls Tryz.prog 11 #[.pointer (some ⟨o, 0, none⟩), .agg #[.int .i64 rk, .int .i64 rt, .int .i64 rv]] w (RcPost KK w o k size slide a (frS k size slide a ⟨rk, rt, rv⟩ ++ l0)) := by
  have hkd : ndK k = 7 := by rw [ndK, if_neg hk0]
  have HB1 := hide (below_box w (.cells #[.int .i64 rk, .int .i64 rt, .int .i64 rv] 39))
  have HX1 := hide (BoxT.new 39 w #[.int .i64 rk, .int .i64 rt, .int .i64 rv])
  have HO1 := hide (h.below HB1.out)
  have HOL := hide h.box.lt
  have HSP := hide (fun W => rSpans_any W hw ht)
  have HSF : Hid (k = 3 → ∀ s ∈ pSpans k size slide rt, s.f < s.t) := (show _ → _ from fun e => spans_full hw ht (by unfold sess; simpa using e))
  have HSB := hide (spans_bd hw ht)
  have HSL : Hid ((pSpans k size slide rt).length ≤ 64) := (show _ ≤ _ from pSpans_len k size slide rt)
  have HFR : Hid (frS k size slide a ⟨rk, rt, rv⟩ = (pSpans k size slide rt).map fun sp => (⟨rk, sp.f, sp.t, ad a (zr a) rv⟩ : Pn)) := (show _ = _ by unfold frS sps; rw [if_neg hk0])
  have HAP : Hid (Comes (sess k) (jn a) l0 l0) := (show Comes _ _ _ _ from Comes.refl hap)
  have HFL := hide hfu
  rw [HFR.out]
  clear h hw ht hap hfu HFR hk0
  generalize pSpans k size slide rt = ss at *
  go_enter Tryz.func11, Tryz.ntmps11
  go_upto_region 1 with fail
  generalize w.alloc (.cells #[.int .i64 rk, .int .i64 rt, .int .i64 rv] 39) = W1 at *
  have KC : Hid (∀ w' : World, Below W1.heap.size W1 w' → w'.cell? ⟨o, 6, none⟩ = some (.int .i64 a) ∧ w'.cell? ⟨o, 7, none⟩ = some (.int .i64 k) ∧ w'.cell? ⟨o, 8, none⟩ = some (.int .i64 size) ∧ w'.cell? ⟨o, 9, none⟩ = some (.int .i64 slide) ∧ w'.cell? ⟨w.heap.size, 0, none⟩ = some (.int .i64 rk) ∧ w'.cell? ⟨w.heap.size, 1, none⟩ = some (.int .i64 rt) ∧ w'.cell? ⟨w.heap.size, 2, none⟩ = some (.int .i64 rv)) := (show ∀ w' : World, _ from fun w' h => by
    have h2 := BoxT.below (t := 46) HO1.out.box h
    have h3 := BoxT.below (t := 39) HX1.out h
    exact ⟨by rw [h2.cellAt]; rfl, by rw [h2.cellAt]; rfl, by rw [h2.cellAt]; rfl, by rw [h2.cellAt]; rfl, by rw [h3.cellAt]; rfl, by rw [h3.cellAt]; rfl, by rw [h3.cellAt]; rfl⟩)
  have ck : W1.cell? ⟨o, 0, none⟩ = some (.int .i64 7) := by rw [HO1.out.box.cellAt, ← hkd]; rfl
  clear hkd
  go_wp2_with fail
  refine wp_region_M (S := fun w' => w'.cell? ⟨o, 6, none⟩ = some (.int .i64 a) ∧ w'.cell? ⟨o, 7, none⟩ = some (.int .i64 k) ∧ w'.cell? ⟨o, 8, none⟩ = some (.int .i64 size) ∧ w'.cell? ⟨o, 9, none⟩ = some (.int .i64 slide) ∧ w'.cell? ⟨w.heap.size, 0, none⟩ = some (.int .i64 rk) ∧ w'.cell? ⟨w.heap.size, 1, none⟩ = some (.int .i64 rt) ∧ w'.cell? ⟨w.heap.size, 2, none⟩ = some (.int .i64 rv)) (late := []) (by kernel_rfl) (KC.out _ ((Below.refl _ _).drew)) (fun hHeld => ?_)
  (try simp only [List.size_toArray, List.length_cons, List.length_nil, Nat.zero_add, Nat.reduceAdd, Array.replicate, List.replicate])
  refine wpAnyM_take (i := 0) (oi := ⟨_, _, _, _, _, _⟩) (v := ?_) rfl (by kernel_rfl) (by kernel_rfl) (by kernel_rfl) (by kernel_rfl) (fun _ _ _ h => h) (Or.inl ⟨by rfl, ?_⟩) hHeld ?_
  rotate_left
  · (intro w' hSw; (try dsimp only at hSw); go_simp; try (with_reducible rfl))
  (try simp only [Act.put, List.setIfInBounds_toArray, List.set_cons_zero, List.set_cons_succ])
  refine wpAnyM_take (i := 1) (oi := ⟨_, _, _, _, _, _⟩) (v := ?_) rfl (by kernel_rfl) (by kernel_rfl) (by kernel_rfl) (by kernel_rfl) (fun _ _ _ h => h) (Or.inl ⟨by rfl, ?_⟩) hHeld ?_
  rotate_left
  · (intro w' hSw; (try dsimp only at hSw); go_simp; try (with_reducible rfl))
  (try simp only [Act.put, List.setIfInBounds_toArray, List.set_cons_zero, List.set_cons_succ])
  refine wpAnyM_take (i := 2) (oi := ⟨_, _, _, _, _, _⟩) (v := ?_) rfl (by kernel_rfl) (by kernel_rfl) (by kernel_rfl) (by kernel_rfl) (fun _ _ _ h => h) (Or.inl ⟨by rfl, ?_⟩) hHeld ?_
  rotate_left
  · (intro w' hSw; (try dsimp only at hSw); go_simp; try (with_reducible rfl))
  (try simp only [Act.put, List.setIfInBounds_toArray, List.set_cons_zero, List.set_cons_succ])
  refine wpAnyM_take (i := 3) (oi := ⟨_, _, _, _, _, _⟩) (v := ?_) rfl (by kernel_rfl) (by kernel_rfl) (by kernel_rfl) (by kernel_rfl) (fun _ _ _ h => h) (Or.inl ⟨by rfl, ?_⟩) hHeld ?_
  rotate_left
  · (intro w' hSw; (try dsimp only at hSw); go_simp; try (with_reducible rfl))
  (try simp only [Act.put, List.setIfInBounds_toArray, List.set_cons_zero, List.set_cons_succ])
  refine wpAnyM_take (i := 4) (oi := ⟨_, _, _, _, _, _⟩) (v := ?_) rfl (by kernel_rfl) (by kernel_rfl) (by kernel_rfl) (by kernel_rfl) (fun _ _ _ h => h) (Or.inl ⟨by rfl, ?_⟩) hHeld ?_
  rotate_left
  · (intro w' hSw; (try dsimp only at hSw); go_simp; try (with_reducible rfl))
  (try simp only [Act.put, List.setIfInBounds_toArray, List.set_cons_zero, List.set_cons_succ])
  refine wpAnyM_take (i := 5) (oi := ⟨_, _, _, _, _, _⟩) (v := ?_) rfl (by kernel_rfl) (by kernel_rfl) (by kernel_rfl) (by kernel_rfl) (fun _ _ _ h => h) (Or.inl ⟨by rfl, ?_⟩) hHeld ?_
  rotate_left
  · (intro w' hSw; (try dsimp only at hSw); go_simp; try (with_reducible rfl))
  (try simp only [Act.put, List.setIfInBounds_toArray, List.set_cons_zero, List.set_cons_succ])
  refine wpAnyM_take (i := 6) (oi := ⟨_, _, _, _, _, _⟩) (v := ?_) rfl (by kernel_rfl) (by kernel_rfl) (by kernel_rfl) (by kernel_rfl) (fun _ _ _ h => h) (Or.inl ⟨by rfl, ?_⟩) hHeld ?_
  rotate_left
  · (intro w' hSw; (try dsimp only at hSw); go_simp; try (with_reducible rfl))
  (try simp only [Act.put, List.setIfInBounds_toArray, List.set_cons_zero, List.set_cons_succ])
  refine wpAnyM_one (i := 7) (o := ⟨_, _, _, _, _, _⟩) (by kernel_rfl) rfl (fun K hK => ?_)
  go_simp
  go_at_call 32
  refine (HSP.out _).mono ?_
  rintro e w4 ⟨u4, rfl, o4, b4⟩
  have B4 : Hid (Below W1.heap.size W1 w4) := (show Below _ _ _ from ((Below.refl _ _).drew).trans b4)
  have O4 := hide o4
  obtain ⟨sa, sc, rfl⟩ := o4.shape
  refine hK.out _ _ (KC.out _ B4.out) (fun hHeld => ?_)
  clear hK K o4 b4
  (try simp only [List.setIfInBounds_toArray, List.set_cons_zero, List.set_cons_succ])
  refine wpAnyM_one (i := 8) (o := ⟨_, _, _, _, _, _⟩) (by kernel_rfl) rfl (fun K hK => ?_)
  go_simp
  refine hK.out _ _ (KC.out _ B4.out) (fun hHeld => ?_)
  clear hK K
  (try simp only [List.setIfInBounds_toArray, List.set_cons_zero, List.set_cons_succ])
  refine wpAnyM_done (by kernel_rfl) ?_ _
  have X4 := hide (BoxT.below (t := 39) HX1.out B4.out)
  have P4 := hide (HO1.out.below B4.out)
  have S4 := hide (O4.out.seg Sp.cs_len (by have := HSL.out; omega))
  have F4 : Hid (FT (at1 o) (at1 o) w w4) := (show FT _ _ _ _ from FT.of_below (HB1.out.trans (B4.out.mono HB1.out.size)))
  have NS : Hid (∀ b, (Value.slice sa ss.length sc).ownBlock = some b → b ≠ o ∧ b < w4.heap.size) := (show ∀ b, _ from fun b e => ⟨fun e2 => by (have h1 := O4.out.at b e; have h2 := HO1.out.box.lt; have h3 : W1.drew.heap.size = W1.heap.size := rfl; omega), O4.out.lt b e⟩)
  have NX : Hid (w.heap.size ≠ o ∧ w.heap.size < w4.heap.size) := (show _ ∧ _ from ⟨fun e => by (have h1 := HOL.out; omega), X4.out.lt⟩)
  clear hHeld KC ck HX1 HO1 O4
  go_wp2_with fail
  go_loopg [6, 7] (ss.length + 1) (fun gh tv iv wr => ∃ (i : Nat) (lv : Value) (l : List Pn) (tb : Bool), iv = .int .i64 (i : Int) ∧ i ≤ ss.length ∧ ss.length + 1 ≤ gh + i ∧ tv = .bool tb ∧ Hid (i = ss.length → tb = false) ∧ Hid (OpAt KK wr o k size slide a lv l) ∧ Hid (FT (at1 o) (at1 o) w4 wr) ∧ Hid (Comes (sess k) (jn a) (((ss.take i).map fun sp => (⟨rk, sp.f, sp.t, ad a (zr a) rv⟩ : Pn)) ++ l0) l))
  case atStart => exact ⟨0, lv, l0, decide (0 < ss.length), rfl, by omega, by omega, rfl, (show _ → _ from fun e => decide_eq_false (by omega)), P4, FT.refl _ _, (show Comes _ _ _ _ by simpa using HAP.out)⟩
  case round =>
    clear P4 HAP lv
    obtain ⟨i, lv, l, tb, rfl, hi, hg, rfl, GT, GP, GF, GC⟩ := hrel
    obtain ⟨go, rfl⟩ : ∃ go, gk = go + 1 := ⟨gk - 1, by omega⟩
    obtain ⟨la, lc, rfl⟩ := GP.out.seg.shapeOf
    have hss : ss.length ≤ 64 := HSL.out
    by_cases hlt : i < ss.length
    · as_aux_lemma =>
      obtain ⟨sp, hx⟩ := get_of_lt hlt
      have bt : (i : Int) < (ss.length : Int) := by omega
      obtain ⟨sb, so, rfl, slt, e0, e1⟩ := S4.out.span hx
      have HML : Hid (l.length ≤ 50000) := (show _ ≤ _ by
        have h1 := GC.out.1.len
        rw [List.length_append, List.length_map, List.length_take] at h1
        omega)
      have HFU : Hid (k = 3 → sp.f < sp.t ∧ ∀ x ∈ l, Full x) := (show _ → _ from fun e => ⟨HSF.out e sp (List.mem_of_getElem? hx), GC.out.1.keeps (fun x y => jp_full) (fun y hy => by
        rcases List.mem_append.1 hy with hy | hy
        · obtain ⟨z, hz, rfl⟩ := List.mem_map.1 hy
          exact HSF.out e z (List.mem_of_mem_take hz)
        · exact HFL.out e y hy)⟩)
      have HTK : Hid (((ss.take (i + 1)).map fun sp => (⟨rk, sp.f, sp.t, ad a (zr a) rv⟩ : Pn)) = ((ss.take i).map fun sp => (⟨rk, sp.f, sp.t, ad a (zr a) rv⟩ : Pn)) ++ [⟨rk, sp.f, sp.t, ad a (zr a) rv⟩]) := (show _ = _ by
        have e : ss[i] = sp := by rw [List.getElem?_eq_getElem hlt] at hx; exact Option.some.inj hx
        rw [List.take_succ_eq_append_getElem hlt, e, List.map_append]
        rfl)
      have hbd := HSB.out sp (List.mem_of_getElem? hx)
      have HIN0 : Hid (∀ W, Below wr.heap.size wr W → Calls Tryz.prog 30 #[.agg #[.int .i64 k, .int .i64 size, .int .i64 slide], .int .i64 a, .slice la l.length lc, .agg #[.int .i64 rk, .int .i64 rt, .int .i64 rv], .agg #[.int .i64 sp.f, .int .i64 sp.t]] W (IPost W k a ⟨rk, sp.f, sp.t, ad a (zr a) rv⟩ l)) := (show ∀ W, _ from fun W h => rInto_any (GP.out.seg.on h) HML.out k size slide a rk rt rv sp.f sp.t GC.out.2 HFU.out)
      have HE := hide (And.intro e0 e1)
      have NB := hide (NS.out sb rfl)
      obtain ⟨sf, st⟩ := sp
      simp only at HE HIN0 HTK hbd
      have hst1 : IntKind.i64.wrap (st - 1) = st - 1 := by rw [IntKind.wrap_i64]; omega
      have hst2 : wrap64 (st - 1) = st - 1 := by unfold wrap64; omega
      have hgt : (-9223372036854775808 : Int) < st - 1 := by omega
      have hgd : decide ((-9223372036854775808 : Int) < st - 1) = true := decide_eq_true hgt
      have KCA : Hid (∀ w' : World, Below wr.heap.size wr w' → (w'.cell? ⟨sb, so + i * 2, none⟩ = some (.int .i64 sf) ∧ w'.cell? ⟨sb, so + i * 2 + 1, none⟩ = some (.int .i64 st) ∧ w'.cell? ⟨o, 11, none⟩ = some (.int .i64 (-9223372036854775808))) ∧ (w'.cell? ⟨o, 6, none⟩ = some (.int .i64 a) ∧ w'.cell? ⟨o, 7, none⟩ = some (.int .i64 k) ∧ w'.cell? ⟨o, 8, none⟩ = some (.int .i64 size) ∧ w'.cell? ⟨o, 9, none⟩ = some (.int .i64 slide) ∧ w'.cell? ⟨w.heap.size, 0, none⟩ = some (.int .i64 rk) ∧ w'.cell? ⟨w.heap.size, 1, none⟩ = some (.int .i64 rt) ∧ w'.cell? ⟨w.heap.size, 2, none⟩ = some (.int .i64 rv) ∧ w'.cell? ⟨sb, so + i * 2, none⟩ = some (.int .i64 sf) ∧ w'.cell? ⟨sb, so + i * 2 + 1, none⟩ = some (.int .i64 st) ∧ w'.cell? ⟨o, 10, none⟩ = some (.slice la l.length lc))) := (show ∀ w' : World, _ from fun w' h => by
        have h2 := BoxT.below (t := 46) GP.out.box h
        have cb : ∀ b off, b ≠ o → b < w4.heap.size → w'.cell? ⟨b, off, none⟩ = w4.cell? ⟨b, off, none⟩ := fun b off hne hlt => by
          have h3 : w'.heap[b]? = w4.heap[b]? := (h.block b (Nat.lt_of_lt_of_le hlt GF.out.size)).trans (GF.out.block b hlt hne)
          rw [World.cell?, World.cell?, h3]
        have s1 := (cb sb (so + i * 2) NB.out.1 NB.out.2).trans HE.out.1
        have s2 := (cb sb (so + i * 2 + 1) NB.out.1 NB.out.2).trans HE.out.2
        have x3 := X4.out.cells3
        exact ⟨⟨s1, s2, by rw [h2.cellAt]; rfl⟩, by rw [h2.cellAt]; rfl, by rw [h2.cellAt]; rfl, by rw [h2.cellAt]; rfl, by rw [h2.cellAt]; rfl, (cb _ _ NX.out.1 NX.out.2).trans x3.1, (cb _ _ NX.out.1 NX.out.2).trans x3.2.1, (cb _ _ NX.out.1 NX.out.2).trans x3.2.2, s1, s2, by rw [h2.cellAt]; rfl⟩)
      have KC9 : Hid (∀ w' : World, Below wr.heap.size wr w' → w'.cell? ⟨sb, so + i * 2, none⟩ = some (.int .i64 sf) ∧ w'.cell? ⟨sb, so + i * 2 + 1, none⟩ = some (.int .i64 st) ∧ w'.cell? ⟨o, 11, none⟩ = some (.int .i64 (-9223372036854775808))) := (show ∀ w' : World, _ from fun w' h => (KCA.out w' h).1)
      clear hx slt e0 e1 hbd
      go_wp2_with fail
      refine wp_region_M (S := fun w' => w'.cell? ⟨sb, so + i * 2, none⟩ = some (.int .i64 sf) ∧ w'.cell? ⟨sb, so + i * 2 + 1, none⟩ = some (.int .i64 st) ∧ w'.cell? ⟨o, 11, none⟩ = some (.int .i64 (-9223372036854775808))) (late := []) (by kernel_rfl) (KC9.out _ ((Below.refl _ _).drew)) (fun hHeld => ?_)
      (try simp only [List.size_toArray, List.length_cons, List.length_nil, Nat.zero_add, Nat.reduceAdd, Array.replicate, List.replicate])
      refine wpAnyM_take (i := 0) (oi := ⟨_, _, _, _, _, _⟩) (v := ?_) rfl (by kernel_rfl) (by kernel_rfl) (by kernel_rfl) (by kernel_rfl) (fun _ _ _ h => h) (Or.inl ⟨by rfl, ?_⟩) hHeld ?_
      rotate_left
      · (intro w' hSw; (try dsimp only at hSw); go_simp; try (with_reducible rfl))
      (try simp only [Act.put, List.setIfInBounds_toArray, List.set_cons_zero, List.set_cons_succ])
      refine wpAnyM_take (i := 1) (oi := ⟨_, _, _, _, _, _⟩) (v := ?_) rfl (by kernel_rfl) (by kernel_rfl) (by kernel_rfl) (by kernel_rfl) (fun _ _ _ h => h) (Or.inl ⟨by rfl, ?_⟩) hHeld ?_
      rotate_left
      · (intro w' hSw; (try dsimp only at hSw); go_simp; try (with_reducible rfl))
      (try simp only [Act.put, List.setIfInBounds_toArray, List.set_cons_zero, List.set_cons_succ])
      refine wpAnyM_take (i := 2) (oi := ⟨_, _, _, _, _, _⟩) (v := ?_) rfl (by kernel_rfl) (by kernel_rfl) (by kernel_rfl) (by kernel_rfl) (fun _ _ _ h => h) (Or.inl ⟨by rfl, ?_⟩) hHeld ?_
      rotate_left
      · (intro w' hSw; (try dsimp only at hSw); go_simp; try (with_reducible rfl))
      (try simp only [Act.put, List.setIfInBounds_toArray, List.set_cons_zero, List.set_cons_succ])
      refine wpAnyM_take (i := 3) (oi := ⟨_, _, _, _, _, _⟩) (v := ?_) rfl (by kernel_rfl) (by kernel_rfl) (by kernel_rfl) (by kernel_rfl) (fun _ _ _ h => h) (Or.inl ⟨by rfl, ?_⟩) hHeld ?_
      rotate_left
      · (intro w' hSw; (try dsimp only at hSw); go_simp; try (with_reducible rfl))
      (try simp only [Act.put, List.setIfInBounds_toArray, List.set_cons_zero, List.set_cons_succ])
      refine wpAnyM_take (i := 4) (oi := ⟨_, _, _, _, _, _⟩) (v := ?_) rfl (by kernel_rfl) (by kernel_rfl) (by kernel_rfl) (by kernel_rfl) (fun _ _ _ h => h) (Or.inl ⟨by rfl, ?_⟩) hHeld ?_
      rotate_left
      · (intro w' hSw; (try dsimp only at hSw); go_simp; try (with_reducible rfl))
      (try simp only [Act.put, List.setIfInBounds_toArray, List.set_cons_zero, List.set_cons_succ])
      refine wpAnyM_take (i := 5) (oi := ⟨_, _, _, _, _, _⟩) (v := ?_) rfl (by kernel_rfl) (by kernel_rfl) (by kernel_rfl) (by kernel_rfl) (fun _ _ _ h => h) (Or.inl ⟨by rfl, ?_⟩) hHeld ?_
      rotate_left
      · (intro w' hSw; (try dsimp only at hSw); go_simp; try (with_reducible rfl))
      (try simp only [Act.put, List.setIfInBounds_toArray, List.set_cons_zero, List.set_cons_succ])
      refine wpAnyM_take (i := 6) (oi := ⟨_, _, _, _, _, _⟩) (v := ?_) rfl (by kernel_rfl) (by kernel_rfl) (by kernel_rfl) (by kernel_rfl) (fun _ _ _ h => h) (Or.inl ⟨by rfl, ?_⟩) hHeld ?_
      rotate_left
      · (intro w' hSw; (try dsimp only at hSw); go_simp; try (with_reducible rfl))
      (try simp only [Act.put, List.setIfInBounds_toArray, List.set_cons_zero, List.set_cons_succ])
      refine wpAnyM_take (i := 7) (oi := ⟨_, _, _, _, _, _⟩) (v := ?_) rfl (by kernel_rfl) (by kernel_rfl) (by kernel_rfl) (by kernel_rfl) (fun _ _ _ h => h) (Or.inl ⟨by rfl, ?_⟩) hHeld ?_
      rotate_left
      · (intro w' hSw; (try dsimp only at hSw); go_simp; try (with_reducible rfl))
      (try simp only [Act.put, List.setIfInBounds_toArray, List.set_cons_zero, List.set_cons_succ])
      refine wpAnyM_take (i := 8) (oi := ⟨_, _, _, _, _, _⟩) (v := ?_) rfl (by kernel_rfl) (by kernel_rfl) (by kernel_rfl) (by kernel_rfl) (fun _ _ _ h => h) (Or.inl ⟨by rfl, ?_⟩) hHeld ?_
      rotate_left
      · (intro w' hSw; (try dsimp only at hSw); go_simp; try (with_reducible rfl))
      (try simp only [Act.put, List.setIfInBounds_toArray, List.set_cons_zero, List.set_cons_succ])
      refine wpAnyM_take (i := 9) (oi := ⟨_, _, _, _, _, _⟩) (v := ?_) rfl (by kernel_rfl) (by kernel_rfl) (by kernel_rfl) (by kernel_rfl) (fun _ _ _ h => h) (Or.inl ⟨by rfl, ?_⟩) hHeld ?_
      rotate_left
      · (intro w' hSw; (try dsimp only at hSw); go_simp; try (with_reducible rfl))
      (try simp only [Act.put, List.setIfInBounds_toArray, List.set_cons_zero, List.set_cons_succ])
      refine wpAnyM_take (i := 10) (oi := ⟨_, _, _, _, _, _⟩) (v := ?_) rfl (by kernel_rfl) (by kernel_rfl) (by kernel_rfl) (by kernel_rfl) (fun _ _ _ h => h) (Or.inl ⟨by rfl, ?_⟩) hHeld ?_
      rotate_left
      · (intro w' hSw; (try dsimp only at hSw); go_simp; try (with_reducible rfl))
      (try simp only [Act.put, List.setIfInBounds_toArray, List.set_cons_zero, List.set_cons_succ])
      refine wpAnyM_done (by kernel_rfl) ?_ _
      generalize hw5 : wr.drew = w5 at *
      have B5 : Hid (Below wr.heap.size wr w5) := (show Below _ _ _ by rw [← hw5]; exact (Below.refl _ _).drew)
      have KC20 : Hid (∀ w' : World, Below w5.heap.size w5 w' → w'.cell? ⟨o, 6, none⟩ = some (.int .i64 a) ∧ w'.cell? ⟨o, 7, none⟩ = some (.int .i64 k) ∧ w'.cell? ⟨o, 8, none⟩ = some (.int .i64 size) ∧ w'.cell? ⟨o, 9, none⟩ = some (.int .i64 slide) ∧ w'.cell? ⟨w.heap.size, 0, none⟩ = some (.int .i64 rk) ∧ w'.cell? ⟨w.heap.size, 1, none⟩ = some (.int .i64 rt) ∧ w'.cell? ⟨w.heap.size, 2, none⟩ = some (.int .i64 rv) ∧ w'.cell? ⟨sb, so + i * 2, none⟩ = some (.int .i64 sf) ∧ w'.cell? ⟨sb, so + i * 2 + 1, none⟩ = some (.int .i64 st) ∧ w'.cell? ⟨o, 10, none⟩ = some (.slice la l.length lc)) := (show ∀ w' : World, _ from fun w' h => (KCA.out w' (B5.out.trans (h.mono B5.out.size))).2)
      have HIN : Hid (∀ W, Below w5.heap.size w5 W → Calls Tryz.prog 30 #[.agg #[.int .i64 k, .int .i64 size, .int .i64 slide], .int .i64 a, .slice la l.length lc, .agg #[.int .i64 rk, .int .i64 rt, .int .i64 rv], .agg #[.int .i64 sf, .int .i64 st]] W (IPost W k a ⟨rk, sf, st, ad a (zr a) rv⟩ l)) := (show ∀ W, _ from fun W h => HIN0.out W (B5.out.trans (h.mono B5.out.size)))
      have P5 := hide (GP.out.below B5.out)
      have HX5 := hide P5.out.box
      clear hw5 hHeld KC9 KCA HIN0
      go_wp2_with fail
      refine wp_region_M (S := fun w' => w'.cell? ⟨o, 6, none⟩ = some (.int .i64 a) ∧ w'.cell? ⟨o, 7, none⟩ = some (.int .i64 k) ∧ w'.cell? ⟨o, 8, none⟩ = some (.int .i64 size) ∧ w'.cell? ⟨o, 9, none⟩ = some (.int .i64 slide) ∧ w'.cell? ⟨w.heap.size, 0, none⟩ = some (.int .i64 rk) ∧ w'.cell? ⟨w.heap.size, 1, none⟩ = some (.int .i64 rt) ∧ w'.cell? ⟨w.heap.size, 2, none⟩ = some (.int .i64 rv) ∧ w'.cell? ⟨sb, so + i * 2, none⟩ = some (.int .i64 sf) ∧ w'.cell? ⟨sb, so + i * 2 + 1, none⟩ = some (.int .i64 st) ∧ w'.cell? ⟨o, 10, none⟩ = some (.slice la l.length lc)) (late := [23]) (by kernel_rfl) (KC20.out _ ((Below.refl _ _).drew)) (fun hHeld => ?_)
      (try simp only [List.size_toArray, List.length_cons, List.length_nil, Nat.zero_add, Nat.reduceAdd, Array.replicate, List.replicate])
      refine wpAnyM_take (i := 0) (oi := ⟨_, _, _, _, _, _⟩) (v := ?_) rfl (by kernel_rfl) (by kernel_rfl) (by kernel_rfl) (by kernel_rfl) (fun _ _ _ h => h) (Or.inl ⟨by rfl, ?_⟩) hHeld ?_
      rotate_left
      · (intro w' hSw; (try dsimp only at hSw); go_simp; try (with_reducible rfl))
      (try simp only [Act.put, List.setIfInBounds_toArray, List.set_cons_zero, List.set_cons_succ])
      refine wpAnyM_take (i := 1) (oi := ⟨_, _, _, _, _, _⟩) (v := ?_) rfl (by kernel_rfl) (by kernel_rfl) (by kernel_rfl) (by kernel_rfl) (fun _ _ _ h => h) (Or.inl ⟨by rfl, ?_⟩) hHeld ?_
      rotate_left
      · (intro w' hSw; (try dsimp only at hSw); go_simp; try (with_reducible rfl))
      (try simp only [Act.put, List.setIfInBounds_toArray, List.set_cons_zero, List.set_cons_succ])
      refine wpAnyM_take (i := 2) (oi := ⟨_, _, _, _, _, _⟩) (v := ?_) rfl (by kernel_rfl) (by kernel_rfl) (by kernel_rfl) (by kernel_rfl) (fun _ _ _ h => h) (Or.inl ⟨by rfl, ?_⟩) hHeld ?_
      rotate_left
      · (intro w' hSw; (try dsimp only at hSw); go_simp; try (with_reducible rfl))
      (try simp only [Act.put, List.setIfInBounds_toArray, List.set_cons_zero, List.set_cons_succ])
      refine wpAnyM_take (i := 3) (oi := ⟨_, _, _, _, _, _⟩) (v := ?_) rfl (by kernel_rfl) (by kernel_rfl) (by kernel_rfl) (by kernel_rfl) (fun _ _ _ h => h) (Or.inl ⟨by rfl, ?_⟩) hHeld ?_
      rotate_left
      · (intro w' hSw; (try dsimp only at hSw); go_simp; try (with_reducible rfl))
      (try simp only [Act.put, List.setIfInBounds_toArray, List.set_cons_zero, List.set_cons_succ])
      refine wpAnyM_take (i := 4) (oi := ⟨_, _, _, _, _, _⟩) (v := ?_) rfl (by kernel_rfl) (by kernel_rfl) (by kernel_rfl) (by kernel_rfl) (fun _ _ _ h => h) (Or.inl ⟨by rfl, ?_⟩) hHeld ?_
      rotate_left
      · (intro w' hSw; (try dsimp only at hSw); go_simp; try (with_reducible rfl))
      (try simp only [Act.put, List.setIfInBounds_toArray, List.set_cons_zero, List.set_cons_succ])
      refine wpAnyM_take (i := 5) (oi := ⟨_, _, _, _, _, _⟩) (v := ?_) rfl (by kernel_rfl) (by kernel_rfl) (by kernel_rfl) (by kernel_rfl) (fun _ _ _ h => h) (Or.inl ⟨by rfl, ?_⟩) hHeld ?_
      rotate_left
      · (intro w' hSw; (try dsimp only at hSw); go_simp; try (with_reducible rfl))
      (try simp only [Act.put, List.setIfInBounds_toArray, List.set_cons_zero, List.set_cons_succ])
      refine wpAnyM_take (i := 6) (oi := ⟨_, _, _, _, _, _⟩) (v := ?_) rfl (by kernel_rfl) (by kernel_rfl) (by kernel_rfl) (by kernel_rfl) (fun _ _ _ h => h) (Or.inl ⟨by rfl, ?_⟩) hHeld ?_
      rotate_left
      · (intro w' hSw; (try dsimp only at hSw); go_simp; try (with_reducible rfl))
      (try simp only [Act.put, List.setIfInBounds_toArray, List.set_cons_zero, List.set_cons_succ])
      refine wpAnyM_take (i := 7) (oi := ⟨_, _, _, _, _, _⟩) (v := ?_) rfl (by kernel_rfl) (by kernel_rfl) (by kernel_rfl) (by kernel_rfl) (fun _ _ _ h => h) (Or.inl ⟨by rfl, ?_⟩) hHeld ?_
      rotate_left
      · (intro w' hSw; (try dsimp only at hSw); go_simp; try (with_reducible rfl))
      (try simp only [Act.put, List.setIfInBounds_toArray, List.set_cons_zero, List.set_cons_succ])
      refine wpAnyM_take (i := 8) (oi := ⟨_, _, _, _, _, _⟩) (v := ?_) rfl (by kernel_rfl) (by kernel_rfl) (by kernel_rfl) (by kernel_rfl) (fun _ _ _ h => h) (Or.inl ⟨by rfl, ?_⟩) hHeld ?_
      rotate_left
      · (intro w' hSw; (try dsimp only at hSw); go_simp; try (with_reducible rfl))
      (try simp only [Act.put, List.setIfInBounds_toArray, List.set_cons_zero, List.set_cons_succ])
      refine wpAnyM_take (i := 9) (oi := ⟨_, _, _, _, _, _⟩) (v := ?_) rfl (by kernel_rfl) (by kernel_rfl) (by kernel_rfl) (by kernel_rfl) (fun _ _ _ h => h) (Or.inl ⟨by rfl, ?_⟩) hHeld ?_
      rotate_left
      · (intro w' hSw; (try dsimp only at hSw); go_simp; try (with_reducible rfl))
      (try simp only [Act.put, List.setIfInBounds_toArray, List.set_cons_zero, List.set_cons_succ])
      refine wpAnyM_take (i := 10) (oi := ⟨_, _, _, _, _, _⟩) (v := ?_) rfl (by kernel_rfl) (by kernel_rfl) (by kernel_rfl) (by kernel_rfl) (fun _ _ _ h => h) (Or.inl ⟨by rfl, ?_⟩) hHeld ?_
      rotate_left
      · (intro w' hSw; (try dsimp only at hSw); go_simp; try (with_reducible rfl))
      (try simp only [Act.put, List.setIfInBounds_toArray, List.set_cons_zero, List.set_cons_succ])
      refine wpAnyM_take (i := 11) (oi := ⟨_, _, _, _, _, _⟩) (v := ?_) rfl (by kernel_rfl) (by kernel_rfl) (by kernel_rfl) (by kernel_rfl) (fun _ _ _ h => h) (Or.inl ⟨by rfl, ?_⟩) hHeld ?_
      rotate_left
      · (intro w' hSw; (try dsimp only at hSw); go_simp; try (with_reducible rfl))
      (try simp only [Act.put, List.setIfInBounds_toArray, List.set_cons_zero, List.set_cons_succ])
      refine wpAnyM_take (i := 12) (oi := ⟨_, _, _, _, _, _⟩) (v := ?_) rfl (by kernel_rfl) (by kernel_rfl) (by kernel_rfl) (by kernel_rfl) (fun _ _ _ h => h) (Or.inl ⟨by rfl, ?_⟩) hHeld ?_
      rotate_left
      · (intro w' hSw; (try dsimp only at hSw); go_simp; try (with_reducible rfl))
      (try simp only [Act.put, List.setIfInBounds_toArray, List.set_cons_zero, List.set_cons_succ])
      refine wpAnyM_take (i := 13) (oi := ⟨_, _, _, _, _, _⟩) (v := ?_) rfl (by kernel_rfl) (by kernel_rfl) (by kernel_rfl) (by kernel_rfl) (fun _ _ _ h => h) (Or.inl ⟨by rfl, ?_⟩) hHeld ?_
      rotate_left
      · (intro w' hSw; (try dsimp only at hSw); go_simp; try (with_reducible rfl))
      (try simp only [Act.put, List.setIfInBounds_toArray, List.set_cons_zero, List.set_cons_succ])
      refine wpAnyM_take (i := 14) (oi := ⟨_, _, _, _, _, _⟩) (v := ?_) rfl (by kernel_rfl) (by kernel_rfl) (by kernel_rfl) (by kernel_rfl) (fun _ _ _ h => h) (Or.inl ⟨by rfl, ?_⟩) hHeld ?_
      rotate_left
      · (intro w' hSw; (try dsimp only at hSw); go_simp; try (with_reducible rfl))
      (try simp only [Act.put, List.setIfInBounds_toArray, List.set_cons_zero, List.set_cons_succ])
      refine wpAnyM_take (i := 15) (oi := ⟨_, _, _, _, _, _⟩) (v := ?_) rfl (by kernel_rfl) (by kernel_rfl) (by kernel_rfl) (by kernel_rfl) (fun _ _ _ h => h) (Or.inl ⟨by rfl, ?_⟩) hHeld ?_
      rotate_left
      · (intro w' hSw; (try dsimp only at hSw); go_simp; try (with_reducible rfl))
      (try simp only [Act.put, List.setIfInBounds_toArray, List.set_cons_zero, List.set_cons_succ])
      refine wpAnyM_take (i := 16) (oi := ⟨_, _, _, _, _, _⟩) (v := ?_) rfl (by kernel_rfl) (by kernel_rfl) (by kernel_rfl) (by kernel_rfl) (fun _ _ _ h => h) (Or.inl ⟨by rfl, ?_⟩) hHeld ?_
      rotate_left
      · (intro w' hSw; (try dsimp only at hSw); go_simp; try (with_reducible rfl))
      (try simp only [Act.put, List.setIfInBounds_toArray, List.set_cons_zero, List.set_cons_succ])
      refine wpAnyM_take (i := 17) (oi := ⟨_, _, _, _, _, _⟩) (v := ?_) rfl (by kernel_rfl) (by kernel_rfl) (by kernel_rfl) (by kernel_rfl) (fun _ _ _ h => h) (Or.inl ⟨by rfl, ?_⟩) hHeld ?_
      rotate_left
      · (intro w' hSw; (try dsimp only at hSw); go_simp; try (with_reducible rfl))
      (try simp only [Act.put, List.setIfInBounds_toArray, List.set_cons_zero, List.set_cons_succ])
      refine wpAnyM_take (i := 18) (oi := ⟨_, _, _, _, _, _⟩) (v := ?_) rfl (by kernel_rfl) (by kernel_rfl) (by kernel_rfl) (by kernel_rfl) (fun _ _ _ h => h) (Or.inl ⟨by rfl, ?_⟩) hHeld ?_
      rotate_left
      · (intro w' hSw; (try dsimp only at hSw); go_simp; try (with_reducible rfl))
      (try simp only [Act.put, List.setIfInBounds_toArray, List.set_cons_zero, List.set_cons_succ])
      refine wpAnyM_take (i := 19) (oi := ⟨_, _, _, _, _, _⟩) (v := ?_) rfl (by kernel_rfl) (by kernel_rfl) (by kernel_rfl) (by kernel_rfl) (fun _ _ _ h => h) (Or.inl ⟨by rfl, ?_⟩) hHeld ?_
      rotate_left
      · (intro w' hSw; (try dsimp only at hSw); go_simp; try (with_reducible rfl))
      (try simp only [Act.put, List.setIfInBounds_toArray, List.set_cons_zero, List.set_cons_succ])
      refine wpAnyM_one (i := 20) (o := ⟨_, _, _, _, _, _⟩) (by kernel_rfl) rfl (fun K hK => ?_)
      go_simp
      go_at_call 30
      refine (HIN.out _ (Below.refl _ _).drew).mono ?_
      rintro e w6 ⟨u6, M6, rfl, o6, b6, r6, n6, c6⟩
      have B6 : Hid (Below w5.heap.size w5 w6) := (show Below _ _ _ from ((Below.refl _ _).drew).trans b6)
      have O6 := hide o6
      have N6 := hide n6
      have C6 := hide c6
      obtain ⟨ua, uc, rfl⟩ := o6.shapeOf
      refine hK.out _ _ (KC20.out _ B6.out) (fun hHeld => ?_)
      clear hK K o6 b6 r6 n6 c6
      (try simp only [List.setIfInBounds_toArray, List.set_cons_zero, List.set_cons_succ])
      refine wpAnyM_one (i := 21) (o := ⟨_, _, _, _, _, _⟩) (by kernel_rfl) rfl (fun K hK => ?_)
      go_simp
      refine hK.out _ _ (KC20.out _ B6.out) (fun hHeld => ?_)
      clear hK K
      (try simp only [List.setIfInBounds_toArray, List.set_cons_zero, List.set_cons_succ])
      refine wpAnyM_one (i := 22) (o := ⟨_, _, _, _, _, _⟩) (by kernel_rfl) rfl (fun K hK => ?_)
      go_simp
      refine hK.out _ _ (KC20.out _ B6.out) (fun hHeld => ?_)
      clear hK K
      (try simp only [List.setIfInBounds_toArray, List.set_cons_zero, List.set_cons_succ])
      have hx6 := (BoxT.below (t := 46) HX5.out B6.out)
      have hc6 : w6.cell? ⟨o, 10, none⟩ = some (.slice la l.length lc) := by rw [hx6.cellAt]; rfl
      have hf6 := hx6.free 10
      refine wpAnyM_last (i := 23) (o := ⟨_, _, _, _, _, _⟩) (by kernel_rfl) (by kernel_rfl) rfl (fun K hK => ?_)
      go_simp
      refine hK.out _ _ ?_
      clear hK K
      (try simp only [List.setIfInBounds_toArray, List.set_cons_zero, List.set_cons_succ])
      refine wpAnyM_done (by kernel_rfl) ?_ _
      have PE : Hid (OpAt KK (w6.setCell ⟨o, 10, none⟩ (.slice ua M6.length uc)) o k size slide a (.slice ua M6.length uc) M6) := (show OpAt KK _ _ _ _ _ _ _ _ from P5.out.lay B6.out O6.out N6.out)
      have FE : Hid (FT (at1 o) (at1 o) w4 (w6.setCell ⟨o, 10, none⟩ (.slice ua M6.length uc))) := (show FT _ _ _ _ from (GF.out.trans (FT.of_below B5.out)).trans (FT.lay B6.out _))
      have HC7 : Hid (Comes (sess k) (jn a) (((ss.take (i + 1)).map fun sp => (⟨rk, sp.f, sp.t, ad a (zr a) rv⟩ : Pn)) ++ l0) M6) := (show Comes _ _ _ _ by
        rw [HTK.out]
        have h1 := Comes.step (q := [⟨rk, sf, st, ad a (zr a) rv⟩]) GC.out C6.out
        refine h1.perm ?_ (.refl _)
        rw [List.append_assoc, List.singleton_append, List.singleton_append]
        exact List.perm_middle.symm)
      go_wp2_with fail
      go_roundg go
      case rel => exact ⟨i + 1, _, M6, false, by go_num, by omega, by omega, rfl, (show _ → _ from fun _ => rfl), PE, FE, HC7⟩
      case measure => omega
    · obtain rfl : i = ss.length := by omega
      have bt : ¬ ((ss.length : Nat) : Int) < (ss.length : Int) := by omega
      obtain rfl : tb = false := GT.out rfl
      have HCE : Hid (Comes (sess k) (jn a) ((ss.map fun sp => (⟨rk, sp.f, sp.t, ad a (zr a) rv⟩ : Pn)) ++ l0) l) := (show Comes _ _ _ _ by have := GC.out; rwa [List.take_of_length_le (Nat.le_refl _)] at this)
      have FE := hide (F4.out.trans GF.out)
      go_wp2_with fail
      go_ret
      exact ⟨_, _, l, rfl, GP.out, FE.out, HCE.out⟩
end Go.Proofs.YtdoldohcimbdaaaGreat
