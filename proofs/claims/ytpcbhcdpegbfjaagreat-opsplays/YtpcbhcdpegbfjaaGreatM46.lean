/-
  Texts in build order: PDoc, PEval, PRec.
-/
import Derived.Test.YtpcbhcdpegbfjaaGreatM43
import Derived.Test.YtpcbhcdpegbfjaaGreatM45
import Derived.Test.YtpcbhcdpegbfjaaGreatM25
import Derived.Test.YtpcbhcdpegbfjaaGreatM17
/-
 The document's operator as it lies; its record of a window.
-/
namespace Go.Proofs.YtpcbhcdpegbfjaaGreat
set_option maxHeartbeats 16000000
set_option maxRecDepth 100000
open Go.RowKit
def at1 (o b : Nat) : Prop := b = o
theorem whole_any (w : World) : Calls Tryz.prog 30 #[] w fun e w' => e = .returned (.agg #[.int .i64 (-9223372036854775808), .int .i64 2199023255553]) ∧ Below w.heap.size w w' := by
 go_enter Tryz.func30, Tryz.ntmps30
 go_wp2_with fail
 exact bodyPost_ret (v := .agg #[.int .i64 (-9223372036854775808), .int .i64 2199023255553]) (by simp [results, Tryz.results30, go_sem]) rfl ⟨rfl, below_box w _⟩
def dCs (nd : J.Nd) (lv : Value) (g d : Int) : Array Value := #[.int .i64 nd.kind, .slice nd.ia nd.ins.length nd.ic, .int .i64 nd.par, .int .i64 nd.e.op, .int .i64 nd.e.n, .slice nd.e.a nd.e.l.length nd.e.c, .int .i64 nd.agg, .int .i64 nd.wk, .int .i64 nd.ws, .int .i64 nd.wl, lv, .int .i64 g, .int .i64 d]
structure DOp (w : World) (o : Nat) (nd : J.Nd) (lv : Value) (l : List Pn) (g d : Int) : Prop where
 box : BoxT 51 w o (dCs nd lv g d)
 seg : LSeg 4 Pn.cs w.heap.size w lv l
 off : l ≠ [] → lv.ownBlock ≠ some o
theorem DOp.below {w w' : World} {o : Nat} {nd : J.Nd} {lv : Value} {l : List Pn} {g d : Int} (h : DOp w o nd lv l g d) (hb : Below w.heap.size w w') : DOp w' o nd lv l g d :=
 ⟨BoxT.below (t := 51) h.box hb, h.seg.on hb, h.off⟩
theorem lsegB {α : Type} {sz : Nat} {cs : α → List Value} {B B' : Nat} {w w' : World} {v : Value} {xs : List α} (h : LSeg sz cs B w v xs) (hb : xs ≠ [] → ∀ b, v.ownBlock = some b → w'.heap[b]? = w.heap[b]?) (hB : B ≤ B') : LSeg sz cs B' w' v xs := by
 obtain ⟨ao, cap, rfl, h2, h4⟩ := h
 refine ⟨ao, cap, rfl, h2, ?_⟩
 rcases h4 with h4 | ⟨b, off, rfl, h6, h7⟩
 ·exact .inl h4
 ·refine .inr ⟨b, off, rfl, by omega, fun i x hi j u hu => ?_⟩
  have h8 := h7 i x hi j u hu
  have h9 := hb (fun e => by rw [e] at hi; simp at hi) b rfl
  simp only [World.cell?, h9] at *
  exact h8
theorem DOp.lay {w w' : World} {o : Nat} {nd : J.Nd} {lv lv' : Value} {l l' : List Pn} {g d : Int} (h : DOp w o nd lv l g d) (hb : Below w.heap.size w w') (hs : LSeg 4 Pn.cs w'.heap.size w' lv' l') (hn : ∀ b, lv'.ownBlock = some b → w.heap.size ≤ b) : DOp (w'.setCell ⟨o, 10, none⟩ lv') o nd lv' l' g d := by
 have hx := BoxT.below (t := 51) h.box hb
 have hlt := h.box.lt
 have h2 := BoxT.set (t := 51) hx 10 lv'
 refine ⟨?_, lsegB hs (fun _ b e => Below.heap_setCell w' ⟨o, 10, none⟩ _ b (by have := hn b e; show b ≠ o; omega)) (by simp), fun _ e => by have := hn _ e; omega⟩
 have h3 : BoxT 51 (w'.setCell ⟨o, 10, none⟩ lv') o (dCs nd lv' g d) := by simpa [dCs] using h2
 exact h3
theorem DOp.setN {w : World} {o : Nat} {nd : J.Nd} {lv : Value} {l : List Pn} {g d : Int} (h : DOp w o nd lv l g d) (m : Int) : DOp (w.setCell ⟨o, 12, none⟩ (.int .i64 m)) o nd lv l g m := by
 have h2 := BoxT.set (t := 51) h.box 12 (.int .i64 m)
 refine ⟨?_, lsegB h.seg (fun hne b e => Below.heap_setCell w ⟨o, 12, none⟩ _ b (fun e2 => h.off hne (by rw [e]; exact congrArg some e2))) (by simp), h.off⟩
 have h3 : BoxT 51 (w.setCell ⟨o, 12, none⟩ (.int .i64 m)) o (dCs nd lv g m) := by simpa [dCs] using h2
 exact h3
theorem DOp.setG {w : World} {o : Nat} {nd : J.Nd} {lv : Value} {l : List Pn} {g d : Int} (h : DOp w o nd lv l g d) (m : Int) : DOp (w.setCell ⟨o, 11, none⟩ (.int .i64 m)) o nd lv l m d := by
 have h2 := BoxT.set (t := 51) h.box 11 (.int .i64 m)
 refine ⟨?_, lsegB h.seg (fun hne b e => Below.heap_setCell w ⟨o, 11, none⟩ _ b (fun e2 => h.off hne (by rw [e]; exact congrArg some e2))) (by simp), h.off⟩
 have h3 : BoxT 51 (w.setCell ⟨o, 11, none⟩ (.int .i64 m)) o (dCs nd lv m d) := by simpa [dCs] using h2
 exact h3
theorem FT.set1 (w : World) (o j : Nat) (v : Value) : FT (at1 o) (at1 o) w (w.setCell ⟨o, j, none⟩ v) :=
 ⟨rfl, rfl, rfl, by simp, fun i _ hn => Below.heap_setCell w ⟨o, j, none⟩ _ i (fun e => hn e), fun _ h => .inl h⟩
theorem FT.lay {w w' : World} {o : Nat} (hb : Below w.heap.size w w') (v : Value) : FT (at1 o) (at1 o) w (w'.setCell ⟨o, 10, none⟩ v) :=
 ⟨hb.os, hb.tape, hb.output, by simpa using hb.size, fun i hi hn => (Below.heap_setCell w' ⟨o, 10, none⟩ _ i (fun e => hn e)).trans (hb.block i hi), fun _ h => .inl h⟩
def Nw (w : World) (lv lv' : Value) : Prop := lv' = lv ∨ ∀ b, lv'.ownBlock = some b → w.heap.size ≤ b
def RcPost (w : World) (o : Nat) (nd : J.Nd) (lv : Value) (l0 : List Pn) (g d : Int) (r : Rc) (e : Ending) (w' : World) : Prop := e = .returned (.slice none 0 0) ∧ ∃ lv' l' d', DOp w' o nd lv' l' g d' ∧ FT (at1 o) (at1 o) w w' ∧ Nw w lv lv' ∧ Comes (sess nd.wk) (jn nd.agg) (FrK nd.wk nd.ws nd.wl nd.agg g r ++ l0) l' ∧ DNext nd.wk nd.ws nd.wl g r.t d d'
def opn (g : Int) (ss : List Sp) : List Sp := ss.filter fun sp => !lateB g sp
theorem frK_opn {nd : J.Nd} (hk : nd.wk ≠ 0) (g rk rt rv : Int) : FrK nd.wk nd.ws nd.wl nd.agg g ⟨rk, rt, rv⟩ = (opn g (pSpans nd.wk nd.ws nd.wl rt)).map fun sp => (⟨rk, sp.f, sp.t, ad nd.agg (zr nd.agg) rv⟩ : Pn) := by
 unfold FrK frS sps opn
 rw [if_neg hk, List.filter_map]
 rfl
theorem rRecord_win {w : World} {o : Nat} {nd : J.Nd} {lv : Value} {l0 : List Pn} {g d : Int} (h : DOp w o nd lv l0 g d) (h7 : nd.kind = 7) (hw : FitW nd.wk nd.ws nd.wl) (rk rt rv : Int) (ht : TimeOk rt) (hn : l0.length ≤ 40000) (hap : Apart (sess nd.wk) l0) (hfu : nd.wk = 3 → ∀ x ∈ l0, Full x) :
  Calls Tryz.prog 15 #[.pointer (some ⟨o, 0, none⟩), .agg #[.int .i64 rk, .int .i64 rt, .int .i64 rv]] w (RcPost w o nd lv l0 g d ⟨rk, rt, rv⟩) := by
 have hk0 : nd.wk ≠ 0 := by have := hw.1; omega
 have HB1 := hide (below_box w (.cells #[.int .i64 rk, .int .i64 rt, .int .i64 rv] 38))
 have HX1 := hide (BoxT.new 38 w #[.int .i64 rk, .int .i64 rt, .int .i64 rv])
 have HO1 := hide (h.below HB1.out)
 have HOL := hide h.box.lt
 have HSP := hide (fun W => rSpans_any W hw ht)
 have HSF : Hid (nd.wk = 3 → ∀ s ∈ pSpans nd.wk nd.ws nd.wl rt, s.f < s.t) := (show _ → _ from fun e => spans_full hw ht (by unfold sess; simpa using e))
 have HSB := hide (spans_bd hw ht)
 have HSL : Hid ((pSpans nd.wk nd.ws nd.wl rt).length ≤ 64) := (show _ ≤ _ from pSpans_len nd.wk nd.ws nd.wl rt)
 have HFR := frK_opn (nd := nd) hk0 g rk rt rv
 obtain ⟨DD, hDD⟩ : ∃ DD : Int → Prop, DD = DNext nd.wk nd.ws nd.wl g rt d := ⟨_, rfl⟩
 have HDD := hide (show ∀ d', ((pSpans nd.wk nd.ws nd.wl rt ≠ [] ∧ ∀ sp ∈ pSpans nd.wk nd.ws nd.wl rt, lateB g sp = true) ∧ d' = wrap64 (d + 1)) ∨ (¬ (pSpans nd.wk nd.ws nd.wl rt ≠ [] ∧ ∀ sp ∈ pSpans nd.wk nd.ws nd.wl rt, lateB g sp = true) ∧ d' = d) → DD d' from fun d' h => by rw [hDD]; exact h)
 have HAP : Hid (Comes (sess nd.wk) (jn nd.agg) l0 l0) := (show Comes _ _ _ _ from Comes.refl hap)
 have HFL := hide hfu
 have ck0 : w.cell? ⟨o, 0, none⟩ = some (.int .i64 nd.kind) := h.box.cellAt 0
 rw [h7] at ck0
 unfold RcPost
 simp only
 rw [HFR, ← hDD]
 clear hw ht hap hfu HFR hDD hk0 h7
 generalize pSpans nd.wk nd.ws nd.wl rt = ss at *
 have ck : (w.alloc (.cells #[.int .i64 rk, .int .i64 rt, .int .i64 rv] 38)).cell? ⟨o, 0, none⟩ = some (.int .i64 7) := (HB1.out.cell (p := ⟨o, 0, none⟩) HOL.out).trans ck0
 clear h ck0
 go_enter Tryz.func15, Tryz.ntmps15
 go_upto_region 1 with fail
 generalize w.alloc (.cells #[.int .i64 rk, .int .i64 rt, .int .i64 rv] 38) = W1 at *
 have KC : Hid (∀ w' : World, Below W1.heap.size W1 w' → w'.cell? ⟨o, 6, none⟩ = some (.int .i64 nd.agg) ∧ w'.cell? ⟨o, 7, none⟩ = some (.int .i64 nd.wk) ∧ w'.cell? ⟨o, 8, none⟩ = some (.int .i64 nd.ws) ∧ w'.cell? ⟨o, 9, none⟩ = some (.int .i64 nd.wl) ∧ w'.cell? ⟨w.heap.size, 0, none⟩ = some (.int .i64 rk) ∧ w'.cell? ⟨w.heap.size, 1, none⟩ = some (.int .i64 rt) ∧ w'.cell? ⟨w.heap.size, 2, none⟩ = some (.int .i64 rv)) := (show ∀ w' : World, _ from fun w' h => by
  have h2 := BoxT.below (t := 51) HO1.out.box h
  have h3 := BoxT.below (t := 38) HX1.out h
  exact ⟨by rw [h2.cellAt]; rfl, by rw [h2.cellAt]; rfl, by rw [h2.cellAt]; rfl, by rw [h2.cellAt]; rfl, by rw [h3.cellAt]; rfl, by rw [h3.cellAt]; rfl, by rw [h3.cellAt]; rfl⟩)
 go_wp2_with fail
 refine wp_region_M (S := fun w' => w'.cell? ⟨o, 6, none⟩ = some (.int .i64 nd.agg) ∧ w'.cell? ⟨o, 7, none⟩ = some (.int .i64 nd.wk) ∧ w'.cell? ⟨o, 8, none⟩ = some (.int .i64 nd.ws) ∧ w'.cell? ⟨o, 9, none⟩ = some (.int .i64 nd.wl) ∧ w'.cell? ⟨w.heap.size, 0, none⟩ = some (.int .i64 rk) ∧ w'.cell? ⟨w.heap.size, 1, none⟩ = some (.int .i64 rt) ∧ w'.cell? ⟨w.heap.size, 2, none⟩ = some (.int .i64 rv)) (late := []) (by kernel_rfl) (KC.out _ ((Below.refl _ _).drew)) (fun hH => ?_)
 (try simp only [nr, Nat.reduceAdd])
 refine tkA 0 hH ?_; simp only [nm]; refine tkA 1 hH ?_; simp only [nm]; refine tkA 2 hH ?_; simp only [nm]; refine tkA 3 hH ?_; simp only [nm]; refine tkA 4 hH ?_; simp only [nm]; refine tkA 5 hH ?_; simp only [nm]; refine tkA 6 hH ?_; simp only [nm]
 refine tkO 7 fun K hK => ?_
 go_simp
 go_at_call 31
 refine (HSP.out _).mono ?_
 rintro e w4 ⟨u4, rfl, o4, b4⟩
 have B4 : Hid (Below W1.heap.size W1 w4) := (show Below _ _ _ from ((Below.refl _ _).drew).trans b4)
 have O4 := hide o4
 obtain ⟨sa, sc, rfl⟩ := o4.shape
 refine hK.out _ _ (KC.out _ B4.out) (fun hH => ?_)
 clear hK K o4 b4
 (try simp only [nm])
 refine tkO 8 fun K hK => ?_
 go_simp
 refine hK.out _ _ (KC.out _ B4.out) (fun hH => ?_)
 clear hK K
 (try simp only [nm])
 refine wpAnyM_done (by kernel_rfl) ?_ _
 have X4 := hide (BoxT.below (t := 38) HX1.out B4.out)
 have P4 := hide (HO1.out.below B4.out)
 have S4 := hide (O4.out.seg Sp.cs_len (by have := HSL.out; omega))
 have F4 : Hid (FT (at1 o) (at1 o) w w4) := (show FT _ _ _ _ from FT.of_below (HB1.out.trans (B4.out.mono HB1.out.size)))
 have NS : Hid (∀ b, (Value.slice sa ss.length sc).ownBlock = some b → b ≠ o ∧ b < w4.heap.size) := (show ∀ b, _ from fun b e => ⟨fun e2 => by (have h1 := O4.out.at b e; have h2 := HO1.out.box.lt; have h3 : W1.drew.heap.size = W1.heap.size := rfl; omega), O4.out.lt b e⟩)
 have NX : Hid (w.heap.size ≠ o ∧ w.heap.size < w4.heap.size) := (show _ ∧ _ from ⟨fun e => by (have h1 := HOL.out; omega), X4.out.lt⟩)
 have SZ4 : Hid (w.heap.size ≤ w4.heap.size) := (show _ ≤ _ from F4.out.size)
 clear hH KC ck HX1 HO1 O4
 go_wp2_with fail
 go_loopg [6, 7] (ss.length + 1) (fun gh tv iv wr => ∃ (i : Nat) (lv' : Value) (l : List Pn) (tb : Bool), iv = .int .i64 (i : Int) ∧ i ≤ ss.length ∧ ss.length + 1 ≤ gh + i ∧ tv = .bool tb ∧ Hid (tb = (decide (0 < ss.length) && decide (opn g (ss.take i) = []))) ∧ Hid (DOp wr o nd lv' l g d) ∧ Hid (Nw w lv lv') ∧ Hid (FT (at1 o) (at1 o) w4 wr) ∧ Hid (Comes (sess nd.wk) (jn nd.agg) ((opn g (ss.take i)).map (fun sp : Sp => (⟨rk, sp.f, sp.t, ad nd.agg (zr nd.agg) rv⟩ : Pn)) ++ l0) l))
 case atStart => exact ⟨0, lv, l0, decide (0 < ss.length), rfl, by omega, by omega, rfl, (show _ = _ by simp [opn]), P4, (show Nw _ _ _ from .inl rfl), FT.refl _ _, (show Comes _ _ _ _ by simpa [opn] using HAP.out)⟩
 case round =>
  clear P4 HAP
  obtain ⟨i, lv', l, tb, rfl, hi, hg, rfl, GT, GP, GN, GF, GC⟩ := hrel
  obtain ⟨go, rfl⟩ : ∃ go, gk = go + 1 := ⟨gk - 1, by omega⟩
  obtain ⟨la, lc, rfl⟩ := GP.out.seg.shapeOf
  have hss : ss.length ≤ 64 := HSL.out
  by_cases hlt : i < ss.length
  ·obtain ⟨sp, hx⟩ := get_of_lt hlt
   have bt : (i : Int) < (ss.length : Int) := by omega
   obtain ⟨sb, so, rfl, slt, e0, e1⟩ := S4.out.span hx
   have HML : Hid (l.length ≤ 50000) := (show _ ≤ _ by
    have h1 := GC.out.1.len
    have h2 : (opn g (ss.take i)).length ≤ i := Nat.le_trans (List.length_filter_le _ _) (by rw [List.length_take]; omega)
    rw [List.length_append, List.length_map] at h1
    omega)
   have HFU : Hid (nd.wk = 3 → sp.f < sp.t ∧ ∀ x ∈ l, Full x) := (show _ → _ from fun e => ⟨HSF.out e sp (List.mem_of_getElem? hx), GC.out.1.keeps (fun x y => jp_full) (fun y hy => by
    rcases List.mem_append.1 hy with hy | hy
    ·obtain ⟨z, hz, rfl⟩ := List.mem_map.1 hy
     exact HSF.out e z (List.mem_of_mem_take (List.mem_filter.1 hz).1)
    ·exact HFL.out e y hy)⟩)
   have hsi : ss[i] = sp := by rw [List.getElem?_eq_getElem hlt] at hx; exact Option.some.inj hx
   have HTK : Hid (opn g (ss.take (i + 1)) = opn g (ss.take i) ++ if lateB g sp = true then [] else [sp]) := (show _ = _ by
    unfold opn
    rw [List.take_succ_eq_append_getElem hlt, hsi, List.filter_append]
    cases hb : lateB g sp <;> simp [hb])
   have hbd := HSB.out sp (List.mem_of_getElem? hx)
   have HIN0 : Hid (∀ W, Below wr.heap.size wr W → Calls Tryz.prog 29 #[.agg #[.int .i64 nd.wk, .int .i64 nd.ws, .int .i64 nd.wl], .int .i64 nd.agg, .slice la l.length lc, .agg #[.int .i64 rk, .int .i64 rt, .int .i64 rv], .agg #[.int .i64 sp.f, .int .i64 sp.t]] W (IPost W nd.wk nd.agg ⟨rk, sp.f, sp.t, ad nd.agg (zr nd.agg) rv⟩ l)) := (show ∀ W, _ from fun W h => rInto_any (GP.out.seg.on h) HML.out nd.wk nd.ws nd.wl nd.agg rk rt rv sp.f sp.t GC.out.2 HFU.out)
   have HE := hide (And.intro e0 e1)
   have NB := hide (NS.out sb rfl)
   obtain ⟨sf, st⟩ := sp
   simp only at HE HIN0 HTK hbd
   have hst1 : IntKind.i64.wrap (st - 1) = st - 1 := by rw [IntKind.wrap_i64]; omega
   have hst2 : wrap64 (st - 1) = st - 1 := by unfold wrap64; omega
   have KCA : Hid (∀ w' : World, Below wr.heap.size wr w' → (w'.cell? ⟨sb, so + i * 2, none⟩ = some (.int .i64 sf) ∧ w'.cell? ⟨sb, so + i * 2 + 1, none⟩ = some (.int .i64 st) ∧ w'.cell? ⟨o, 11, none⟩ = some (.int .i64 g)) ∧ (w'.cell? ⟨o, 6, none⟩ = some (.int .i64 nd.agg) ∧ w'.cell? ⟨o, 7, none⟩ = some (.int .i64 nd.wk) ∧ w'.cell? ⟨o, 8, none⟩ = some (.int .i64 nd.ws) ∧ w'.cell? ⟨o, 9, none⟩ = some (.int .i64 nd.wl) ∧ w'.cell? ⟨w.heap.size, 0, none⟩ = some (.int .i64 rk) ∧ w'.cell? ⟨w.heap.size, 1, none⟩ = some (.int .i64 rt) ∧ w'.cell? ⟨w.heap.size, 2, none⟩ = some (.int .i64 rv) ∧ w'.cell? ⟨sb, so + i * 2, none⟩ = some (.int .i64 sf) ∧ w'.cell? ⟨sb, so + i * 2 + 1, none⟩ = some (.int .i64 st) ∧ w'.cell? ⟨o, 10, none⟩ = some (.slice la l.length lc))) := (show ∀ w' : World, _ from fun w' h => by
    have h2 := BoxT.below (t := 51) GP.out.box h
    have cb : ∀ b off, b ≠ o → b < w4.heap.size → w'.cell? ⟨b, off, none⟩ = w4.cell? ⟨b, off, none⟩ := fun b off hne hlt => by
     have h3 : w'.heap[b]? = w4.heap[b]? := (h.block b (Nat.lt_of_lt_of_le hlt GF.out.size)).trans (GF.out.block b hlt hne)
     rw [World.cell?, World.cell?, h3]
    have s1 := (cb sb (so + i * 2) NB.out.1 NB.out.2).trans HE.out.1
    have s2 := (cb sb (so + i * 2 + 1) NB.out.1 NB.out.2).trans HE.out.2
    have x3 := X4.out.cells3
    exact ⟨⟨s1, s2, by rw [h2.cellAt]; rfl⟩, by rw [h2.cellAt]; rfl, by rw [h2.cellAt]; rfl, by rw [h2.cellAt]; rfl, by rw [h2.cellAt]; rfl, (cb _ _ NX.out.1 NX.out.2).trans x3.1, (cb _ _ NX.out.1 NX.out.2).trans x3.2.1, (cb _ _ NX.out.1 NX.out.2).trans x3.2.2, s1, s2, by rw [h2.cellAt]; rfl⟩)
   have KC9 : Hid (∀ w' : World, Below wr.heap.size wr w' → w'.cell? ⟨sb, so + i * 2, none⟩ = some (.int .i64 sf) ∧ w'.cell? ⟨sb, so + i * 2 + 1, none⟩ = some (.int .i64 st) ∧ w'.cell? ⟨o, 11, none⟩ = some (.int .i64 g)) := (show ∀ w' : World, _ from fun w' h => (KCA.out w' h).1)
   clear hx slt e0 e1 hbd hsi
   by_cases hgt : g < st - 1
   ·have hgd : decide (g < st - 1) = true := decide_eq_true hgt
    have hlb : lateB g ⟨sf, st⟩ = false := by unfold lateB; rw [hst2]; exact decide_eq_false (by omega)
    rw [hlb] at HTK
    as_aux_lemma =>
    go_wp2_with fail
    refine wp_region_M (S := fun w' => w'.cell? ⟨sb, so + i * 2, none⟩ = some (.int .i64 sf) ∧ w'.cell? ⟨sb, so + i * 2 + 1, none⟩ = some (.int .i64 st) ∧ w'.cell? ⟨o, 11, none⟩ = some (.int .i64 g)) (late := []) (by kernel_rfl) (KC9.out _ ((Below.refl _ _).drew)) (fun hH => ?_)
    (try simp only [nr, Nat.reduceAdd])
    refine tkA 0 hH ?_; simp only [nm]; refine tkA 1 hH ?_; simp only [nm]; refine tkA 2 hH ?_; simp only [nm]; refine tkA 3 hH ?_; simp only [nm]; refine tkA 4 hH ?_; simp only [nm]; refine tkA 5 hH ?_; simp only [nm]; refine tkA 6 hH ?_; simp only [nm]; refine tkA 7 hH ?_; simp only [nm]; refine tkA 8 hH ?_; simp only [nm]; refine tkA 9 hH ?_; simp only [nm]; refine tkA 10 hH ?_; simp only [nm]
    refine wpAnyM_done (by kernel_rfl) ?_ _
    generalize hw5 : wr.drew = w5 at *
    have B5 : Hid (Below wr.heap.size wr w5) := (show Below _ _ _ by rw [← hw5]; exact (Below.refl _ _).drew)
    have KC20 : Hid (∀ w' : World, Below w5.heap.size w5 w' → w'.cell? ⟨o, 6, none⟩ = some (.int .i64 nd.agg) ∧ w'.cell? ⟨o, 7, none⟩ = some (.int .i64 nd.wk) ∧ w'.cell? ⟨o, 8, none⟩ = some (.int .i64 nd.ws) ∧ w'.cell? ⟨o, 9, none⟩ = some (.int .i64 nd.wl) ∧ w'.cell? ⟨w.heap.size, 0, none⟩ = some (.int .i64 rk) ∧ w'.cell? ⟨w.heap.size, 1, none⟩ = some (.int .i64 rt) ∧ w'.cell? ⟨w.heap.size, 2, none⟩ = some (.int .i64 rv) ∧ w'.cell? ⟨sb, so + i * 2, none⟩ = some (.int .i64 sf) ∧ w'.cell? ⟨sb, so + i * 2 + 1, none⟩ = some (.int .i64 st) ∧ w'.cell? ⟨o, 10, none⟩ = some (.slice la l.length lc)) := (show ∀ w' : World, _ from fun w' h => (KCA.out w' (B5.out.trans (h.mono B5.out.size))).2)
    have HIN : Hid (∀ W, Below w5.heap.size w5 W → Calls Tryz.prog 29 #[.agg #[.int .i64 nd.wk, .int .i64 nd.ws, .int .i64 nd.wl], .int .i64 nd.agg, .slice la l.length lc, .agg #[.int .i64 rk, .int .i64 rt, .int .i64 rv], .agg #[.int .i64 sf, .int .i64 st]] W (IPost W nd.wk nd.agg ⟨rk, sf, st, ad nd.agg (zr nd.agg) rv⟩ l)) := (show ∀ W, _ from fun W h => HIN0.out W (B5.out.trans (h.mono B5.out.size)))
    have P5 := hide (GP.out.below B5.out)
    have HX5 := hide P5.out.box
    clear hw5 hH KC9 KCA HIN0
    go_wp2_with fail
    refine wp_region_M (S := fun w' => w'.cell? ⟨o, 6, none⟩ = some (.int .i64 nd.agg) ∧ w'.cell? ⟨o, 7, none⟩ = some (.int .i64 nd.wk) ∧ w'.cell? ⟨o, 8, none⟩ = some (.int .i64 nd.ws) ∧ w'.cell? ⟨o, 9, none⟩ = some (.int .i64 nd.wl) ∧ w'.cell? ⟨w.heap.size, 0, none⟩ = some (.int .i64 rk) ∧ w'.cell? ⟨w.heap.size, 1, none⟩ = some (.int .i64 rt) ∧ w'.cell? ⟨w.heap.size, 2, none⟩ = some (.int .i64 rv) ∧ w'.cell? ⟨sb, so + i * 2, none⟩ = some (.int .i64 sf) ∧ w'.cell? ⟨sb, so + i * 2 + 1, none⟩ = some (.int .i64 st) ∧ w'.cell? ⟨o, 10, none⟩ = some (.slice la l.length lc)) (late := [23]) (by kernel_rfl) (KC20.out _ ((Below.refl _ _).drew)) (fun hH => ?_)
    (try simp only [nr, Nat.reduceAdd])
    refine tkA 0 hH ?_; simp only [nm]; refine tkA 1 hH ?_; simp only [nm]; refine tkA 2 hH ?_; simp only [nm]; refine tkA 3 hH ?_; simp only [nm]; refine tkA 4 hH ?_; simp only [nm]; refine tkA 5 hH ?_; simp only [nm]; refine tkA 6 hH ?_; simp only [nm]; refine tkA 7 hH ?_; simp only [nm]; refine tkA 8 hH ?_; simp only [nm]; refine tkA 9 hH ?_; simp only [nm]; refine tkA 10 hH ?_; simp only [nm]; refine tkA 11 hH ?_; simp only [nm]; refine tkA 12 hH ?_; simp only [nm]; refine tkA 13 hH ?_; simp only [nm]; refine tkA 14 hH ?_; simp only [nm]; refine tkA 15 hH ?_; simp only [nm]; refine tkA 16 hH ?_; simp only [nm]; refine tkA 17 hH ?_; simp only [nm]; refine tkA 18 hH ?_; simp only [nm]; refine tkA 19 hH ?_; simp only [nm]
    refine tkO 20 fun K hK => ?_
    go_simp
    go_at_call 29
    refine (HIN.out _ (Below.refl _ _).drew).mono ?_
    rintro e w6 ⟨u6, M6, rfl, o6, b6, r6, n6, c6⟩
    have B6 : Hid (Below w5.heap.size w5 w6) := (show Below _ _ _ from ((Below.refl _ _).drew).trans b6)
    have O6 := hide o6
    have N6 := hide n6
    have C6 := hide c6
    obtain ⟨ua, uc, rfl⟩ := o6.shapeOf
    refine hK.out _ _ (KC20.out _ B6.out) (fun hH => ?_)
    clear hK K o6 b6 r6 n6 c6
    (try simp only [nm])
    refine tkO 21 fun K hK => ?_
    go_simp
    refine hK.out _ _ (KC20.out _ B6.out) (fun hH => ?_)
    clear hK K
    (try simp only [nm])
    refine tkO 22 fun K hK => ?_
    go_simp
    refine hK.out _ _ (KC20.out _ B6.out) (fun hH => ?_)
    clear hK K
    (try simp only [nm])
    have hx6 := (BoxT.below (t := 51) HX5.out B6.out)
    have hc6 : w6.cell? ⟨o, 10, none⟩ = some (.slice la l.length lc) := by rw [hx6.cellAt]; rfl
    have hf6 := hx6.free 10
    refine wpAnyM_last (i := 23) (o := ⟨_, _, _, _, _, _⟩) (by kernel_rfl) (by kernel_rfl) rfl (fun K hK => ?_)
    go_simp
    refine hK.out _ _ ?_
    clear hK K
    (try simp only [nm])
    refine wpAnyM_done (by kernel_rfl) ?_ _
    have PE : Hid (DOp (w6.setCell ⟨o, 10, none⟩ (.slice ua M6.length uc)) o nd (.slice ua M6.length uc) M6 g d) := (show DOp _ _ _ _ _ _ _ from P5.out.lay B6.out O6.out N6.out)
    have NE : Hid (Nw w lv (.slice ua M6.length uc)) := (show Nw _ _ _ from .inr (fun b e => by have h1 : w5.heap.size ≤ b := N6.out b e; have h2 := B5.out.size; have h3 := GF.out.size; have h4 := SZ4.out; omega))
    have FE : Hid (FT (at1 o) (at1 o) w4 (w6.setCell ⟨o, 10, none⟩ (.slice ua M6.length uc))) := (show FT _ _ _ _ from (GF.out.trans (FT.of_below B5.out)).trans (FT.lay B6.out _))
    have HC7 : Hid (Comes (sess nd.wk) (jn nd.agg) ((opn g (ss.take (i + 1))).map (fun sp : Sp => (⟨rk, sp.f, sp.t, ad nd.agg (zr nd.agg) rv⟩ : Pn)) ++ l0) M6) := (show Comes _ _ _ _ by
     rw [HTK.out]
     have h1 := Comes.step (q := [⟨rk, sf, st, ad nd.agg (zr nd.agg) rv⟩]) GC.out C6.out
     refine h1.perm ?_ (.refl _)
     rw [if_neg (by simp), List.map_append, List.append_assoc, List.singleton_append]
     exact List.perm_middle.symm)
    have HTE : Hid (false = (decide (0 < ss.length) && decide (opn g (ss.take (i + 1)) = []))) := (show _ = _ by rw [HTK.out]; simp)
    go_wp2_with fail
    go_roundg go
    case rel => exact ⟨i + 1, _, M6, false, by go_num, by omega, by omega, rfl, HTE, PE, NE, FE, HC7⟩
    case measure => omega
   ·have hgd : decide (g < st - 1) = false := decide_eq_false hgt
    have hlb : lateB g ⟨sf, st⟩ = true := by unfold lateB; rw [hst2]; exact decide_eq_true (by omega)
    rw [hlb, if_pos rfl, List.append_nil] at HTK
    as_aux_lemma =>
    go_wp2_with fail
    refine wp_region_M (S := fun w' => w'.cell? ⟨sb, so + i * 2, none⟩ = some (.int .i64 sf) ∧ w'.cell? ⟨sb, so + i * 2 + 1, none⟩ = some (.int .i64 st) ∧ w'.cell? ⟨o, 11, none⟩ = some (.int .i64 g)) (late := []) (by kernel_rfl) (KC9.out _ ((Below.refl _ _).drew)) (fun hH => ?_)
    (try simp only [nr, Nat.reduceAdd])
    refine tkA 0 hH ?_; simp only [nm]; refine tkA 1 hH ?_; simp only [nm]; refine tkA 2 hH ?_; simp only [nm]; refine tkA 3 hH ?_; simp only [nm]; refine tkA 4 hH ?_; simp only [nm]; refine tkA 5 hH ?_; simp only [nm]; refine tkA 6 hH ?_; simp only [nm]; refine tkA 7 hH ?_; simp only [nm]; refine tkA 8 hH ?_; simp only [nm]; refine tkA 9 hH ?_; simp only [nm]; refine tkA 10 hH ?_; simp only [nm]
    refine wpAnyM_done (by kernel_rfl) ?_ _
    have PE := hide (GP.out.below (show Below wr.heap.size wr wr.drew from (Below.refl _ _).drew))
    have FE := hide (GF.out.trans (FT.of_below (show Below wr.heap.size wr wr.drew from (Below.refl _ _).drew)))
    go_wp2_with fail
    go_roundg go
    case rel => exact ⟨i + 1, _, l, tb, by go_num, by omega, by omega, rfl, (show _ = _ by rw [HTK.out]; exact GT.out), PE, GN, FE, (show Comes _ _ _ _ by rw [HTK.out]; exact GC.out)⟩
    case measure => omega
  ·obtain rfl : i = ss.length := by omega
   have bt : ¬ ((ss.length : Nat) : Int) < (ss.length : Int) := by omega
   have htk : ss.take ss.length = ss := List.take_of_length_le (Nat.le_refl _)
   have HCE : Hid (Comes (sess nd.wk) (jn nd.agg) ((opn g ss).map (fun sp : Sp => (⟨rk, sp.f, sp.t, ad nd.agg (zr nd.agg) rv⟩ : Pn)) ++ l0) l) := (show Comes _ _ _ _ by have := GC.out; rwa [htk] at this)
   have hte := GT.out
   rw [htk] at hte
   have hop : opn g ss = [] ↔ ∀ sp ∈ ss, lateB g sp = true := by
    unfold opn
    rw [List.filter_eq_nil_iff]
    constructor
    ·intro h sp hsp; have := h sp hsp; simpa using this
    ·intro h sp hsp; rw [h sp hsp]; decide
   have FE := hide (F4.out.trans GF.out)
   cases tb
   ·have hnl : Hid (¬ (ss ≠ [] ∧ ∀ sp ∈ ss, lateB g sp = true)) := (show ¬ _ from fun hh => by
     have h1 : 0 < ss.length := List.length_pos_iff.2 hh.1
     have h2 := hop.2 hh.2
     rw [decide_eq_true h1, decide_eq_true h2] at hte
     cases hte)
    clear hte hop htk
    go_wp2_with fail
    go_ret
    exact ⟨rfl, _, l, d, GP.out, FE.out, GN.out, HCE.out, HDD.out _ (.inr ⟨hnl.out, rfl⟩)⟩
   ·have hal : Hid (ss ≠ [] ∧ ∀ sp ∈ ss, lateB g sp = true) := (show _ ∧ _ by
     have h1 : decide (0 < ss.length) = true ∧ decide (opn g ss = []) = true := by
      have := hte.symm
      rwa [Bool.and_eq_true] at this
     exact ⟨List.length_pos_iff.1 (of_decide_eq_true h1.1), hop.1 (of_decide_eq_true h1.2)⟩)
    clear hte hop htk
    have c12 : wr.cell? ⟨o, 12, none⟩ = some (.int .i64 d) := GP.out.box.cellAt 12
    have fr := BoxT.free (t := 51) GP.out.box
    go_wp2_with fail
    go_ret
    exact ⟨rfl, _, l, wrap64 (d + 1), GP.out.setN _, FE.out.trans (FT.set1 _ _ _ _), GN.out, HCE.out, HDD.out _ (.inl ⟨hal.out, rfl⟩)⟩
end Go.Proofs.YtpcbhcdpegbfjaaGreat
/-
 The document's Eval.
-/
namespace Go.Proofs.YtpcbhcdpegbfjaaGreat
set_option maxHeartbeats 16000000
set_option maxRecDepth 100000
open Go.RowKit
def aV (vs : List Int) (i j : Nat) : Int := if j < i then vs.getD j 0 else 0
def aC (vs : List Int) (i : Nat) : Array Value := #[.int .i64 (aV vs i 0), .int .i64 (aV vs i 1), .int .i64 (aV vs i 2)]
theorem aC_at {vs : List Int} {i : Nat} (h : i < 3) : (aC vs i)[i]? = some (.int .i64 0) := by
 match i, h with
 | 0, _ => simp [aC, aV]
 | 1, _ => simp [aC, aV]
 | 2, _ => simp [aC, aV]
theorem aC_set {vs : List Int} {i : Nat} (h : i < 3) : (aC vs i).setIfInBounds i (.int .i64 (vs.getD i 0)) = aC vs (i + 1) := by
 match i, h with
 | 0, _ => simp [aC, aV]
 | 1, _ => simp [aC, aV]
 | 2, _ => simp [aC, aV]
theorem aC_all {vs : List Int} (h : vs.length ≤ 3) : aC vs vs.length = #[.int .i64 (vs.getD 0 0), .int .i64 (vs.getD 1 0), .int .i64 (vs.getD 2 0)] := by
 match vs, h with
 | [], _ => simp [aC, aV]
 | [a], _ => simp [aC, aV]
 | [a, b], _ => simp [aC, aV]
 | [a, b, c], _ => simp [aC, aV]
theorem rEval_any (rk rt rv : Int) (e : J.Ex) : ∀ (w : World), J.In w e → J.formed e = true → Calls Tryz.prog 28 #[e.val, .agg #[.int .i64 rk, .int .i64 rt, .int .i64 rv]] w fun v w' => v = .returned (.int .i64 (J.evl ⟨rk, rt, rv⟩ e)) ∧ Below w.heap.size w w' := by
 refine J.Ex.ind (P := fun e => ∀ (w : World), J.In w e → J.formed e = true → Calls Tryz.prog 28 #[e.val, .agg #[.int .i64 rk, .int .i64 rt, .int .i64 rv]] w fun v w' => v = .returned (.int .i64 (J.evl ⟨rk, rt, rv⟩ e)) ∧ Below w.heap.size w w') ?_ e
 intro op n a c l ih w hin hf
 have hs : J.snd1 op n l.length = true := J.formed_self hf
 have hl3 := J.snd1_len hs
 have HIH := hide (fun x hx W hW => ih x hx W hW (J.formed_kid hf hx))
 have HIN := hide hin
 rw [J.evl_mk]
 have hvl : (l.map (J.evl ⟨rk, rt, rv⟩)).length = l.length := by simp
 have hvg : ∀ i x, l[i]? = some x → (l.map (J.evl ⟨rk, rt, rv⟩)).getD i 0 = J.evl ⟨rk, rt, rv⟩ x := fun i x h => by simp [h]
 generalize l.map (J.evl ⟨rk, rt, rv⟩) = vs at *
 have HVG := hide hvg
 have HVL := hide hvl
 have HS := hide hs
 clear ih hin hf hs hvg hvl
 have HB0 : Hid (Below w.heap.size w (((w.alloc (.cells #[.int .i64 op, .int .i64 n, .slice a l.length c] 25)).alloc (.cells #[.int .i64 rk, .int .i64 rt, .int .i64 rv] 38)).alloc (.cells #[.int .i64 0, .int .i64 0, .int .i64 0] 103))) := (below_box2 w _ _).alloc (by simp; omega) _
 have HX0 := hide (((BoxT.new 25 w #[.int .i64 op, .int .i64 n, .slice a l.length c]).alloc (.cells #[.int .i64 rk, .int .i64 rt, .int .i64 rv] 38)).alloc (.cells #[.int .i64 0, .int .i64 0, .int .i64 0] 103))
 have HR0 : Hid (BoxT 38 (((w.alloc (.cells #[.int .i64 op, .int .i64 n, .slice a l.length c] 25)).alloc (.cells #[.int .i64 rk, .int .i64 rt, .int .i64 rv] 38)).alloc (.cells #[.int .i64 0, .int .i64 0, .int .i64 0] 103)) (w.heap.size + 1) #[.int .i64 rk, .int .i64 rt, .int .i64 rv]) := BoxT.alloc (BoxT.new_at (by simp)) _
 have HA0 : Hid (BoxT 103 (((w.alloc (.cells #[.int .i64 op, .int .i64 n, .slice a l.length c] 25)).alloc (.cells #[.int .i64 rk, .int .i64 rt, .int .i64 rv] 38)).alloc (.cells #[.int .i64 0, .int .i64 0, .int .i64 0] 103)) (w.heap.size + 2) (aC vs 0)) := BoxT.new_at (by simp)
 unfold J.Ex.val
 simp only
 go_enter Tryz.func28, Tryz.ntmps28
 go_wp2_with fail
 go_loopg [6] (l.length + 1) (fun gh iv wr => ∃ i : Nat, iv = .int .i64 (i : Int) ∧ i ≤ l.length ∧ l.length + 1 ≤ gh + i ∧ Hid (BoxT 25 wr w.heap.size #[.int .i64 op, .int .i64 n, .slice a l.length c]) ∧ Hid (BoxT 38 wr (w.heap.size + 1) #[.int .i64 rk, .int .i64 rt, .int .i64 rv]) ∧ Hid (BoxT 103 wr (w.heap.size + 2) (aC vs i)) ∧ Hid (Below w.heap.size w wr))
 case atStart => exact ⟨0, rfl, by omega, by omega, HX0, HR0, HA0, HB0⟩
 case round =>
  clear HX0 HR0 HA0 HB0
  obtain ⟨i, rfl, hi, hg, HX, HR, HA, HB⟩ := hrel
  obtain ⟨go, rfl⟩ : ∃ go, gk = go + 1 := ⟨gk - 1, by omega⟩
  obtain ⟨x0, x1, x2⟩ := HX.out.cells3
  obtain ⟨r0, r1, r2⟩ := HR.out.cells3
  by_cases hlt : i < l.length
  ·have bt : (i : Int) < (l.length : Int) := by omega
   have hi3 : i < 3 := by omega
   have b3 : (i : Int) < 3 := by omega
   obtain ⟨x, hx⟩ : ∃ x, l[i]? = some x := ⟨_, List.getElem?_eq_getElem hlt⟩
   obtain ⟨b, o, ha, e0, e1, e2⟩ := HIN.out.self.at_ i x hx
   simp only at ha
   subst ha
   have hlb := J.cell_lt e0
   have hxm : x ∈ l := List.mem_of_getElem? hx
   have HCL := hide (HIH.out x hxm _ ((HIN.out.kid hxm).below (HB.out.trans (show Below w.heap.size wr wr.drew from ((Below.refl wr.heap.size wr).drew.mono HB.out.size)))))
   have HEV := hide (HVG.out i x hx)
   obtain ⟨xo, xn, xa, xc, xl⟩ := x
   unfold J.Ex.val at HCL
   simp only at e0 e1 e2 HCL
   have E := hide (And.intro hlb (And.intro e0 (And.intro e1 e2)))
   generalize J.evl ⟨rk, rt, rv⟩ ⟨xo, xn, xa, xc, xl⟩ = q at *
   have KC := hide (show ∀ w' : World, Below wr.heap.size wr w' → w'.cell? ⟨w.heap.size, 2, none⟩ = some (.slice (some ⟨b, o, none⟩) l.length c) ∧ (w'.cell? ⟨b, o + i * 3, none⟩ = some (.int .i64 xo) ∧ w'.cell? ⟨b, o + i * 3 + 1, none⟩ = some (.int .i64 xn) ∧ w'.cell? ⟨b, o + i * 3 + 2, none⟩ = some (.slice xa xl.length xc)) ∧ (w'.cell? ⟨w.heap.size + 1, 0, none⟩ = some (.int .i64 rk) ∧ w'.cell? ⟨w.heap.size + 1, 1, none⟩ = some (.int .i64 rt) ∧ w'.cell? ⟨w.heap.size + 1, 2, none⟩ = some (.int .i64 rv)) from fun w' h => by
    have hX := HX.out.below h
    have hR := HR.out.below h
    have hb := HB.out.trans (h.mono HB.out.size)
    exact ⟨hX.cells3.2.2, ⟨(hb.cell (p := ⟨b, o + i * 3, none⟩) E.out.1).trans E.out.2.1, (hb.cell (p := ⟨b, o + i * 3 + 1, none⟩) E.out.1).trans E.out.2.2.1, (hb.cell (p := ⟨b, o + i * 3 + 2, none⟩) E.out.1).trans E.out.2.2.2⟩, hR.cells3⟩)
   clear hx hxm e0 e1 e2 hlb
   go_wp2_with fail
   refine wp_region_M (S := fun w' => w'.cell? ⟨w.heap.size, 2, none⟩ = some (.slice (some ⟨b, o, none⟩) l.length c) ∧ (w'.cell? ⟨b, o + i * 3, none⟩ = some (.int .i64 xo) ∧ w'.cell? ⟨b, o + i * 3 + 1, none⟩ = some (.int .i64 xn) ∧ w'.cell? ⟨b, o + i * 3 + 2, none⟩ = some (.slice xa xl.length xc)) ∧ (w'.cell? ⟨w.heap.size + 1, 0, none⟩ = some (.int .i64 rk) ∧ w'.cell? ⟨w.heap.size + 1, 1, none⟩ = some (.int .i64 rt) ∧ w'.cell? ⟨w.heap.size + 1, 2, none⟩ = some (.int .i64 rv))) (late := [9]) (by kernel_rfl) (KC.out _ (Below.refl _ _).drew) (fun hH => ?_)
   (try simp only [nr, Nat.reduceAdd])
   refine tkA 0 hH ?_; simp only [nm]; refine tkA 1 hH ?_; simp only [nm]; refine tkA 2 hH ?_; simp only [nm]; refine tkA 3 hH ?_; simp only [nm]; refine tkA 4 hH ?_; simp only [nm]; refine tkA 5 hH ?_; simp only [nm]; refine tkA 6 hH ?_; simp only [nm]
   refine tkO 7 fun Kc hK => ?_
   go_simp
   go_at_call 28
   refine (HCL.out).mono ?_
   rintro e w2 ⟨rfl, b2⟩
   have B2 := hide (show Below wr.heap.size wr w2 from (Below.refl _ _).drew.trans b2)
   clear b2
   refine hK.out _ _ (KC.out _ B2.out) (fun hH => ?_)
   clear hK Kc
   (try simp only [nm])
   refine tkO 8 fun Kc hK => ?_
   go_simp
   refine hK.out _ _ (KC.out _ B2.out) (fun hH => ?_)
   clear hK Kc
   (try simp only [nm])
   have hA2 := (BoxT.below (t := 103) HA.out B2.out)
   have hci : w2.cell? ⟨w.heap.size + 2, i, none⟩ = some (.int .i64 0) := by rw [hA2.cellAt]; exact aC_at hi3
   have hfi := hA2.free i
   refine wpAnyM_last (i := 9) (o := ⟨_, _, _, _, _, _⟩) (by kernel_rfl) (by kernel_rfl) rfl (fun Kc hK => ?_)
   go_simp
   refine hK.out _ _ ?_
   clear hK Kc
   (try simp only [nm])
   refine wpAnyM_done (by kernel_rfl) ?_ _
   have HA3 : Hid (BoxT 103 (w2.setCell ⟨w.heap.size + 2, i, none⟩ (.int .i64 q)) (w.heap.size + 2) (aC vs (i + 1))) := (show BoxT _ _ _ _ from by
    have h1 := hA2.set i (.int .i64 q)
    rw [← HEV.out, aC_set hi3] at h1
    rw [← HEV.out]
    exact h1)
   go_wp2_with fail
   go_roundg go
   case rel => exact ⟨i + 1, by go_num, by omega, by omega, (HX.out.below B2.out).other _ _ (by omega), (HR.out.below B2.out).other _ _ (by omega), HA3, (HB.out.trans (B2.out.mono HB.out.size)).setCell (by show w.heap.size ≤ w.heap.size + 2; omega) _⟩
   case measure => omega
  ·obtain rfl : i = l.length := by omega
   have bt : ¬ ((l.length : Nat) : Int) < (l.length : Int) := by omega
   have hA := HA.out
   have hvl := HVL.out
   rw [← hvl, aC_all (by omega)] at hA
   obtain ⟨a0, a1, a2⟩ := hA.cells3
   have ho := J.ops_of HS.out
   clear hA HA
   generalize hv0 : vs.getD 0 0 = v0 at *
   generalize hv1 : vs.getD 1 0 = v1 at *
   generalize hv2 : vs.getD 2 0 = v2 at *
   have HE : Hid (∀ q, (q = if op = 1 then n else if op = 2 then rk else if op = 3 then rt else if op = 4 then rv else if op = 14 then (if v0 = 0 then v2 else v1) else J.bth op v0 v1) → q = J.evl1 ⟨rk, rt, rv⟩ op n vs) := (show ∀ q, _ → _ from fun q h => by
    unfold J.evl1
    rw [hv0, hv1, hv2]
    exact h)
   clear hv0 hv1 hv2 hvl
   rcases ho with rfl | rfl | rfl | rfl | rfl | rfl | rfl | rfl | rfl | rfl | rfl | rfl | rfl | rfl
   ·go_wp2_with fail
    go_ret
    exact ⟨by refine ret_int (HE.out _ ?_); simp, HB.out⟩
   ·go_wp2_with fail
    go_ret
    exact ⟨by refine ret_int (HE.out _ ?_); simp, HB.out⟩
   ·go_wp2_with fail
    go_ret
    exact ⟨by refine ret_int (HE.out _ ?_); simp, HB.out⟩
   ·go_wp2_with fail
    go_ret
    exact ⟨by refine ret_int (HE.out _ ?_); simp, HB.out⟩
   ·go_wp2_with fail
    go_ret
    exact ⟨by refine ret_int (HE.out _ ?_); simp [J.bth], HB.out⟩
   ·go_wp2_with fail
    go_ret
    exact ⟨by refine ret_int (HE.out _ ?_); simp only [J.bth]; simp; try (simp only [wrap64]; omega), HB.out⟩
   ·go_wp2_with fail
    go_ret
    exact ⟨by refine ret_int (HE.out _ ?_); simp [J.bth], HB.out⟩
   ·go_wp2_with fail
    go_ret
    exact ⟨by refine ret_int (HE.out _ ?_); simp [J.bth]; try omega, HB.out⟩
   ·go_wp2_with fail
    go_ret
    exact ⟨by refine ret_int (HE.out _ ?_); simp [J.bth]; try omega, HB.out⟩
   ·go_wp2_with fail
    go_ret
    exact ⟨by refine ret_int (HE.out _ ?_); simp [J.bth], HB.out⟩
   ·go_wp2_with fail
    go_ret
    exact ⟨by refine ret_int (HE.out _ ?_); simp [J.bth], HB.out⟩
   ·by_cases hc : v0 < v1
    ·go_wp2_with fail
     go_ret
     exact ⟨by refine ret_int (HE.out _ ?_); simp [J.bth, hc], HB.out⟩
    ·go_wp2_with fail
     go_ret
     exact ⟨by refine ret_int (HE.out _ ?_); simp [J.bth, hc], HB.out⟩
   ·by_cases hc : v0 = v1
    ·have hb : (v0 == v1) = true := by simp [hc]
     go_wp2_with fail
     go_ret
     exact ⟨by refine ret_int (HE.out _ ?_); simp [J.bth, hc], HB.out⟩
    ·have hb : (v0 == v1) = false := by simp [hc]
     go_wp2_with fail
     go_ret
     exact ⟨by refine ret_int (HE.out _ ?_); simp [J.bth, hc], HB.out⟩
   ·by_cases hc : v0 = 0
    ·have hb : (v0 != 0) = false := by simp [hc]
     have hb2 : (v0 == 0) = true := by simp [hc]
     go_wp2_with fail
     go_ret
     exact ⟨by refine ret_int (HE.out _ ?_); simp [hc], HB.out⟩
    ·have hb : (v0 != 0) = true := by simp [hc]
     have hb2 : (v0 == 0) = false := by simp [hc]
     go_wp2_with fail
     go_ret
     exact ⟨by refine ret_int (HE.out _ ?_); simp [hc], HB.out⟩
end Go.Proofs.YtpcbhcdpegbfjaaGreat
/-
 The document's New, and its record of the other kinds.
-/
namespace Go.Proofs.YtpcbhcdpegbfjaaGreat
set_option maxHeartbeats 16000000
set_option maxRecDepth 100000
open Go.RowKit
def RrPost (w : World) (o : Nat) (nd : J.Nd) (lv : Value) (l0 : List Pn) (g d : Int) (r : Rc) (e : Ending) (w' : World) : Prop := e = .returned (.slice none 0 0) ∧ ∃ lv' l', DOp w' o nd lv' l' g d ∧ FT (at1 o) (at1 o) w w' ∧ Nw w lv lv' ∧ Comes false (jn nd.agg) (frS 0 0 0 nd.agg r ++ l0) l'
theorem rRecord_red {w : World} {o : Nat} {nd : J.Nd} {lv : Value} {l0 : List Pn} {g d : Int} (h : DOp w o nd lv l0 g d) (h6 : nd.kind = 6) (rk rt rv : Int) (hn : l0.length ≤ 40000) (hap : Apart false l0) :
  Calls Tryz.prog 15 #[.pointer (some ⟨o, 0, none⟩), .agg #[.int .i64 rk, .int .i64 rt, .int .i64 rv]] w (RrPost w o nd lv l0 g d ⟨rk, rt, rv⟩) := by
 obtain ⟨la, lc, rfl⟩ := h.seg.shapeOf
 have HB1 := hide (below_box w (.cells #[.int .i64 rk, .int .i64 rt, .int .i64 rv] 38))
 have HX1 := hide (BoxT.new 38 w #[.int .i64 rk, .int .i64 rt, .int .i64 rv])
 have HO1 := hide (h.below HB1.out)
 have HFR : Hid (frS 0 0 0 nd.agg ⟨rk, rt, rv⟩ = [(⟨rk, -9223372036854775808, 2199023255553, ad nd.agg (zr nd.agg) rv⟩ : Pn)]) := (show _ = _ from rfl)
 have HAP := hide hap
 have ck0 : w.cell? ⟨o, 0, none⟩ = some (.int .i64 nd.kind) := h.box.cellAt 0
 rw [h6] at ck0
 have ck : (w.alloc (.cells #[.int .i64 rk, .int .i64 rt, .int .i64 rv] 38)).cell? ⟨o, 0, none⟩ = some (.int .i64 6) := (HB1.out.cell (p := ⟨o, 0, none⟩) h.box.lt).trans ck0
 unfold RrPost
 rw [HFR.out]
 clear h hap HFR ck0 h6
 go_enter Tryz.func15, Tryz.ntmps15
 go_upto_region 1 with fail
 generalize w.alloc (.cells #[.int .i64 rk, .int .i64 rt, .int .i64 rv] 38) = W1 at *
 have KC : Hid (∀ w' : World, Below W1.heap.size W1 w' → w'.cell? ⟨o, 6, none⟩ = some (.int .i64 nd.agg) ∧ w'.cell? ⟨o, 10, none⟩ = some (.slice la l0.length lc) ∧ w'.cell? ⟨w.heap.size, 0, none⟩ = some (.int .i64 rk) ∧ w'.cell? ⟨w.heap.size, 1, none⟩ = some (.int .i64 rt) ∧ w'.cell? ⟨w.heap.size, 2, none⟩ = some (.int .i64 rv)) := (show ∀ w' : World, _ from fun w' h => by
  have h2 := BoxT.below (t := 51) HO1.out.box h
  have h3 := BoxT.below (t := 38) HX1.out h
  exact ⟨by rw [h2.cellAt]; rfl, by rw [h2.cellAt]; rfl, by rw [h3.cellAt]; rfl, by rw [h3.cellAt]; rfl, by rw [h3.cellAt]; rfl⟩)
 have HIN : Hid (∀ W, Below W1.heap.size W1 W → Calls Tryz.prog 29 #[.agg #[.int .i64 0, .int .i64 0, .int .i64 0], .int .i64 nd.agg, .slice la l0.length lc, .agg #[.int .i64 rk, .int .i64 rt, .int .i64 rv], .agg #[.int .i64 (-9223372036854775808), .int .i64 2199023255553]] W (IPost W 0 nd.agg ⟨rk, -9223372036854775808, 2199023255553, ad nd.agg (zr nd.agg) rv⟩ l0)) := (show ∀ W, _ from fun W h => rInto_any (HO1.out.seg.on h) (by omega) 0 0 0 nd.agg rk rt rv (-9223372036854775808) 2199023255553 HAP.out (fun e => by cases e))
 go_wp2_with fail
 refine wp_region_M (S := fun w' => w'.cell? ⟨o, 6, none⟩ = some (.int .i64 nd.agg) ∧ w'.cell? ⟨o, 10, none⟩ = some (.slice la l0.length lc) ∧ w'.cell? ⟨w.heap.size, 0, none⟩ = some (.int .i64 rk) ∧ w'.cell? ⟨w.heap.size, 1, none⟩ = some (.int .i64 rt) ∧ w'.cell? ⟨w.heap.size, 2, none⟩ = some (.int .i64 rv)) (late := [16]) (by kernel_rfl) (KC.out _ ((Below.refl _ _).drew)) (fun hH => ?_)
 (try simp only [nr, Nat.reduceAdd])
 refine tkA 0 hH ?_; simp only [nm]; refine tkA 1 hH ?_; simp only [nm]; refine tkA 2 hH ?_; simp only [nm]; refine tkA 3 hH ?_; simp only [nm]; refine tkA 4 hH ?_; simp only [nm]; refine tkA 5 hH ?_; simp only [nm]; refine tkA 6 hH ?_; simp only [nm]; refine tkA 7 hH ?_; simp only [nm]; refine tkA 8 hH ?_; simp only [nm]; refine tkA 9 hH ?_; simp only [nm]; refine tkA 10 hH ?_; simp only [nm]; refine tkA 11 hH ?_; simp only [nm]
 refine tkO 12 fun K hK => ?_
 go_simp
 go_at_call 30
 refine (whole_any _).mono ?_
 rintro e w4 ⟨rfl, b4⟩
 have B4 : Hid (Below W1.heap.size W1 w4) := (show Below _ _ _ from ((Below.refl _ _).drew).trans b4)
 refine hK.out _ _ (KC.out _ B4.out) (fun hH => ?_)
 clear hK K b4
 (try simp only [nm])
 refine tkO 13 fun K hK => ?_
 go_simp
 go_at_call 29
 refine (HIN.out _ B4.out).mono ?_
 rintro e w6 ⟨u6, M6, rfl, o6, b6, r6, n6, c6⟩
 have B6 : Hid (Below W1.heap.size W1 w6) := (show Below _ _ _ from B4.out.trans (b6.mono B4.out.size))
 have O6 := hide o6
 have N6 : Hid (∀ b, u6.ownBlock = some b → W1.heap.size ≤ b) := (show ∀ b, _ from fun b e => Nat.le_trans B4.out.size (n6 b e))
 have C6 := hide c6
 obtain ⟨ua, uc, rfl⟩ := o6.shapeOf
 refine hK.out _ _ (KC.out _ B6.out) (fun hH => ?_)
 clear hK K o6 b6 r6 n6 c6
 (try simp only [nm])
 refine tkO 14 fun K hK => ?_
 go_simp
 refine hK.out _ _ (KC.out _ B6.out) (fun hH => ?_)
 clear hK K
 (try simp only [nm])
 refine tkO 15 fun K hK => ?_
 go_simp
 refine hK.out _ _ (KC.out _ B6.out) (fun hH => ?_)
 clear hK K
 (try simp only [nm])
 have hx6 := (BoxT.below (t := 51) HO1.out.box B6.out)
 have hc6 : w6.cell? ⟨o, 10, none⟩ = some (.slice la l0.length lc) := by rw [hx6.cellAt]; rfl
 have hf6 := hx6.free 10
 refine wpAnyM_last (i := 16) (o := ⟨_, _, _, _, _, _⟩) (by kernel_rfl) (by kernel_rfl) rfl (fun K hK => ?_)
 go_simp
 refine hK.out _ _ ?_
 clear hK K
 (try simp only [nm])
 refine wpAnyM_done (by kernel_rfl) ?_ _
 have PE : Hid (DOp (w6.setCell ⟨o, 10, none⟩ (.slice ua M6.length uc)) o nd (.slice ua M6.length uc) M6 g d) := (show DOp _ _ _ _ _ _ _ from HO1.out.lay B6.out O6.out N6.out)
 have FE : Hid (FT (at1 o) (at1 o) w (w6.setCell ⟨o, 10, none⟩ (.slice ua M6.length uc))) := (show FT _ _ _ _ from (FT.of_below HB1.out).trans (FT.lay B6.out _))
 have NE : Hid (Nw w (.slice la l0.length lc) (.slice ua M6.length uc)) := (show Nw _ _ _ from .inr (fun b e => Nat.le_trans HB1.out.size (N6.out b e)))
 go_wp2_with fail
 go_ret
 exact ⟨rfl, _, M6, PE.out, FE.out, NE.out, C6.out⟩
theorem rNew_any (w : World) (nd : J.Nd) : Calls Tryz.prog 11 #[nd.val] w fun e w' => ∃ o, e = .returned (.pointer (some ⟨o, 0, none⟩)) ∧ DOp w' o nd (.slice none 0 0) [] (-9223372036854775808) 0 ∧ w.heap.size ≤ o ∧ Below w.heap.size w w' := by
 obtain ⟨kind, ia, ic, ins, par, ⟨op, nn, ea, ec, el⟩, ag, k, size, slide⟩ := nd
 unfold J.Nd.val
 simp only
 go_enter Tryz.func11, Tryz.ntmps11
 go_wp2_with fail
 go_ret
 exact ⟨w.heap.size + 1, rfl, ⟨BoxT.new_at (by simp), LSeg.nil' _ _ _ _, fun h => absurd rfl h⟩, by omega, below_box2 w _ _⟩
def RsPost (w : World) (o : Nat) (nd : J.Nd) (lv : Value) (l0 : List Pn) (g d : Int) (L : List Rc) (e : Ending) (w' : World) : Prop := ∃ u, e = .returned u ∧ LSeg 3 Rc.cs w'.heap.size w' u L ∧ DOp w' o nd lv l0 g d ∧ Below w.heap.size w w'
theorem one_rc {w : World} (k t v : Int) : LSeg 3 Rc.cs (w.alloc (.cells #[.int .i64 k, .int .i64 t, .int .i64 v] 38)).heap.size (w.alloc (.cells #[.int .i64 k, .int .i64 t, .int .i64 v] 38)) (.slice (some ⟨w.heap.size, 0, none⟩) 1 1) [⟨k, t, v⟩] := by
 have hb := BoxT.new 38 w #[.int .i64 k, .int .i64 t, .int .i64 v]
 refine ⟨_, _, rfl, by simp, .inr ⟨w.heap.size, 0, rfl, by simp, fun i x hi j u hu => ?_⟩⟩
 match i, hi with
 | 0, hi =>
  obtain rfl : (⟨k, t, v⟩ : Rc) = x := by simpa using hi
  rw [hb.cellAt]
  simpa [Rc.cs] using hu
 | i + 1, hi => simp at hi
theorem one_at {w : World} {b : Nat} (h : b = w.heap.size) (k t v : Int) : LSeg 3 Rc.cs (w.alloc (.cells #[.int .i64 k, .int .i64 t, .int .i64 v] 38)).heap.size (w.alloc (.cells #[.int .i64 k, .int .i64 t, .int .i64 v] 38)) (.slice (some ⟨b, 0, none⟩) 1 1) [⟨k, t, v⟩] := by
 subst h
 exact one_rc k t v
theorem rRecord_map {w : World} {o : Nat} {nd : J.Nd} {lv : Value} {l0 : List Pn} {g d : Int} (h : DOp w o nd lv l0 g d) (hk : nd.kind = 2) (hin : J.In w nd.e) (hf : J.formed nd.e = true) (rk rt rv : Int) :
  Calls Tryz.prog 15 #[.pointer (some ⟨o, 0, none⟩), .agg #[.int .i64 rk, .int .i64 rt, .int .i64 rv]] w (RsPost w o nd lv l0 g d [⟨rk, rt, J.evl ⟨rk, rt, rv⟩ nd.e⟩]) := by
 have HB1 := hide (below_box w (.cells #[.int .i64 rk, .int .i64 rt, .int .i64 rv] 38))
 have HX1 := hide (BoxT.new 38 w #[.int .i64 rk, .int .i64 rt, .int .i64 rv])
 have HO1 := hide (h.below HB1.out)
 have ck0 : w.cell? ⟨o, 0, none⟩ = some (.int .i64 nd.kind) := h.box.cellAt 0
 have ck : (w.alloc (.cells #[.int .i64 rk, .int .i64 rt, .int .i64 rv] 38)).cell? ⟨o, 0, none⟩ = some (.int .i64 nd.kind) := (HB1.out.cell (p := ⟨o, 0, none⟩) h.box.lt).trans ck0
 rw [hk] at ck
 have HEV := hide (fun W (hb : Below w.heap.size w W) => rEval_any rk rt rv nd.e W (hin.below hb) hf)
 clear h hin hf ck0 hk
 unfold RsPost J.Ex.val at *
 generalize J.evl ⟨rk, rt, rv⟩ nd.e = q at *
 obtain ⟨V, hV⟩ : ∃ V, V = w.alloc (.cells #[.int .i64 rk, .int .i64 rt, .int .i64 rv] 38) := ⟨_, rfl⟩
 rw [← hV] at HB1 HX1 HO1 ck
 have HV := hide hV
 clear hV
 have KC := hide (show ∀ w' : World, Below V.heap.size V w' → (w'.cell? ⟨o, 3, none⟩ = some (.int .i64 nd.e.op) ∧ w'.cell? ⟨o, 4, none⟩ = some (.int .i64 nd.e.n) ∧ w'.cell? ⟨o, 5, none⟩ = some (.slice nd.e.a nd.e.l.length nd.e.c)) ∧ w'.cell? ⟨w.heap.size, 0, none⟩ = some (.int .i64 rk) ∧ w'.cell? ⟨w.heap.size, 1, none⟩ = some (.int .i64 rt) ∧ w'.cell? ⟨w.heap.size, 2, none⟩ = some (.int .i64 rv) from fun w' h => ⟨⟨(HO1.out.below h).box.cellAt 3, (HO1.out.below h).box.cellAt 4, (HO1.out.below h).box.cellAt 5⟩, (HX1.out.below h).cells3⟩)
 have BD : Hid (Below V.heap.size V V.drew) := (Below.refl _ _).drew
 obtain ⟨⟨y3, y4, y5⟩, r0, r1, r2⟩ := KC.out _ BD.out
 have HE := hide (HEV.out V.drew (HB1.out.trans (BD.out.mono HB1.out.size)))
 go_enter Tryz.func15, Tryz.ntmps15
 go_upto_region 1 with fail
 refine wp_at (fun V' => V' = V) HV.out.symm ?_
 rintro V' rfl
 clear HV
 go_upto_region 3 with fail
 go_region_held3 (fun w' => (w'.cell? ⟨o, 3, none⟩ = some (.int .i64 nd.e.op) ∧ w'.cell? ⟨o, 4, none⟩ = some (.int .i64 nd.e.n) ∧ w'.cell? ⟨o, 5, none⟩ = some (.slice nd.e.a nd.e.l.length nd.e.c)) ∧ w'.cell? ⟨w.heap.size, 0, none⟩ = some (.int .i64 rk) ∧ w'.cell? ⟨w.heap.size, 1, none⟩ = some (.int .i64 rt) ∧ w'.cell? ⟨w.heap.size, 2, none⟩ = some (.int .i64 rv)) (first | go_keep | exact ⟨⟨y3, y4, y5⟩, r0, r1, r2⟩ | exact ⟨⟨z3, z4, z5⟩, s0, s1, s2⟩)
  (first | (go_at_call 28; refine HE.out.mono ?_; rintro e w2 ⟨rfl, b2⟩; have B2 := hide (BD.out.trans b2); obtain ⟨⟨z3, z4, z5⟩, s0, s1, s2⟩ := KC.out _ B2.out; clear b2) | fail)
 go_wp2_with fail
 go_ret
 exact ⟨_, rfl, one_rc rk rt q, (HO1.out.below B2.out).below (below_box _ _), (HB1.out.trans (B2.out.mono HB1.out.size)).alloc (by have := B2.out.size; have := HB1.out.size; omega) _⟩
theorem rRecord_key {w : World} {o : Nat} {nd : J.Nd} {lv : Value} {l0 : List Pn} {g d : Int} (h : DOp w o nd lv l0 g d) (hk : nd.kind = 4) (hin : J.In w nd.e) (hf : J.formed nd.e = true) (rk rt rv : Int) :
  Calls Tryz.prog 15 #[.pointer (some ⟨o, 0, none⟩), .agg #[.int .i64 rk, .int .i64 rt, .int .i64 rv]] w (RsPost w o nd lv l0 g d [⟨J.evl ⟨rk, rt, rv⟩ nd.e, rt, rv⟩]) := by
 have HB1 := hide (below_box w (.cells #[.int .i64 rk, .int .i64 rt, .int .i64 rv] 38))
 have HX1 := hide (BoxT.new 38 w #[.int .i64 rk, .int .i64 rt, .int .i64 rv])
 have HO1 := hide (h.below HB1.out)
 have ck0 : w.cell? ⟨o, 0, none⟩ = some (.int .i64 nd.kind) := h.box.cellAt 0
 have ck : (w.alloc (.cells #[.int .i64 rk, .int .i64 rt, .int .i64 rv] 38)).cell? ⟨o, 0, none⟩ = some (.int .i64 nd.kind) := (HB1.out.cell (p := ⟨o, 0, none⟩) h.box.lt).trans ck0
 rw [hk] at ck
 have HEV := hide (fun W (hb : Below w.heap.size w W) => rEval_any rk rt rv nd.e W (hin.below hb) hf)
 clear h hin hf ck0 hk
 unfold RsPost J.Ex.val at *
 generalize J.evl ⟨rk, rt, rv⟩ nd.e = q at *
 obtain ⟨V, hV⟩ : ∃ V, V = w.alloc (.cells #[.int .i64 rk, .int .i64 rt, .int .i64 rv] 38) := ⟨_, rfl⟩
 rw [← hV] at HB1 HX1 HO1 ck
 have HV := hide hV
 clear hV
 have KC := hide (show ∀ w' : World, Below V.heap.size V w' → (w'.cell? ⟨o, 3, none⟩ = some (.int .i64 nd.e.op) ∧ w'.cell? ⟨o, 4, none⟩ = some (.int .i64 nd.e.n) ∧ w'.cell? ⟨o, 5, none⟩ = some (.slice nd.e.a nd.e.l.length nd.e.c)) ∧ w'.cell? ⟨w.heap.size, 0, none⟩ = some (.int .i64 rk) ∧ w'.cell? ⟨w.heap.size, 1, none⟩ = some (.int .i64 rt) ∧ w'.cell? ⟨w.heap.size, 2, none⟩ = some (.int .i64 rv) from fun w' h => ⟨⟨(HO1.out.below h).box.cellAt 3, (HO1.out.below h).box.cellAt 4, (HO1.out.below h).box.cellAt 5⟩, (HX1.out.below h).cells3⟩)
 have BD : Hid (Below V.heap.size V V.drew) := (Below.refl _ _).drew
 obtain ⟨⟨y3, y4, y5⟩, r0, r1, r2⟩ := KC.out _ BD.out
 have HE := hide (HEV.out V.drew (HB1.out.trans (BD.out.mono HB1.out.size)))
 go_enter Tryz.func15, Tryz.ntmps15
 go_upto_region 1 with fail
 refine wp_at (fun V' => V' = V) HV.out.symm ?_
 rintro V' rfl
 clear HV
 go_upto_region 9 with fail
 go_region_held3 (fun w' => (w'.cell? ⟨o, 3, none⟩ = some (.int .i64 nd.e.op) ∧ w'.cell? ⟨o, 4, none⟩ = some (.int .i64 nd.e.n) ∧ w'.cell? ⟨o, 5, none⟩ = some (.slice nd.e.a nd.e.l.length nd.e.c)) ∧ w'.cell? ⟨w.heap.size, 0, none⟩ = some (.int .i64 rk) ∧ w'.cell? ⟨w.heap.size, 1, none⟩ = some (.int .i64 rt) ∧ w'.cell? ⟨w.heap.size, 2, none⟩ = some (.int .i64 rv)) (first | go_keep | exact ⟨⟨y3, y4, y5⟩, r0, r1, r2⟩ | exact ⟨⟨z3, z4, z5⟩, s0, s1, s2⟩)
  (first | (go_at_call 28; refine HE.out.mono ?_; rintro e w2 ⟨rfl, b2⟩; have B2 := hide (BD.out.trans b2); obtain ⟨⟨z3, z4, z5⟩, s0, s1, s2⟩ := KC.out _ B2.out; clear b2) | fail)
 go_wp2_with fail
 go_ret
 exact ⟨_, rfl, one_rc q rt rv, (HO1.out.below B2.out).below (below_box _ _), (HB1.out.trans (B2.out.mono HB1.out.size)).alloc (by have := B2.out.size; have := HB1.out.size; omega) _⟩
theorem rRecord_flt {w : World} {o : Nat} {nd : J.Nd} {lv : Value} {l0 : List Pn} {g d : Int} (h : DOp w o nd lv l0 g d) (hk : nd.kind = 3) (hin : J.In w nd.e) (hf : J.formed nd.e = true) (rk rt rv : Int) :
  Calls Tryz.prog 15 #[.pointer (some ⟨o, 0, none⟩), .agg #[.int .i64 rk, .int .i64 rt, .int .i64 rv]] w (RsPost w o nd lv l0 g d (if J.evl ⟨rk, rt, rv⟩ nd.e = 0 then [] else [⟨rk, rt, rv⟩])) := by
 have HB1 := hide (below_box w (.cells #[.int .i64 rk, .int .i64 rt, .int .i64 rv] 38))
 have HX1 := hide (BoxT.new 38 w #[.int .i64 rk, .int .i64 rt, .int .i64 rv])
 have HO1 := hide (h.below HB1.out)
 have ck0 : w.cell? ⟨o, 0, none⟩ = some (.int .i64 nd.kind) := h.box.cellAt 0
 have ck : (w.alloc (.cells #[.int .i64 rk, .int .i64 rt, .int .i64 rv] 38)).cell? ⟨o, 0, none⟩ = some (.int .i64 nd.kind) := (HB1.out.cell (p := ⟨o, 0, none⟩) h.box.lt).trans ck0
 rw [hk] at ck
 have HEV := hide (fun W (hb : Below w.heap.size w W) => rEval_any rk rt rv nd.e W (hin.below hb) hf)
 clear h hin hf ck0 hk
 unfold RsPost J.Ex.val at *
 generalize J.evl ⟨rk, rt, rv⟩ nd.e = q at *
 by_cases hq : q = 0
 ·have b1 : (q == 0) = true := by simp [hq]
  rw [if_pos hq]
  clear hq
  obtain ⟨V, hV⟩ : ∃ V, V = w.alloc (.cells #[.int .i64 rk, .int .i64 rt, .int .i64 rv] 38) := ⟨_, rfl⟩
  rw [← hV] at HB1 HX1 HO1 ck
  have HV := hide hV
  clear hV
  have KC := hide (show ∀ w' : World, Below V.heap.size V w' → (w'.cell? ⟨o, 3, none⟩ = some (.int .i64 nd.e.op) ∧ w'.cell? ⟨o, 4, none⟩ = some (.int .i64 nd.e.n) ∧ w'.cell? ⟨o, 5, none⟩ = some (.slice nd.e.a nd.e.l.length nd.e.c)) ∧ w'.cell? ⟨w.heap.size, 0, none⟩ = some (.int .i64 rk) ∧ w'.cell? ⟨w.heap.size, 1, none⟩ = some (.int .i64 rt) ∧ w'.cell? ⟨w.heap.size, 2, none⟩ = some (.int .i64 rv) from fun w' h => ⟨⟨(HO1.out.below h).box.cellAt 3, (HO1.out.below h).box.cellAt 4, (HO1.out.below h).box.cellAt 5⟩, (HX1.out.below h).cells3⟩)
  have BD : Hid (Below V.heap.size V V.drew) := (Below.refl _ _).drew
  obtain ⟨⟨y3, y4, y5⟩, r0, r1, r2⟩ := KC.out _ BD.out
  have HE := hide (HEV.out V.drew (HB1.out.trans (BD.out.mono HB1.out.size)))
  go_enter Tryz.func15, Tryz.ntmps15
  go_upto_region 1 with fail
  refine wp_at (fun V' => V' = V) HV.out.symm ?_
  rintro V' rfl
  clear HV
  go_upto_region 5 with fail
  go_region_held3 (fun w' => (w'.cell? ⟨o, 3, none⟩ = some (.int .i64 nd.e.op) ∧ w'.cell? ⟨o, 4, none⟩ = some (.int .i64 nd.e.n) ∧ w'.cell? ⟨o, 5, none⟩ = some (.slice nd.e.a nd.e.l.length nd.e.c)) ∧ w'.cell? ⟨w.heap.size, 0, none⟩ = some (.int .i64 rk) ∧ w'.cell? ⟨w.heap.size, 1, none⟩ = some (.int .i64 rt) ∧ w'.cell? ⟨w.heap.size, 2, none⟩ = some (.int .i64 rv)) (first | go_keep | exact ⟨⟨y3, y4, y5⟩, r0, r1, r2⟩ | exact ⟨⟨z3, z4, z5⟩, s0, s1, s2⟩)
   (first | (go_at_call 28; refine HE.out.mono ?_; rintro e w2 ⟨rfl, b2⟩; have B2 := hide (BD.out.trans b2); obtain ⟨⟨z3, z4, z5⟩, s0, s1, s2⟩ := KC.out _ B2.out; clear b2) | fail)
  go_wp2_with fail
  go_ret
  exact ⟨_, rfl, LSeg.nil' _ _ _ _, HO1.out.below B2.out, HB1.out.trans (B2.out.mono HB1.out.size)⟩
 ·have b1 : (q == 0) = false := by simp [hq]
  rw [if_neg hq]
  clear hq
  obtain ⟨V, hV⟩ : ∃ V, V = w.alloc (.cells #[.int .i64 rk, .int .i64 rt, .int .i64 rv] 38) := ⟨_, rfl⟩
  rw [← hV] at HB1 HX1 HO1 ck
  have HV := hide hV
  clear hV
  have KC := hide (show ∀ w' : World, Below V.heap.size V w' → (w'.cell? ⟨o, 3, none⟩ = some (.int .i64 nd.e.op) ∧ w'.cell? ⟨o, 4, none⟩ = some (.int .i64 nd.e.n) ∧ w'.cell? ⟨o, 5, none⟩ = some (.slice nd.e.a nd.e.l.length nd.e.c)) ∧ w'.cell? ⟨w.heap.size, 0, none⟩ = some (.int .i64 rk) ∧ w'.cell? ⟨w.heap.size, 1, none⟩ = some (.int .i64 rt) ∧ w'.cell? ⟨w.heap.size, 2, none⟩ = some (.int .i64 rv) from fun w' h => ⟨⟨(HO1.out.below h).box.cellAt 3, (HO1.out.below h).box.cellAt 4, (HO1.out.below h).box.cellAt 5⟩, (HX1.out.below h).cells3⟩)
  have BD : Hid (Below V.heap.size V V.drew) := (Below.refl _ _).drew
  obtain ⟨⟨y3, y4, y5⟩, r0, r1, r2⟩ := KC.out _ BD.out
  have HE := hide (HEV.out V.drew (HB1.out.trans (BD.out.mono HB1.out.size)))
  go_enter Tryz.func15, Tryz.ntmps15
  go_upto_region 1 with fail
  refine wp_at (fun V' => V' = V) HV.out.symm ?_
  rintro V' rfl
  clear HV
  go_upto_region 5 with fail
  go_region_held3 (fun w' => (w'.cell? ⟨o, 3, none⟩ = some (.int .i64 nd.e.op) ∧ w'.cell? ⟨o, 4, none⟩ = some (.int .i64 nd.e.n) ∧ w'.cell? ⟨o, 5, none⟩ = some (.slice nd.e.a nd.e.l.length nd.e.c)) ∧ w'.cell? ⟨w.heap.size, 0, none⟩ = some (.int .i64 rk) ∧ w'.cell? ⟨w.heap.size, 1, none⟩ = some (.int .i64 rt) ∧ w'.cell? ⟨w.heap.size, 2, none⟩ = some (.int .i64 rv)) (first | go_keep | exact ⟨⟨y3, y4, y5⟩, r0, r1, r2⟩ | exact ⟨⟨z3, z4, z5⟩, s0, s1, s2⟩)
   (first | (go_at_call 28; refine HE.out.mono ?_; rintro e w2 ⟨rfl, b2⟩; have B2 := hide (BD.out.trans b2); obtain ⟨⟨z3, z4, z5⟩, s0, s1, s2⟩ := KC.out _ B2.out; clear b2) | fail)
  go_wp2_with fail
  go_ret
  exact ⟨_, rfl, one_rc rk rt rv, (HO1.out.below B2.out).below (below_box _ _), (HB1.out.trans (B2.out.mono HB1.out.size)).alloc (by have := B2.out.size; have := HB1.out.size; omega) _⟩
theorem rRecord_pas {w : World} {o : Nat} {nd : J.Nd} {lv : Value} {l0 : List Pn} {g d : Int} (h : DOp w o nd lv l0 g d) (hk : nd.kind = 1 ∨ nd.kind = 5 ∨ nd.kind = 8) (rk rt rv : Int) :
  Calls Tryz.prog 15 #[.pointer (some ⟨o, 0, none⟩), .agg #[.int .i64 rk, .int .i64 rt, .int .i64 rv]] w (RsPost w o nd lv l0 g d [⟨rk, rt, rv⟩]) := by
 have HB1 := hide (below_box w (.cells #[.int .i64 rk, .int .i64 rt, .int .i64 rv] 38))
 have HX1 := hide (BoxT.new 38 w #[.int .i64 rk, .int .i64 rt, .int .i64 rv])
 have HO1 := hide (h.below HB1.out)
 have ck0 : w.cell? ⟨o, 0, none⟩ = some (.int .i64 nd.kind) := h.box.cellAt 0
 have ck : (w.alloc (.cells #[.int .i64 rk, .int .i64 rt, .int .i64 rv] 38)).cell? ⟨o, 0, none⟩ = some (.int .i64 nd.kind) := (HB1.out.cell (p := ⟨o, 0, none⟩) h.box.lt).trans ck0
 clear h ck0
 rcases hk with hk | hk | hk
 all_goals
  rw [hk] at ck
  go_enter Tryz.func15, Tryz.ntmps15
  go_wp2_with fail
  go_ret
  exact ⟨_, rfl, one_at (by simp) rk rt rv, HO1.out.below (below_box _ _), HB1.out.alloc HB1.out.size _⟩
end Go.Proofs.YtpcbhcdpegbfjaaGreat
