/-
  Texts in build order: SNew, SEnd, SWFire, SFireP, SFire, SHelp, SLawP, OWin.
-/
import Derived.Test.YtpcbhcdpegbfjaaGreatM25
import Derived.Carry
import Derived.Test.YtpcbhcdpegbfjaaGreatM23
/-
  New, Load.
-/
namespace Go.Proofs.YtpcbhcdpegbfjaaGreat
open Go.RowKit

theorem Row.seg {α : Type} {t sz : Nat} {cs : α → List Value} {base : Nat} {w : World} {v : Value} {xs : List α} (h : Row t sz cs base w v xs) (hcs : ∀ x, (cs x).length = sz) (hl : xs.length ≤ 140737488355328) : LSeg sz cs w.heap.size w v xs := by
  rcases h with ⟨rfl, rfl⟩ | ⟨g, off, cap, cur, rfl, h2, h3, h4, h5, h6, h7⟩
  · exact LSeg.nil' _ _ _ _
  · refine ⟨_, cap, rfl, hl, .inr ⟨g, off, rfl, h3.lt, fun i x hi j u hu => ?_⟩⟩
    rw [h3.cellAt, Nat.add_assoc]
    exact h7 _ u (flat_get hcs xs i j x u hi hu)
theorem fresh_state {w : World} {s m o : Nat} {kd size slide ag : Int} (hb : BoxT 117 w s #[.int .i64 kd, .int .i64 size, .int .i64 slide, .int .i64 ag, .map (some m), .map (some o)]) (hm : MapAt Tryz.prog 150 w m []) (ho : MapAt Tryz.prog 2 w o []) (hmo : m ≠ o) : StAt w s m o kd size slide ag (fun i => i = o) [] [] := by
  have hso : ¬ s = o := fun e => by
    obtain ⟨es, ck, h1⟩ := ho.isMap
    unfold BoxT at hb
    rw [e, h1] at hb
    cases hb
  exact ⟨hb, hm, ⟨ho, fun r hr => (by cases hr), fun r hr => (by cases hr), .nil, rfl, fun i hi => hi ▸ ho.lt⟩, fun x hx => (by cases hx), hso, hmo, ⟨fun _ => rfl, fun _ x hx => (by cases hx), fun r hr => (by cases hr), fun r hr => (by cases hr)⟩⟩
theorem made_at (P : Program) (K : TypeId) (w : World) {n : Nat} (hn : n = w.heap.size) : MapAt P K (w.alloc (.map #[] 0)) n [] := by subst hn; exact MapAt.made P K w
theorem MapAt.alloc {P : Program} {K : TypeId} {w : World} {b : Nat} {M : List (Value × Value)} (h : MapAt P K w b M) (o : Obj) : MapAt P K (w.alloc o) b M := h.back (Below.heap_alloc w o b h.lt)
set_option maxHeartbeats 8000000 in
set_option maxRecDepth 100000 in
theorem New_any (w : World) (kd size slide ag : Int) : Calls Tryz.prog 39 #[.agg #[.int .i64 kd, .int .i64 size, .int .i64 slide], .int .i64 ag] w fun e w' => ∃ s fp, e = .returned (.pointer (some ⟨s, 0, none⟩)) ∧ SA w' s kd size slide ag fp [] ∧ (∀ i, fp i → w.heap.size ≤ i) ∧ Below w.heap.size w w' := by
  have hmm := @run_makeMap Tryz.prog
  go_enter Tryz.func39, Tryz.ntmps39
  go_wp2_with fail
  go_ret
  refine ⟨w.heap.size + 1 + 1 + 1, FP (w.heap.size + 1 + 1 + 1) (w.heap.size + 1) (fun i => i = w.heap.size + 1 + 1), rfl, ⟨w.heap.size + 1, w.heap.size + 1 + 1, _, _, fresh_state (BoxT.new_at (t := 117) (by simp)) (((made_at _ _ _ (by simp)).alloc _).alloc _) ((made_at _ _ _ (by simp)).alloc _) (by omega), fun _ => Iff.rfl⟩, fun i hi => ?_, ?_⟩
  · rcases hi with e | e | e <;> omega
  · exact ((((Below.refl _ _).alloc (Nat.le_refl _) _).alloc (by simp) _).alloc (by simp; omega) _).alloc (by simp; omega) _
structure LdI (w wr : World) (s m o : Nat) (kd size slide ag : Int) (fp : Nat → Prop) (fq' : Nat → Prop) (M' : List Pn) (R' : List SRow) (u : Value) (L : List Pn) : Prop where
  st : StAt wr s m o kd size slide ag fq' M' R'
  ft : FT fp (FP s m fq') w wr
  row : LSeg 4 Pn.cs wr.heap.size wr u L
  n2 : ∀ g, u.ownBlock = some g → ¬ FP s m fq' g
theorem LSeg.off {w w' : World} {u : Value} {L : List Pn} (h : LSeg 4 Pn.cs w.heap.size w u L) (hb : ∀ g, u.ownBlock = some g → w'.heap[g]? = w.heap[g]?) (hs : w.heap.size ≤ w'.heap.size) : LSeg 4 Pn.cs w'.heap.size w' u L := by
  obtain ⟨ao, cap, rfl, hl, hc⟩ := h
  refine ⟨ao, cap, rfl, hl, ?_⟩
  rcases hc with hc | ⟨b, off, rfl, hbl, hc⟩
  · exact .inl hc
  · refine .inr ⟨b, off, rfl, by omega, fun i x hx j v hv => ?_⟩
    have h1 := hc i x hx j v hv
    rw [World.cell?] at h1 ⊢
    rw [hb b rfl]; exact h1
theorem LdI.step {w wr w' W : World} {s m o : Nat} {kd size slide ag : Int} {fp fq' fq'' : Nat → Prop} {M' M'' : List Pn} {R' R'' : List SRow} {u : Value} {L : List Pn} (h : LdI w wr s m o kd size slide ag fp fq' M' R' u L) (hb : Below wr.heap.size wr W) (hst : StAt w' s m o kd size slide ag fq'' M'' R'') (hft : FT (FP s m fq') (FP s m fq'') W w') (hlt : ∀ g, u.ownBlock = some g → g < wr.heap.size) : LdI w w' s m o kd size slide ag fp fq'' M'' R'' u L := by
  have sz := hb.size
  have s2 := hft.size
  refine ⟨hst, (h.ft.trans (FT.of_below hb)).trans hft, h.row.off (fun g e => (hft.block g (by have := hlt g e; omega) (h.n2 g e)).trans (hb.block g (hlt g e))) (by omega), fun g e e2 => ?_⟩
  rcases hft.sub g e2 with e3 | e3
  · exact h.n2 g e e3
  · have := hlt g e; omega
end Go.Proofs.YtpcbhcdpegbfjaaGreat
/-
  end: the sessions whose watermark has come are gone.
-/
namespace Go.Proofs.YtpcbhcdpegbfjaaGreat
open Go.RowKit

def endR (mk : Int) (r : SRow) : List Sp := keepO mk r.l
structure EI (w wr : World) (o : Nat) (fq : Nat → Prop) (R D T : List SRow) (mk : Int) (E : List SRow) : Prop where
  rg : RangeAt Tryz.prog 2 wr o (w.heap.size + 1) ((E ++ T).map sEnt) (T.map sEnt)
  om : OM wr o fq (E ++ T)
  ft : FT fq fq w wr
  kb : BoxT 2 wr w.heap.size #[.int .i64 mk]
  all : R.Perm (D ++ T)
  dn : E.map (fun r => (r.k, r.l)) = (D.filter (fun r => !(endR mk r).isEmpty)).map (fun r => (r.k, endR mk r))
theorem OM.others {w1 w2 w3 : World} {o : Nat} {fq : Nat → Prop} {r : SRow} {Q : List SRow} (h : OM w1 o fq (r :: Q)) (hg : w1.grownBy w2 r.v.ownBlock) (ht : MTurn w2 w3 o) (hm : MapAt Tryz.prog 2 w3 o (Q.map sEnt)) : OM w3 o fq Q := by
  have hap := List.pairwise_cons.1 h.apart
  have s2 := hg.size
  refine ⟨hm, fun q hq => ?_, fun q hq => h.fr q (List.mem_cons_of_mem _ hq), hap.2, h.fo, fun i hi => by rw [ht.size]; exact Nat.lt_of_lt_of_le (h.flt i hi) s2⟩
  obtain ⟨q1, q2, q3⟩ := h.rows q (List.mem_cons_of_mem _ hq)
  refine ⟨q1.back (fun g e => ?_), q2, q3⟩
  have hgo : g ≠ o := fun e' => by
    obtain ⟨cu, hcu⟩ := q1.has g e
    obtain ⟨es, ck, hes⟩ := h.op.isMap
    rw [e', hes] at hcu; cases hcu
  rw [ht.other hgo]
  exact hg.block g (q1.lt g e) (fun e' => hap.1 q hq (e'.symm.trans e.symm))
theorem OM.swap {w1 w2 w3 : World} {o : Nat} {fq : Nat → Prop} {r : SRow} {Q : List SRow} (h : OM w1 o fq (r :: Q)) (hg : w1.grownBy w2 r.v.ownBlock) {v' : Value} {l' : List Sp} (ho : OwnL 72 2 Sp.cs 0 w2 v' l') (hl : l' ≠ []) (hin : ∀ g, v'.ownBlock = some g → r.v.ownBlock = some g) (ht : MTurn w2 w3 o) (hm : MapAt Tryz.prog 2 w3 o ((⟨r.k, v', l'⟩ :: Q : List SRow).map sEnt)) : OM w3 o fq (⟨r.k, v', l'⟩ :: Q) := by
  have hap := List.pairwise_cons.1 h.apart
  have s2 := hg.size
  have hkr := h.rows r (List.mem_cons_self ..)
  refine ⟨hm, fun q hq => ?_, fun q hq g e => ?_, List.pairwise_cons.2 ⟨fun q hq e => ?_, hap.2⟩, h.fo, fun i hi => by rw [ht.size]; exact Nat.lt_of_lt_of_le (h.flt i hi) s2⟩
  · rcases List.mem_cons.1 hq with rfl | hq
    · refine ⟨ho.back (fun g e => ht.other (fun e' => ?_)), hl, hkr.2.2⟩
      obtain ⟨cu, hcu⟩ := hkr.1.has g (hin g e)
      obtain ⟨es, ck, hes⟩ := h.op.isMap
      rw [e', hes] at hcu; cases hcu
    · obtain ⟨q1, q2, q3⟩ := h.rows q (List.mem_cons_of_mem _ hq)
      refine ⟨q1.back (fun g e => ?_), q2, q3⟩
      have hgo : g ≠ o := fun e' => by
        obtain ⟨cu, hcu⟩ := q1.has g e
        obtain ⟨es, ck, hes⟩ := h.op.isMap
        rw [e', hes] at hcu; cases hcu
      rw [ht.other hgo]
      exact hg.block g (q1.lt g e) (fun e' => hap.1 q hq (e'.symm.trans e.symm))
  · rcases List.mem_cons.1 hq with rfl | hq
    · exact h.fr r (List.mem_cons_self ..) g (hin g e)
    · exact h.fr q (List.mem_cons_of_mem _ hq) g e
  · simp only at e
    rcases ho.2 with ⟨_, q4⟩ | ⟨g, c, cu, q4, _⟩
    · exact hl (List.length_eq_zero_iff.1 q4)
    · have hg' : v'.ownBlock = some g := by rw [q4]; rfl
      rw [hg'] at e
      exact hap.1 q hq ((hin g hg').trans e)
def EPost (w : World) (o : Nat) (fq : Nat → Prop) (R : List SRow) (mk : Int) (e : Ending) (w' : World) : Prop := e = .returned (.tuple #[]) ∧ ∃ E D, OM w' o fq E ∧ FT fq fq w w' ∧ R.Perm D ∧ E.map (fun r => (r.k, r.l)) = (D.filter (fun r => !(endR mk r).isEmpty)).map (fun r => (r.k, endR mk r))
set_option maxHeartbeats 8000000 in
set_option maxRecDepth 100000 in
theorem end_any {w : World} {o : Nat} {fq : Nat → Prop} {R : List SRow} (h : OM w o fq R) (mk : Int) (hn : ∀ r ∈ R, r.l.length ≤ 100000) :
    Calls Tryz.prog 105 #[.map (some o), .int .i64 mk] w (EPost w o fq R mk) := by
  have hb1 := below_box w (.cells #[.int .i64 mk] 2)
  have HOM := hide (h.below hb1)
  have HMP := hide (h.below hb1).op
  have hmf : ∀ (fn : Fn) (first cap : Array Value) (w : World), (Instr.makeFunc fn first cap).run Tryz.prog w = .ok (.func fn first cap) w := fun _ _ _ _ => rfl
  have HH := hide h
  have HNL := hide hn
  have HB1 := hide hb1
  clear h hb1 hn
  go_enter Tryz.func105, Tryz.ntmps105
  go_wp2_with (first | (at_range; refine wp_rangeM _ rfl _ 115 rfl 74 Tryz.underlying115 rfl HMP.out ?_; intro w0 hrg0 hg0 hs0) | fail)
  try go_frame
  rw [show (w.alloc (.cells #[.int .i64 mk] 2)).heap.size = w.heap.size + 1 by simp]
  have H0 : Hid (EI w w0 o fq R [] R mk []) := by
    have hb0 : Below (w.alloc (.cells #[.int .i64 mk] 2)).heap.size (w.alloc (.cells #[.int .i64 mk] 2)) w0 := (Below.refl _ _).grown hg0 (Nat.le_refl _) (fun k e => by cases e)
    have e1 : (w.alloc (.cells #[.int .i64 mk] 2)).heap.size = w.heap.size + 1 := by simp
    rw [e1] at hrg0
    exact ⟨hrg0, HOM.out.below hb0, (FT.of_below HB1.out).trans (FT.of_below hb0), BoxT.below (t := 2) (BoxT.new _ _ _) hb0, .refl _, rfl⟩
  clear hrg0 hg0 hs0 HOM HMP
  go_loopg [4, 5, 8] (R.length + 1) (fun gh _ _ _ wr => ∃ D T E, T.length + 1 ≤ gh ∧ Hid (EI w wr o fq R D T mk E))
  case atStart => exact ⟨[], R, [], Nat.le_refl _, H0⟩
  case round =>
    obtain ⟨D, T, E, hgh, HI⟩ := hrel
    obtain ⟨go, rfl⟩ : ∃ go, gk = go + 1 := ⟨gk - 1, by omega⟩
    have hrg := hide HI.out.rg
    go_wp2_with (first | (at_next; refine wp_nextM sEnt _ rfl _ rfl rfl hrg.out ?_ ?_) | fail)
    · intro hl0
      subst hl0
      go_wp2_with fail
      go_end0
      refine ⟨rfl, E, D, ?_, HI.out.ft, ?_, HI.out.dn⟩
      · have := HI.out.om; rwa [List.append_nil] at this
      · have := HI.out.all; rwa [List.append_nil] at this
    · intro r T' w1 hp hr1 hg1 hs1 hen
      have hl2 := hp.length_eq
      simp only [List.length_cons] at hl2
      have hom0 := (HI.out.om.back (w' := w1) (fun i hi => hg1.block i (HI.out.om.flt i hi) (fun e => by cases e; have := HH.out.flt _ hi; omega)) hg1.size).perm (List.Perm.trans (List.Perm.append_left E hp) List.perm_middle)
      have HOM := hide hom0
      have HK1 : Hid (BoxT 2 w1 w.heap.size #[.int .i64 mk]) := HI.out.kb.grown hg1 (by omega)
      have hro := (hom0.rows r (List.mem_cons_self ..))
      have hmr : r ∈ R := HI.out.all.mem_iff.2 (List.mem_append_right _ (hp.mem_iff.2 (List.mem_cons_self ..)))
      have hnr := HNL.out r hmr
      have hblt : ∀ g, r.v.ownBlock = some g → g < w.heap.size := fun g e => HH.out.flt g (hom0.fr r (List.mem_cons_self ..) g e)
      have HDE := hide (delete_any HK1.out hro.1 (fun e => by have := hblt _ e; omega) (by omega))
      have HFT : Hid (FT fq fq w w1) := ⟨hg1.os.trans HI.out.ft.os, hg1.tape.trans HI.out.ft.tape, hg1.output.trans HI.out.ft.output, Nat.le_trans HI.out.ft.size hg1.size, fun i hi hn => (hg1.block i (Nat.lt_of_lt_of_le hi HI.out.ft.size) (fun e => by cases e; omega)).trans (HI.out.ft.block i hi hn), fun i hi => .inl hi⟩
      have HR1 : Hid (RangeAt Tryz.prog 2 w1 o (w.heap.size + 1) (sEnt r :: (E ++ T').map sEnt) (T'.map sEnt)) := hr1.perm (by have h9 := (List.Perm.trans (List.Perm.append_left E hp) List.perm_middle).map sEnt; rw [List.map_append, List.map_cons] at h9; exact h9) (.refl _)
      have HKE := hide (keyI hro.2.2)
      have HUN : Hid (∀ p ∈ T'.map sEnt, p.1 ≠ (.int .i64 r.k : Value)) := fun p hp' e => by
        have h1 := hom0.op.nodup
        rw [List.map_cons, List.map_cons, List.nodup_cons] at h1
        refine h1.1 ?_
        obtain ⟨q, hq, rfl⟩ := List.mem_map.1 hp'
        refine List.mem_map.2 ⟨sEnt q, List.mem_map.2 ⟨q, List.mem_append_right _ hq, rfl⟩, e⟩
      have HP := hide hp
      have HBL := hide hblt
      have hsh := hro.1.shape
      have hrb := HI.out.rg.lt
      clear hom0 hro hmr hnr hblt hp hr1 hg1 hs1 hrg
      obtain ⟨k, v, l⟩ := r
      simp only [sEnt] at hen
      unfold sEnt
      simp only at *
      obtain ⟨va, vc, rfl⟩ := hsh
      have HR2 : Hid (∀ w2, w1.grownBy w2 (Value.slice va l.length vc).ownBlock → RangeAt Tryz.prog 2 w2 o (w.heap.size + 1) (sEnt ⟨k, .slice va l.length vc, l⟩ :: (E ++ T').map sEnt) (T'.map sEnt)) := fun w2 g2 => HR1.out.back (g2.block _ HR1.out.mapAt.lt (fun e => by
        obtain ⟨cu, hcu⟩ := (HOM.out.rows _ (List.mem_cons_self ..)).1.has _ e.symm
        obtain ⟨es, ck, hes⟩ := HR1.out.mapAt.isMap
        rw [hes] at hcu; cases hcu)) (g2.block _ HR1.out.lt (fun e => by have := HBL.out _ e.symm; omega))
      have HFIN : Hid (∀ (w2 w3 : World) (E' : List SRow), w1.grownBy w2 (Value.slice va l.length vc).ownBlock → MTurn w2 w3 o → RangeAt Tryz.prog 2 w3 o (w.heap.size + 1) ((E' ++ T').map sEnt) (T'.map sEnt) → OM w3 o fq (E' ++ T') → E'.map (fun r => (r.k, r.l)) = ((D ++ [(⟨k, .slice va l.length vc, l⟩ : SRow)]).filter (fun r => !(endR mk r).isEmpty)).map (fun r => (r.k, endR mk r)) → EI w w3 o fq R (D ++ [⟨k, .slice va l.length vc, l⟩]) T' mk E') := fun w2 w3 E' g2 t3 rg3 om3 hd => by
        have hKo : w.heap.size ≠ o := fun e => by have := HH.out.flt o HH.out.fo; omega
        have s2 := g2.size
        refine ⟨rg3, om3, ⟨t3.grown.os.trans (g2.os.trans HFT.out.os), t3.grown.tape.trans (g2.tape.trans HFT.out.tape), t3.grown.output.trans (g2.output.trans HFT.out.output), by have := HFT.out.size; rw [t3.size]; omega, fun i hi hn => ?_, fun i hi => .inl hi⟩, ?_, ?_, hd⟩
        · rw [t3.other (show i ≠ o from fun e => hn (e ▸ HH.out.fo)), g2.block i (Nat.lt_of_lt_of_le hi HFT.out.size) (fun e => hn (HOM.out.fr _ (List.mem_cons_self ..) i e.symm))]
          exact HFT.out.block i hi hn
        · have h1 : BoxT 2 w2 w.heap.size #[.int .i64 mk] := by
            have h2 := g2.block w.heap.size HK1.out.lt (fun e => by have := HBL.out _ e.symm; omega)
            have h3 := HK1.out
            unfold BoxT at *
            rw [h2]; exact h3
          have h4 := t3.other hKo
          unfold BoxT at *
          rw [h4]; exact h1
        · refine HI.out.all.trans ?_
          rw [List.append_assoc]
          exact List.Perm.append_left D HP.out
      have HDN := hide HI.out.dn
      by_cases hE : keepO mk l = []
      · have HDE2 := HDE
        rw [hE] at HDE2
        clear HDE
        have HDE := HDE2
        clear HDE2
        go_wp2_with (first | (go_at_call 115; refine HDE.out.mono ?_; rintro e w2 ⟨v2, rfl, o2, g2, k2⟩; obtain ⟨ua, uc, rfl⟩ := o2.shape; have O2 := hide o2; have G2 := hide g2; have K2 := hide k2; have R2 := hide (HR2.out w2 g2); obtain ⟨w3, hrun3, rg3, mt3⟩ := R2.out.drop_hit Tryz.lawI Tryz.underlying115 HKE.out (R := (E ++ T').map sEnt) (.refl _) HUN.out 0; have RG3 := hide rg3; have MT3 := hide mt3; clear rg3 mt3; clear o2 g2 k2) | fail)
        go_roundg go
        case rel =>
          have hd : E.map (fun r => (r.k, r.l)) = ((D ++ [(⟨k, .slice va l.length vc, l⟩ : SRow)]).filter (fun r => !(endR mk r).isEmpty)).map (fun r => (r.k, endR mk r)) := by
            rw [HDN.out, List.filter_append]
            have : endR mk ⟨k, .slice va l.length vc, l⟩ = [] := hE
            simp [this]
          exact ⟨_, T', E, by omega, hide (HFIN.out w2 w3 E G2.out MT3.out RG3.out (HOM.out.others G2.out MT3.out RG3.out.mapAt) hd)⟩
        case measure => omega
      · have hpos : ¬ ((keepO mk l).length : Int) = 0 := by have : (keepO mk l).length ≠ 0 := fun e => hE (List.length_eq_zero_iff.1 e); omega
        have HKN := hide hE
        generalize hKL : keepO mk l = KL at *
        have HKL := hide hKL
        clear hKL hE
        go_wp2_with (first | (go_at_call 115; refine HDE.out.mono ?_; rintro e w2 ⟨v2, rfl, o2, g2, k2⟩; obtain ⟨ua, uc, rfl⟩ := o2.shape; have O2 := hide o2; have G2 := hide g2; have K2 := hide k2; have R2 := hide (HR2.out w2 g2); obtain ⟨w3, hrun3, rg3, mt3⟩ := R2.out.store_old (v := .slice ua KL.length uc) Tryz.lawI Tryz.underlying115 HKE.out (R := (E ++ T').map sEnt) (.refl _) HUN.out; have RG3 := hide rg3; have MT3 := hide mt3; clear rg3 mt3; clear o2 g2 k2) | (at_mapUpdate; refine wp_putM rfl _ _ _ 115 rfl _ _ _ rfl rfl rfl hrun3 ?_) | fail)
        go_roundg go
        case rel =>
          have hpm : (⟨k, .slice ua KL.length uc, KL⟩ :: (E ++ T') : List SRow).Perm ((E ++ [⟨k, .slice ua KL.length uc, KL⟩]) ++ T') := by
            rw [List.append_assoc]
            exact List.perm_middle.symm
          have hd : (E ++ [(⟨k, .slice ua KL.length uc, KL⟩ : SRow)]).map (fun r => (r.k, r.l)) = ((D ++ [(⟨k, .slice va l.length vc, l⟩ : SRow)]).filter (fun r => !(endR mk r).isEmpty)).map (fun r => (r.k, endR mk r)) := by
            rw [List.map_append, HDN.out, List.filter_append, List.map_append]
            have h1 : endR mk ⟨k, .slice va l.length vc, l⟩ = KL := HKL.out
            have h2 : KL.isEmpty = false := by cases hk : KL with
              | nil => exact absurd hk HKN.out
              | cons _ _ => rfl
            simp [h1, h2]
          have hrg5 : RangeAt Tryz.prog 2 w3 o (w.heap.size + 1) (List.map sEnt ((E ++ [(⟨k, .slice ua KL.length uc, KL⟩ : SRow)]) ++ T')) (T'.map sEnt) := RG3.out.perm (by have h9 := hpm.map sEnt; rw [List.map_cons] at h9; exact h9) (.refl _)
          exact ⟨_, T', _, by omega, hide (HFIN.out w2 w3 _ G2.out MT3.out hrg5 ((HOM.out.swap G2.out O2.out HKN.out K2.out MT3.out RG3.out.mapAt).perm hpm) hd)⟩
        case measure => omega
end Go.Proofs.YtpcbhcdpegbfjaaGreat
/-
  Fire.
-/
namespace Go.Proofs.YtpcbhcdpegbfjaaGreat
open Go.RowKit

def ovr (mk : Int) (p : Pn) : Bool := decide (wrap64 (p.t - 1) ≤ mk)
def rcOf (p : Pn) : Rc := ⟨p.k, wrap64 (p.t - 1), p.a⟩
def outF (mk : Int) (l : List Pn) : List Rc := (l.filter (ovr mk)).map rcOf
def leftF (mk : Int) (l : List Pn) : List Pn := l.filter fun p => !ovr mk p
theorem out_step {mk : Int} {l : List Pn} {i : Nat} {p : Pn} (h : l[i]? = some p) : outF mk (l.take (i + 1)) = if ovr mk p then outF mk (l.take i) ++ [rcOf p] else outF mk (l.take i) := by
  have hlt := lt_of_get h
  have e : l[i] = p := by rw [List.getElem?_eq_getElem hlt] at h; exact Option.some.inj h
  rw [List.take_succ_eq_append_getElem hlt, e]
  unfold outF
  rw [List.filter_append]
  cases hb : ovr mk p <;> simp [hb]
theorem left_step {mk : Int} {l : List Pn} {i : Nat} {p : Pn} (h : l[i]? = some p) : leftF mk (l.take (i + 1)) = if ovr mk p then leftF mk (l.take i) else leftF mk (l.take i) ++ [p] := by
  have hlt := lt_of_get h
  have e : l[i] = p := by rw [List.getElem?_eq_getElem hlt] at h; exact Option.some.inj h
  rw [List.take_succ_eq_append_getElem hlt, e]
  unfold leftF
  rw [List.filter_append]
  cases hb : ovr mk p <;> simp [hb]
theorem out_len (mk : Int) (l : List Pn) : (outF mk l).length ≤ l.length := by
  unfold outF; rw [List.length_map]; exact List.length_filter_le ..
theorem left_len (mk : Int) (l : List Pn) : (leftF mk l).length ≤ l.length := List.length_filter_le ..
theorem take_len {α : Type} (l : List α) (n : Nat) : (l.take n).length ≤ l.length := by rw [List.length_take]; omega
theorem new3 (W : World) {n : Nat} (hn : n = W.heap.size) (x : Rc) (j : Nat) (u : Value) (hu : (Rc.cs x)[j]? = some u) : (W.alloc (.cells #[.int .i64 x.k, .int .i64 x.t, .int .i64 x.v] 38)).cell? ((⟨n, 0, none⟩ : Addr).add j) = some u := by
  have hb : BoxT 38 _ n _ := BoxT.new_at (t := 38) (w := W) (cs := #[.int .i64 x.k, .int .i64 x.t, .int .i64 x.v]) hn
  rw [add_plain2, hb.cellAt, Nat.zero_add]
  have hl := lt_of_get hu
  rw [Rc.cs_len] at hl
  match j, hu with
  | 0, hu | 1, hu | 2, hu => simp [Rc.cs] at hu; subst hu; rfl
theorem OwnL.other {α β : Type} {t t' sz sz' : Nat} {cs : α → List Value} {cs' : β → List Value} {base base' : Nat} {w w' : World} {v v' : Value} {xs : List α} {ys : List β} (h : OwnL t sz cs base w v xs) (h' : OwnL t' sz' cs' base' w v' ys) (hg : w.grownBy w' v'.ownBlock) (ht : t ≠ t') : OwnL t sz cs base w' v xs := by
  refine h.back (fun g e => hg.block g (h.lt g e) (fun e' => ?_))
  obtain ⟨c1, h1⟩ := h.has g e
  obtain ⟨c2, h2⟩ := h'.has g e'.symm
  rw [h1] at h2
  simp at h2
  exact ht h2.2
set_option maxHeartbeats 4000000 in
set_option maxRecDepth 100000 in
theorem Fire_any {w : World} {v : Value} {l : List Pn} (hl : LSeg 4 Pn.cs w.heap.size w v l) (hn : l.length ≤ 100000) (mk : Int) : Calls Tryz.prog 106 #[v, .int .i64 mk] w fun e w' => ∃ u1 u2, e = .returned (.tuple #[u1, u2]) ∧ OwnL 38 3 Rc.cs w.heap.size w' u1 (outF mk (srt l)) ∧ OwnL 79 4 Pn.cs w.heap.size w' u2 (leftF mk (srt l)) ∧ Below w.heap.size w w' := by
  have HS1 := hide (Sort_any hl (by omega))
  obtain ⟨ao, cap, rfl⟩ := hl.shapeOf
  have hsl : (srt l).length ≤ 100000 := by rw [srt_len]; exact hn
  generalize srt l = m at *
  clear hl hn
  go_enter Tryz.func106, Tryz.ntmps106
  go_wp2_with (go_at_call 98; refine HS1.out.mono ?_; rintro e w1 ⟨u, rfl, o1, b1⟩; obtain ⟨ua, uc, rfl⟩ := (o1.seg Pn.cs_len (by omega)).shapeOf; have O1 := hide (o1.seg Pn.cs_len (by omega)); have B1 := hide b1; clear o1 b1)
  clear HS1
  go_loopg [6, 7, 9, 10, 14] (m.length + 1) (fun gh ov lv _ _ iv wr => ∃ i : Nat, iv = .int .i64 (i : Int) ∧ i ≤ m.length ∧ m.length + 1 ≤ gh + i ∧ Hid (OwnL 38 3 Rc.cs w1.heap.size wr ov (outF mk (m.take i))) ∧ Hid (OwnL 79 4 Pn.cs w1.heap.size wr lv (leftF mk (m.take i))) ∧ Hid (Below w1.heap.size w1 wr))
  case atStart => exact ⟨0, rfl, by omega, by omega, OwnL.nil _ _ _ _ _, OwnL.nil _ _ _ _ _, Below.refl _ _⟩
  case round =>
    obtain ⟨i, rfl, hi, hg, GO, GL, GB⟩ := hrel
    obtain ⟨go, rfl⟩ : ∃ go, gk = go + 1 := ⟨gk - 1, by omega⟩
    by_cases hlt : i < m.length
    · obtain ⟨x, hx⟩ := get_of_lt hlt
      have bt : (i : Int) < (m.length : Int) := by omega
      obtain ⟨nb, no, rfl, nlt, e0, e1, e2, e3⟩ := (O1.out.below GB.out).pane hx
      have HOS := hide (out_step (mk := mk) hx)
      have HLS := hide (left_step (mk := mk) hx)
      have HOL : Hid ((outF mk (m.take i)).length ≤ 1000000) := (show _ ≤ _ by have h1 := out_len mk (m.take i); have h2 := take_len m i; omega)
      have HLL : Hid ((leftF mk (m.take i)).length ≤ 1000000) := (show _ ≤ _ by have h1 := left_len mk (m.take i); have h2 := take_len m i; omega)
      generalize outF mk (m.take i) = oi at *
      generalize leftF mk (m.take i) = li at *
      obtain ⟨oa, oc, rfl⟩ := GO.out.shape
      obtain ⟨la, lc, rfl⟩ := GL.out.shape
      clear hx
      obtain ⟨xk, xf, xt, xa⟩ := x
      simp only at e0 e1 e2 e3
      have HOV : Hid (ovr mk ⟨xk, xf, xt, xa⟩ = decide (wrap64 (xt - 1) ≤ mk)) := (show _ = _ from rfl)
      have HRC : Hid (rcOf ⟨xk, xf, xt, xa⟩ = ⟨xk, wrap64 (xt - 1), xa⟩) := (show _ = _ from rfl)
      rw [HOV.out] at HOS HLS
      rw [HRC.out] at HOS
      clear HOV HRC
      have hbx := below_box2 wr (.cells #[.int .i64 xk, .int .i64 xf, .int .i64 xt, .int .i64 xa] 79)
      by_cases ho : wrap64 (xt - 1) ≤ mk
      · rw [decide_eq_true ho, if_pos rfl] at HOS HLS
        have HB3 := hide (hbx (.cells #[.int .i64 xk, .int .i64 (wrap64 (xt - 1)), .int .i64 xa] 38))
        have HO3 := hide (GO.out.below HB3.out)
        have HL3 := hide (GL.out.below HB3.out)
        have HS3 := hide (GB.out.trans (HB3.out.mono GB.out.size))
        have HSZ := hide HS3.out.size
        clear hbx
        go_wp2_with (at_builtin; refine app_L Tryz.infoRc Tryz.underlying43 rfl (by decide) (by decide) Rc.cs_len Rc.cs_one rfl _ _ rfl w1.heap.size _ oi rfl HO3.out _ _ (⟨xk, wrap64 (xt - 1), xa⟩ : Rc) rfl (new3 (wr.alloc _) (by simp) ⟨xk, wrap64 (xt - 1), xa⟩) HOL.out HSZ.out ?_; intro v5 w5 h5 g5 k5)
        go_roundg go
        case rel => exact ⟨i + 1, by go_num, by omega, by omega, (show OwnL _ _ _ _ _ _ _ by rw [HOS.out]; exact h5), (show OwnL _ _ _ _ _ _ _ by rw [HLS.out]; exact HL3.out.other HO3.out g5 (by decide)), HS3.out.grown g5 HSZ.out (fun k e => GO.out.at k e)⟩
        case measure => omega
      · rw [decide_eq_false ho, if_neg (by decide)] at HOS HLS
        have HB3 := hide (hbx (.cells #[.int .i64 xk, .int .i64 xf, .int .i64 xt, .int .i64 xa] 79))
        have HO3 := hide (GO.out.below HB3.out)
        have HL3 := hide (GL.out.below HB3.out)
        have HS3 := hide (GB.out.trans (HB3.out.mono GB.out.size))
        have HSZ := hide HS3.out.size
        clear hbx
        go_wp2_with (at_builtin; refine app_L Tryz.infoPn Tryz.underlying47 rfl (by decide) (by decide) Pn.cs_len Pn.cs_one rfl _ _ rfl w1.heap.size _ li rfl HL3.out _ _ (⟨xk, xf, xt, xa⟩ : Pn) rfl (new4 (wr.alloc _) (by simp) ⟨xk, xf, xt, xa⟩) HLL.out HSZ.out ?_; intro v5 w5 h5 g5 k5)
        go_roundg go
        case rel => exact ⟨i + 1, by go_num, by omega, by omega, (show OwnL _ _ _ _ _ _ _ by rw [HOS.out]; exact HO3.out.other HL3.out g5 (by decide)), (show OwnL _ _ _ _ _ _ _ by rw [HLS.out]; exact h5), HS3.out.grown g5 HSZ.out (fun k e => GL.out.at k e)⟩
        case measure => omega
    · have bt : ¬ (i : Int) < (m.length : Int) := by omega
      have HT : Hid (m.take i = m) := (show _ = _ from List.take_of_length_le (by omega))
      rw [HT.out] at GO GL
      have hbb := B1.out.trans (GB.out.mono B1.out.size)
      have HBB := hide hbb
      clear hbb
      obtain ⟨oa, oc, rfl⟩ := GO.out.shape
      obtain ⟨la, lc, rfl⟩ := GL.out.shape
      go_wp2_with fail
      exact bodyPost_ret (v := .tuple #[.slice oa (outF mk m).length oc, .slice la (leftF mk m).length lc]) (by simp [results, Tryz.results106, go_sem]; try rfl) rfl ⟨_, _, rfl, GO.out.mono B1.out.size, GL.out.mono B1.out.size, HBB.out⟩
end Go.Proofs.YtpcbhcdpegbfjaaGreat
/-
  Fire, the pure side: what is left of panes and sessions when a watermark has come.
-/
namespace Go.Proofs.YtpcbhcdpegbfjaaGreat
open Go.RowKit

theorem ovr_eq (mk : Int) (x : Pn) : ovr mk x = ovm mk ⟨x.f, x.t⟩ := rfl
theorem end_inv {kd : Int} {M : List Pn} {R D E : List SRow} {mk : Int} (h : Inv kd M R) (hp : R.Perm D) (he : E.map (fun r => (r.k, r.l)) = (D.filter (fun r => !(endR mk r).isEmpty)).map (fun r => (r.k, endR mk r))) : Inv kd (leftF mk M) E := by
  have fw : ∀ r ∈ E, ∃ q ∈ R, q.k = r.k ∧ r.l = keepO mk q.l := fun r hr => by
    have h1 : (r.k, r.l) ∈ E.map (fun r => (r.k, r.l)) := List.mem_map.2 ⟨r, hr, rfl⟩
    rw [he] at h1
    obtain ⟨q, hq, e⟩ := List.mem_map.1 h1
    simp only [Prod.mk.injEq] at e
    exact ⟨q, hp.mem_iff.2 (List.mem_filter.1 hq).1, e.1, e.2.symm⟩
  have bw : ∀ q ∈ R, ∀ sp ∈ keepO mk q.l, ∃ r ∈ E, r.k = q.k ∧ sp ∈ r.l := fun q hq sp hs => by
    have h2 : (!(endR mk q).isEmpty) = true := by
      cases hk : endR mk q with
      | nil => rw [show keepO mk q.l = endR mk q from rfl, hk] at hs; cases hs
      | cons _ _ => rfl
    have h1 : (q.k, endR mk q) ∈ (D.filter (fun r => !(endR mk r).isEmpty)).map (fun r => (r.k, endR mk r)) := List.mem_map.2 ⟨q, List.mem_filter.2 ⟨hp.mem_iff.1 hq, h2⟩, rfl⟩
    rw [← he] at h1
    obtain ⟨r, hr, e⟩ := List.mem_map.1 h1
    simp only [Prod.mk.injEq] at e
    exact ⟨r, hr, e.1, by rw [e.2]; exact hs⟩
  refine ⟨fun hk => ?_, fun hk x hx hlt => ?_, fun r hr sp hsp => ?_, fun r hr => ?_⟩
  · have hR := h.none hk
    cases E with
    | nil => rfl
    | cons r T =>
      obtain ⟨q, hq, _⟩ := fw r (List.mem_cons_self ..)
      rw [hR] at hq; cases hq
  · obtain ⟨h1, h2⟩ := List.mem_filter.1 hx
    obtain ⟨q, hq, e1, e2⟩ := h.up hk x h1 hlt
    rw [ovr_eq] at h2
    obtain ⟨r, hr, e3, e4⟩ := bw q hq _ (List.mem_filter.2 ⟨e2, h2⟩)
    exact ⟨r, hr, e3.trans e1, e4⟩
  · obtain ⟨q, hq, e1, e2⟩ := fw r hr
    rw [e2] at hsp
    obtain ⟨h1, h2⟩ := List.mem_filter.1 hsp
    obtain ⟨h3, x, h4, h5, h6, h7⟩ := h.dn q hq sp h1
    refine ⟨h3, x, List.mem_filter.2 ⟨h4, ?_⟩, h5.trans e1, h6, h7⟩
    rw [ovr_eq, h6, h7]; exact h2
  · obtain ⟨q, hq, _, e2⟩ := fw r hr
    rw [e2]
    exact (h.rise q hq).sublist List.filter_sublist
theorem due_left (mk : Int) (M : List Pn) : M.Perm (M.filter (ovr mk) ++ leftF mk M) := (List.filter_append_perm (ovr mk) M).symm
end Go.Proofs.YtpcbhcdpegbfjaaGreat
/-
  State.Fire, walked.
-/
namespace Go.Proofs.YtpcbhcdpegbfjaaGreat
open Go.RowKit

structure FI (w wr : World) (s m o : Nat) (kd size slide ag : Int) (fq : Nat → Prop) (R : List SRow) (L : List Pn) (mk : Int) (u : Value) (c : List Pn) : Prop where
  box : BoxT 117 wr s #[.int .i64 kd, .int .i64 size, .int .i64 slide, .int .i64 ag, .map (some m), .map (some o)]
  mp : MapAt Tryz.prog 150 wr m (L.map pEnt)
  om : OM wr o fq R
  ft : FT (FP s m fq) (FP s m fq) w wr
  kb : BoxT 2 wr w.heap.size #[.int .i64 mk]
  row : OwnL 79 4 Pn.cs (w.heap.size + 1) wr u c
  ns : ¬ fq s
  nm : ¬ fq m
  lt : ∀ i, FP s m fq i → i < w.heap.size
section
variable {w wr w' : World} {s m o : Nat} {kd size slide ag : Int} {fq : Nat → Prop} {R : List SRow} {L : List Pn} {mk : Int} {u : Value} {c : List Pn}
theorem FI.sm (h : FI w wr s m o kd size slide ag fq R L mk u c) : s ≠ m := fun e => by
  obtain ⟨es, ck, h1⟩ := h.mp.isMap
  have h2 := h.box
  unfold BoxT at h2
  rw [e, h1] at h2
  cases h2
theorem FI.below (h : FI w wr s m o kd size slide ag fq R L mk u c) (hb : Below wr.heap.size wr w') : FI w w' s m o kd size slide ag fq R L mk u c :=
  { h with box := BoxT.below (t := 117) h.box hb, mp := h.mp.back (hb.block _ h.mp.lt), om := h.om.below hb, ft := h.ft.trans (FT.of_below hb), kb := BoxT.below (t := 2) h.kb hb, row := h.row.below hb }
theorem FI.cells (h : FI w wr s m o kd size slide ag fq R L mk u c) : wr.cell? ⟨s, 0, none⟩ = some (.int .i64 kd) ∧ wr.cell? ⟨s, 4, none⟩ = some (.map (some m)) ∧ wr.cell? ⟨s, 5, none⟩ = some (.map (some o)) ∧ wr.cell? ⟨w.heap.size, 0, none⟩ = some (.int .i64 mk) := by
  have h1 := h.box
  have h2 := h.kb
  unfold BoxT at h1 h2
  simp [World.cell?, h1, h2]
theorem FI.turn (h : FI w wr s m o kd size slide ag fq R L mk u c) {fp : Nat → Prop} (hf : FT fp fp wr w') (hs : ∀ i, fp i → FP s m fq i) (hns : ¬ fp s) {R' : List SRow} {L' : List Pn} (hm : MapAt Tryz.prog 150 w' m (L'.map pEnt)) (ho : OM w' o fq R') : FI w w' s m o kd size slide ag fq R' L' mk u c := by
  have hk : ∀ g, g < wr.heap.size → ¬ fp g → w'.heap[g]? = wr.heap[g]? := hf.block
  refine ⟨?_, hm, ho, h.ft.trans ⟨hf.os, hf.tape, hf.output, hf.size, fun i hi hn => hf.block i hi (fun e => hn (hs i e)), fun _ h => .inl h⟩, ?_, h.row.back (fun g e => hk g (h.row.lt g e) (fun e' => by have := h.lt g (hs g e'); have := h.row.at g e; omega)), h.ns, h.nm, h.lt⟩
  · have h1 := h.box
    have h2 := hk s h1.lt hns
    unfold BoxT at *
    rw [h2]; exact h1
  · have h1 := h.kb
    have h2 := hk w.heap.size h1.lt (fun e => by have := h.lt _ (hs _ e); omega)
    unfold BoxT at *
    rw [h2]; exact h1
theorem FI.del (h : FI w wr s m o kd size slide ag fq R L mk u c) {L' : List Pn} (hm : MapAt Tryz.prog 150 w' m (L'.map pEnt)) (ht : MTurn wr w' m) : FI w w' s m o kd size slide ag fq R L' mk u c :=
  h.turn (fp := fun i => i = m) (FT.of_grown ht.grown rfl) (fun _ e => .inr (.inl e)) h.sm hm (h.om.back (fun i hi => ht.other (fun e => h.nm (e ▸ hi))) (by rw [ht.size]; exact Nat.le_refl _))
theorem FI.ended (h : FI w wr s m o kd size slide ag fq R L mk u c) {E : List SRow} (ho : OM w' o fq E) (hf : FT fq fq wr w') : FI w w' s m o kd size slide ag fq E L mk u c :=
  h.turn hf (fun _ e => .inr (.inr e)) h.ns (h.mp.back (hf.block _ h.mp.lt h.nm)) ho
end
theorem rows_len {kd : Int} {M : List Pn} {R : List SRow} (h : Inv kd M R) : ∀ r ∈ R, r.l.length ≤ M.length := fun r hr => by
  obtain ⟨G, N, hG⟩ := GI.ex (M := M) (k := r.k) (gone := r.l) (fun sp hs => by obtain ⟨_, x, h1, h2, h3, h4⟩ := h.dn r hr sp hs; exact ⟨x, h1, h2, h3, h4⟩) (fun sp hs => (h.dn r hr sp hs).1) (h.rise r hr) r.l.length (Nat.le_refl _)
  exact hG.le
theorem runFire (args : Array Value) (W : World) : (callFunc 102 args).run Tryz.prog W = .ok (.enter 102 args) W := by kernel_rfl
def F7 (s m P : Nat) (x : Pn) (w' : World) : Prop := w'.cell? ⟨s, 4, none⟩ = some (.map (some m)) ∧ w'.cell? ⟨P, 0, none⟩ = some (.int .i64 x.k) ∧ w'.cell? ⟨P, 1, none⟩ = some (.int .i64 x.f) ∧ w'.cell? ⟨P, 2, none⟩ = some (.int .i64 x.t) ∧ w'.cell? ⟨P, 3, none⟩ = some (.int .i64 x.a)
def F9 (s o K : Nat) (mk : Int) (w' : World) : Prop := w'.cell? ⟨s, 5, none⟩ = some (.map (some o)) ∧ w'.cell? ⟨K, 0, none⟩ = some (.int .i64 mk)
theorem OwnL.own {t sz : Nat} {cs : Rc → List Value} {base : Nat} {w : World} {v : Value} {l : List Rc} (h : OwnL t sz cs base w v l) (hl : 0 < l.length) : ∃ g cap, v = .slice (some ⟨g, 0, none⟩) l.length cap := by
  rcases h.2 with ⟨_, e⟩ | ⟨g', cap', cur, e, _⟩
  · omega
  · exact ⟨g', cap', e⟩
def FrPost (w : World) (s m o : Nat) (kd size slide ag : Int) (fq : Nat → Prop) (M : List Pn) (mk : Int) (out : List Rc) (e : Ending) (w' : World) : Prop := ∃ u E, e = .returned u ∧ OwnL 38 3 Rc.cs w.heap.size w' u out ∧ StAt w' s m o kd size slide ag fq (leftF mk M) E ∧ FT (FP s m fq) (FP s m fq) w w'
set_option maxHeartbeats 8000000 in
set_option maxRecDepth 100000 in
theorem Fire_win {w : World} {s m o : Nat} {kd size slide ag : Int} {fq : Nat → Prop} {M : List Pn} {R : List SRow} (h : StAt w s m o kd size slide ag fq M R) (mk : Int) (hkd : kd ≠ 0) (hM : M.length ≤ 90000) :
    Calls Tryz.prog 95 #[.pointer (some ⟨s, 0, none⟩), .int .i64 mk] w (FrPost w s m o kd size slide ag fq M mk (outF mk (srt (M.filter (ovr mk))))) := by
  have hb1 := below_box w (.cells #[.int .i64 mk] 2)
  obtain ⟨W1, hW1⟩ : ∃ W1, W1 = w.alloc (.cells #[.int .i64 mk] 2) := ⟨_, rfl⟩
  rw [← hW1] at hb1
  have hs1 : W1.heap.size = w.heap.size + 1 := by rw [hW1]; simp
  have hk1 : BoxT 2 W1 w.heap.size #[.int .i64 mk] := by rw [hW1]; exact BoxT.new _ _ _
  have h1 := h.below (fun i hi => hb1.block i (h.flt i hi)) hb1.size
  have HR := hide (isReduce_any h1.cells.1)
  have HPK := hide (pick_any (⟨m, o, fq, R, h1, fun _ => Iff.rfl⟩ : SA W1 s kd size slide ag (FP s m fq) M) 102 #[.pointer (some ⟨w.heap.size, 0, none⟩)] (ovr mk) runFire (fun w1 hb x => fireC_any (BoxT.below (t := 2) hk1 hb) x) (by omega))
  have HB1 := hide hb1
  have HK1 := hide hk1
  have H1 := hide h1
  have HH := hide h
  have HIV := hide h.inv
  have HOK := hide h.ok
  obtain ⟨rb, hrb⟩ : ∃ rb, rb = (kd == 0) := ⟨_, rfl⟩
  rw [← hrb] at HR
  obtain rfl : rb = false := by rw [hrb]; simpa using hkd
  have HRB := hide hrb
  clear hrb hkd
  obtain ⟨c0, _⟩ := h.cells
  obtain ⟨mk0, _⟩ : W1.cell? ⟨w.heap.size, 0, none⟩ = some (.int .i64 mk) ∧ True := ⟨by rw [hk1.cellAt]; rfl, trivial⟩
  clear h h1 hb1 hk1
  go_enter Tryz.func95, Tryz.ntmps95
  go_upto_region 1 with fail
  rw [← hW1]
  clear hW1
  go_wp2_with (first | (go_at_call 100; refine HR.out.mono ?_; rintro e w1 ⟨rfl, rfl⟩) | (go_at_call 101; refine HPK.out.mono ?_; rintro e w2 ⟨u, c, rfl, o2, p2, b2⟩; have O2 := hide o2; have P2 := hide p2; have B2 := hide b2; obtain ⟨ua, uc, rfl⟩ := o2.shape; clear o2 p2 b2) | fail)
  have hcl : c.length ≤ 90000 := by have h1 := P2.out.length_eq; have h2 := List.length_filter_le (ovr mk) M; omega
  have HI : Hid (FI w w2 s m o kd size slide ag fq R (c.drop 0 ++ leftF mk M) mk (.slice ua c.length uc) c) := by
    have hst := H1.out.below (fun i hi => B2.out.block i (H1.out.flt i hi)) B2.out.size
    have hpm : M.Perm (c.drop 0 ++ leftF mk M) := (due_left mk M).trans (List.Perm.append_right _ P2.out.symm)
    refine ⟨hst.box, hst.mp.perm (hpm.map pEnt), hst.om, (FT.of_below HB1.out).trans (FT.of_below B2.out), BoxT.below (t := 2) HK1.out B2.out, by have := O2.out; rwa [hs1] at this, hst.ns, hst.nm, HH.out.flt⟩
  have HOC : Hid (∀ x ∈ c, PnOk x) := fun x hx => HOK.out x (List.mem_filter.1 (P2.out.mem_iff.1 hx)).1
  clear O2 B2 HPK H1 HK1 HB1 c0 mk0
  go_loopg [22] (c.length + 1) (fun gh iv wr => ∃ (i : Nat), iv = .int .i64 (i : Int) ∧ i ≤ c.length ∧ c.length + 1 ≤ gh + i ∧ Hid (FI w wr s m o kd size slide ag fq R (c.drop i ++ leftF mk M) mk (.slice ua c.length uc) c))
  case atStart => exact ⟨0, rfl, by omega, by omega, HI⟩
  case round =>
    clear HI
    obtain ⟨i, rfl, hi, hg, HF⟩ := hrel
    obtain ⟨go, rfl⟩ : ∃ go, gk = go + 1 := ⟨gk - 1, by omega⟩
    by_cases hlt : i < c.length
    · obtain ⟨x, hx⟩ := get_of_lt hlt
      have bt : (i : Int) < (c.length : Int) := by omega
      obtain ⟨nb, no, rfl, nlt, e0, e1, e2, e3⟩ := (HF.out.row.seg Pn.cs_len (by omega)).pane hx
      have HPX := hide (HOC.out x (List.mem_of_getElem? hx))
      have HDR : Hid (c.drop i = x :: c.drop (i + 1)) := (show _ = _ by rw [List.drop_eq_getElem_cons hlt]; rw [List.getElem?_eq_getElem hlt] at hx; rw [Option.some.inj hx])
      obtain ⟨W2, hW2⟩ : ∃ W2, W2 = wr.alloc (.cells #[.int .i64 x.k, .int .i64 x.f, .int .i64 x.t, .int .i64 x.a] 79) := ⟨_, rfl⟩
      have HBW : Hid (Below wr.heap.size wr W2) := (show Below _ _ _ by rw [hW2]; exact below_box wr _)
      have HPB : Hid (BoxT 79 W2 wr.heap.size #[.int .i64 x.k, .int .i64 x.f, .int .i64 x.t, .int .i64 x.a]) := (show BoxT _ _ _ _ by rw [hW2]; exact BoxT.new _ _ _)
      have HF2 := hide (HF.out.below HBW.out)
      have HKC : Hid (∀ w', Below W2.heap.size W2 w' → F7 s m wr.heap.size x w') := fun w' hb => by
        obtain ⟨p0, p1, p2, p3⟩ := (BoxT.below (t := 79) HPB.out hb).cells4
        exact ⟨(HF2.out.below hb).cells.2.1, p0, p1, p2, p3⟩
      have HPL : Hid (∀ w', Below W2.heap.size W2 w' → Calls Tryz.prog 104 #[x.val] w' fun e w'' => e = .returned (plV x) ∧ Below W2.heap.size W2 w'') := fun w' hb => (placeOf_any w' x).mono (by rintro e w'' ⟨rfl, h2⟩; exact ⟨rfl, hb.trans (h2.mono hb.size)⟩)
      clear hx
      go_upto_region 7 with fail
      rw [← hW2]
      clear hW2
      have B1 : Hid (Below W2.heap.size W2 W2.drew) := (Below.refl _ _).drew
      refine wp_region_M (S := fun w' => F7 s m wr.heap.size x w') (late := []) (by kernel_rfl) (HKC.out _ B1.out) (fun hHeld => ?_)
      (try simp only [List.size_toArray, List.length_cons, List.length_nil, Nat.zero_add, Nat.reduceAdd, Array.replicate, List.replicate])
      refine wpAnyM_take (i := 0) (oi := ⟨_, _, _, _, _, _⟩) (v := ?_) rfl (by kernel_rfl) (by kernel_rfl) (by kernel_rfl) (by kernel_rfl) (fun _ _ _ h => h) (Or.inl ⟨by rfl, ?_⟩) hHeld ?_
      rotate_left
      · (intro w' hSw; unfold F7 at hSw; go_simp; try (with_reducible rfl))
      (try simp only [Act.put, List.setIfInBounds_toArray, List.set_cons_zero, List.set_cons_succ])
      refine wpAnyM_take (i := 1) (oi := ⟨_, _, _, _, _, _⟩) (v := ?_) rfl (by kernel_rfl) (by kernel_rfl) (by kernel_rfl) (by kernel_rfl) (fun _ _ _ h => h) (Or.inl ⟨by rfl, ?_⟩) hHeld ?_
      rotate_left
      · (intro w' hSw; unfold F7 at hSw; go_simp; try (with_reducible rfl))
      (try simp only [Act.put, List.setIfInBounds_toArray, List.set_cons_zero, List.set_cons_succ])
      refine wpAnyM_take (i := 2) (oi := ⟨_, _, _, _, _, _⟩) (v := ?_) rfl (by kernel_rfl) (by kernel_rfl) (by kernel_rfl) (by kernel_rfl) (fun _ _ _ h => h) (Or.inl ⟨by rfl, ?_⟩) hHeld ?_
      rotate_left
      · (intro w' hSw; unfold F7 at hSw; go_simp; try (with_reducible rfl))
      (try simp only [Act.put, List.setIfInBounds_toArray, List.set_cons_zero, List.set_cons_succ])
      refine wpAnyM_take (i := 3) (oi := ⟨_, _, _, _, _, _⟩) (v := ?_) rfl (by kernel_rfl) (by kernel_rfl) (by kernel_rfl) (by kernel_rfl) (fun _ _ _ h => h) (Or.inl ⟨by rfl, ?_⟩) hHeld ?_
      rotate_left
      · (intro w' hSw; unfold F7 at hSw; go_simp; try (with_reducible rfl))
      (try simp only [Act.put, List.setIfInBounds_toArray, List.set_cons_zero, List.set_cons_succ])
      refine wpAnyM_take (i := 4) (oi := ⟨_, _, _, _, _, _⟩) (v := ?_) rfl (by kernel_rfl) (by kernel_rfl) (by kernel_rfl) (by kernel_rfl) (fun _ _ _ h => h) (Or.inl ⟨by rfl, ?_⟩) hHeld ?_
      rotate_left
      · (intro w' hSw; unfold F7 at hSw; go_simp; try (with_reducible rfl))
      (try simp only [Act.put, List.setIfInBounds_toArray, List.set_cons_zero, List.set_cons_succ])
      refine wpAnyM_one (i := 5) (o := ⟨_, _, _, _, _, _⟩) (by kernel_rfl) rfl (fun K hK => ?_)
      go_simp
      go_at_call 104
      refine (HPL.out _ B1.out).mono ?_
      rintro e w3 ⟨rfl, hb⟩
      have B3 := hide hb
      refine hK.out _ _ (HKC.out _ hb) (fun hHeld => ?_)
      clear hK K hb
      (try simp only [List.setIfInBounds_toArray, List.set_cons_zero, List.set_cons_succ])
      obtain ⟨lk, hlk⟩ := HPX.out.key
      have HF3 := hide (HF2.out.below B3.out)
      obtain ⟨w5, hrun5, hm5, ht5⟩ := HF3.out.mp.drop_hit Tryz.lawPl Tryz.underlying113 hlk (v0 := .int .i64 x.a) (R := (c.drop (i + 1) ++ leftF mk M).map pEnt) (by rw [HDR.out]; exact .refl _) 0
      have HF5 := hide (HF3.out.del hm5 ht5)
      have HS7 : Hid (F7 s m wr.heap.size x w5) := by
        have hne : wr.heap.size ≠ m := fun e => by have := HF.out.mp.lt; omega
        have hp : BoxT 79 w5 wr.heap.size #[.int .i64 x.k, .int .i64 x.f, .int .i64 x.t, .int .i64 x.a] := by have h1 := (BoxT.below (t := 79) HPB.out B3.out); unfold BoxT at *; rw [ht5.other hne]; exact h1
        obtain ⟨p0, p1, p2, p3⟩ := hp.cells4
        exact ⟨HF5.out.cells.2.1, p0, p1, p2, p3⟩
      clear hm5 ht5
      refine wpAnyM_one (i := 6) (o := ⟨_, _, _, _, _, _⟩) (by kernel_rfl) rfl (fun K hK => ?_)
      refine step_del_run rfl _ _ 113 150 rfl _ _ rfl rfl hrun5 ?_
      refine hK.out _ _ HS7.out (fun hHeld => ?_)
      clear hK K
      (try simp only [List.setIfInBounds_toArray, List.set_cons_zero, List.set_cons_succ])
      refine wpAnyM_done (by kernel_rfl) ?_ _
      go_wp2_with fail
      go_roundg go
      case rel => exact ⟨i + 1, by go_num, by omega, by omega, HF5⟩
      case measure => omega
    · obtain rfl : i = c.length := by omega
      have bt : ¬ ((c.length : Nat) : Int) < (c.length : Int) := by omega
      have HF0 := HF
      rw [List.drop_length, List.nil_append] at HF0
      clear HF
      have HKC : Hid (∀ w', Below wr.heap.size wr w' → F9 s o w.heap.size mk w') := fun w' hb => ⟨(HF0.out.below hb).cells.2.2.1, (HF0.out.below hb).cells.2.2.2⟩
      have HRL : Hid (∀ r ∈ R, r.l.length ≤ 100000) := fun r hr => (show r.l.length ≤ 100000 by have := rows_len HIV.out r hr; omega)
      go_upto_region 9 with fail
      have B1 : Hid (Below wr.heap.size wr wr.drew) := (Below.refl _ _).drew
      have HF1 := hide (HF0.out.below B1.out)
      refine wp_region_M (S := fun w' => F9 s o w.heap.size mk w') (late := []) (by kernel_rfl) (HKC.out _ B1.out) (fun hHeld => ?_)
      (try simp only [List.size_toArray, List.length_cons, List.length_nil, Nat.zero_add, Nat.reduceAdd, Array.replicate, List.replicate])
      refine wpAnyM_take (i := 0) (oi := ⟨_, _, _, _, _, _⟩) (v := ?_) rfl (by kernel_rfl) (by kernel_rfl) (by kernel_rfl) (by kernel_rfl) (fun _ _ _ h => h) (Or.inl ⟨by rfl, ?_⟩) hHeld ?_
      rotate_left
      · (intro w' hSw; unfold F9 at hSw; go_simp; try (with_reducible rfl))
      (try simp only [Act.put, List.setIfInBounds_toArray, List.set_cons_zero, List.set_cons_succ])
      refine wpAnyM_take (i := 1) (oi := ⟨_, _, _, _, _, _⟩) (v := ?_) rfl (by kernel_rfl) (by kernel_rfl) (by kernel_rfl) (by kernel_rfl) (fun _ _ _ h => h) (Or.inl ⟨by rfl, ?_⟩) hHeld ?_
      rotate_left
      · (intro w' hSw; unfold F9 at hSw; go_simp; try (with_reducible rfl))
      (try simp only [Act.put, List.setIfInBounds_toArray, List.set_cons_zero, List.set_cons_succ])
      refine wpAnyM_take (i := 2) (oi := ⟨_, _, _, _, _, _⟩) (v := ?_) rfl (by kernel_rfl) (by kernel_rfl) (by kernel_rfl) (by kernel_rfl) (fun _ _ _ h => h) (Or.inl ⟨by rfl, ?_⟩) hHeld ?_
      rotate_left
      · (intro w' hSw; unfold F9 at hSw; go_simp; try (with_reducible rfl))
      (try simp only [Act.put, List.setIfInBounds_toArray, List.set_cons_zero, List.set_cons_succ])
      refine wpAnyM_take (i := 3) (oi := ⟨_, _, _, _, _, _⟩) (v := ?_) rfl (by kernel_rfl) (by kernel_rfl) (by kernel_rfl) (by kernel_rfl) (fun _ _ _ h => h) (Or.inl ⟨by rfl, ?_⟩) hHeld ?_
      rotate_left
      · (intro w' hSw; unfold F9 at hSw; go_simp; try (with_reducible rfl))
      (try simp only [Act.put, List.setIfInBounds_toArray, List.set_cons_zero, List.set_cons_succ])
      refine wpAnyM_take (i := 4) (oi := ⟨_, _, _, _, _, _⟩) (v := ?_) rfl (by kernel_rfl) (by kernel_rfl) (by kernel_rfl) (by kernel_rfl) (fun _ _ _ h => h) (Or.inl ⟨by rfl, ?_⟩) hHeld ?_
      rotate_left
      · (intro w' hSw; unfold F9 at hSw; go_simp; try (with_reducible rfl))
      (try simp only [Act.put, List.setIfInBounds_toArray, List.set_cons_zero, List.set_cons_succ])
      refine wpAnyM_one (i := 5) (o := ⟨_, _, _, _, _, _⟩) (by kernel_rfl) rfl (fun K hK => ?_)
      go_simp
      go_at_call 105
      refine (end_any HF1.out.om mk HRL.out).mono ?_
      rintro e w3 ⟨rfl, E, D, om3, ft3, pm3, e3⟩
      have HF3 := hide (HF1.out.ended om3 ft3)
      have HI3 := hide (end_inv HIV.out pm3 e3)
      clear om3 ft3 pm3 e3
      refine hK.out _ _ ⟨HF3.out.cells.2.2.1, HF3.out.cells.2.2.2⟩ (fun hHeld => ?_)
      clear hK K
      (try simp only [List.setIfInBounds_toArray, List.set_cons_zero, List.set_cons_succ])
      refine wpAnyM_done (by kernel_rfl) ?_ _
      have HSG := hide (HF3.out.row.seg Pn.cs_len (by omega))
      have HWF := hide (Fire_any HSG.out (by omega) mk)
      have hk3 := HF3.out.cells.2.2.2
      have HSR : Hid (srt c = srt (M.filter (ovr mk))) := srt_eq P2.out
      go_wp2_with (first | (go_at_call 106; refine HWF.out.mono ?_; rintro e w4 ⟨u1, u2, rfl, o4, o5, b4⟩; have O4 := hide o4; have HF4 := hide (HF3.out.below b4); have HR4 := hide (isReduce_any HF4.out.cells.1); clear o4 o5 b4; rw [← HRB.out] at HR4) | (go_at_call 100; refine HR4.out.mono ?_; rintro e w6 ⟨rfl, rfl⟩) | fail)
      go_ret
      refine ⟨_, E, rfl, ?_, ⟨HF4.out.box, HF4.out.mp, HF4.out.om, fun x hx => HOK.out x (List.mem_filter.1 hx).1, HF4.out.ns, HF4.out.nm, HI3.out⟩, HF4.out.ft⟩
      rw [← HSR.out]
      exact O4.out.mono (by have := HF3.out.ft.size; omega)
end Go.Proofs.YtpcbhcdpegbfjaaGreat
/-
  leathelp's Panes, Records, Bytes of equal lists; Place; the laws' fit and time.
-/
namespace Go.Proofs.YtpcbhcdpegbfjaaGreat
open Go.RowKit

theorem LSeg.rec {B : Nat} {w : World} {ao : Option Addr} {n cap : Nat} {xs : List Rc} (h : LSeg 3 Rc.cs B w (.slice ao n cap) xs) {i : Nat} {x : Rc} (hx : xs[i]? = some x) : ∃ b o, ao = some ⟨b, o, none⟩ ∧ b < B ∧ w.cell? ⟨b, o + i * 3, none⟩ = some (.int .i64 x.k) ∧ w.cell? ⟨b, o + i * 3 + 1, none⟩ = some (.int .i64 x.t) ∧ w.cell? ⟨b, o + i * 3 + 2, none⟩ = some (.int .i64 x.v) := by
  obtain ⟨b, o, e, hb, _, d⟩ := h.readAt hx
  exact ⟨b, o, e, hb, d 0 _ rfl, d 1 _ rfl, d 2 _ rfl⟩
set_option maxHeartbeats 1000000 in
set_option maxRecDepth 100000 in
theorem hRecords_any {w : World} {v1 v2 : Value} {B1 B2 : Nat} {l : List Rc} (h1 : LSeg 3 Rc.cs B1 w v1 l) (h2 : LSeg 3 Rc.cs B2 w v2 l) (hn : l.length ≤ 1000000) : Calls Tryz.prog 13 #[v1, v2] w fun e w' => e = .returned (.bool true) ∧ Below w.heap.size w w' := by
  obtain ⟨a1, c1, rfl⟩ := h1.shapeOf
  obtain ⟨a2, c2, rfl⟩ := h2.shapeOf
  have H1 := hide h1
  have H2 := hide h2
  clear h1 h2
  go_enter Tryz.func13, Tryz.ntmps13
  go_wp2_with fail
  go_loopg [5] (l.length + 1) (fun gh iv wr => ∃ i : Nat, iv = .int .i64 (i : Int) ∧ i ≤ l.length ∧ l.length + 1 ≤ gh + i ∧ Hid (∀ B, Below B w wr))
  case atStart => exact ⟨0, rfl, by omega, by omega, (show ∀ B, _ from fun B => Below.refl _ _)⟩
  case round =>
    obtain ⟨i, rfl, hi, hg, HD⟩ := hrel
    obtain ⟨go, rfl⟩ : ∃ go, gk = go + 1 := ⟨gk - 1, by omega⟩
    by_cases hlt : i < l.length
    · obtain ⟨x, hx⟩ := get_of_lt hlt
      have bt : (i : Int) < (l.length : Int) := by omega
      have hbr := HD.out
      obtain ⟨b1, o1, rfl, _, e0, e1, e2⟩ := (H1.out.below (hbr _)).rec hx
      obtain ⟨b2, o2, rfl, _, f0, f1, f2⟩ := (H2.out.below (hbr _)).rec hx
      clear hx hbr
      obtain ⟨x0, x1, x2⟩ := x
      simp only at e0 e1 e2 f0 f1 f2
      go_wp2_with fail
      go_quiet (fail)
      go_wp2_with fail
      go_roundg go
      case rel => exact ⟨i + 1, by go_num, by omega, by omega, (show ∀ B, _ from fun B => below_drewN (HD.out B) _)⟩
      case measure => omega
    · have bt : ¬ (i : Int) < (l.length : Int) := by omega
      go_wp2_with fail
      go_ret
      exact ⟨rfl, HD.out _⟩
def FitW (k size slide : Int) : Prop := 1 ≤ k ∧ k ≤ 3 ∧ 1 ≤ size ∧ size ≤ 68719476736 ∧ ((k = 2 ∧ 1 ≤ slide ∧ slide ≤ 68719476736 ∧ (size - 1) / slide < 64) ∨ (k ≠ 2 ∧ slide = 0))
def FitS (k size slide a : Int) : Prop := 1 ≤ a ∧ a ≤ 5 ∧ ((k = 0 ∧ size = 0 ∧ slide = 0) ∨ FitW k size slide)
def TimeOk (t : Int) : Prop := -1125899906842624 ≤ t ∧ t ≤ 1125899906842624
def RetT (e : Ending) (P : Prop) : Prop := ∃ b : Bool, e = .returned (.bool b) ∧ (b = true ↔ P)
theorem RetT.no {P : Prop} (h : ¬ P) : RetT (.returned (.bool false)) P := ⟨false, rfl, by simp [h]⟩
theorem RetT.yes {P : Prop} (h : P) : RetT (.returned (.bool true)) P := ⟨true, rfl, by simp [h]⟩
end Go.Proofs.YtpcbhcdpegbfjaaGreat
/-
  The spans of a time, plainly (pure).
-/
namespace Go.Proofs.YtpcbhcdpegbfjaaGreat
open Go.RowKit

theorem LSeg.on {α : Type} {sz : Nat} {cs : α → List Value} {w w' : World} {v : Value} {xs : List α} (h : LSeg sz cs w.heap.size w v xs) (hb : Below w.heap.size w w') : LSeg sz cs w'.heap.size w' v xs := (h.below hb).mono hb.size
theorem fit_size {k size slide : Int} (h : FitW k size slide) : 1 ≤ size ∧ size ≤ 68719476736 := ⟨h.2.2.1, h.2.2.2.1⟩
def cntOf (size slide since : Int) : Nat := if size ≤ since then 0 else ((size - 1 - since) / slide + 1).toNat
theorem cnt_le {size slide t : Int} (hw : FitW 2 size slide) : cntOf size slide (sinceOf slide t) ≤ 64 := by
  obtain ⟨_, _, h1, _, ⟨_, h2, _, h3⟩ | ⟨h2, _⟩⟩ := hw
  · obtain ⟨k1, _⟩ := since_in (t := t) h2
    unfold cntOf
    split
    · omega
    · have : (size - 1 - sinceOf slide t) / slide ≤ (size - 1) / slide := Int.ediv_le_ediv (by omega) (by omega)
      omega
  · exact absurd rfl h2
theorem cnt_iff {size slide since : Int} (h2 : 1 ≤ slide) (j : Nat) : j < cntOf size slide since ↔ (j : Int) * slide < size - since := by
  unfold cntOf
  split
  · rename_i h
    have : 0 ≤ (j : Int) * slide := Int.mul_nonneg (by omega) (by omega)
    omega
  · rename_i h
    have h4 : (j : Int) ≤ (size - 1 - since) / slide ↔ (j : Int) * slide ≤ size - 1 - since := Int.le_ediv_iff_mul_le (by omega)
    have h5 : 0 ≤ (size - 1 - since) / slide := Int.ediv_nonneg (by omega) (by omega)
    omega
def bkS (size slide s0 : Int) (c : Nat) : List Sp := (List.range c).map fun i : Nat => ⟨s0 - (i : Int) * slide, s0 - (i : Int) * slide + size⟩
theorem span_no_wrap {size slide t since : Int} {c i : Nat} (ht : TimeOk t) (hs : 1 ≤ size ∧ size ≤ 68719476736) (h2 : 1 ≤ slide) (h0 : 0 ≤ since) (h1 : since < 68719476736) (hc : ((c : Int) - 1) * slide ≤ size - 1 - since) (hi : i < c) : spanAt size slide t since c i = ⟨t - since - ((c : Int) - 1 - (i : Int)) * slide, t - since - ((c : Int) - 1 - (i : Int)) * slide + size⟩ := by
  have hp : 0 ≤ ((c : Int) - 1 - (i : Int)) * slide ∧ ((c : Int) - 1 - (i : Int)) * slide ≤ ((c : Int) - 1) * slide := ⟨Int.mul_nonneg (by omega) (by omega), Int.mul_le_mul_of_nonneg_right (by omega) (by omega)⟩
  unfold spanAt
  unfold TimeOk at ht
  generalize ((c : Int) - 1 - (i : Int)) * slide = z at *
  generalize ((c : Int) - 1) * slide = y at *
  have e1 : wrap64 (t - since) = t - since := by unfold wrap64; omega
  have e2 : wrap64 (t - since - z) = t - since - z := by unfold wrap64; omega
  have e3 : wrap64 (t - since - z + size) = t - since - z + size := by unfold wrap64; omega
  rw [e1, e2, e3]
theorem spans_two {size slide t : Int} (hw : FitW 2 size slide) (ht : TimeOk t) : pSpans 2 size slide t = (bkS size slide (t - sinceOf slide t) (cntOf size slide (sinceOf slide t))).reverse := by
  have hs := fit_size hw
  have hcl := cnt_le (t := t) hw
  obtain ⟨_, _, _, _, ⟨_, h2, h3, _⟩ | ⟨h2, _⟩⟩ := hw
  · obtain ⟨k1, k2⟩ := since_in (t := t) h2
    unfold pSpans
    rw [if_neg (by omega), if_neg (by omega), if_pos rfl]
    unfold rgl
    rw [if_neg (by omega)]
    generalize sinceOf slide t = since at *
    by_cases h4 : size ≤ since
    · rw [if_pos h4]
      have : cntOf size slide since = 0 := by unfold cntOf; rw [if_pos h4]
      rw [this]; rfl
    · rw [if_neg h4]
      have ec : countOf size slide since = cntOf size slide since := by
        unfold countOf cntOf at *
        rw [if_neg h4] at *
        rw [Int.tdiv_eq_ediv_of_nonneg (by omega)]
        omega
      have hc := (count_in (slide := slide) h2 (show since < size by omega)).2.2
      rw [ec] at hc ⊢
      generalize cntOf size slide since = c at *
      apply List.ext_getElem
      · simp [bkS]
      · intro i h5 h6
        simp only [List.length_map, List.length_range] at h5
        rw [List.getElem_reverse]
        simp only [bkS, List.getElem_map, List.getElem_range, List.length_map, List.length_range]
        rw [span_no_wrap ht hs h2 k1 (by omega) hc h5]
        have e : (((c - 1 - i : Nat)) : Int) = (c : Int) - 1 - (i : Int) := by omega
        rw [e]
  · exact absurd rfl h2
theorem spans_one {size slide t : Int} (hw : FitW 1 size slide) (ht : TimeOk t) : pSpans 1 size slide t = [⟨t - sinceOf size t, t - sinceOf size t + size⟩] := by
  have hs := fit_size hw
  obtain ⟨k1, k2⟩ := since_in (t := t) hs.1
  unfold pSpans
  rw [if_neg (by omega), if_pos rfl]
  unfold rgl
  rw [if_neg (by omega), if_neg (by omega)]
  generalize sinceOf size t = since at *
  have e : countOf size size since = 1 := by
    unfold countOf
    rw [Int.tdiv_eq_ediv_of_nonneg (by omega), Int.ediv_eq_zero_of_lt (by omega) (by omega)]
    rfl
  rw [e]
  show [spanAt size size t since 1 0] = _
  rw [span_no_wrap ht hs hs.1 k1 (by omega) (by omega) (by omega)]
  have e2 : (((1 : Nat) : Int) - 1 - ((0 : Nat) : Int)) * size = 0 := by omega
  rw [e2, Int.sub_zero]
theorem spans_three {size slide t : Int} (hw : FitW 3 size slide) (ht : TimeOk t) : pSpans 3 size slide t = [⟨t, t + size⟩] := by
  have hs := fit_size hw
  unfold pSpans TimeOk at *
  rw [if_neg (by omega), if_neg (by omega), if_neg (by omega), if_pos rfl]
  have e : wrap64 (t + size) = t + size := by unfold wrap64; omega
  rw [e]
def Bd (p : Pn) : Prop := -1152921504606846976 ≤ p.f ∧ p.f ≤ 1152921504606846976 ∧ -1152921504606846976 ≤ p.t ∧ p.t ≤ 1152921504606846976
theorem spans_bd {k size slide t : Int} (hw : FitW k size slide) (ht : TimeOk t) : ∀ s ∈ pSpans k size slide t, -1152921504606846976 ≤ s.f ∧ s.f ≤ 1152921504606846976 ∧ -1152921504606846976 ≤ s.t ∧ s.t ≤ 1152921504606846976 := by
  have hs := fit_size hw
  have hk : k = 1 ∨ k = 2 ∨ k = 3 := by obtain ⟨h1, h2, _⟩ := hw; omega
  have ht2 := ht
  unfold TimeOk at ht2
  rcases hk with rfl | rfl | rfl
  · rw [spans_one hw ht]
    obtain ⟨h1, h2⟩ := since_in (t := t) hs.1
    intro s h
    obtain rfl := List.mem_singleton.1 h
    dsimp only
    omega
  · rw [spans_two hw ht]
    have h2 : 1 ≤ slide ∧ slide ≤ 68719476736 := by obtain ⟨_, _, _, _, ⟨_, h2, h3, _⟩ | ⟨h2, _⟩⟩ := hw; exact ⟨h2, h3⟩; exact absurd rfl h2
    obtain ⟨h3, h4⟩ := since_in (t := t) h2.1
    intro s h
    rw [List.mem_reverse] at h
    unfold bkS at h
    obtain ⟨i, hi, rfl⟩ := List.mem_map.1 h
    have h5 := (cnt_iff (size := size) (since := sinceOf slide t) h2.1 i).1 (List.mem_range.1 hi)
    have h6 : 0 ≤ (i : Int) * slide := Int.mul_nonneg (by omega) (by omega)
    dsimp only
    generalize (i : Int) * slide = z at *
    omega
  · rw [spans_three hw ht]
    intro s h
    obtain rfl := List.mem_singleton.1 h
    dsimp only
    omega
theorem spans_full {k size slide : Int} {t : Int} (hw : FitW k size slide) (ht : TimeOk t) (hs : sess k = true) : ∀ s ∈ pSpans k size slide t, s.f < s.t := by
  have h3 : k = 3 := of_decide_eq_true hs
  obtain ⟨_, _, h1, h2, _⟩ := hw
  subst h3
  unfold pSpans TimeOk at *
  rw [if_neg (by omega), if_neg (by omega), if_neg (by omega), if_pos rfl]
  intro s h
  obtain rfl := List.mem_singleton.1 h
  show t < wrap64 (t + size)
  unfold wrap64; omega
theorem sps_fit {k size slide a t : Int} (hw : FitS k size slide a) (ht : TimeOk t) : ∀ sp ∈ sps k size slide t, In64 sp.f ∧ In64 sp.t ∧ (k = 3 → sp.f < sp.t) := by
  intro sp hsp
  obtain ⟨_, _, ⟨rfl, rfl, rfl⟩ | hw⟩ := hw
  · unfold sps at hsp
    rw [if_pos rfl, List.mem_singleton] at hsp
    subst hsp
    unfold In64
    exact ⟨by dsimp only; omega, by dsimp only; omega, fun e => by cases e⟩
  · have hk0 : k ≠ 0 := by obtain ⟨h1, _⟩ := hw; omega
    unfold sps at hsp
    rw [if_neg hk0] at hsp
    have h1 := spans_bd hw ht sp hsp
    unfold In64
    exact ⟨by omega, by omega, fun e => spans_full hw ht (by subst e; rfl) sp hsp⟩
theorem frS_len (k size slide a : Int) (r : Rc) : (frS k size slide a r).length ≤ 64 := by unfold frS; rw [List.length_map]; exact sps_len ..
def Fn (k : Int) (p : Pn) : Prop := Bd p ∧ (k = 3 → p.f < p.t)
theorem frS_fn {k size slide a : Int} (hw : FitW k size slide) {r : Rc} (ht : TimeOk r.t) : ∀ p ∈ frS k size slide a r, Fn k p := by
  intro p hp
  unfold frS at hp
  obtain ⟨sp, hsp, rfl⟩ := List.mem_map.1 hp
  have hk0 : k ≠ 0 := by obtain ⟨h1, _⟩ := hw; omega
  unfold sps at hsp
  rw [if_neg hk0] at hsp
  exact ⟨spans_bd hw ht sp hsp, fun e => spans_full hw ht (by subst e; rfl) sp hsp⟩
theorem Reds.fn {k : Int} {J : Int → Int → Int} {l m : List Pn} (h : Reds (sess k) J l m) (hl : ∀ p ∈ l, Fn k p) : ∀ p ∈ m, Fn k p :=
  Reds.keeps (P := Fn k) (fun x y _ hx hy => by
    unfold Fn Bd jp at *
    dsimp only at *
    refine ⟨by omega, fun e => ?_⟩
    have h1 := hx.2 e
    omega) h hl
end Go.Proofs.YtpcbhcdpegbfjaaGreat
/-
  A window's operator that has nothing aside, as it lies; what its calls do.
-/
namespace Go.Proofs.YtpcbhcdpegbfjaaGreat
open Go.RowKit

theorem wp_at {c : Code} {Q : Exit → Act → World → Prop} {a : Act} {w : World} (P : World → Prop) (h : P w) (k : ∀ W, P W → c.wp Tryz.prog Q a W) : c.wp Tryz.prog Q a w := k w h
structure OW (W : World) (O K s : Nat) (k size slide a : Int) (fp : Nat → Prop) (M : List Pn) (g d : Int) : Prop where
  ob : BoxT 68 W O #[.iface 100 (.pointer (some ⟨K, 0, none⟩))]
  kb : BoxT 102 W K #[.pointer (some ⟨s, 0, none⟩), .slice none 0 0, .int .i64 g, .int .i64 d, .int .i64 k, .int .i64 size, .int .i64 slide, .int .i64 a]
  sa : SA W s k size slide a fp M
  no : ¬ fp O
  nk : ¬ fp K
theorem m_late (W : World) (K : Nat) : (method 317 100 (.pointer (some ⟨K, 0, none⟩)) "leat/ops.late").run Tryz.prog W = .ok (88, .pointer (some ⟨K, 0, none⟩)) W := by kernel_rfl
set_option maxHeartbeats 1000000 in
set_option maxRecDepth 100000 in
theorem Late_any {W : World} {O K s : Nat} {k size slide a : Int} {fp : Nat → Prop} {M : List Pn} {g d : Int} (h : OW W O K s k size slide a fp M g d) : Calls Tryz.prog 20 #[.pointer (some ⟨O, 0, none⟩)] W fun e w' => e = .returned (.int .i64 d) ∧ w' = W := by
  have c0 : W.cell? ⟨O, 0, none⟩ = some (.iface 100 (.pointer (some ⟨K, 0, none⟩))) := h.ob.cellAt 0
  have hm := m_late W K
  have c3 : W.cell? ⟨K, 3, none⟩ = some (.int .i64 d) := h.kb.cellAt 3
  have H88 : Calls Tryz.prog 88 #[.pointer (some ⟨K, 0, none⟩)] W fun e w' => e = .returned (.int .i64 d) ∧ w' = W := by
    go_enter Tryz.func88, Tryz.ntmps88
    go_wp2_with fail
    go_ret
    exact ⟨rfl, rfl⟩
  have H88h := hide H88
  clear H88 h
  go_enter Tryz.func20, Tryz.ntmps20
  go_wp2_with (go_at_call 88; refine H88h.out.mono ?_; rintro e w1 ⟨rfl, e1⟩; subst e1)
  go_ret
  exact ⟨rfl, rfl⟩
def FO (O K : Nat) (fp : Nat → Prop) (i : Nat) : Prop := i = O ∨ i = K ∨ fp i
section
variable {W W' : World} {O K s : Nat} {k size slide a : Int} {fp fp' : Nat → Prop} {M M' : List Pn} {g d : Int}
theorem BoxT.back {t : TypeId} {w w' : World} {k : Nat} {cs : Array Value} (h : BoxT t w k cs) (hb : w'.heap[k]? = w.heap[k]?) : BoxT t w' k cs := by
  unfold BoxT at *
  rw [hb]; exact h
theorem BoxT.ne {t t' : TypeId} {w : World} {k k' : Nat} {cs cs' : Array Value} (h : BoxT t w k cs) (h' : BoxT t' w k' cs') (ht : t ≠ t') : k ≠ k' := fun e => by
  subst e
  unfold BoxT at h h'
  rw [h] at h'
  simp at h'
  exact ht h'.2
theorem OW.nok (h : OW W O K s k size slide a fp M g d) : O ≠ K := BoxT.ne (t := 68) (t' := 102) h.ob h.kb (by decide)
theorem OW.turn (h : OW W O K s k size slide a fp M g d) (hs : SA W' s k size slide a fp' M') (hf : FT fp fp' W W') : OW W' O K s k size slide a fp' M' g d := by
  have lo := h.ob.lt
  have lk := h.kb.lt
  refine ⟨h.ob.back (hf.block O lo h.no), h.kb.back (hf.block K lk h.nk), hs, fun e => ?_, fun e => ?_⟩
  · rcases hf.sub O e with e2 | e2
    · exact h.no e2
    · omega
  · rcases hf.sub K e with e2 | e2
    · exact h.nk e2
    · omega
theorem OW.below (h : OW W O K s k size slide a fp M g d) (hb : Below W.heap.size W W') : OW W' O K s k size slide a fp M g d :=
  ⟨h.ob.below hb, h.kb.below hb, h.sa.below hb, h.no, h.nk⟩
theorem FT.fo (h : FT fp fp' W W') : FT (FO O K fp) (FO O K fp') W W' :=
  ⟨h.os, h.tape, h.output, h.size, fun i hi hn => h.block i hi (fun e => hn (.inr (.inr e))), fun i hi => by
    rcases hi with rfl | rfl | hi
    · exact .inl (.inl rfl)
    · exact .inl (.inr (.inl rfl))
    · rcases h.sub i hi with e | e
      · exact .inl (.inr (.inr e))
      · exact .inr e⟩
theorem FT.setK (W : World) (O K : Nat) (fp : Nat → Prop) (j : Nat) (v : Value) : FT (FO O K fp) (FO O K fp) W (W.setCell ⟨K, j, none⟩ v) :=
  ⟨rfl, rfl, rfl, by simp, fun i _ hn => Below.heap_setCell W ⟨K, j, none⟩ _ i (fun e => hn (.inr (.inl e))), fun _ h => .inl h⟩
theorem OW.setG (h : OW W O K s k size slide a fp M g d) (m : Int) : OW (W.setCell ⟨K, 2, none⟩ (.int .i64 m)) O K s k size slide a fp M m d := by
  refine ⟨h.ob.back (Below.heap_setCell W ⟨K, 2, none⟩ _ O h.nok), ?_, h.sa.back (fun i hi => Below.heap_setCell W ⟨K, 2, none⟩ _ i (fun e => h.nk (by have e2 : i = K := e; rw [← e2]; exact hi))) (by simp), h.no, h.nk⟩
  have h1 := BoxT.set (t := 102) h.kb 2 (.int .i64 m)
  simpa using h1
theorem OW.setD (h : OW W O K s k size slide a fp M g d) (m : Int) : OW (W.setCell ⟨K, 3, none⟩ (.int .i64 m)) O K s k size slide a fp M g m := by
  refine ⟨h.ob.back (Below.heap_setCell W ⟨K, 3, none⟩ _ O h.nok), ?_, h.sa.back (fun i hi => Below.heap_setCell W ⟨K, 3, none⟩ _ i (fun e => h.nk (by have e2 : i = K := e; rw [← e2]; exact hi))) (by simp), h.no, h.nk⟩
  have h1 := BoxT.set (t := 102) h.kb 3 (.int .i64 m)
  simpa using h1
end
theorem fire_ok {W : World} {s : Nat} {k size slide a : Int} {fp : Nat → Prop} {M : List Pn} (h : SA W s k size slide a fp M) (mk : Int) (hk : k ≠ 0) (hM : M.length ≤ 90000) :
    Calls Tryz.prog 95 #[.pointer (some ⟨s, 0, none⟩), .int .i64 mk] W fun e w' => ∃ u fp', e = .returned u ∧ OwnL 38 3 Rc.cs W.heap.size w' u (outF mk (srt (M.filter (ovr mk)))) ∧ SA w' s k size slide a fp' (leftF mk M) ∧ FT fp fp' W w' := by
  obtain ⟨m, o, fq, R, hst, hf⟩ := h
  refine (Fire_win hst mk hk hM).mono ?_
  rintro e w' ⟨u, E, rfl, h1, h2, h3⟩
  exact ⟨u, FP s m fq, rfl, h1, ⟨m, o, fq, E, h2, fun _ => Iff.rfl⟩, h3.congr hf (fun _ => Iff.rfl)⟩
theorem m_mark (W : World) (K : Nat) : (method 317 100 (.pointer (some ⟨K, 0, none⟩)) "leat/ops.mark").run Tryz.prog W = .ok (90, .pointer (some ⟨K, 0, none⟩)) W := by kernel_rfl
def outM (g m : Int) (M : List Pn) : List Rc := if m ≤ g then [] else outF m (srt (M.filter (ovr m)))
def leftM (g m : Int) (M : List Pn) : List Pn := if m ≤ g then M else leftF m M
def MkPost (W : World) (O K s : Nat) (k size slide a : Int) (fp : Nat → Prop) (M : List Pn) (g d m : Int) (e : Ending) (w' : World) : Prop := ∃ u fp', e = .returned u ∧ OwnL 38 3 Rc.cs W.heap.size w' u (outM g m M) ∧ OW w' O K s k size slide a fp' (leftM g m M) (max g m) d ∧ FT (FO O K fp) (FO O K fp') W w'
set_option maxRecDepth 100000 in
theorem settle_nil {V : World} {K : Nat} (h : V.cell? ⟨K, 1, none⟩ = some (.slice none 0 0)) : Calls Tryz.prog 93 #[.pointer (some ⟨K, 0, none⟩)] V fun e w' => e = .returned (.tuple #[]) ∧ w' = V := by
  go_enter Tryz.func93, Tryz.ntmps93
  go_wp2_with fail
  exact bodyPost_ret (v := .tuple #[]) (by simp [results, Tryz.results93, go_sem]) rfl ⟨rfl, rfl⟩
set_option maxHeartbeats 2000000 in
set_option maxRecDepth 100000 in
theorem kmark_any {W : World} {O K s : Nat} {k size slide a : Int} {fp : Nat → Prop} {M : List Pn} {g d : Int} (h : OW W O K s k size slide a fp M g d) (m : Int) (hk : k ≠ 0) (hM : M.length ≤ 90000) : Calls Tryz.prog 90 #[.pointer (some ⟨K, 0, none⟩), .int .i64 m] W (MkPost W O K s k size slide a fp M g d m) := by
  have H := hide h
  have c2 : W.cell? ⟨K, 2, none⟩ = some (.int .i64 g) := h.kb.cellAt 2
  have fr := BoxT.free (t := 102) h.kb
  by_cases hm : m ≤ g
  · clear h
    go_enter Tryz.func90, Tryz.ntmps90
    go_wp2_with fail
    go_ret
    unfold MkPost outM leftM
    rw [if_pos hm, if_pos hm, show max g m = g by omega]
    exact ⟨_, fp, rfl, OwnL.nil _ _ _ _ _, H.out, FT.refl _ _⟩
  · have h2 := h.setG m
    have HG := hide h2
    have d1 : (W.setCell ⟨K, 2, none⟩ (.int .i64 m)).cell? ⟨K, 1, none⟩ = some (.slice none 0 0) := h2.kb.cellAt 1
    have d0 : (W.setCell ⟨K, 2, none⟩ (.int .i64 m)).cell? ⟨K, 0, none⟩ = some (.pointer (some ⟨s, 0, none⟩)) := h2.kb.cellAt 0
    have HS := hide (settle_nil d1)
    have HF := hide (fire_ok h2.sa m hk hM)
    clear h h2
    go_enter Tryz.func90, Tryz.ntmps90
    go_upto_region 4 with fail
    refine wp_at (fun V => V = W.setCell ⟨K, 2, none⟩ (.int .i64 m)) rfl ?_
    intro V hV
    rw [← hV] at HG d1 d0 HS HF
    have HV := hide hV
    clear hV c2 fr
    go_wp2_with (first
      | (go_at_call 93; refine HS.out.mono ?_; rintro e w1 ⟨rfl, e1⟩; have e2 := e1.symm; subst e2)
      | (go_at_call 95; refine HF.out.mono ?_; rintro e w2 ⟨u, fp', rfl, o2, s2, t2⟩; have O2 := hide o2; have S2 := hide s2; have T2 := hide t2; clear o2 s2 t2))
    go_ret
    unfold MkPost outM leftM
    rw [if_neg (by omega), if_neg (by omega), show max g m = m by omega]
    have hsz : V.heap.size = W.heap.size := by rw [HV.out]; simp
    refine ⟨u, fp', rfl, ?_, HG.out.turn S2.out T2.out, ?_⟩
    · rw [← hsz]; exact O2.out
    · have h1 := FT.setK W O K fp 2 (.int .i64 m)
      rw [← HV.out] at h1
      exact h1.trans T2.out.fo
set_option maxHeartbeats 1000000 in
set_option maxRecDepth 100000 in
theorem Mark_any {W : World} {O K s : Nat} {k size slide a : Int} {fp : Nat → Prop} {M : List Pn} {g d : Int} (h : OW W O K s k size slide a fp M g d) (m : Int) (hk : k ≠ 0) (hM : M.length ≤ 90000) : Calls Tryz.prog 16 #[.pointer (some ⟨O, 0, none⟩), .int .i64 m] W (MkPost W O K s k size slide a fp M g d m) := by
  have c0 : W.cell? ⟨O, 0, none⟩ = some (.iface 100 (.pointer (some ⟨K, 0, none⟩))) := h.ob.cellAt 0
  have hm := m_mark W K
  have HM := hide (kmark_any h m hk hM)
  clear h
  go_enter Tryz.func16, Tryz.ntmps16
  go_wp2_with (go_at_call 90; refine HM.out.mono ?_; rintro e w1 ⟨u, fp', rfl, p1, p2, p3⟩; have P1 := hide p1; have P2 := hide p2; have P3 := hide p3; clear p1 p2 p3)
  go_ret
  exact ⟨u, fp', rfl, P1.out, P2.out, P3.out⟩
def lateB (g : Int) (sp : Sp) : Bool := decide (wrap64 (sp.t - 1) ≤ g)
set_option maxHeartbeats 2000000 in
set_option maxRecDepth 100000 in
theorem ended_any {W : World} {O K s : Nat} {k size slide a : Int} {fp : Nat → Prop} {M : List Pn} {g d : Int} (h : OW W O K s k size slide a fp M g d) {v : Value} {ss : List Sp} (hs : LSeg 2 Sp.cs W.heap.size W v ss) (hn : ss.length ≤ 1000) :
    Calls Tryz.prog 164 #[.pointer (some ⟨K, 0, none⟩), v] W fun e w' => e = .returned (.int .i64 (ss.countP (lateB g) : Nat)) ∧ Below W.heap.size W w' := by
  obtain ⟨ao, cap, rfl⟩ := hs.shapeOf
  have H := hide h
  have HS := hide hs
  clear h hs
  go_enter Tryz.func164, Tryz.ntmps164
  go_wp2_with fail
  go_loopg [5, 7, 10] (ss.length + 1) (fun gh nv _ iv wr => ∃ i : Nat, iv = .int .i64 (i : Int) ∧ nv = .int .i64 ((ss.take i).countP (lateB g) : Nat) ∧ i ≤ ss.length ∧ ss.length + 1 ≤ gh + i ∧ Hid (Below W.heap.size W wr))
  case atStart => exact ⟨0, rfl, rfl, by omega, by omega, Below.refl _ _⟩
  case round =>
    obtain ⟨i, rfl, rfl, hi, hg, HD⟩ := hrel
    obtain ⟨go, rfl⟩ : ∃ go, gk = go + 1 := ⟨gk - 1, by omega⟩
    by_cases hlt : i < ss.length
    · obtain ⟨x, hx⟩ := get_of_lt hlt
      have bt : (i : Int) < (ss.length : Int) := by omega
      obtain ⟨nb, no, rfl, _, e0, e1⟩ := (HS.out.below HD.out).span hx
      have hlx : ss[i] = x := by rw [List.getElem?_eq_getElem hlt] at hx; exact Option.some.inj hx
      have HC : Hid ((ss.take (i + 1)).countP (lateB g) = (ss.take i).countP (lateB g) + (if wrap64 (x.t - 1) ≤ g then 1 else 0)) := (show _ = _ by
        rw [List.take_succ_eq_append_getElem hlt, List.countP_append, hlx, List.countP_cons, List.countP_nil]
        unfold lateB
        by_cases h : wrap64 (x.t - 1) ≤ g <;> simp [h])
      have hcl : (ss.take i).countP (lateB g) ≤ 1000 := Nat.le_trans List.countP_le_length (by rw [List.length_take]; omega)
      obtain ⟨xf, xt⟩ := x
      simp only at e0 e1 HC
      clear hx hlx
      generalize (ss.take i).countP (lateB g) = cn at *
      have HB2 := hide (HD.out.trans ((below_box wr (.cells #[.int .i64 xf, .int .i64 xt] 72)).mono HD.out.size))
      have HXB := hide (BoxT.new 72 wr #[.int .i64 xf, .int .i64 xt])
      have ck : ∀ n, ((wr.alloc (.cells #[.int .i64 xf, .int .i64 xt] 72)).drewN n).cell? ⟨K, 2, none⟩ = some (.int .i64 g) := fun n => ((H.out.kb.below HB2.out).cellAt 2)
      by_cases hg2 : wrap64 (xt - 1) ≤ g
      · rw [if_pos hg2] at HC
        go_wp2_with fail
        go_quiet (fail)
        go_wp2_with fail
        go_roundg go
        case rel => exact ⟨i + 1, by go_num, by rw [HC.out]; go_num, by omega, by omega, below_drewN HB2.out _⟩
        case measure => omega
      · rw [if_neg hg2] at HC
        go_wp2_with fail
        go_quiet (fail)
        go_wp2_with fail
        go_roundg go
        case rel => exact ⟨i + 1, by go_num, by rw [HC.out, Nat.add_zero], by omega, by omega, below_drewN HB2.out _⟩
        case measure => omega
    · have bt : ¬ (i : Int) < (ss.length : Int) := by omega
      have hcn : (ss.take i).countP (lateB g) = ss.countP (lateB g) := by rw [List.take_of_length_le (by omega)]
      generalize (ss.take i).countP (lateB g) = cn at *
      have HCN := hide hcn
      clear hcn
      go_wp2_with fail
      go_ret
      refine ⟨?_, HD.out⟩
      rw [← HCN.out]; rfl
def RwPost (W : World) (O K s : Nat) (k size slide a : Int) (fp : Nat → Prop) (M : List Pn) (g d : Int) (r : Rc) (e : Ending) (w' : World) : Prop := e = .returned (.slice none 0 0) ∧ ∃ fp' M' d', OW w' O K s k size slide a fp' M' g d' ∧ FT (FO O K fp) (FO O K fp') W w' ∧ ((Comes (sess k) (jn a) (frS k size slide a r ++ M) M' ∧ d' = d ∧ ∀ sp ∈ pSpans k size slide r.t, lateB g sp = false) ∨ (M' = M ∧ d' = wrap64 (d + 1) ∧ pSpans k size slide r.t ≠ [] ∧ ∀ sp ∈ pSpans k size slide r.t, lateB g sp = true))
set_option maxHeartbeats 4000000 in
set_option maxRecDepth 100000 in
theorem wrecord_any {W : World} {O K s : Nat} {k size slide a : Int} {fp : Nat → Prop} {M : List Pn} {g d : Int} (h : OW W O K s k size slide a fp M g d) (hw : FitW k size slide) (ha : 1 ≤ a ∧ a ≤ 5) (hs : In64 size) (hsl : In64 slide) (rk rt rv : Int) (hrk : In64 rk) (hrv : In64 rv) (ht : TimeOk rt) (hM : M.length ≤ 90000) (hap : Apart (sess k) M)
    (hc : (∀ sp ∈ pSpans k size slide rt, lateB g sp = false) ∨ (∀ sp ∈ pSpans k size slide rt, lateB g sp = true)) :
    Calls Tryz.prog 163 #[.pointer (some ⟨K, 0, none⟩), .agg #[.int .i64 rk, .int .i64 rt, .int .i64 rv]] W (RwPost W O K s k size slide a fp M g d ⟨rk, rt, rv⟩) := by
  have hk0 : k ≠ 0 := by have := hw.1; omega
  have hfs : FitS k size slide a := ⟨ha.1, ha.2, .inr hw⟩
  have hb1 := below_box W (.cells #[.int .i64 rk, .int .i64 rt, .int .i64 rv] 38)
  have HB1 := hide hb1
  have HX1 := hide (BoxT.new 38 W #[.int .i64 rk, .int .i64 rt, .int .i64 rv])
  have H1 := hide (h.below hb1)
  have HSPN := hide (fun w' => Spans_any w' k rt hs hsl)
  have hlen := pSpans_len k size slide rt
  have HPU := hide (fun (w' : World) (fp' : Nat → Prop) (M' : List Pn) (h' : SA w' s k size slide a fp' M') (hl : M'.length ≤ 90000) (ha : Apart (sess k) M') => Put_any h' hs hsl ⟨rk, rt, rv⟩ hrk hrv (sps_fit hfs ht) hl ha)
  have HFR : Hid (frS k size slide a ⟨rk, rt, rv⟩ = (pSpans k size slide rt).map fun sp => (⟨rk, sp.f, sp.t, ad a (zr a) rv⟩ : Pn)) := (show _ = _ by unfold frS sps; rw [if_neg hk0])
  have HAP := hide hap
  have HC := hide hc
  have HML := hide hM
  have HW0 := hide h
  unfold RwPost
  generalize frS k size slide a ⟨rk, rt, rv⟩ = FR at *
  simp only
  generalize pSpans k size slide rt = ss at *
  clear h hb1 hap hc hM hw ht hrk hrv hs hsl hk0 hfs
  go_enter Tryz.func163, Tryz.ntmps163
  go_upto_region 1 with fail
  refine wp_at (fun V => V = W.alloc (.cells #[.int .i64 rk, .int .i64 rt, .int .i64 rv] 38)) rfl ?_
  intro V hV
  rw [← hV] at HB1 HX1 H1
  obtain ⟨xb, hxb⟩ : ∃ xb, xb = W.heap.size := ⟨_, rfl⟩
  rw [← hxb] at HX1 ⊢
  have HXE := hide hxb
  clear hV hxb
  have BD : Hid (Below V.heap.size V V.drew) := (Below.refl _ _).drew
  have HD := hide (H1.out.below BD.out)
  have XD := hide (HX1.out.below BD.out)
  have y4 : V.drew.cell? ⟨K, 4, none⟩ = some (.int .i64 k) := HD.out.kb.cellAt 4
  have y5 : V.drew.cell? ⟨K, 5, none⟩ = some (.int .i64 size) := HD.out.kb.cellAt 5
  have y6 : V.drew.cell? ⟨K, 6, none⟩ = some (.int .i64 slide) := HD.out.kb.cellAt 6
  have y1 : V.drew.cell? ⟨xb, 1, none⟩ = some (.int .i64 rt) := XD.out.cellAt 1
  go_region_held3 (fun w' => w'.cell? ⟨K, 4, none⟩ = some (.int .i64 k) ∧ w'.cell? ⟨K, 5, none⟩ = some (.int .i64 size) ∧ w'.cell? ⟨K, 6, none⟩ = some (.int .i64 slide) ∧ w'.cell? ⟨xb, 1, none⟩ = some (.int .i64 rt)) (first | go_keep | exact ⟨y4, y5, y6, y1⟩ | exact ⟨z4, z5, z6, z1⟩)
    (first | (go_at_call 119; refine (HSPN.out _).mono ?_; rintro e w2 ⟨u, rfl, o2, b2⟩; have H2 := hide (HD.out.below b2); have X2 := hide (XD.out.below b2); have O2 := hide (o2.seg Sp.cs_len (by omega)); have B2 := hide (HB1.out.drew.trans (b2.mono HB1.out.size)); have z4 : w2.cell? ⟨K, 4, none⟩ = some (.int .i64 k) := H2.out.kb.cellAt 4; have z5 : w2.cell? ⟨K, 5, none⟩ = some (.int .i64 size) := H2.out.kb.cellAt 5; have z6 : w2.cell? ⟨K, 6, none⟩ = some (.int .i64 slide) := H2.out.kb.cellAt 6; have z1 : w2.cell? ⟨xb, 1, none⟩ = some (.int .i64 rt) := X2.out.cellAt 1; clear o2 b2) | fail)
  obtain ⟨ua, uc, rfl⟩ := O2.out.shapeOf
  have HEN := hide (ended_any H2.out O2.out (by omega))
  by_cases hnil : ss = []
  · subst hnil
    go_wp2_with (go_at_call 164; refine HEN.out.mono ?_; rintro e w3 ⟨rfl, b3⟩; have H3 := hide (H2.out.below b3); have B3 := hide (B2.out.trans (b3.mono (Nat.le_trans (Nat.le_of_eq HXE.out.symm) (Nat.le_of_lt X2.out.lt)))); clear b3)
    go_ret
    refine ⟨rfl, fp, M, d, H3.out, FT.of_below B3.out, .inl ⟨?_, rfl, fun sp h => by cases h⟩⟩
    rw [HFR.out]
    exact Comes.refl HAP.out
  have hpos : 0 < ss.length := List.length_pos_iff.2 hnil
  have HNL := hide hnil
  clear hnil
  rcases HC.out with hput | hall
  · have HPT := hide hput
    have hcnt0 : ss.countP (lateB g) = 0 := List.countP_eq_zero.2 (fun x hx => by rw [hput x hx]; decide)
    rw [hcnt0] at HEN
    have hne0 : (((ss.length : Nat) : Int) == 0) = false := by rw [beq_eq_false_iff_ne]; omega
    have hne1 : ((0 : Int) == ((ss.length : Nat) : Int)) = false := by rw [beq_eq_false_iff_ne]; omega
    clear hcnt0 hput
    go_upto_region 8 with (go_at_call 164; refine HEN.out.mono ?_; rintro e w3 ⟨rfl, b3⟩; have H3 := hide (H2.out.below b3); have X3 := hide (X2.out.below b3); have B3 := hide (B2.out.trans (b3.mono (Nat.le_trans (Nat.le_of_eq HXE.out.symm) (Nat.le_of_lt X2.out.lt)))); clear b3)
    have BD3 : Hid (Below w3.heap.size w3 w3.drew) := (Below.refl _ _).drew
    have H4 := hide (H3.out.below BD3.out)
    have X4 := hide (X3.out.below BD3.out)
    have B4 := hide (B3.out.drew)
    clear y4 y5 y6 y1 z4 z5 z6 z1
    have y0 : w3.drew.cell? ⟨K, 0, none⟩ = some (.pointer (some ⟨s, 0, none⟩)) := H4.out.kb.cellAt 0
    obtain ⟨r0, r1, r2⟩ := X4.out.cells3
    have HP := hide (HPU.out w3.drew fp M H4.out.sa HML.out HAP.out)
    go_region_held3 (fun w' => w'.cell? ⟨K, 0, none⟩ = some (.pointer (some ⟨s, 0, none⟩)) ∧ w'.cell? ⟨xb, 0, none⟩ = some (.int .i64 rk) ∧ w'.cell? ⟨xb, 1, none⟩ = some (.int .i64 rt) ∧ w'.cell? ⟨xb, 2, none⟩ = some (.int .i64 rv)) (first | go_keep | exact ⟨y0, r0, r1, r2⟩ | exact ⟨q0, q1, q2, q3⟩)
      (first | (go_at_call 97; refine HP.out.mono ?_; rintro e w5 ⟨rfl, fp5, M5, s5, t5, c5⟩; have H5 := hide (H4.out.turn s5 t5); have T5 := hide ((FT.of_below (fp := FO O K fp) B4.out).trans (t5.fo (O := O) (K := K))); have C5 := hide c5; have q0 : w5.cell? ⟨K, 0, none⟩ = some (.pointer (some ⟨s, 0, none⟩)) := H5.out.kb.cellAt 0; have x5 := X4.out.back (t5.block xb X4.out.lt (fun e => by have := HW0.out.sa.flt xb e; have := HXE.out; omega)); obtain ⟨q1, q2, q3⟩ := BoxT.cells3 (t := 38) x5; clear s5 t5 c5 x5) | fail)
    go_wp2_with fail
    go_ret
    exact ⟨rfl, fp5, M5, d, H5.out, T5.out, .inl ⟨C5.out, rfl, HPT.out⟩⟩
  · have hcntA : ss.countP (lateB g) = ss.length := List.countP_eq_length.2 hall
    rw [hcntA] at HEN
    have HAL := hide hall
    have hne0 : (((ss.length : Nat) : Int) == 0) = false := by rw [beq_eq_false_iff_ne]; omega
    clear hcntA hall y4 y5 y6 y1 z4 z5 z6 z1
    go_upto_region 6 with (go_at_call 164; refine HEN.out.mono ?_; rintro e w3 ⟨rfl, b3⟩; have H3 := hide (H2.out.below b3); have B3 := hide (B2.out.trans (b3.mono (Nat.le_trans (Nat.le_of_eq HXE.out.symm) (Nat.le_of_lt X2.out.lt)))); clear b3)
    have q3 : w3.cell? ⟨K, 3, none⟩ = some (.int .i64 d) := H3.out.kb.cellAt 3
    have fr := BoxT.free (t := 102) H3.out.kb
    go_wp2_with fail
    go_ret
    exact ⟨rfl, fp, M, _, H3.out.setD (wrap64 (d + 1)), (FT.of_below B3.out).trans (FT.setK _ O K fp 3 _), .inr ⟨rfl, rfl, HNL.out, HAL.out⟩⟩
theorem m_record (W : World) (K : Nat) : (method 317 100 (.pointer (some ⟨K, 0, none⟩)) "leat/ops.record").run Tryz.prog W = .ok (163, .pointer (some ⟨K, 0, none⟩)) W := by kernel_rfl
set_option maxHeartbeats 2000000 in
set_option maxRecDepth 100000 in
theorem Record_any {W : World} {O K s : Nat} {k size slide a : Int} {fp : Nat → Prop} {M : List Pn} {g d : Int} (h : OW W O K s k size slide a fp M g d) (hw : FitW k size slide) (ha : 1 ≤ a ∧ a ≤ 5) (hs : In64 size) (hsl : In64 slide) (rk rt rv : Int) (hrk : In64 rk) (hrv : In64 rv) (ht : TimeOk rt) (hM : M.length ≤ 90000) (hap : Apart (sess k) M)
    (hc : (∀ sp ∈ pSpans k size slide rt, lateB g sp = false) ∨ (∀ sp ∈ pSpans k size slide rt, lateB g sp = true)) :
    Calls Tryz.prog 14 #[.pointer (some ⟨O, 0, none⟩), .agg #[.int .i64 rk, .int .i64 rt, .int .i64 rv]] W (RwPost W O K s k size slide a fp M g d ⟨rk, rt, rv⟩) := by
  have hb1 := below_box W (.cells #[.int .i64 rk, .int .i64 rt, .int .i64 rv] 38)
  obtain ⟨V, hV⟩ : ∃ V, V = W.alloc (.cells #[.int .i64 rk, .int .i64 rt, .int .i64 rv] 38) := ⟨_, rfl⟩
  have hx : BoxT 38 V W.heap.size #[.int .i64 rk, .int .i64 rt, .int .i64 rv] := by rw [hV]; exact BoxT.new 38 W _
  rw [← hV] at hb1
  have hd : Below W.heap.size W V.drew := hb1.drew
  have HB := hide hd
  have h2 := h.below hd
  have HR := hide (wrecord_any h2 hw ha hs hsl rk rt rv hrk hrv ht hM hap hc)
  have y0 : V.drew.cell? ⟨O, 0, none⟩ = some (.iface 100 (.pointer (some ⟨K, 0, none⟩))) := h2.ob.cellAt 0
  obtain ⟨y1, y2, y3⟩ := (hx.below (show Below V.heap.size V V.drew from (Below.refl _ _).drew)).cells3
  have hm := m_record V.drew K
  have HXD := hide (hx.below (show Below V.heap.size V V.drew from (Below.refl _ _).drew))
  have HN : Hid (¬ FO O K fp W.heap.size) := (show ¬ _ from fun e => by
    rcases e with e | e | e
    · have := h.ob.lt; omega
    · have := h.kb.lt; omega
    · have := h.sa.flt _ e; omega)
  have HV := hide hV
  clear h h2 hb1 hx hd hV hc hap hw ht
  go_enter Tryz.func14, Tryz.ntmps14
  go_upto_region 1 with fail
  refine wp_at (fun V' => V' = V) HV.out.symm ?_
  rintro V' rfl
  clear HV
  go_region_held3 (fun w' => w'.cell? ⟨O, 0, none⟩ = some (.iface 100 (.pointer (some ⟨K, 0, none⟩))) ∧ w'.cell? ⟨W.heap.size, 0, none⟩ = some (.int .i64 rk) ∧ w'.cell? ⟨W.heap.size, 1, none⟩ = some (.int .i64 rt) ∧ w'.cell? ⟨W.heap.size, 2, none⟩ = some (.int .i64 rv)) (first | go_keep | exact ⟨y0, y1, y2, y3⟩ | exact ⟨z0, z1, z2, z3⟩)
    (first | (go_at_call 163; refine HR.out.mono ?_; rintro e w2 ⟨rfl, fp2, M2, d2, o2, t2, c2⟩; have O2 := hide o2; have T2 := hide t2; have C2 := hide c2; have z0 : w2.cell? ⟨O, 0, none⟩ = some (.iface 100 (.pointer (some ⟨K, 0, none⟩))) := o2.ob.cellAt 0; obtain ⟨z1, z2, z3⟩ := BoxT.cells3 (t := 38) (HXD.out.back (t2.block _ HXD.out.lt HN.out)); clear o2 t2 c2) | fail)
  go_wp2_with fail
  go_ret
  exact ⟨rfl, fp2, M2, d2, O2.out, (FT.of_below (fp := FO O K fp) HB.out).trans T2.out, C2.out⟩
end Go.Proofs.YtpcbhcdpegbfjaaGreat
