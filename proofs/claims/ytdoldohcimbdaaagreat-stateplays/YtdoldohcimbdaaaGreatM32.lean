/-
  Texts in build order: SEnd, SWFire.
-/
import Derived.Test.YtdoldohcimbdaaaGreatM27
import Derived.Test.YtdoldohcimbdaaaGreatM18
/-
  end: the sessions whose watermark has come are gone.
-/
namespace Go.Proofs.YtdoldohcimbdaaaGreat
open Go.RowKit

def endR (mk : Int) (r : SRow) : List Sp := keepO mk r.l
/-- What end has under way: done rows D (each with what is left of it, none empty), rows to come T. -/
structure EI (w wr : World) (o : Nat) (fq : Nat → Prop) (R D T : List SRow) (mk : Int) (E : List SRow) : Prop where
  rg : RangeAt Tryz.prog 2 wr o (w.heap.size + 1) ((E ++ T).map sEnt) (T.map sEnt)
  om : OM wr o fq (E ++ T)
  ft : FT fq fq w wr
  kb : BoxT 2 wr w.heap.size #[.int .i64 mk]
  all : R.Perm (D ++ T)
  dn : E.map (fun r => (r.k, r.l)) = (D.filter (fun r => !(endR mk r).isEmpty)).map (fun r => (r.k, endR mk r))
theorem OM.others {w1 w2 w3 : World} {o : Nat} {fq : Nat → Prop} {r : SRow} {Q : List SRow} (h : OM w1 o fq (r :: Q)) (hg : w1.grownBy w2 r.v.ownBlock) (ht : MTurn w2 w3 o) (hm : MapAt Tryz.prog 2 w3 o (Q.map sEnt)) : OM w3 o fq Q := by
  have hap := List.pairwise_cons.1 h.apart
  have s2 := hg.size
  refine ⟨hm, fun q hq => ?_, fun q hq => h.fr q (List.mem_cons_of_mem _ hq), hap.2, h.fo, fun i hi => by rw [ht.size]; exact Nat.lt_of_lt_of_le (h.flt i hi) s2⟩
  obtain ⟨q1, q2, q3⟩ := h.rows q (List.mem_cons_of_mem _ hq)
  refine ⟨q1.back (fun g e => ?_), q2, q3⟩
  have hgo : g ≠ o := fun e' => by
    obtain ⟨cu, hcu⟩ := q1.has g e
    obtain ⟨es, ck, hes⟩ := h.op.isMap
    rw [e', hes] at hcu; cases hcu
  rw [ht.other hgo]
  exact hg.block g (q1.lt g e) (fun e' => hap.1 q hq (e'.symm.trans e.symm))
theorem OM.swap {w1 w2 w3 : World} {o : Nat} {fq : Nat → Prop} {r : SRow} {Q : List SRow} (h : OM w1 o fq (r :: Q)) (hg : w1.grownBy w2 r.v.ownBlock) {v' : Value} {l' : List Sp} (ho : OwnL 68 2 Sp.cs 0 w2 v' l') (hl : l' ≠ []) (hin : ∀ g, v'.ownBlock = some g → r.v.ownBlock = some g) (ht : MTurn w2 w3 o) (hm : MapAt Tryz.prog 2 w3 o ((⟨r.k, v', l'⟩ :: Q : List SRow).map sEnt)) : OM w3 o fq (⟨r.k, v', l'⟩ :: Q) := by
  have hap := List.pairwise_cons.1 h.apart
  have s2 := hg.size
  have hkr := h.rows r (List.mem_cons_self ..)
  refine ⟨hm, fun q hq => ?_, fun q hq g e => ?_, List.pairwise_cons.2 ⟨fun q hq e => ?_, hap.2⟩, h.fo, fun i hi => by rw [ht.size]; exact Nat.lt_of_lt_of_le (h.flt i hi) s2⟩
  · rcases List.mem_cons.1 hq with rfl | hq
    · refine ⟨ho.back (fun g e => ht.other (fun e' => ?_)), hl, hkr.2.2⟩
      obtain ⟨cu, hcu⟩ := hkr.1.has g (hin g e)
      obtain ⟨es, ck, hes⟩ := h.op.isMap
      rw [e', hes] at hcu; cases hcu
    · obtain ⟨q1, q2, q3⟩ := h.rows q (List.mem_cons_of_mem _ hq)
      refine ⟨q1.back (fun g e => ?_), q2, q3⟩
      have hgo : g ≠ o := fun e' => by
        obtain ⟨cu, hcu⟩ := q1.has g e
        obtain ⟨es, ck, hes⟩ := h.op.isMap
        rw [e', hes] at hcu; cases hcu
      rw [ht.other hgo]
      exact hg.block g (q1.lt g e) (fun e' => hap.1 q hq (e'.symm.trans e.symm))
  · rcases List.mem_cons.1 hq with rfl | hq
    · exact h.fr r (List.mem_cons_self ..) g (hin g e)
    · exact h.fr q (List.mem_cons_of_mem _ hq) g e
  · simp only at e
    rcases ho.2 with ⟨_, q4⟩ | ⟨g, c, cu, q4, _⟩
    · exact hl (List.length_eq_zero_iff.1 q4)
    · have hg' : v'.ownBlock = some g := by rw [q4]; rfl
      rw [hg'] at e
      exact hap.1 q hq ((hin g hg').trans e)
def EPost (w : World) (o : Nat) (fq : Nat → Prop) (R : List SRow) (mk : Int) (e : Ending) (w' : World) : Prop := e = .returned (.tuple #[]) ∧ ∃ E D, OM w' o fq E ∧ FT fq fq w w' ∧ R.Perm D ∧ E.map (fun r => (r.k, r.l)) = (D.filter (fun r => !(endR mk r).isEmpty)).map (fun r => (r.k, endR mk r))
set_option maxHeartbeats 8000000 in
set_option maxRecDepth 100000 in
theorem end_any {w : World} {o : Nat} {fq : Nat → Prop} {R : List SRow} (h : OM w o fq R) (mk : Int) (hn : ∀ r ∈ R, r.l.length ≤ 100000) :
    Calls Tryz.prog 39 #[.map (some o), .int .i64 mk] w (EPost w o fq R mk) := by
  have hb1 := below_box w (.cells #[.int .i64 mk] 2)
  have HOM := hide (h.below hb1)
  have HMP := hide (h.below hb1).op
  have hmf : ∀ (fn : Fn) (first cap : Array Value) (w : World), (Instr.makeFunc fn first cap).run Tryz.prog w = .ok (.func fn first cap) w := fun _ _ _ _ => rfl
  have HH := hide h
  have HNL := hide hn
  have HB1 := hide hb1
  clear h hb1 hn
  go_enter Tryz.func39, Tryz.ntmps39
  go_wp2_with (first | (at_range; refine wp_rangeM _ rfl _ 74 rfl 79 Tryz.underlying74 rfl HMP.out ?_; intro w0 hrg0 hg0 hs0) | fail)
  try go_frame
  rw [show (w.alloc (.cells #[.int .i64 mk] 2)).heap.size = w.heap.size + 1 by simp]
  have H0 : Hid (EI w w0 o fq R [] R mk []) := by
    have hb0 : Below (w.alloc (.cells #[.int .i64 mk] 2)).heap.size (w.alloc (.cells #[.int .i64 mk] 2)) w0 := (Below.refl _ _).grown hg0 (Nat.le_refl _) (fun k e => by cases e)
    have e1 : (w.alloc (.cells #[.int .i64 mk] 2)).heap.size = w.heap.size + 1 := by simp
    rw [e1] at hrg0
    exact ⟨hrg0, HOM.out.below hb0, (FT.of_below HB1.out).trans (FT.of_below hb0), BoxT.below (t := 2) (BoxT.new _ _ _) hb0, .refl _, rfl⟩
  clear hrg0 hg0 hs0 HOM HMP
  go_loopg [4, 5, 8] (R.length + 1) (fun gh _ _ _ wr => ∃ D T E, T.length + 1 ≤ gh ∧ Hid (EI w wr o fq R D T mk E))
  case atStart => exact ⟨[], R, [], Nat.le_refl _, H0⟩
  case round =>
    obtain ⟨D, T, E, hgh, HI⟩ := hrel
    obtain ⟨go, rfl⟩ : ∃ go, gk = go + 1 := ⟨gk - 1, by omega⟩
    have hrg := hide HI.out.rg
    go_wp2_with (first | (at_next; refine wp_nextM sEnt _ rfl _ rfl rfl hrg.out ?_ ?_) | fail)
    · intro hl0
      subst hl0
      go_wp2_with fail
      go_end0
      refine ⟨rfl, E, D, ?_, HI.out.ft, ?_, HI.out.dn⟩
      · have := HI.out.om; rwa [List.append_nil] at this
      · have := HI.out.all; rwa [List.append_nil] at this
    · intro r T' w1 hp hr1 hg1 hs1 hen
      have hl2 := hp.length_eq
      simp only [List.length_cons] at hl2
      have hom0 := (HI.out.om.back (w' := w1) (fun i hi => hg1.block i (HI.out.om.flt i hi) (fun e => by cases e; have := HH.out.flt _ hi; omega)) hg1.size).perm (List.Perm.trans (List.Perm.append_left E hp) List.perm_middle)
      have HOM := hide hom0
      have HK1 : Hid (BoxT 2 w1 w.heap.size #[.int .i64 mk]) := HI.out.kb.grown hg1 (by omega)
      have hro := (hom0.rows r (List.mem_cons_self ..))
      have hmr : r ∈ R := HI.out.all.mem_iff.2 (List.mem_append_right _ (hp.mem_iff.2 (List.mem_cons_self ..)))
      have hnr := HNL.out r hmr
      have hblt : ∀ g, r.v.ownBlock = some g → g < w.heap.size := fun g e => HH.out.flt g (hom0.fr r (List.mem_cons_self ..) g e)
      have HDE := hide (delete_any HK1.out hro.1 (fun e => by have := hblt _ e; omega) (by omega))
      have HFT : Hid (FT fq fq w w1) := ⟨hg1.os.trans HI.out.ft.os, hg1.tape.trans HI.out.ft.tape, hg1.output.trans HI.out.ft.output, Nat.le_trans HI.out.ft.size hg1.size, fun i hi hn => (hg1.block i (Nat.lt_of_lt_of_le hi HI.out.ft.size) (fun e => by cases e; omega)).trans (HI.out.ft.block i hi hn), fun i hi => .inl hi⟩
      have HR1 : Hid (RangeAt Tryz.prog 2 w1 o (w.heap.size + 1) (sEnt r :: (E ++ T').map sEnt) (T'.map sEnt)) := hr1.perm (by have h9 := (List.Perm.trans (List.Perm.append_left E hp) List.perm_middle).map sEnt; rw [List.map_append, List.map_cons] at h9; exact h9) (.refl _)
      have HKE := hide (keyI hro.2.2)
      have HUN : Hid (∀ p ∈ T'.map sEnt, p.1 ≠ (.int .i64 r.k : Value)) := fun p hp' e => by
        have h1 := hom0.op.nodup
        rw [List.map_cons, List.map_cons, List.nodup_cons] at h1
        refine h1.1 ?_
        obtain ⟨q, hq, rfl⟩ := List.mem_map.1 hp'
        refine List.mem_map.2 ⟨sEnt q, List.mem_map.2 ⟨q, List.mem_append_right _ hq, rfl⟩, e⟩
      have HP := hide hp
      have HBL := hide hblt
      have hsh := hro.1.shape
      have hrb := HI.out.rg.lt
      clear hom0 hro hmr hnr hblt hp hr1 hg1 hs1 hrg
      obtain ⟨k, v, l⟩ := r
      simp only [sEnt] at hen
      unfold sEnt
      simp only at *
      obtain ⟨va, vc, rfl⟩ := hsh
      have HR2 : Hid (∀ w2, w1.grownBy w2 (Value.slice va l.length vc).ownBlock → RangeAt Tryz.prog 2 w2 o (w.heap.size + 1) (sEnt ⟨k, .slice va l.length vc, l⟩ :: (E ++ T').map sEnt) (T'.map sEnt)) := fun w2 g2 => HR1.out.back (g2.block _ HR1.out.mapAt.lt (fun e => by
        obtain ⟨cu, hcu⟩ := (HOM.out.rows _ (List.mem_cons_self ..)).1.has _ e.symm
        obtain ⟨es, ck, hes⟩ := HR1.out.mapAt.isMap
        rw [hes] at hcu; cases hcu)) (g2.block _ HR1.out.lt (fun e => by have := HBL.out _ e.symm; omega))
      have HFIN : Hid (∀ (w2 w3 : World) (E' : List SRow), w1.grownBy w2 (Value.slice va l.length vc).ownBlock → MTurn w2 w3 o → RangeAt Tryz.prog 2 w3 o (w.heap.size + 1) ((E' ++ T').map sEnt) (T'.map sEnt) → OM w3 o fq (E' ++ T') → E'.map (fun r => (r.k, r.l)) = ((D ++ [(⟨k, .slice va l.length vc, l⟩ : SRow)]).filter (fun r => !(endR mk r).isEmpty)).map (fun r => (r.k, endR mk r)) → EI w w3 o fq R (D ++ [⟨k, .slice va l.length vc, l⟩]) T' mk E') := fun w2 w3 E' g2 t3 rg3 om3 hd => by
        have hKo : w.heap.size ≠ o := fun e => by have := HH.out.flt o HH.out.fo; omega
        have s2 := g2.size
        refine ⟨rg3, om3, ⟨t3.grown.os.trans (g2.os.trans HFT.out.os), t3.grown.tape.trans (g2.tape.trans HFT.out.tape), t3.grown.output.trans (g2.output.trans HFT.out.output), by have := HFT.out.size; rw [t3.size]; omega, fun i hi hn => ?_, fun i hi => .inl hi⟩, ?_, ?_, hd⟩
        · rw [t3.other (show i ≠ o from fun e => hn (e ▸ HH.out.fo)), g2.block i (Nat.lt_of_lt_of_le hi HFT.out.size) (fun e => hn (HOM.out.fr _ (List.mem_cons_self ..) i e.symm))]
          exact HFT.out.block i hi hn
        · have h1 : BoxT 2 w2 w.heap.size #[.int .i64 mk] := by
            have h2 := g2.block w.heap.size HK1.out.lt (fun e => by have := HBL.out _ e.symm; omega)
            have h3 := HK1.out
            unfold BoxT at *
            rw [h2]; exact h3
          have h4 := t3.other hKo
          unfold BoxT at *
          rw [h4]; exact h1
        · refine HI.out.all.trans ?_
          rw [List.append_assoc]
          exact List.Perm.append_left D HP.out
      have HDN := hide HI.out.dn
      by_cases hE : keepO mk l = []
      · have HDE2 := HDE
        rw [hE] at HDE2
        clear HDE
        have HDE := HDE2
        clear HDE2
        go_wp2_with (first | (go_at_call 58; refine HDE.out.mono ?_; rintro e w2 ⟨v2, rfl, o2, g2, k2⟩; obtain ⟨ua, uc, rfl⟩ := o2.shape; have O2 := hide o2; have G2 := hide g2; have K2 := hide k2; have R2 := hide (HR2.out w2 g2); obtain ⟨w3, hrun3, rg3, mt3⟩ := R2.out.drop_hit Tryz.lawI Tryz.underlying74 HKE.out (R := (E ++ T').map sEnt) (.refl _) HUN.out 0; have RG3 := hide rg3; have MT3 := hide mt3; clear rg3 mt3; clear o2 g2 k2) | fail)
        go_roundg go
        case rel =>
          have hd : E.map (fun r => (r.k, r.l)) = ((D ++ [(⟨k, .slice va l.length vc, l⟩ : SRow)]).filter (fun r => !(endR mk r).isEmpty)).map (fun r => (r.k, endR mk r)) := by
            rw [HDN.out, List.filter_append]
            have : endR mk ⟨k, .slice va l.length vc, l⟩ = [] := hE
            simp [this]
          exact ⟨_, T', E, by omega, hide (HFIN.out w2 w3 E G2.out MT3.out RG3.out (HOM.out.others G2.out MT3.out RG3.out.mapAt) hd)⟩
        case measure => omega
      · have hpos : ¬ ((keepO mk l).length : Int) = 0 := by have : (keepO mk l).length ≠ 0 := fun e => hE (List.length_eq_zero_iff.1 e); omega
        have HKN := hide hE
        generalize hKL : keepO mk l = KL at *
        have HKL := hide hKL
        clear hKL hE
        go_wp2_with (first | (go_at_call 58; refine HDE.out.mono ?_; rintro e w2 ⟨v2, rfl, o2, g2, k2⟩; obtain ⟨ua, uc, rfl⟩ := o2.shape; have O2 := hide o2; have G2 := hide g2; have K2 := hide k2; have R2 := hide (HR2.out w2 g2); obtain ⟨w3, hrun3, rg3, mt3⟩ := R2.out.store_old (v := .slice ua KL.length uc) Tryz.lawI Tryz.underlying74 HKE.out (R := (E ++ T').map sEnt) (.refl _) HUN.out; have RG3 := hide rg3; have MT3 := hide mt3; clear rg3 mt3; clear o2 g2 k2) | (at_mapUpdate; refine wp_putM rfl _ _ _ 74 rfl _ _ _ rfl rfl rfl hrun3 ?_) | fail)
        go_roundg go
        case rel =>
          have hpm : (⟨k, .slice ua KL.length uc, KL⟩ :: (E ++ T') : List SRow).Perm ((E ++ [⟨k, .slice ua KL.length uc, KL⟩]) ++ T') := by
            rw [List.append_assoc]
            exact List.perm_middle.symm
          have hd : (E ++ [(⟨k, .slice ua KL.length uc, KL⟩ : SRow)]).map (fun r => (r.k, r.l)) = ((D ++ [(⟨k, .slice va l.length vc, l⟩ : SRow)]).filter (fun r => !(endR mk r).isEmpty)).map (fun r => (r.k, endR mk r)) := by
            rw [List.map_append, HDN.out, List.filter_append, List.map_append]
            have h1 : endR mk ⟨k, .slice va l.length vc, l⟩ = KL := HKL.out
            have h2 : KL.isEmpty = false := by cases hk : KL with
              | nil => exact absurd hk HKN.out
              | cons _ _ => rfl
            simp [h1, h2]
          have hrg5 : RangeAt Tryz.prog 2 w3 o (w.heap.size + 1) (List.map sEnt ((E ++ [(⟨k, .slice ua KL.length uc, KL⟩ : SRow)]) ++ T')) (T'.map sEnt) := RG3.out.perm (by have h9 := hpm.map sEnt; rw [List.map_cons] at h9; exact h9) (.refl _)
          exact ⟨_, T', _, by omega, hide (HFIN.out w2 w3 _ G2.out MT3.out hrg5 ((HOM.out.swap G2.out O2.out HKN.out K2.out MT3.out RG3.out.mapAt).perm hpm) hd)⟩
        case measure => omega
end Go.Proofs.YtdoldohcimbdaaaGreat
/-
  Fire.
-/
namespace Go.Proofs.YtdoldohcimbdaaaGreat
open Go.RowKit

/-- It is over at that mark. -/
def ovr (mk : Int) (p : Pn) : Bool := decide (wrap64 (p.t - 1) ≤ mk)
def rcOf (p : Pn) : Rc := ⟨p.k, wrap64 (p.t - 1), p.a⟩
def outF (mk : Int) (l : List Pn) : List Rc := (l.filter (ovr mk)).map rcOf
def leftF (mk : Int) (l : List Pn) : List Pn := l.filter fun p => !ovr mk p
theorem out_step {mk : Int} {l : List Pn} {i : Nat} {p : Pn} (h : l[i]? = some p) : outF mk (l.take (i + 1)) = if ovr mk p then outF mk (l.take i) ++ [rcOf p] else outF mk (l.take i) := by
  have hlt := lt_of_get h
  have e : l[i] = p := by rw [List.getElem?_eq_getElem hlt] at h; exact Option.some.inj h
  rw [List.take_succ_eq_append_getElem hlt, e]
  unfold outF
  rw [List.filter_append]
  cases hb : ovr mk p <;> simp [hb]
theorem left_step {mk : Int} {l : List Pn} {i : Nat} {p : Pn} (h : l[i]? = some p) : leftF mk (l.take (i + 1)) = if ovr mk p then leftF mk (l.take i) else leftF mk (l.take i) ++ [p] := by
  have hlt := lt_of_get h
  have e : l[i] = p := by rw [List.getElem?_eq_getElem hlt] at h; exact Option.some.inj h
  rw [List.take_succ_eq_append_getElem hlt, e]
  unfold leftF
  rw [List.filter_append]
  cases hb : ovr mk p <;> simp [hb]
theorem out_len (mk : Int) (l : List Pn) : (outF mk l).length ≤ l.length := by
  unfold outF; rw [List.length_map]; exact List.length_filter_le ..
theorem left_len (mk : Int) (l : List Pn) : (leftF mk l).length ≤ l.length := List.length_filter_le ..
theorem take_len {α : Type} (l : List α) (n : Nat) : (l.take n).length ≤ l.length := by rw [List.length_take]; omega
theorem new3 (W : World) {n : Nat} (hn : n = W.heap.size) (x : Rc) (j : Nat) (u : Value) (hu : (Rc.cs x)[j]? = some u) : (W.alloc (.cells #[.int .i64 x.k, .int .i64 x.t, .int .i64 x.v] 39)).cell? ((⟨n, 0, none⟩ : Addr).add j) = some u := by
  have hb : BoxT 39 _ n _ := BoxT.new_at (t := 39) (w := W) (cs := #[.int .i64 x.k, .int .i64 x.t, .int .i64 x.v]) hn
  rw [add_plain2, hb.cellAt, Nat.zero_add]
  have hl := lt_of_get hu
  rw [Rc.cs_len] at hl
  match j, hu with
  | 0, hu | 1, hu | 2, hu => simp [Rc.cs] at hu; subst hu; rfl
theorem OwnL.other {α β : Type} {t t' sz sz' : Nat} {cs : α → List Value} {cs' : β → List Value} {base base' : Nat} {w w' : World} {v v' : Value} {xs : List α} {ys : List β} (h : OwnL t sz cs base w v xs) (h' : OwnL t' sz' cs' base' w v' ys) (hg : w.grownBy w' v'.ownBlock) (ht : t ≠ t') : OwnL t sz cs base w' v xs := by
  refine h.back (fun g e => hg.block g (h.lt g e) (fun e' => ?_))
  obtain ⟨c1, h1⟩ := h.has g e
  obtain ⟨c2, h2⟩ := h'.has g e'.symm
  rw [h1] at h2
  simp at h2
  exact ht h2.2
set_option maxHeartbeats 4000000 in
set_option maxRecDepth 100000 in
theorem Fire_any {w : World} {v : Value} {l : List Pn} (hl : LSeg 4 Pn.cs w.heap.size w v l) (hn : l.length ≤ 100000) (mk : Int) : Calls Tryz.prog 40 #[v, .int .i64 mk] w fun e w' => ∃ u1 u2, e = .returned (.tuple #[u1, u2]) ∧ OwnL 39 3 Rc.cs w.heap.size w' u1 (outF mk (srt l)) ∧ OwnL 70 4 Pn.cs w.heap.size w' u2 (leftF mk (srt l)) ∧ Below w.heap.size w w' := by
  have HS1 := hide (Sort_any hl (by omega))
  obtain ⟨ao, cap, rfl⟩ := hl.shapeOf
  have hsl : (srt l).length ≤ 100000 := by rw [srt_len]; exact hn
  generalize srt l = m at *
  clear hl hn
  go_enter Tryz.func40, Tryz.ntmps40
  go_wp2_with (go_at_call 41; refine HS1.out.mono ?_; rintro e w1 ⟨u, rfl, o1, b1⟩; obtain ⟨ua, uc, rfl⟩ := (o1.seg Pn.cs_len (by omega)).shapeOf; have O1 := hide (o1.seg Pn.cs_len (by omega)); have B1 := hide b1; clear o1 b1)
  clear HS1
  go_loopg [6, 7, 9, 10, 14] (m.length + 1) (fun gh ov lv _ _ iv wr => ∃ i : Nat, iv = .int .i64 (i : Int) ∧ i ≤ m.length ∧ m.length + 1 ≤ gh + i ∧ Hid (OwnL 39 3 Rc.cs w1.heap.size wr ov (outF mk (m.take i))) ∧ Hid (OwnL 70 4 Pn.cs w1.heap.size wr lv (leftF mk (m.take i))) ∧ Hid (Below w1.heap.size w1 wr))
  case atStart => exact ⟨0, rfl, by omega, by omega, OwnL.nil _ _ _ _ _, OwnL.nil _ _ _ _ _, Below.refl _ _⟩
  case round =>
    obtain ⟨i, rfl, hi, hg, GO, GL, GB⟩ := hrel
    obtain ⟨go, rfl⟩ : ∃ go, gk = go + 1 := ⟨gk - 1, by omega⟩
    by_cases hlt : i < m.length
    · obtain ⟨x, hx⟩ := get_of_lt hlt
      have bt : (i : Int) < (m.length : Int) := by omega
      obtain ⟨nb, no, rfl, nlt, e0, e1, e2, e3⟩ := (O1.out.below GB.out).pane hx
      have HOS := hide (out_step (mk := mk) hx)
      have HLS := hide (left_step (mk := mk) hx)
      have HOL : Hid ((outF mk (m.take i)).length ≤ 1000000) := (show _ ≤ _ by have h1 := out_len mk (m.take i); have h2 := take_len m i; omega)
      have HLL : Hid ((leftF mk (m.take i)).length ≤ 1000000) := (show _ ≤ _ by have h1 := left_len mk (m.take i); have h2 := take_len m i; omega)
      generalize outF mk (m.take i) = oi at *
      generalize leftF mk (m.take i) = li at *
      obtain ⟨oa, oc, rfl⟩ := GO.out.shape
      obtain ⟨la, lc, rfl⟩ := GL.out.shape
      clear hx
      obtain ⟨xk, xf, xt, xa⟩ := x
      simp only at e0 e1 e2 e3
      have HOV : Hid (ovr mk ⟨xk, xf, xt, xa⟩ = decide (wrap64 (xt - 1) ≤ mk)) := (show _ = _ from rfl)
      have HRC : Hid (rcOf ⟨xk, xf, xt, xa⟩ = ⟨xk, wrap64 (xt - 1), xa⟩) := (show _ = _ from rfl)
      rw [HOV.out] at HOS HLS
      rw [HRC.out] at HOS
      clear HOV HRC
      have hbx := below_box2 wr (.cells #[.int .i64 xk, .int .i64 xf, .int .i64 xt, .int .i64 xa] 70)
      by_cases ho : wrap64 (xt - 1) ≤ mk
      · rw [decide_eq_true ho, if_pos rfl] at HOS HLS
        have HB3 := hide (hbx (.cells #[.int .i64 xk, .int .i64 (wrap64 (xt - 1)), .int .i64 xa] 39))
        have HO3 := hide (GO.out.below HB3.out)
        have HL3 := hide (GL.out.below HB3.out)
        have HS3 := hide (GB.out.trans (HB3.out.mono GB.out.size))
        have HSZ := hide HS3.out.size
        clear hbx
        go_wp2_with (at_builtin; refine app_L Tryz.infoRc Tryz.underlying47 rfl (by decide) (by decide) Rc.cs_len Rc.cs_one rfl _ _ rfl w1.heap.size _ oi rfl HO3.out _ _ (⟨xk, wrap64 (xt - 1), xa⟩ : Rc) rfl (new3 (wr.alloc _) (by simp) ⟨xk, wrap64 (xt - 1), xa⟩) HOL.out HSZ.out ?_; intro v5 w5 h5 g5 k5)
        go_roundg go
        case rel => exact ⟨i + 1, by go_num, by omega, by omega, (show OwnL _ _ _ _ _ _ _ by rw [HOS.out]; exact h5), (show OwnL _ _ _ _ _ _ _ by rw [HLS.out]; exact HL3.out.other HO3.out g5 (by decide)), HS3.out.grown g5 HSZ.out (fun k e => GO.out.at k e)⟩
        case measure => omega
      · rw [decide_eq_false ho, if_neg (by decide)] at HOS HLS
        have HB3 := hide (hbx (.cells #[.int .i64 xk, .int .i64 xf, .int .i64 xt, .int .i64 xa] 70))
        have HO3 := hide (GO.out.below HB3.out)
        have HL3 := hide (GL.out.below HB3.out)
        have HS3 := hide (GB.out.trans (HB3.out.mono GB.out.size))
        have HSZ := hide HS3.out.size
        clear hbx
        go_wp2_with (at_builtin; refine app_L Tryz.infoPn Tryz.underlying44 rfl (by decide) (by decide) Pn.cs_len Pn.cs_one rfl _ _ rfl w1.heap.size _ li rfl HL3.out _ _ (⟨xk, xf, xt, xa⟩ : Pn) rfl (new4 (wr.alloc _) (by simp) ⟨xk, xf, xt, xa⟩) HLL.out HSZ.out ?_; intro v5 w5 h5 g5 k5)
        go_roundg go
        case rel => exact ⟨i + 1, by go_num, by omega, by omega, (show OwnL _ _ _ _ _ _ _ by rw [HOS.out]; exact HO3.out.other HL3.out g5 (by decide)), (show OwnL _ _ _ _ _ _ _ by rw [HLS.out]; exact h5), HS3.out.grown g5 HSZ.out (fun k e => GL.out.at k e)⟩
        case measure => omega
    · have bt : ¬ (i : Int) < (m.length : Int) := by omega
      have HT : Hid (m.take i = m) := (show _ = _ from List.take_of_length_le (by omega))
      rw [HT.out] at GO GL
      have hbb := B1.out.trans (GB.out.mono B1.out.size)
      have HBB := hide hbb
      clear hbb
      obtain ⟨oa, oc, rfl⟩ := GO.out.shape
      obtain ⟨la, lc, rfl⟩ := GL.out.shape
      go_wp2_with fail
      exact bodyPost_ret (v := .tuple #[.slice oa (outF mk m).length oc, .slice la (leftF mk m).length lc]) (by simp [results, Tryz.results40, go_sem]; try rfl) rfl ⟨_, _, rfl, GO.out.mono B1.out.size, GL.out.mono B1.out.size, HBB.out⟩
end Go.Proofs.YtdoldohcimbdaaaGreat
