/-
  Stage.
-/
import Derived.Test.YteafnohponbbeaaKUpto
namespace Go.Proofs.Yteafnohponbbeaa
open Go.RowKit

def grS (s : PS) : Nat := match s.stg.getLast? with | none => s.last | some x => x.1
theorem grS_eq (p : Pt) : grS p.ps = gr p.last p.stg := by
  unfold grS gr Pt.ps
  simp only
  rw [List.getLast?_map]
  cases p.stg.getLast? <;> rfl
def stageS (s : PS) (n : Nat) (rs : List Rc) : PS := { s with stg := s.stg ++ [(n, rs)] }
theorem gr_ge {p : Pt} (h : PtP p) : p.last ≤ gr p.last p.stg ∧ ∀ x ∈ p.stg, x.n ≤ gr p.last p.stg := by
  cases hc : p.stg.getLast? with
  | none =>
    have e : p.stg = [] := List.getLast?_eq_none_iff.1 hc
    rw [e]
    exact ⟨Nat.le_refl _, fun x hx => (List.not_mem_nil hx).elim⟩
  | some y =>
    have e : gr p.last p.stg = y.n := by unfold gr; rw [hc]
    have hy : y ∈ p.stg := List.mem_of_getLast? hc
    rw [e]
    refine ⟨Nat.le_of_lt (h.ls y hy), fun x hx => ?_⟩
    obtain ⟨a, ha⟩ := List.getElem?_of_mem hx
    rw [List.getLast?_eq_getElem?] at hc
    exact h.rs.at (by have := lt_of_get ha; omega) ha hc
/-- What a call leaves. -/
def SPost (w w' : World) (l mm : Nat) (fq : Nat → Prop) (f : Int → PS) (O : List Tx) (W : Nat) : Prop :=
  ∃ ov' fq' Ms', LX w' l mm ov' fq' f O W Ms' ∧ FT (FP l mm fq) (FP l mm fq') w w'
theorem PtOk.back {w w' : World} {fq fq' : Nat → Prop} {p : Pt} (h : PtOk w fq p) (hf : ∀ i, fq i → fq' i) (hb : ∀ i, fq i → w'.heap[i]? = w.heap[i]?) : PtOk w' fq' p := by
  have hx : ∀ x, TxOk w fq x → TxOk w' fq' x := fun x hx => ⟨hx.row.back (fun g e => hb g (hx.fr g e)), fun g e => hf g (hx.fr g e)⟩
  exact ⟨h.cr.back (fun g e => hb g (h.fr g (.inl e))), h.sr.back (fun g e => hb g (h.fr g (.inr e))), fun g e => hf g (h.fr g e), h.cs, fun x h2 => hx x (h.co x h2), fun x h2 => hx x (h.so x h2)⟩
theorem Ris.snoc {l : List Tx} {x : Tx} (h : Ris l) (hx : ∀ y ∈ l, y.n < x.n) : Ris (l ++ [x]) :=
  List.pairwise_append.2 ⟨h, List.pairwise_singleton _ _, fun a ha b hb => by obtain rfl := List.mem_singleton.1 hb; exact hx a ha⟩
theorem stage_fin {w w6 w7 : World} {l mm : Nat} {ov : Value} {fq : Nat → Prop} {f : Int → PS} {O : List Tx} {W : Nat} {k : Int} {p : Pt} {R : List Pt} (P : PickAt w l mm ov fq f O W k p R) {v5 : Value} {x : Tx}
    (hft : FT (fun i => p.sv.ownBlock = some i) (fun i => p.sv.ownBlock = some i) w w6) (hrow : Row 69 2 Tx.cs 0 w6 v5 (p.stg ++ [x])) (hrec : OwnL 39 3 Rc.cs w.heap.size w6 x.v x.rs) (hv5 : ∀ g, v5.ownBlock = some g → p.sv.ownBlock = some g ∨ w.heap.size ≤ g)
    (hn : gr p.last p.stg < x.n) (hmp : MapAt Try.prog 3 w7 mm ((.int .i64 k, .agg #[p.cv, v5, .int .u64 (p.last : Int)]) :: R.map pEnt)) (hmt : MTurn w6 w7 mm) :
    SPost w w7 l mm fq (upd f k (stageS (f k) x.n x.rs)) O (W + x.rs.length + 1) := by
  have hp := P.g.pts p (List.mem_cons_self ..)
  have hpp := P.pl.pp p (List.mem_cons_self ..)
  obtain ⟨g1, g2⟩ := gr_ge hpp
  let fq' : Nat → Prop := fun i => fq i ∨ v5.ownBlock = some i ∨ x.v.ownBlock = some i
  let p' : Pt := { p with sv := v5, stg := p.stg ++ [x] }
  have hlt : ∀ i, fq i → i < w.heap.size := P.g.flt
  have hbl : ∀ i, i < w.heap.size → p.sv.ownBlock ≠ some i → w6.heap[i]? = w.heap[i]? := fun i hi hne => hft.block i hi hne
  have hty : ∀ i cur, BoxT 39 w i cur → w6.heap[i]? = w.heap[i]? := fun i cur hc => hbl i hc.lt (fun e => by
    obtain ⟨c2, h2⟩ := hp.sr.has i e
    exact BoxT.ne (t := 39) (t' := 69) hc h2 (by decide) rfl)
  have hx0 : ∀ y, TxOk w fq y → TxOk w6 fq' y := fun y hy => hy.back (fun i e => .inl e) hty
  have hv6 : ∀ g, v5.ownBlock = some g → g < w6.heap.size := fun g e => by obtain ⟨cur, hc⟩ := hrow.has g e; exact hc.lt
  have hn' : ∀ i, fq' i → fq i ∨ (w.heap.size ≤ i ∧ i < w6.heap.size) := fun i hi => by
    rcases hi with e | e | e
    · exact .inl e
    · rcases hv5 i e with e2 | e2
      · exact .inl (hp.fr i (.inr e2))
      · exact .inr ⟨e2, hv6 i e⟩
    · exact .inr ⟨hrec.at i e, hrec.lt i e⟩
  have hp' : PtOk w6 fq' p' := ⟨hp.cr.back (fun g e => hbl g (hlt g (hp.fr g (.inl e))) (hp.cs g e)), hrow, fun g e => by
      rcases e with e | e
      · exact .inl (hp.fr g (.inl e))
      · exact .inr (.inl e), fun g e1 e2 => by
      rcases hv5 g e2 with e3 | e3
      · exact hp.cs g e1 e3
      · have := hlt g (hp.fr g (.inl e1)); omega, fun y hy => hx0 y (hp.co y hy), fun y hy => by
      rcases List.mem_append.1 hy with hy | hy
      · exact hx0 y (hp.so y hy)
      · obtain rfl := List.mem_singleton.1 hy
        exact ⟨hrec.own, fun g e => .inr (.inr e)⟩⟩
  have G6 : LG w6 l mm ov fq' (p' :: R) O := P.g.swap hft.size (fun i hi hne => hbl i hi (fun e => hne (.inr e))) (fun i e => .inl e) hn' hp' (fun i e => by
    rcases e with e | e
    · exact .inl (.inl e)
    · rcases hv5 i e with e2 | e2
      · exact .inl (.inr e2)
      · exact .inr e2)
  refine ⟨ov, fq', p' :: R, ⟨G6.turn hmt, ⟨?_, ?_, ?_, ?_⟩, ?_, ?_⟩, ?_⟩
  · have := P.pl.keys
    exact this
  · intro q hq
    rcases List.mem_cons.1 hq with rfl | hq
    · exact ⟨hpp.key, hpp.rc, hpp.rs.snoc (fun y hy => by have := g2 y hy; omega), hpp.cl, fun y hy => by
        rcases List.mem_append.1 hy with hy | hy
        · exact hpp.ls y hy
        · obtain rfl := List.mem_singleton.1 hy
          show p.last < _
          omega⟩
    · exact P.pl.pp q (List.mem_cons_of_mem _ hq)
  · have := P.pl.wt
    rw [sumS_cons] at this ⊢
    show sumw O + (sumw (p.stg ++ [x]) + sumS R) ≤ _
    rw [sumw_append, sumw_cons, sumw_nil]
    omega
  · intro q hq
    rcases List.mem_cons.1 hq with rfl | hq
    · exact P.pl.cw p (List.mem_cons_self ..)
    · exact P.pl.cw q (List.mem_cons_of_mem _ hq)
  · rw [List.map_cons]
    have e : pEnt p' = (.int .i64 k, .agg #[p.cv, v5, .int .u64 (p.last : Int)]) := by
      show (Value.int .i64 p.k, _) = _
      rw [P.key]; rfl
    rw [e]; exact hmp
  · have h1 := P.s.swap (p' := p') P.pl.keys P.key P.key
    have e : p'.ps = stageS (f k) x.n x.rs := by
      rw [P.ps]
      show (⟨p.com.map Tx.pr, (p.stg ++ [x]).map Tx.pr, p.last⟩ : PS) = _
      rw [List.map_append]; rfl
    rwa [e] at h1
  · have hg := hmt.grown
    refine ⟨hg.os.trans hft.os, hg.tape.trans hft.tape, hg.output.trans hft.output, Nat.le_trans hft.size hg.size, fun i hi hne => (hg.block i (Nat.lt_of_lt_of_le hi hft.size) (fun e => hne (.inr (.inl (by cases e; rfl))))).trans (hbl i hi (fun e => hne (.inr (.inr (hp.fr i (.inr e)))))), fun i hi => ?_⟩
    rcases hi with e | e | e
    · exact .inl (.inl e)
    · exact .inl (.inr (.inl e))
    · rcases hn' i e with e | ⟨e, _⟩
      · exact .inl (.inr (.inr e))
      · exact .inr e
theorem newTx {w : World} {N : Nat} {x : Tx} (hb : BoxT 69 w N #[.int .u64 (x.n : Int), x.v]) : ∀ j u, (Tx.cs x)[j]? = some u → w.cell? ((⟨N, 0, none⟩ : Addr).add j) = some u := by
  intro j u hu
  rw [add_plain2, hb.cellAt]
  simpa [Tx.cs] using hu
set_option maxHeartbeats 4000000 in
set_option maxRecDepth 100000 in
theorem Stage_no {w : World} {l mm : Nat} {ov : Value} {fq : Nat → Prop} {f : Int → PS} {O : List Tx} {W : Nat} {Ms : List Pt} (h : LX w l mm ov fq f O W Ms) (hW : W ≤ 500000) {k : Int} (hk : In64 k) {n : Nat} (hn : n ≤ grS (f k)) (rv : Value) :
    Calls Try.prog 11 #[.pointer (some ⟨l, 0, none⟩), .int .i64 k, .int .u64 (n : Int), rv] w fun e w' => e = .returned (.int .i64 170) ∧ Below w.heap.size w w' := by
  obtain ⟨p, R, P⟩ := h.pick hk
  have hlook := P.look w rfl
  rw [P.ps, grS_eq] at hn
  obtain ⟨c0, c1⟩ := P.g.box.cells2
  have hp := P.g.pts p (List.mem_cons_self ..)
  obtain ⟨ca, cc, sa, sc, hcv, hsv, hv⟩ := hp.shape
  rw [hv] at hlook
  have hstg := hp.sr
  rw [hsv] at hstg
  have hlen : p.stg.length ≤ 500000 := by
    have := P.pl.wt
    rw [sumS_cons] at this
    have := sumw_len p.stg
    omega
  have segs := hstg.seg Tx.cs_len (by omega)
  generalize p.com.length = cn at *
  have hb1 := below_box w (.cells #[.slice ca cn cc, .slice sa p.stg.length sc, .int .u64 (p.last : Int)] 65)
  have HG := hide (great_any (cv := .slice ca cn cc) (last := p.last) (segs.below hb1) (by have := hb1.size; omega))
  have HB1 := hide hb1
  obtain ⟨g, hg⟩ : ∃ g, gr p.last p.stg = g := ⟨_, rfl⟩
  rw [hg] at HG hn
  obtain ⟨sn, hsn⟩ : ∃ sn, p.stg.length = sn := ⟨_, rfl⟩
  rw [hsn] at HG HB1 hlook
  obtain ⟨la, hla⟩ : ∃ la : Int, (p.last : Int) = la := ⟨_, rfl⟩
  rw [hla] at HG HB1 hlook
  have bt : (n : Int) ≤ (g : Int) := by omega
  clear h P hp hcv hsv hv hstg hlen segs hb1 hg hsn hla hn
  go_enter Try.func11, Try.ntmps11
  go_wp2_with (first | (at_lookup; refine wp_lookM rfl _ _ 59 false rfl _ _ rfl rfl hlook ?_) | (go_at_call 28; refine HG.out.mono ?_; rintro e w2 ⟨rfl, b2⟩; have B2 := hide b2; clear b2) | fail)
  go_ret
  exact ⟨rfl, HB1.out.trans (B2.out.mono HB1.out.size)⟩
set_option maxHeartbeats 4000000 in
set_option maxRecDepth 100000 in
theorem Stage_yes {w : World} {l mm : Nat} {ov : Value} {fq : Nat → Prop} {f : Int → PS} {O : List Tx} {W : Nat} {Ms : List Pt} (h : LX w l mm ov fq f O W Ms) (hW : W ≤ 500000) {k : Int} (hk : In64 k) {n : Nat} (hn : grS (f k) < n) {B : Nat} {rv : Value} {rs : List Rc} (hr : LSeg 3 Rc.cs B w rv rs) (hB : B ≤ w.heap.size) (hrl : rs.length ≤ 500000) :
    Calls Try.prog 11 #[.pointer (some ⟨l, 0, none⟩), .int .i64 k, .int .u64 (n : Int), rv] w fun e w' => e = .returned (.int .i64 0) ∧ SPost w w' l mm fq (upd f k (stageS (f k) n rs)) O (W + rs.length + 1) := by
  obtain ⟨p, R, P⟩ := h.pick hk
  have hlook := P.look w rfl
  have hn0 := hn
  rw [P.ps, grS_eq] at hn0
  obtain ⟨c0, c1⟩ := P.g.box.cells2
  have hp := P.g.pts p (List.mem_cons_self ..)
  obtain ⟨ca, cc, sa, sc, hcv, hsv, hv⟩ := hp.shape
  rw [hv] at hlook
  have hstg := hp.sr
  rw [hsv] at hstg
  have hlen : p.stg.length ≤ 500000 := by
    have := P.pl.wt
    rw [sumS_cons] at this
    have := sumw_len p.stg
    omega
  have segs := hstg.seg Tx.cs_len (by omega)
  obtain ⟨cn, hcn⟩ : ∃ cn, p.com.length = cn := ⟨_, rfl⟩
  rw [hcn] at hcv hlook
  obtain ⟨sn, hsn⟩ : ∃ sn, p.stg.length = sn := ⟨_, rfl⟩
  rw [hsn] at hsv hlook hstg segs
  obtain ⟨la, hla⟩ : ∃ la : Int, (p.last : Int) = la := ⟨_, rfl⟩
  rw [hla] at hlook
  obtain ⟨W1, hW1⟩ : ∃ W1, W1 = w.alloc (.cells #[.slice ca cn cc, .slice sa sn sc, .int .u64 la] 65) := ⟨_, rfl⟩
  have hb1 : Below w.heap.size w W1 := by rw [hW1]; exact below_box w _
  have k0 : BoxT 65 W1 w.heap.size #[.slice ca cn cc, .slice sa sn sc, .int .u64 la] := by rw [hW1]; exact BoxT.new _ _ _
  have HG : Hid (Calls Try.prog 28 #[.agg #[.slice ca cn cc, .slice sa sn sc, .int .u64 la]] W1 fun e w' => e = .returned (.int .u64 (gr p.last p.stg : Int)) ∧ Below W1.heap.size W1 w') := by
    rw [← hla]
    exact great_any (segs.below hb1) hb1.size
  have HCP : Hid (∀ w', Below W1.heap.size W1 w' → Calls Try.prog 29 #[rv] w' fun e w'' => ∃ u, e = .returned u ∧ OwnL 39 3 Rc.cs w'.heap.size w'' u rs ∧ Below w'.heap.size w' w'') := fun w' hb => copiedRc_any (hr.below ((hb1.trans (hb.mono hb1.size)).mono hB)) (by omega)
  have KC : Hid (∀ w' : World, Below W1.heap.size W1 w' → w'.cell? ⟨w.heap.size, 1, none⟩ = some (.slice sa sn sc)) := fun w' hb => (k0.below hb).cells3.2.1
  obtain ⟨g, hg⟩ : ∃ g, gr p.last p.stg = g := ⟨_, rfl⟩
  have HGG := hide hg
  rw [hg] at HG hn0
  have bt : ¬ (n : Int) ≤ (g : Int) := by omega
  have HB1 := hide hb1
  have HP := hide P
  have HSV := hide hsv
  have HCV := hide hcv
  have HLA := hide hla
  have HN := hide hn0
  have HST := hide hstg
  have HLE := hide hlen
  have HSN := hide hsn
  have HCN := hide hcn
  have HK0 := hide k0
  have hlw := P.g.box.lt
  clear h P hp hcv hsv hv hstg hlen segs hb1 hg hsn hla hn hcn k0 hr hn0
  go_enter Try.func11, Try.ntmps11
  go_wp2_with (first | (at_lookup; refine wp_lookM rfl _ _ 59 false rfl _ _ rfl rfl hlook ?_) | (go_at_call 28; rw [← hW1]; refine HG.out.mono ?_; rintro e w2 ⟨rfl, b2⟩; have B2 := hide b2; clear b2) | fail)
  have B2d : Hid (Below W1.heap.size W1 w2.drew) := B2.out.drew
  refine wp_region_M (S := fun w' => w'.cell? ⟨w.heap.size, 1, none⟩ = some (.slice sa sn sc)) (late := [8, 9]) (by kernel_rfl) (KC.out _ B2d.out) (fun hHeld => ?_)
  (try simp only [List.size_toArray, List.length_cons, List.length_nil, Nat.zero_add, Nat.reduceAdd, Array.replicate, List.replicate])
  refine wpAnyM_take (i := 0) (oi := ⟨_, _, _, _, _, _⟩) (v := ?_) rfl (by kernel_rfl) (by kernel_rfl) (by kernel_rfl) (by kernel_rfl) (fun _ _ _ h => h) (Or.inl ⟨by rfl, ?_⟩) hHeld ?_
  rotate_left
  · (intro w' hSw; (try dsimp only at hSw); go_simp; try (with_reducible rfl))
  (try simp only [Act.put, List.setIfInBounds_toArray, List.set_cons_zero, List.set_cons_succ])
  refine wpAnyM_take (i := 1) (oi := ⟨_, _, _, _, _, _⟩) (v := ?_) rfl (by kernel_rfl) (by kernel_rfl) (by kernel_rfl) (by kernel_rfl) (fun _ _ _ h => h) (Or.inl ⟨by rfl, ?_⟩) hHeld ?_
  rotate_left
  · (intro w' hSw; (try dsimp only at hSw); go_simp; try (with_reducible rfl))
  (try simp only [Act.put, List.setIfInBounds_toArray, List.set_cons_zero, List.set_cons_succ])
  refine wpAnyM_take (i := 2) (oi := ⟨_, _, _, _, _, _⟩) (v := ?_) rfl (by kernel_rfl) (by kernel_rfl) (by kernel_rfl) (by kernel_rfl) (fun _ _ _ h => h) (Or.inl ⟨by rfl, ?_⟩) hHeld ?_
  rotate_left
  · (intro w' hSw; (try dsimp only at hSw); go_simp; try (with_reducible rfl))
  (try simp only [Act.put, List.setIfInBounds_toArray, List.set_cons_zero, List.set_cons_succ])
  refine wpAnyM_take (i := 3) (oi := ⟨_, _, _, _, _, _⟩) (v := ?_) rfl (by kernel_rfl) (by kernel_rfl) (by kernel_rfl) (by kernel_rfl) (fun _ _ _ h => h) (Or.inl ⟨by rfl, ?_⟩) hHeld ?_
  rotate_left
  · (intro w' hSw; (try dsimp only at hSw); go_simp; try (with_reducible rfl))
  (try simp only [Act.put, List.setIfInBounds_toArray, List.set_cons_zero, List.set_cons_succ])
  refine wpAnyM_one (i := 4) (o := ⟨_, _, _, _, _, _⟩) (by kernel_rfl) rfl (fun K hK => ?_)
  go_simp
  go_at_call 29
  refine (HCP.out _ B2d.out).mono ?_
  rintro e w3 ⟨u, rfl, o3, b3⟩
  obtain ⟨ua, uc, hu3⟩ := o3.shape
  have O3 := hide o3
  have B3 : Hid (Below W1.heap.size W1 w3) := B2d.out.trans (b3.mono B2d.out.size)
  obtain ⟨rl, hrl2⟩ : ∃ rl, rs.length = rl := ⟨_, rfl⟩
  rw [hrl2] at hu3
  subst hu3
  have HRL := hide hrl2
  clear o3 b3 hrl2
  refine hK.out _ _ (KC.out _ B3.out) (fun hHeld => ?_)
  clear hK K
  (try simp only [List.setIfInBounds_toArray, List.set_cons_zero, List.set_cons_succ])
  refine wpAnyM_take (i := 5) (oi := ⟨_, _, _, _, _, _⟩) (v := ?_) rfl (by kernel_rfl) (by kernel_rfl) (by kernel_rfl) (by kernel_rfl) (fun _ _ _ h => h) (Or.inl ⟨by rfl, ?_⟩) hHeld ?_
  rotate_left
  · (intro w' hSw; (try dsimp only at hSw); go_simp; try (with_reducible rfl))
  (try simp only [Act.put, List.setIfInBounds_toArray, List.set_cons_zero, List.set_cons_succ])
  have B4 : Hid (Below W1.heap.size W1 (w3.alloc (.cells #[.int .u64 (n : Int), .slice ua rl uc] 69))) := B3.out.alloc B3.out.size _
  have BX : Hid (BoxT 69 (w3.alloc (.cells #[.int .u64 (n : Int), .slice ua rl uc] 69)) w3.heap.size #[.int .u64 (n : Int), .slice ua rl uc]) := BoxT.new _ _ _
  refine wpAnyM_one (i := 6) (o := ⟨_, _, _, _, _, _⟩) (by kernel_rfl) rfl (fun K hK => ?_)
  go_simp
  refine hK.out _ _ (KC.out _ B4.out) (fun hHeld => ?_)
  clear hK K
  (try simp only [List.setIfInBounds_toArray, List.set_cons_zero, List.set_cons_succ])
  have HSR : Hid (Row 69 2 Tx.cs 0 (w3.alloc (.cells #[.int .u64 (n : Int), .slice ua rl uc] 69)) (.slice sa sn sc) p.stg) := by
    have hbw := HB1.out.trans (B4.out.mono HB1.out.size)
    exact HST.out.below hbw
  have HSZ4 : Hid (w.heap.size ≤ (w3.alloc (.cells #[.int .u64 (n : Int), .slice ua rl uc] 69)).heap.size) := (HB1.out.trans (B4.out.mono HB1.out.size)).size
  have HXV : Hid ((⟨n, ua, uc, rs⟩ : Tx).v = .slice ua rl uc) := (show _ = _ by unfold Tx.v; simp only [HRL.out])
  refine wpAnyM_one (i := 7) (o := ⟨_, _, _, _, _, _⟩) (by kernel_rfl) rfl (fun K hK => ?_)
  (refine step_row Try.infoTx Try.underlying63 rfl (by decide) (by decide) Tx.cs_len Tx.cs_one rfl _ _ rfl 0 (.slice sa sn sc) p.stg rfl HSR.out _ _ (⟨n, ua, uc, rs⟩ : Tx) rfl (newTx (by rw [HXV.out]; exact BX.out)) (by have := HLE.out; omega) (Nat.zero_le _) ?_; intro v5 w5 o5 g5 kk5)
  obtain ⟨a5, c5, hv5⟩ := o5.shape
  obtain ⟨n5, hn5⟩ : ∃ n5, (p.stg ++ [(⟨n, ua, uc, rs⟩ : Tx)]).length = n5 := ⟨_, rfl⟩
  rw [hn5] at hv5
  subst hv5
  have O5 := hide o5
  have G5 := hide g5
  have KK5 := hide kk5
  have HN5 := hide hn5
  have k5 : BoxT 65 w5 w.heap.size #[.slice ca cn cc, .slice sa sn sc, .int .u64 la] := by
    have h4 := HK0.out.below B4.out
    exact h4.back (g5.block _ h4.lt (fun e => by
      obtain ⟨cur, hc⟩ := HSR.out.has _ e.symm
      exact BoxT.ne (t := 65) (t' := 69) h4 hc (by decide) rfl))
  have K5 := hide k5
  clear o5 g5 kk5 hn5
  refine hK.out _ _ ((k5.cells3).2.1) (fun hHeld => ?_)
  clear hK K
  (try simp only [List.setIfInBounds_toArray, List.set_cons_zero, List.set_cons_succ])
  have fr5 := K5.out.free
  refine wpAnyM_last (i := 8) (o := ⟨_, _, _, _, _, _⟩) (by kernel_rfl) (by rfl) rfl (fun K hK => ?_)
  go_simp
  refine hK.out _ _ ?_
  clear hK K
  (try simp only [List.setIfInBounds_toArray, List.set_cons_zero, List.set_cons_succ])
  refine wpAnyM_last (i := 9) (o := ⟨_, _, _, _, _, _⟩) (by kernel_rfl) (by rfl) rfl (fun K hK => ?_)
  go_simp
  refine hK.out _ _ ?_
  clear hK K
  (try simp only [List.setIfInBounds_toArray, List.set_cons_zero, List.set_cons_succ])
  refine wpAnyM_done (by kernel_rfl) ?_ _
  have K6 : Hid (BoxT 65 (w5.setCell ⟨w.heap.size, 1, none⟩ (.slice a5 n5 c5)) w.heap.size #[.slice ca cn cc, .slice a5 n5 c5, .int .u64 la]) := (show BoxT _ _ _ _ by have := K5.out.set 1 (.slice a5 n5 c5); simpa using this)
  have HFT : Hid (FT (fun i => p.sv.ownBlock = some i) (fun i => p.sv.ownBlock = some i) w (w5.setCell ⟨w.heap.size, 1, none⟩ (.slice a5 n5 c5))) := by
    have f1 : FT (fun i => p.sv.ownBlock = some i) (fun i => p.sv.ownBlock = some i) w (w3.alloc (.cells #[.int .u64 (n : Int), .slice ua rl uc] 69)) := FT.of_below (HB1.out.trans (B4.out.mono HB1.out.size))
    have f2 := f1.trans (FT.grow G5.out (fun g e => by rw [HSV.out]; exact e))
    have hsz := f1.size
    refine ⟨f2.os, f2.tape, f2.output, Nat.le_trans f2.size (by simp), fun i hi hne => ?_, fun i hi => .inl hi⟩
    rw [Below.heap_setCell w5 ⟨w.heap.size, 1, none⟩ _ i (by simp; omega)]
    exact f2.block i hi hne
  generalize hW6 : w5.setCell ⟨w.heap.size, 1, none⟩ (.slice a5 n5 c5) = w6 at *
  have HO6 : Hid (Row 69 2 Tx.cs 0 w6 (.slice a5 n5 c5) (p.stg ++ [(⟨n, ua, uc, rs⟩ : Tx)]) ∧ OwnL 39 3 Rc.cs w.heap.size w6 (.slice ua rl uc) rs) := by
    rw [← hW6]
    refine ⟨O5.out.back (fun g e => Below.heap_setCell w5 ⟨w.heap.size, 1, none⟩ _ g (fun e2 => ?_)), ?_⟩
    · obtain ⟨cur, hc⟩ := O5.out.has g e
      exact BoxT.ne (t := 69) (t' := 65) hc K5.out (by decide) e2
    · have h3 : OwnL 39 3 Rc.cs w.heap.size w3 (.slice ua rl uc) rs := O3.out.mono (by have := HB1.out.size; have := B2d.out.size; omega)
      have h4 := h3.alloc (.cells #[.int .u64 (n : Int), .slice ua rl uc] 69)
      have h5 : OwnL 39 3 Rc.cs w.heap.size w5 (.slice ua rl uc) rs := h4.back (fun g e => G5.out.block g (h4.lt g e) (fun e2 => by
        obtain ⟨c1, h1⟩ := h4.has g e
        obtain ⟨c2, h2⟩ := HSR.out.has g e2.symm
        exact BoxT.ne (t := 39) (t' := 69) h1 h2 (by decide) rfl))
      exact h5.otherBox K5.out (by decide) _ _
  have HM6 : Hid (w6.heap[mm]? = w.heap[mm]?) := HFT.out.block mm HP.out.g.ml (fun e => HP.out.g.nm ((HP.out.g.pts p (List.mem_cons_self ..)).fr mm (.inr e)))
  have hL6 : w6.cell? ⟨l, 0, none⟩ = some (.map (some mm)) := by
    have := HP.out.g.box.back (HFT.out.block l hlw (fun e => HP.out.g.nl ((HP.out.g.pts p (List.mem_cons_self ..)).fr l (.inr e))))
    exact this.cells2.1
  clear hW6 K5 O5 G5 KC HSR B4 BX B3 O3 HST HK0
  obtain ⟨w7, hrun7, hm7, ht7⟩ := HP.out.store w6.drew (.agg #[.slice ca cn cc, .slice a5 n5 c5, .int .u64 la]) HM6.out
  have HM7 := hide hm7
  have HT7 := hide ht7
  clear hm7 ht7
  have hL6d : w6.drew.cell? ⟨l, 0, none⟩ = some (.map (some mm)) := hL6
  obtain ⟨q0, q1, q2⟩ := K6.out.cells3
  have hS5 : (fun w' : World => w' = w6.drew) w6.drew := rfl
  go_wp2_with fail
  refine wp_region_M (S := fun w' => w' = w6.drew) (late := [6]) (by kernel_rfl) (rfl) (fun hHeld => ?_)
  (try simp only [List.size_toArray, List.length_cons, List.length_nil, Nat.zero_add, Nat.reduceAdd, Array.replicate, List.replicate])
  refine wpAnyM_take (i := 0) (oi := ⟨_, _, _, _, _, _⟩) (v := ?_) rfl (by kernel_rfl) (by kernel_rfl) (by kernel_rfl) (by kernel_rfl) (fun _ _ _ h => h) (Or.inl ⟨by rfl, ?_⟩) hHeld ?_
  rotate_left
  · (intro w' hSw; subst hSw; go_simp; try (with_reducible rfl))
  (try simp only [Act.put, List.setIfInBounds_toArray, List.set_cons_zero, List.set_cons_succ])
  refine wpAnyM_take (i := 1) (oi := ⟨_, _, _, _, _, _⟩) (v := ?_) rfl (by kernel_rfl) (by kernel_rfl) (by kernel_rfl) (by kernel_rfl) (fun _ _ _ h => h) (Or.inl ⟨by rfl, ?_⟩) hHeld ?_
  rotate_left
  · (intro w' hSw; subst hSw; go_simp; try (with_reducible rfl))
  (try simp only [Act.put, List.setIfInBounds_toArray, List.set_cons_zero, List.set_cons_succ])
  refine wpAnyM_take (i := 2) (oi := ⟨_, _, _, _, _, _⟩) (v := ?_) rfl (by kernel_rfl) (by kernel_rfl) (by kernel_rfl) (by kernel_rfl) (fun _ _ _ h => h) (Or.inl ⟨by rfl, ?_⟩) hHeld ?_
  rotate_left
  · (intro w' hSw; subst hSw; go_simp; try (with_reducible rfl))
  (try simp only [Act.put, List.setIfInBounds_toArray, List.set_cons_zero, List.set_cons_succ])
  refine wpAnyM_take (i := 3) (oi := ⟨_, _, _, _, _, _⟩) (v := ?_) rfl (by kernel_rfl) (by kernel_rfl) (by kernel_rfl) (by kernel_rfl) (fun _ _ _ h => h) (Or.inl ⟨by rfl, ?_⟩) hHeld ?_
  rotate_left
  · (intro w' hSw; subst hSw; go_simp; try (with_reducible rfl))
  (try simp only [Act.put, List.setIfInBounds_toArray, List.set_cons_zero, List.set_cons_succ])
  refine wpAnyM_take (i := 4) (oi := ⟨_, _, _, _, _, _⟩) (v := ?_) rfl (by kernel_rfl) (by kernel_rfl) (by kernel_rfl) (by kernel_rfl) (fun _ _ _ h => h) (Or.inl ⟨by rfl, ?_⟩) hHeld ?_
  rotate_left
  · (intro w' hSw; subst hSw; go_simp; try (with_reducible rfl))
  (try simp only [Act.put, List.setIfInBounds_toArray, List.set_cons_zero, List.set_cons_succ])
  refine wpAnyM_take (i := 5) (oi := ⟨_, _, _, _, _, _⟩) (v := ?_) rfl (by kernel_rfl) (by kernel_rfl) (by kernel_rfl) (by kernel_rfl) (fun _ _ _ h => h) (Or.inl ⟨by rfl, ?_⟩) hHeld ?_
  rotate_left
  · (intro w' hSw; subst hSw; go_simp; try (with_reducible rfl))
  (try simp only [Act.put, List.setIfInBounds_toArray, List.set_cons_zero, List.set_cons_succ])
  refine wpAnyM_last (i := 6) (o := ⟨_, _, _, _, _, _⟩) (by kernel_rfl) (by rfl) rfl (fun K hK => ?_)
  refine step_put_run rfl _ _ _ 59 rfl _ _ _ rfl rfl rfl hrun7 ?_
  refine hK.out _ _ ?_
  clear hK K
  (try simp only [List.setIfInBounds_toArray, List.set_cons_zero, List.set_cons_succ])
  refine wpAnyM_done (by kernel_rfl) ?_ _
  go_wp2_with fail
  go_ret
  refine ⟨rfl, ?_⟩
  have hx : (⟨n, ua, uc, rs⟩ : Tx).v = .slice ua rl uc := HXV.out
  refine stage_fin (w6 := w6.drew) (x := ⟨n, ua, uc, rs⟩) (v5 := .slice a5 n5 c5) HP.out HFT.out.drew HO6.out.1 (by rw [hx]; exact HO6.out.2) (fun g e => ?_) (by rw [HGG.out]; exact HN.out) ?_ ?_
  · rcases KK5.out g e with e | e
    · exact .inl (by rw [HSV.out]; exact e)
    · exact .inr (by have := HSZ4.out; omega)
  · rw [HCV.out, HLA.out]; exact HM7.out
  · exact HT7.out

end Go.Proofs.Yteafnohponbbeaa
