/-
  Texts in build order: SFireP, SFire.
-/
import Derived.Test.YtdoldohcimbdaaaGreatM32
import Derived.Test.YtdoldohcimbdaaaGreatM26
/-
  Fire, the pure side: what is left of panes and sessions when a watermark has come.
-/
namespace Go.Proofs.YtdoldohcimbdaaaGreat
open Go.RowKit

theorem ovr_eq (mk : Int) (x : Pn) : ovr mk x = ovm mk ⟨x.f, x.t⟩ := rfl
theorem end_inv {kd : Int} {M : List Pn} {R D E : List SRow} {mk : Int} (h : Inv kd M R) (hp : R.Perm D) (he : E.map (fun r => (r.k, r.l)) = (D.filter (fun r => !(endR mk r).isEmpty)).map (fun r => (r.k, endR mk r))) : Inv kd (leftF mk M) E := by
  have fw : ∀ r ∈ E, ∃ q ∈ R, q.k = r.k ∧ r.l = keepO mk q.l := fun r hr => by
    have h1 : (r.k, r.l) ∈ E.map (fun r => (r.k, r.l)) := List.mem_map.2 ⟨r, hr, rfl⟩
    rw [he] at h1
    obtain ⟨q, hq, e⟩ := List.mem_map.1 h1
    simp only [Prod.mk.injEq] at e
    exact ⟨q, hp.mem_iff.2 (List.mem_filter.1 hq).1, e.1, e.2.symm⟩
  have bw : ∀ q ∈ R, ∀ sp ∈ keepO mk q.l, ∃ r ∈ E, r.k = q.k ∧ sp ∈ r.l := fun q hq sp hs => by
    have h2 : (!(endR mk q).isEmpty) = true := by
      cases hk : endR mk q with
      | nil => rw [show keepO mk q.l = endR mk q from rfl, hk] at hs; cases hs
      | cons _ _ => rfl
    have h1 : (q.k, endR mk q) ∈ (D.filter (fun r => !(endR mk r).isEmpty)).map (fun r => (r.k, endR mk r)) := List.mem_map.2 ⟨q, List.mem_filter.2 ⟨hp.mem_iff.1 hq, h2⟩, rfl⟩
    rw [← he] at h1
    obtain ⟨r, hr, e⟩ := List.mem_map.1 h1
    simp only [Prod.mk.injEq] at e
    exact ⟨r, hr, e.1, by rw [e.2]; exact hs⟩
  refine ⟨fun hk => ?_, fun hk x hx hlt => ?_, fun r hr sp hsp => ?_, fun r hr => ?_⟩
  · have hR := h.none hk
    cases E with
    | nil => rfl
    | cons r T =>
      obtain ⟨q, hq, _⟩ := fw r (List.mem_cons_self ..)
      rw [hR] at hq; cases hq
  · obtain ⟨h1, h2⟩ := List.mem_filter.1 hx
    obtain ⟨q, hq, e1, e2⟩ := h.up hk x h1 hlt
    rw [ovr_eq] at h2
    obtain ⟨r, hr, e3, e4⟩ := bw q hq _ (List.mem_filter.2 ⟨e2, h2⟩)
    exact ⟨r, hr, e3.trans e1, e4⟩
  · obtain ⟨q, hq, e1, e2⟩ := fw r hr
    rw [e2] at hsp
    obtain ⟨h1, h2⟩ := List.mem_filter.1 hsp
    obtain ⟨h3, x, h4, h5, h6, h7⟩ := h.dn q hq sp h1
    refine ⟨h3, x, List.mem_filter.2 ⟨h4, ?_⟩, h5.trans e1, h6, h7⟩
    rw [ovr_eq, h6, h7]; exact h2
  · obtain ⟨q, hq, _, e2⟩ := fw r hr
    rw [e2]
    exact (h.rise q hq).sublist List.filter_sublist
/-- The panes that are due, and those that are left. -/
theorem due_left (mk : Int) (M : List Pn) : M.Perm (M.filter (ovr mk) ++ leftF mk M) := (List.filter_append_perm (ovr mk) M).symm
theorem out_due {mk : Int} {c M : List Pn} (h : c.Perm (M.filter (ovr mk))) : (srt c).filter (ovr mk) = srt c := by
  refine List.filter_eq_self.2 (fun x hx => ?_)
  exact (List.mem_filter.1 (h.mem_iff.1 ((srt_perm c).mem_iff.1 hx))).2
end Go.Proofs.YtdoldohcimbdaaaGreat
/-
  State.Fire, walked.
-/
namespace Go.Proofs.YtdoldohcimbdaaaGreat
open Go.RowKit

/-- What Fire has under way: the panes L still in the map, the due ones c. -/
structure FI (w wr : World) (s m o : Nat) (kd size slide ag : Int) (fq : Nat → Prop) (R : List SRow) (L : List Pn) (mk : Int) (u : Value) (c : List Pn) : Prop where
  box : BoxT 76 wr s #[.int .i64 kd, .int .i64 size, .int .i64 slide, .int .i64 ag, .map (some m), .map (some o)]
  mp : MapAt Tryz.prog 89 wr m (L.map pEnt)
  om : OM wr o fq R
  ft : FT (FP s m fq) (FP s m fq) w wr
  kb : BoxT 2 wr w.heap.size #[.int .i64 mk]
  row : OwnL 70 4 Pn.cs (w.heap.size + 1) wr u c
  ns : ¬ fq s
  nm : ¬ fq m
  lt : ∀ i, FP s m fq i → i < w.heap.size
section
variable {w wr w' : World} {s m o : Nat} {kd size slide ag : Int} {fq : Nat → Prop} {R : List SRow} {L : List Pn} {mk : Int} {u : Value} {c : List Pn}
theorem FI.sm (h : FI w wr s m o kd size slide ag fq R L mk u c) : s ≠ m := fun e => by
  obtain ⟨es, ck, h1⟩ := h.mp.isMap
  have h2 := h.box
  unfold BoxT at h2
  rw [e, h1] at h2
  cases h2
theorem FI.below (h : FI w wr s m o kd size slide ag fq R L mk u c) (hb : Below wr.heap.size wr w') : FI w w' s m o kd size slide ag fq R L mk u c :=
  { h with box := BoxT.below (t := 76) h.box hb, mp := h.mp.back (hb.block _ h.mp.lt), om := h.om.below hb, ft := h.ft.trans (FT.of_below hb), kb := BoxT.below (t := 2) h.kb hb, row := h.row.below hb }
theorem FI.cells (h : FI w wr s m o kd size slide ag fq R L mk u c) : wr.cell? ⟨s, 0, none⟩ = some (.int .i64 kd) ∧ wr.cell? ⟨s, 4, none⟩ = some (.map (some m)) ∧ wr.cell? ⟨s, 5, none⟩ = some (.map (some o)) ∧ wr.cell? ⟨w.heap.size, 0, none⟩ = some (.int .i64 mk) := by
  have h1 := h.box
  have h2 := h.kb
  unfold BoxT at h1 h2
  simp [World.cell?, h1, h2]
theorem FI.turn (h : FI w wr s m o kd size slide ag fq R L mk u c) {fp : Nat → Prop} (hf : FT fp fp wr w') (hs : ∀ i, fp i → FP s m fq i) (hns : ¬ fp s) {R' : List SRow} {L' : List Pn} (hm : MapAt Tryz.prog 89 w' m (L'.map pEnt)) (ho : OM w' o fq R') : FI w w' s m o kd size slide ag fq R' L' mk u c := by
  have hk : ∀ g, g < wr.heap.size → ¬ fp g → w'.heap[g]? = wr.heap[g]? := hf.block
  refine ⟨?_, hm, ho, h.ft.trans ⟨hf.os, hf.tape, hf.output, hf.size, fun i hi hn => hf.block i hi (fun e => hn (hs i e)), fun _ h => .inl h⟩, ?_, h.row.back (fun g e => hk g (h.row.lt g e) (fun e' => by have := h.lt g (hs g e'); have := h.row.at g e; omega)), h.ns, h.nm, h.lt⟩
  · have h1 := h.box
    have h2 := hk s h1.lt hns
    unfold BoxT at *
    rw [h2]; exact h1
  · have h1 := h.kb
    have h2 := hk w.heap.size h1.lt (fun e => by have := h.lt _ (hs _ e); omega)
    unfold BoxT at *
    rw [h2]; exact h1
theorem FI.del (h : FI w wr s m o kd size slide ag fq R L mk u c) {L' : List Pn} (hm : MapAt Tryz.prog 89 w' m (L'.map pEnt)) (ht : MTurn wr w' m) : FI w w' s m o kd size slide ag fq R L' mk u c :=
  h.turn (fp := fun i => i = m) (FT.of_grown ht.grown rfl) (fun _ e => .inr (.inl e)) h.sm hm (h.om.back (fun i hi => ht.other (fun e => h.nm (e ▸ hi))) (by rw [ht.size]; exact Nat.le_refl _))
theorem FI.ended (h : FI w wr s m o kd size slide ag fq R L mk u c) {E : List SRow} (ho : OM w' o fq E) (hf : FT fq fq wr w') : FI w w' s m o kd size slide ag fq E L mk u c :=
  h.turn hf (fun _ e => .inr (.inr e)) h.ns (h.mp.back (hf.block _ h.mp.lt h.nm)) ho
end
theorem rows_len {kd : Int} {M : List Pn} {R : List SRow} (h : Inv kd M R) : ∀ r ∈ R, r.l.length ≤ M.length := fun r hr => by
  obtain ⟨G, N, hG⟩ := GI.ex (M := M) (k := r.k) (gone := r.l) (fun sp hs => by obtain ⟨_, x, h1, h2, h3, h4⟩ := h.dn r hr sp hs; exact ⟨x, h1, h2, h3, h4⟩) (fun sp hs => (h.dn r hr sp hs).1) (h.rise r hr) r.l.length (Nat.le_refl _)
  exact hG.le
theorem runFire (args : Array Value) (W : World) : (callFunc 36 args).run Tryz.prog W = .ok (.enter 36 args) W := by kernel_rfl
def F7 (s m P : Nat) (x : Pn) (w' : World) : Prop := w'.cell? ⟨s, 4, none⟩ = some (.map (some m)) ∧ w'.cell? ⟨P, 0, none⟩ = some (.int .i64 x.k) ∧ w'.cell? ⟨P, 1, none⟩ = some (.int .i64 x.f) ∧ w'.cell? ⟨P, 2, none⟩ = some (.int .i64 x.t) ∧ w'.cell? ⟨P, 3, none⟩ = some (.int .i64 x.a)
def F9 (s o K : Nat) (mk : Int) (w' : World) : Prop := w'.cell? ⟨s, 5, none⟩ = some (.map (some o)) ∧ w'.cell? ⟨K, 0, none⟩ = some (.int .i64 mk)
/-- One field of one thing of a row of one's own is another. -/
theorem OwnL.setField {α : Type} {t sz : Nat} {cs : α → List Value} (hcs : ∀ x, (cs x).length = sz) (hs : 0 < sz) {base : Nat} {w : World} {g n cap : Nat} {l : List α} (h : OwnL t sz cs base w (.slice (some ⟨g, 0, none⟩) n cap) l) {i j : Nat} {x y : α} {u : Value} (hx : l[i]? = some x) (hj : j < sz) (hy : cs y = (cs x).set j u) : OwnL t sz cs base (w.setCell ⟨g, i * sz + j, none⟩ u) (.slice (some ⟨g, 0, none⟩) n cap) (l.set i y) := by
  have hi := lt_of_get hx
  rcases h.2 with ⟨e, _⟩ | ⟨g', cap', cur, e, h2, h3, h4, h5, h6, h7⟩
  · cases e
  · cases e
    have hb : BoxT t w g cur := h3
    have hfit : i * sz + sz ≤ cur.size := by
      have h8 : (i + 1) * sz ≤ cap * sz := Nat.mul_le_mul_right _ (by omega)
      rw [Nat.succ_mul] at h8
      omega
    refine ⟨flat_size hcs _, .inr ⟨g, cap, cur.setIfInBounds (i * sz + j) u, by simp, h2, hb.set _ _, by simpa using h4, h5, by rw [Array.size_setIfInBounds]; exact h6, ?_⟩⟩
    apply List.ext_getElem?
    intro q
    rw [List.getElem?_take, List.length_set]
    by_cases hq : q < l.length * sz
    · rw [if_pos hq, Array.getElem?_toList]
      have hq4 : q / sz < l.length := (Nat.div_lt_iff_lt_mul hs).2 hq
      have hm : q % sz < sz := Nat.mod_lt _ hs
      have hdm : q / sz * sz + q % sz = q := by rw [Nat.mul_comm]; exact Nat.div_add_mod q sz
      have old : ∀ z, l[q / sz]? = some z → ∀ v, (cs z)[q % sz]? = some v → cur[q]? = some v := fun z hz v hv => by
        have h8 := flat_get hcs l (q / sz) (q % sz) z v hz hv
        rw [← h7, List.getElem?_take] at h8
        split at h8
        · rw [hdm] at h8; simpa using h8
        · cases h8
      by_cases hqi : q / sz = i
      · have hx' : (l.set i y)[q / sz]? = some y := by rw [hqi, List.getElem?_set_self hi]
        by_cases hqj : q % sz = j
        · have hu : (cs y)[q % sz]? = some u := by rw [hy, hqj, List.getElem?_set_self (by rw [hcs]; exact hj)]
          have h9 := flat_get hcs _ (q / sz) (q % sz) _ u hx' hu
          rw [hdm] at h9
          rw [h9, ← hqi, ← hqj, hdm, Array.getElem?_setIfInBounds_self_of_lt (by rw [hqi] at hdm; omega)]
        · obtain ⟨v, hv⟩ := get_of_lt (show q % sz < (cs x).length by rw [hcs]; exact hm)
          have hu : (cs y)[q % sz]? = some v := by rw [hy, List.getElem?_set_ne (fun e => hqj e.symm)]; exact hv
          have h9 := flat_get hcs _ (q / sz) (q % sz) _ v hx' hu
          rw [hdm] at h9
          rw [h9, Array.getElem?_setIfInBounds_ne (fun e => hqj (by rw [hqi] at hdm; omega))]
          exact old x (by rw [hqi]; exact hx) v hv
      · obtain ⟨z, hz⟩ := get_of_lt hq4
        have hx' : (l.set i y)[q / sz]? = some z := by rw [List.getElem?_set_ne (fun e => hqi e.symm)]; exact hz
        obtain ⟨v, hv⟩ := get_of_lt (show q % sz < (cs z).length by rw [hcs]; exact hm)
        have h9 := flat_get hcs _ (q / sz) (q % sz) _ v hx' hv
        rw [hdm] at h9
        rw [h9, Array.getElem?_setIfInBounds_ne (fun e => hqi (by rw [← e, Nat.mul_comm, Nat.mul_add_div hs, Nat.div_eq_of_lt hj]; rfl))]
        exact old z hz v hv
    · rw [if_neg hq, List.getElem?_eq_none (by rw [flat_size hcs, List.length_set]; omega)]
def eT (r : Rc) : Rc := ⟨r.k, 2199023255552, r.v⟩
def eL (l : List Rc) (i : Nat) : List Rc := (l.take i).map eT ++ l.drop i
theorem eL_len (l : List Rc) (i : Nat) : (eL l i).length = l.length := by unfold eL; simp; omega
theorem eL_get {l : List Rc} {i : Nat} {x : Rc} (h : l[i]? = some x) : (eL l i)[i]? = some x := by
  have hl := lt_of_get h
  unfold eL
  rw [List.getElem?_append_right (by simp; omega)]
  simp [Nat.min_eq_left (Nat.le_of_lt hl)]
  exact h
theorem eL_step {l : List Rc} {i : Nat} {x : Rc} (h : l[i]? = some x) : (eL l i).set i (eT x) = eL l (i + 1) := by
  have hl := lt_of_get h
  have e : l[i] = x := by rw [List.getElem?_eq_getElem hl] at h; exact Option.some.inj h
  unfold eL
  rw [List.set_append_right _ _ (by simp; omega), List.drop_eq_getElem_cons hl, e, List.take_succ_eq_append_getElem hl, e, List.map_append, List.append_assoc]
  simp [Nat.min_eq_left (Nat.le_of_lt hl)]
theorem OwnL.own {t sz : Nat} {cs : Rc → List Value} {base : Nat} {w : World} {v : Value} {l : List Rc} (h : OwnL t sz cs base w v l) (hl : 0 < l.length) : ∃ g cap, v = .slice (some ⟨g, 0, none⟩) l.length cap := by
  rcases h.2 with ⟨_, e⟩ | ⟨g', cap', cur, e, _⟩
  · omega
  · exact ⟨g', cap', e⟩
def FrPost (w : World) (s m o : Nat) (kd size slide ag : Int) (fq : Nat → Prop) (M : List Pn) (mk : Int) (out : List Rc) (e : Ending) (w' : World) : Prop := ∃ u E, e = .returned u ∧ OwnL 39 3 Rc.cs w.heap.size w' u out ∧ StAt w' s m o kd size slide ag fq (leftF mk M) E ∧ FT (FP s m fq) (FP s m fq) w w'
set_option maxHeartbeats 8000000 in
set_option maxRecDepth 100000 in
theorem Fire_win {w : World} {s m o : Nat} {kd size slide ag : Int} {fq : Nat → Prop} {M : List Pn} {R : List SRow} (h : StAt w s m o kd size slide ag fq M R) (mk : Int) (hkd : kd ≠ 0) (hM : M.length ≤ 90000) :
    Calls Tryz.prog 14 #[.pointer (some ⟨s, 0, none⟩), .int .i64 mk] w (FrPost w s m o kd size slide ag fq M mk (outF mk (srt (M.filter (ovr mk))))) := by
  have hb1 := below_box w (.cells #[.int .i64 mk] 2)
  obtain ⟨W1, hW1⟩ : ∃ W1, W1 = w.alloc (.cells #[.int .i64 mk] 2) := ⟨_, rfl⟩
  rw [← hW1] at hb1
  have hs1 : W1.heap.size = w.heap.size + 1 := by rw [hW1]; simp
  have hk1 : BoxT 2 W1 w.heap.size #[.int .i64 mk] := by rw [hW1]; exact BoxT.new _ _ _
  have h1 := h.below (fun i hi => hb1.block i (h.flt i hi)) hb1.size
  have HR := hide (isReduce_any h1.cells.1)
  have HPK := hide (pick_any (⟨m, o, fq, R, h1, fun _ => Iff.rfl⟩ : SA W1 s kd size slide ag (FP s m fq) M) 36 #[.pointer (some ⟨w.heap.size, 0, none⟩)] (ovr mk) runFire (fun w1 hb x => fireC_any (BoxT.below (t := 2) hk1 hb) x) (by omega))
  have HB1 := hide hb1
  have HK1 := hide hk1
  have H1 := hide h1
  have HH := hide h
  have HIV := hide h.inv
  have HOK := hide h.ok
  obtain ⟨rb, hrb⟩ : ∃ rb, rb = (kd == 0) := ⟨_, rfl⟩
  rw [← hrb] at HR
  obtain rfl : rb = false := by rw [hrb]; simpa using hkd
  have HRB := hide hrb
  clear hrb hkd
  obtain ⟨c0, _⟩ := h.cells
  obtain ⟨mk0, _⟩ : W1.cell? ⟨w.heap.size, 0, none⟩ = some (.int .i64 mk) ∧ True := ⟨by rw [hk1.cellAt]; rfl, trivial⟩
  clear h h1 hb1 hk1
  go_enter Tryz.func14, Tryz.ntmps14
  go_upto_region 1 with fail
  rw [← hW1]
  clear hW1
  go_wp2_with (first | (go_at_call 34; refine HR.out.mono ?_; rintro e w1 ⟨rfl, rfl⟩) | (go_at_call 35; refine HPK.out.mono ?_; rintro e w2 ⟨u, c, rfl, o2, p2, b2⟩; have O2 := hide o2; have P2 := hide p2; have B2 := hide b2; obtain ⟨ua, uc, rfl⟩ := o2.shape; clear o2 p2 b2) | fail)
  have hcl : c.length ≤ 90000 := by have h1 := P2.out.length_eq; have h2 := List.length_filter_le (ovr mk) M; omega
  have HI : Hid (FI w w2 s m o kd size slide ag fq R (c.drop 0 ++ leftF mk M) mk (.slice ua c.length uc) c) := by
    have hst := H1.out.below (fun i hi => B2.out.block i (H1.out.flt i hi)) B2.out.size
    have hpm : M.Perm (c.drop 0 ++ leftF mk M) := (due_left mk M).trans (List.Perm.append_right _ P2.out.symm)
    refine ⟨hst.box, hst.mp.perm (hpm.map pEnt), hst.om, (FT.of_below HB1.out).trans (FT.of_below B2.out), BoxT.below (t := 2) HK1.out B2.out, by have := O2.out; rwa [hs1] at this, hst.ns, hst.nm, HH.out.flt⟩
  have HOC : Hid (∀ x ∈ c, PnOk x) := fun x hx => HOK.out x (List.mem_filter.1 (P2.out.mem_iff.1 hx)).1
  clear O2 B2 HPK H1 HK1 HB1 c0 mk0
  go_loopg [22] (c.length + 1) (fun gh iv wr => ∃ (i : Nat), iv = .int .i64 (i : Int) ∧ i ≤ c.length ∧ c.length + 1 ≤ gh + i ∧ Hid (FI w wr s m o kd size slide ag fq R (c.drop i ++ leftF mk M) mk (.slice ua c.length uc) c))
  case atStart => exact ⟨0, rfl, by omega, by omega, HI⟩
  case round =>
    clear HI
    obtain ⟨i, rfl, hi, hg, HF⟩ := hrel
    obtain ⟨go, rfl⟩ : ∃ go, gk = go + 1 := ⟨gk - 1, by omega⟩
    by_cases hlt : i < c.length
    · obtain ⟨x, hx⟩ := get_of_lt hlt
      have bt : (i : Int) < (c.length : Int) := by omega
      obtain ⟨nb, no, rfl, nlt, e0, e1, e2, e3⟩ := (HF.out.row.seg Pn.cs_len (by omega)).pane hx
      have HPX := hide (HOC.out x (List.mem_of_getElem? hx))
      have HDR : Hid (c.drop i = x :: c.drop (i + 1)) := (show _ = _ by rw [List.drop_eq_getElem_cons hlt]; rw [List.getElem?_eq_getElem hlt] at hx; rw [Option.some.inj hx])
      obtain ⟨W2, hW2⟩ : ∃ W2, W2 = wr.alloc (.cells #[.int .i64 x.k, .int .i64 x.f, .int .i64 x.t, .int .i64 x.a] 70) := ⟨_, rfl⟩
      have HBW : Hid (Below wr.heap.size wr W2) := (show Below _ _ _ by rw [hW2]; exact below_box wr _)
      have HPB : Hid (BoxT 70 W2 wr.heap.size #[.int .i64 x.k, .int .i64 x.f, .int .i64 x.t, .int .i64 x.a]) := (show BoxT _ _ _ _ by rw [hW2]; exact BoxT.new _ _ _)
      have HF2 := hide (HF.out.below HBW.out)
      have HKC : Hid (∀ w', Below W2.heap.size W2 w' → F7 s m wr.heap.size x w') := fun w' hb => by
        obtain ⟨p0, p1, p2, p3⟩ := (BoxT.below (t := 70) HPB.out hb).cells4
        exact ⟨(HF2.out.below hb).cells.2.1, p0, p1, p2, p3⟩
      have HPL : Hid (∀ w', Below W2.heap.size W2 w' → Calls Tryz.prog 38 #[x.val] w' fun e w'' => e = .returned (plV x) ∧ Below W2.heap.size W2 w'') := fun w' hb => (placeOf_any w' x).mono (by rintro e w'' ⟨rfl, h2⟩; exact ⟨rfl, hb.trans (h2.mono hb.size)⟩)
      clear hx
      go_upto_region 7 with fail
      rw [← hW2]
      clear hW2
      have B1 : Hid (Below W2.heap.size W2 W2.drew) := (Below.refl _ _).drew
      refine wp_region_M (S := fun w' => F7 s m wr.heap.size x w') (late := []) (by kernel_rfl) (HKC.out _ B1.out) (fun hHeld => ?_)
      (try simp only [List.size_toArray, List.length_cons, List.length_nil, Nat.zero_add, Nat.reduceAdd, Array.replicate, List.replicate])
      refine wpAnyM_take (i := 0) (oi := ⟨_, _, _, _, _, _⟩) (v := ?_) rfl (by kernel_rfl) (by kernel_rfl) (by kernel_rfl) (by kernel_rfl) (fun _ _ _ h => h) (Or.inl ⟨by rfl, ?_⟩) hHeld ?_
      rotate_left
      · (intro w' hSw; unfold F7 at hSw; go_simp; try (with_reducible rfl))
      (try simp only [Act.put, List.setIfInBounds_toArray, List.set_cons_zero, List.set_cons_succ])
      refine wpAnyM_take (i := 1) (oi := ⟨_, _, _, _, _, _⟩) (v := ?_) rfl (by kernel_rfl) (by kernel_rfl) (by kernel_rfl) (by kernel_rfl) (fun _ _ _ h => h) (Or.inl ⟨by rfl, ?_⟩) hHeld ?_
      rotate_left
      · (intro w' hSw; unfold F7 at hSw; go_simp; try (with_reducible rfl))
      (try simp only [Act.put, List.setIfInBounds_toArray, List.set_cons_zero, List.set_cons_succ])
      refine wpAnyM_take (i := 2) (oi := ⟨_, _, _, _, _, _⟩) (v := ?_) rfl (by kernel_rfl) (by kernel_rfl) (by kernel_rfl) (by kernel_rfl) (fun _ _ _ h => h) (Or.inl ⟨by rfl, ?_⟩) hHeld ?_
      rotate_left
      · (intro w' hSw; unfold F7 at hSw; go_simp; try (with_reducible rfl))
      (try simp only [Act.put, List.setIfInBounds_toArray, List.set_cons_zero, List.set_cons_succ])
      refine wpAnyM_take (i := 3) (oi := ⟨_, _, _, _, _, _⟩) (v := ?_) rfl (by kernel_rfl) (by kernel_rfl) (by kernel_rfl) (by kernel_rfl) (fun _ _ _ h => h) (Or.inl ⟨by rfl, ?_⟩) hHeld ?_
      rotate_left
      · (intro w' hSw; unfold F7 at hSw; go_simp; try (with_reducible rfl))
      (try simp only [Act.put, List.setIfInBounds_toArray, List.set_cons_zero, List.set_cons_succ])
      refine wpAnyM_take (i := 4) (oi := ⟨_, _, _, _, _, _⟩) (v := ?_) rfl (by kernel_rfl) (by kernel_rfl) (by kernel_rfl) (by kernel_rfl) (fun _ _ _ h => h) (Or.inl ⟨by rfl, ?_⟩) hHeld ?_
      rotate_left
      · (intro w' hSw; unfold F7 at hSw; go_simp; try (with_reducible rfl))
      (try simp only [Act.put, List.setIfInBounds_toArray, List.set_cons_zero, List.set_cons_succ])
      refine wpAnyM_one (i := 5) (o := ⟨_, _, _, _, _, _⟩) (by kernel_rfl) rfl (fun K hK => ?_)
      go_simp
      go_at_call 38
      refine (HPL.out _ B1.out).mono ?_
      rintro e w3 ⟨rfl, hb⟩
      have B3 := hide hb
      refine hK.out _ _ (HKC.out _ hb) (fun hHeld => ?_)
      clear hK K hb
      (try simp only [List.setIfInBounds_toArray, List.set_cons_zero, List.set_cons_succ])
      obtain ⟨lk, hlk⟩ := HPX.out.key
      have HF3 := hide (HF2.out.below B3.out)
      obtain ⟨w5, hrun5, hm5, ht5⟩ := HF3.out.mp.drop_hit Tryz.lawPl Tryz.underlying72 hlk (v0 := .int .i64 x.a) (R := (c.drop (i + 1) ++ leftF mk M).map pEnt) (by rw [HDR.out]; exact .refl _) 0
      have HF5 := hide (HF3.out.del hm5 ht5)
      have HS7 : Hid (F7 s m wr.heap.size x w5) := by
        have hne : wr.heap.size ≠ m := fun e => by have := HF.out.mp.lt; omega
        have hp : BoxT 70 w5 wr.heap.size #[.int .i64 x.k, .int .i64 x.f, .int .i64 x.t, .int .i64 x.a] := by have h1 := (BoxT.below (t := 70) HPB.out B3.out); unfold BoxT at *; rw [ht5.other hne]; exact h1
        obtain ⟨p0, p1, p2, p3⟩ := hp.cells4
        exact ⟨HF5.out.cells.2.1, p0, p1, p2, p3⟩
      clear hm5 ht5
      refine wpAnyM_one (i := 6) (o := ⟨_, _, _, _, _, _⟩) (by kernel_rfl) rfl (fun K hK => ?_)
      refine step_del_run rfl _ _ 72 89 rfl _ _ rfl rfl hrun5 ?_
      refine hK.out _ _ HS7.out (fun hHeld => ?_)
      clear hK K
      (try simp only [List.setIfInBounds_toArray, List.set_cons_zero, List.set_cons_succ])
      refine wpAnyM_done (by kernel_rfl) ?_ _
      go_wp2_with fail
      go_roundg go
      case rel => exact ⟨i + 1, by go_num, by omega, by omega, HF5⟩
      case measure => omega
    · obtain rfl : i = c.length := by omega
      have bt : ¬ ((c.length : Nat) : Int) < (c.length : Int) := by omega
      have HF0 := HF
      rw [List.drop_length, List.nil_append] at HF0
      clear HF
      have HKC : Hid (∀ w', Below wr.heap.size wr w' → F9 s o w.heap.size mk w') := fun w' hb => ⟨(HF0.out.below hb).cells.2.2.1, (HF0.out.below hb).cells.2.2.2⟩
      have HRL : Hid (∀ r ∈ R, r.l.length ≤ 100000) := fun r hr => (show r.l.length ≤ 100000 by have := rows_len HIV.out r hr; omega)
      go_upto_region 9 with fail
      have B1 : Hid (Below wr.heap.size wr wr.drew) := (Below.refl _ _).drew
      have HF1 := hide (HF0.out.below B1.out)
      refine wp_region_M (S := fun w' => F9 s o w.heap.size mk w') (late := []) (by kernel_rfl) (HKC.out _ B1.out) (fun hHeld => ?_)
      (try simp only [List.size_toArray, List.length_cons, List.length_nil, Nat.zero_add, Nat.reduceAdd, Array.replicate, List.replicate])
      refine wpAnyM_take (i := 0) (oi := ⟨_, _, _, _, _, _⟩) (v := ?_) rfl (by kernel_rfl) (by kernel_rfl) (by kernel_rfl) (by kernel_rfl) (fun _ _ _ h => h) (Or.inl ⟨by rfl, ?_⟩) hHeld ?_
      rotate_left
      · (intro w' hSw; unfold F9 at hSw; go_simp; try (with_reducible rfl))
      (try simp only [Act.put, List.setIfInBounds_toArray, List.set_cons_zero, List.set_cons_succ])
      refine wpAnyM_take (i := 1) (oi := ⟨_, _, _, _, _, _⟩) (v := ?_) rfl (by kernel_rfl) (by kernel_rfl) (by kernel_rfl) (by kernel_rfl) (fun _ _ _ h => h) (Or.inl ⟨by rfl, ?_⟩) hHeld ?_
      rotate_left
      · (intro w' hSw; unfold F9 at hSw; go_simp; try (with_reducible rfl))
      (try simp only [Act.put, List.setIfInBounds_toArray, List.set_cons_zero, List.set_cons_succ])
      refine wpAnyM_take (i := 2) (oi := ⟨_, _, _, _, _, _⟩) (v := ?_) rfl (by kernel_rfl) (by kernel_rfl) (by kernel_rfl) (by kernel_rfl) (fun _ _ _ h => h) (Or.inl ⟨by rfl, ?_⟩) hHeld ?_
      rotate_left
      · (intro w' hSw; unfold F9 at hSw; go_simp; try (with_reducible rfl))
      (try simp only [Act.put, List.setIfInBounds_toArray, List.set_cons_zero, List.set_cons_succ])
      refine wpAnyM_take (i := 3) (oi := ⟨_, _, _, _, _, _⟩) (v := ?_) rfl (by kernel_rfl) (by kernel_rfl) (by kernel_rfl) (by kernel_rfl) (fun _ _ _ h => h) (Or.inl ⟨by rfl, ?_⟩) hHeld ?_
      rotate_left
      · (intro w' hSw; unfold F9 at hSw; go_simp; try (with_reducible rfl))
      (try simp only [Act.put, List.setIfInBounds_toArray, List.set_cons_zero, List.set_cons_succ])
      refine wpAnyM_take (i := 4) (oi := ⟨_, _, _, _, _, _⟩) (v := ?_) rfl (by kernel_rfl) (by kernel_rfl) (by kernel_rfl) (by kernel_rfl) (fun _ _ _ h => h) (Or.inl ⟨by rfl, ?_⟩) hHeld ?_
      rotate_left
      · (intro w' hSw; unfold F9 at hSw; go_simp; try (with_reducible rfl))
      (try simp only [Act.put, List.setIfInBounds_toArray, List.set_cons_zero, List.set_cons_succ])
      refine wpAnyM_one (i := 5) (o := ⟨_, _, _, _, _, _⟩) (by kernel_rfl) rfl (fun K hK => ?_)
      go_simp
      go_at_call 39
      refine (end_any HF1.out.om mk HRL.out).mono ?_
      rintro e w3 ⟨rfl, E, D, om3, ft3, pm3, e3⟩
      have HF3 := hide (HF1.out.ended om3 ft3)
      have HI3 := hide (end_inv HIV.out pm3 e3)
      clear om3 ft3 pm3 e3
      refine hK.out _ _ ⟨HF3.out.cells.2.2.1, HF3.out.cells.2.2.2⟩ (fun hHeld => ?_)
      clear hK K
      (try simp only [List.setIfInBounds_toArray, List.set_cons_zero, List.set_cons_succ])
      refine wpAnyM_done (by kernel_rfl) ?_ _
      have HSG := hide (HF3.out.row.seg Pn.cs_len (by omega))
      have HWF := hide (Fire_any HSG.out (by omega) mk)
      have hk3 := HF3.out.cells.2.2.2
      have HSR : Hid (srt c = srt (M.filter (ovr mk))) := srt_eq P2.out
      go_wp2_with (first | (go_at_call 40; refine HWF.out.mono ?_; rintro e w4 ⟨u1, u2, rfl, o4, o5, b4⟩; have O4 := hide o4; have HF4 := hide (HF3.out.below b4); have HR4 := hide (isReduce_any HF4.out.cells.1); clear o4 o5 b4; rw [← HRB.out] at HR4) | (go_at_call 34; refine HR4.out.mono ?_; rintro e w6 ⟨rfl, rfl⟩) | fail)
      go_ret
      refine ⟨_, E, rfl, ?_, ⟨HF4.out.box, HF4.out.mp, HF4.out.om, fun x hx => HOK.out x (List.mem_filter.1 hx).1, HF4.out.ns, HF4.out.nm, HI3.out⟩, HF4.out.ft⟩
      rw [← HSR.out]
      exact O4.out.mono (by have := HF3.out.ft.size; omega)
set_option maxHeartbeats 8000000 in
set_option maxRecDepth 100000 in
theorem Fire_red {w : World} {s m o : Nat} {kd size slide ag : Int} {fq : Nat → Prop} {M : List Pn} {R : List SRow} (h : StAt w s m o kd size slide ag fq M R) (mk : Int) (hkd : kd = 0) (hmk : mk = 9223372036854775807) (hM : M.length ≤ 90000) :
    Calls Tryz.prog 14 #[.pointer (some ⟨s, 0, none⟩), .int .i64 mk] w (FrPost w s m o kd size slide ag fq M mk ((outF mk (srt (M.filter (ovr mk)))).map eT)) := by
  have hb1 := below_box w (.cells #[.int .i64 mk] 2)
  obtain ⟨W1, hW1⟩ : ∃ W1, W1 = w.alloc (.cells #[.int .i64 mk] 2) := ⟨_, rfl⟩
  rw [← hW1] at hb1
  have hs1 : W1.heap.size = w.heap.size + 1 := by rw [hW1]; simp
  have hk1 : BoxT 2 W1 w.heap.size #[.int .i64 mk] := by rw [hW1]; exact BoxT.new _ _ _
  have h1 := h.below (fun i hi => hb1.block i (h.flt i hi)) hb1.size
  have HR := hide (isReduce_any h1.cells.1)
  have HPK := hide (pick_any (⟨m, o, fq, R, h1, fun _ => Iff.rfl⟩ : SA W1 s kd size slide ag (FP s m fq) M) 36 #[.pointer (some ⟨w.heap.size, 0, none⟩)] (ovr mk) runFire (fun w1 hb x => fireC_any (BoxT.below (t := 2) hk1 hb) x) (by omega))
  have HB1 := hide hb1
  have HK1 := hide hk1
  have H1 := hide h1
  have HH := hide h
  have HIV := hide h.inv
  have HOK := hide h.ok
  obtain ⟨rb, hrb⟩ : ∃ rb, rb = (kd == 0) := ⟨_, rfl⟩
  rw [← hrb] at HR
  obtain rfl : rb = true := by rw [hrb]; simpa using hkd
  have HRB := hide hrb
  clear hrb hkd
  have hmq : (mk == 9223372036854775807) = true := by rw [hmk]; rfl
  clear hmk
  obtain ⟨c0, _⟩ := h.cells
  obtain ⟨mk0, _⟩ : W1.cell? ⟨w.heap.size, 0, none⟩ = some (.int .i64 mk) ∧ True := ⟨by rw [hk1.cellAt]; rfl, trivial⟩
  clear h h1 hb1 hk1
  go_enter Tryz.func14, Tryz.ntmps14
  go_upto_region 1 with fail
  rw [← hW1]
  clear hW1
  go_wp2_with (first | (go_at_call 34; refine HR.out.mono ?_; rintro e w1 ⟨rfl, rfl⟩) | (go_at_call 35; refine HPK.out.mono ?_; rintro e w2 ⟨u, c, rfl, o2, p2, b2⟩; have O2 := hide o2; have P2 := hide p2; have B2 := hide b2; obtain ⟨ua, uc, rfl⟩ := o2.shape; clear o2 p2 b2) | fail)
  have hcl : c.length ≤ 90000 := by have h1 := P2.out.length_eq; have h2 := List.length_filter_le (ovr mk) M; omega
  have HI : Hid (FI w w2 s m o kd size slide ag fq R (c.drop 0 ++ leftF mk M) mk (.slice ua c.length uc) c) := by
    have hst := H1.out.below (fun i hi => B2.out.block i (H1.out.flt i hi)) B2.out.size
    have hpm : M.Perm (c.drop 0 ++ leftF mk M) := (due_left mk M).trans (List.Perm.append_right _ P2.out.symm)
    refine ⟨hst.box, hst.mp.perm (hpm.map pEnt), hst.om, (FT.of_below HB1.out).trans (FT.of_below B2.out), BoxT.below (t := 2) HK1.out B2.out, by have := O2.out; rwa [hs1] at this, hst.ns, hst.nm, HH.out.flt⟩
  have HOC : Hid (∀ x ∈ c, PnOk x) := fun x hx => HOK.out x (List.mem_filter.1 (P2.out.mem_iff.1 hx)).1
  clear O2 B2 HPK H1 HK1 HB1 c0 mk0
  go_loopg [22] (c.length + 1) (fun gh iv wr => ∃ (i : Nat), iv = .int .i64 (i : Int) ∧ i ≤ c.length ∧ c.length + 1 ≤ gh + i ∧ Hid (FI w wr s m o kd size slide ag fq R (c.drop i ++ leftF mk M) mk (.slice ua c.length uc) c))
  case atStart => exact ⟨0, rfl, by omega, by omega, HI⟩
  case round =>
    clear HI
    obtain ⟨i, rfl, hi, hg, HF⟩ := hrel
    obtain ⟨go, rfl⟩ : ∃ go, gk = go + 1 := ⟨gk - 1, by omega⟩
    by_cases hlt : i < c.length
    · obtain ⟨x, hx⟩ := get_of_lt hlt
      have bt : (i : Int) < (c.length : Int) := by omega
      obtain ⟨nb, no, rfl, nlt, e0, e1, e2, e3⟩ := (HF.out.row.seg Pn.cs_len (by omega)).pane hx
      have HPX := hide (HOC.out x (List.mem_of_getElem? hx))
      have HDR : Hid (c.drop i = x :: c.drop (i + 1)) := (show _ = _ by rw [List.drop_eq_getElem_cons hlt]; rw [List.getElem?_eq_getElem hlt] at hx; rw [Option.some.inj hx])
      obtain ⟨W2, hW2⟩ : ∃ W2, W2 = wr.alloc (.cells #[.int .i64 x.k, .int .i64 x.f, .int .i64 x.t, .int .i64 x.a] 70) := ⟨_, rfl⟩
      have HBW : Hid (Below wr.heap.size wr W2) := (show Below _ _ _ by rw [hW2]; exact below_box wr _)
      have HPB : Hid (BoxT 70 W2 wr.heap.size #[.int .i64 x.k, .int .i64 x.f, .int .i64 x.t, .int .i64 x.a]) := (show BoxT _ _ _ _ by rw [hW2]; exact BoxT.new _ _ _)
      have HF2 := hide (HF.out.below HBW.out)
      have HKC : Hid (∀ w', Below W2.heap.size W2 w' → F7 s m wr.heap.size x w') := fun w' hb => by
        obtain ⟨p0, p1, p2, p3⟩ := (BoxT.below (t := 70) HPB.out hb).cells4
        exact ⟨(HF2.out.below hb).cells.2.1, p0, p1, p2, p3⟩
      have HPL : Hid (∀ w', Below W2.heap.size W2 w' → Calls Tryz.prog 38 #[x.val] w' fun e w'' => e = .returned (plV x) ∧ Below W2.heap.size W2 w'') := fun w' hb => (placeOf_any w' x).mono (by rintro e w'' ⟨rfl, h2⟩; exact ⟨rfl, hb.trans (h2.mono hb.size)⟩)
      clear hx
      go_upto_region 7 with fail
      rw [← hW2]
      clear hW2
      have B1 : Hid (Below W2.heap.size W2 W2.drew) := (Below.refl _ _).drew
      refine wp_region_M (S := fun w' => F7 s m wr.heap.size x w') (late := []) (by kernel_rfl) (HKC.out _ B1.out) (fun hHeld => ?_)
      (try simp only [List.size_toArray, List.length_cons, List.length_nil, Nat.zero_add, Nat.reduceAdd, Array.replicate, List.replicate])
      refine wpAnyM_take (i := 0) (oi := ⟨_, _, _, _, _, _⟩) (v := ?_) rfl (by kernel_rfl) (by kernel_rfl) (by kernel_rfl) (by kernel_rfl) (fun _ _ _ h => h) (Or.inl ⟨by rfl, ?_⟩) hHeld ?_
      rotate_left
      · (intro w' hSw; unfold F7 at hSw; go_simp; try (with_reducible rfl))
      (try simp only [Act.put, List.setIfInBounds_toArray, List.set_cons_zero, List.set_cons_succ])
      refine wpAnyM_take (i := 1) (oi := ⟨_, _, _, _, _, _⟩) (v := ?_) rfl (by kernel_rfl) (by kernel_rfl) (by kernel_rfl) (by kernel_rfl) (fun _ _ _ h => h) (Or.inl ⟨by rfl, ?_⟩) hHeld ?_
      rotate_left
      · (intro w' hSw; unfold F7 at hSw; go_simp; try (with_reducible rfl))
      (try simp only [Act.put, List.setIfInBounds_toArray, List.set_cons_zero, List.set_cons_succ])
      refine wpAnyM_take (i := 2) (oi := ⟨_, _, _, _, _, _⟩) (v := ?_) rfl (by kernel_rfl) (by kernel_rfl) (by kernel_rfl) (by kernel_rfl) (fun _ _ _ h => h) (Or.inl ⟨by rfl, ?_⟩) hHeld ?_
      rotate_left
      · (intro w' hSw; unfold F7 at hSw; go_simp; try (with_reducible rfl))
      (try simp only [Act.put, List.setIfInBounds_toArray, List.set_cons_zero, List.set_cons_succ])
      refine wpAnyM_take (i := 3) (oi := ⟨_, _, _, _, _, _⟩) (v := ?_) rfl (by kernel_rfl) (by kernel_rfl) (by kernel_rfl) (by kernel_rfl) (fun _ _ _ h => h) (Or.inl ⟨by rfl, ?_⟩) hHeld ?_
      rotate_left
      · (intro w' hSw; unfold F7 at hSw; go_simp; try (with_reducible rfl))
      (try simp only [Act.put, List.setIfInBounds_toArray, List.set_cons_zero, List.set_cons_succ])
      refine wpAnyM_take (i := 4) (oi := ⟨_, _, _, _, _, _⟩) (v := ?_) rfl (by kernel_rfl) (by kernel_rfl) (by kernel_rfl) (by kernel_rfl) (fun _ _ _ h => h) (Or.inl ⟨by rfl, ?_⟩) hHeld ?_
      rotate_left
      · (intro w' hSw; unfold F7 at hSw; go_simp; try (with_reducible rfl))
      (try simp only [Act.put, List.setIfInBounds_toArray, List.set_cons_zero, List.set_cons_succ])
      refine wpAnyM_one (i := 5) (o := ⟨_, _, _, _, _, _⟩) (by kernel_rfl) rfl (fun K hK => ?_)
      go_simp
      go_at_call 38
      refine (HPL.out _ B1.out).mono ?_
      rintro e w3 ⟨rfl, hb⟩
      have B3 := hide hb
      refine hK.out _ _ (HKC.out _ hb) (fun hHeld => ?_)
      clear hK K hb
      (try simp only [List.setIfInBounds_toArray, List.set_cons_zero, List.set_cons_succ])
      obtain ⟨lk, hlk⟩ := HPX.out.key
      have HF3 := hide (HF2.out.below B3.out)
      obtain ⟨w5, hrun5, hm5, ht5⟩ := HF3.out.mp.drop_hit Tryz.lawPl Tryz.underlying72 hlk (v0 := .int .i64 x.a) (R := (c.drop (i + 1) ++ leftF mk M).map pEnt) (by rw [HDR.out]; exact .refl _) 0
      have HF5 := hide (HF3.out.del hm5 ht5)
      have HS7 : Hid (F7 s m wr.heap.size x w5) := by
        have hne : wr.heap.size ≠ m := fun e => by have := HF.out.mp.lt; omega
        have hp : BoxT 70 w5 wr.heap.size #[.int .i64 x.k, .int .i64 x.f, .int .i64 x.t, .int .i64 x.a] := by have h1 := (BoxT.below (t := 70) HPB.out B3.out); unfold BoxT at *; rw [ht5.other hne]; exact h1
        obtain ⟨p0, p1, p2, p3⟩ := hp.cells4
        exact ⟨HF5.out.cells.2.1, p0, p1, p2, p3⟩
      clear hm5 ht5
      refine wpAnyM_one (i := 6) (o := ⟨_, _, _, _, _, _⟩) (by kernel_rfl) rfl (fun K hK => ?_)
      refine step_del_run rfl _ _ 72 89 rfl _ _ rfl rfl hrun5 ?_
      refine hK.out _ _ HS7.out (fun hHeld => ?_)
      clear hK K
      (try simp only [List.setIfInBounds_toArray, List.set_cons_zero, List.set_cons_succ])
      refine wpAnyM_done (by kernel_rfl) ?_ _
      go_wp2_with fail
      go_roundg go
      case rel => exact ⟨i + 1, by go_num, by omega, by omega, HF5⟩
      case measure => omega
    · obtain rfl : i = c.length := by omega
      have bt : ¬ ((c.length : Nat) : Int) < (c.length : Int) := by omega
      have HF0 := HF
      rw [List.drop_length, List.nil_append] at HF0
      clear HF
      have HKC : Hid (∀ w', Below wr.heap.size wr w' → F9 s o w.heap.size mk w') := fun w' hb => ⟨(HF0.out.below hb).cells.2.2.1, (HF0.out.below hb).cells.2.2.2⟩
      have HRL : Hid (∀ r ∈ R, r.l.length ≤ 100000) := fun r hr => (show r.l.length ≤ 100000 by have := rows_len HIV.out r hr; omega)
      go_upto_region 9 with fail
      have B1 : Hid (Below wr.heap.size wr wr.drew) := (Below.refl _ _).drew
      have HF1 := hide (HF0.out.below B1.out)
      refine wp_region_M (S := fun w' => F9 s o w.heap.size mk w') (late := []) (by kernel_rfl) (HKC.out _ B1.out) (fun hHeld => ?_)
      (try simp only [List.size_toArray, List.length_cons, List.length_nil, Nat.zero_add, Nat.reduceAdd, Array.replicate, List.replicate])
      refine wpAnyM_take (i := 0) (oi := ⟨_, _, _, _, _, _⟩) (v := ?_) rfl (by kernel_rfl) (by kernel_rfl) (by kernel_rfl) (by kernel_rfl) (fun _ _ _ h => h) (Or.inl ⟨by rfl, ?_⟩) hHeld ?_
      rotate_left
      · (intro w' hSw; unfold F9 at hSw; go_simp; try (with_reducible rfl))
      (try simp only [Act.put, List.setIfInBounds_toArray, List.set_cons_zero, List.set_cons_succ])
      refine wpAnyM_take (i := 1) (oi := ⟨_, _, _, _, _, _⟩) (v := ?_) rfl (by kernel_rfl) (by kernel_rfl) (by kernel_rfl) (by kernel_rfl) (fun _ _ _ h => h) (Or.inl ⟨by rfl, ?_⟩) hHeld ?_
      rotate_left
      · (intro w' hSw; unfold F9 at hSw; go_simp; try (with_reducible rfl))
      (try simp only [Act.put, List.setIfInBounds_toArray, List.set_cons_zero, List.set_cons_succ])
      refine wpAnyM_take (i := 2) (oi := ⟨_, _, _, _, _, _⟩) (v := ?_) rfl (by kernel_rfl) (by kernel_rfl) (by kernel_rfl) (by kernel_rfl) (fun _ _ _ h => h) (Or.inl ⟨by rfl, ?_⟩) hHeld ?_
      rotate_left
      · (intro w' hSw; unfold F9 at hSw; go_simp; try (with_reducible rfl))
      (try simp only [Act.put, List.setIfInBounds_toArray, List.set_cons_zero, List.set_cons_succ])
      refine wpAnyM_take (i := 3) (oi := ⟨_, _, _, _, _, _⟩) (v := ?_) rfl (by kernel_rfl) (by kernel_rfl) (by kernel_rfl) (by kernel_rfl) (fun _ _ _ h => h) (Or.inl ⟨by rfl, ?_⟩) hHeld ?_
      rotate_left
      · (intro w' hSw; unfold F9 at hSw; go_simp; try (with_reducible rfl))
      (try simp only [Act.put, List.setIfInBounds_toArray, List.set_cons_zero, List.set_cons_succ])
      refine wpAnyM_take (i := 4) (oi := ⟨_, _, _, _, _, _⟩) (v := ?_) rfl (by kernel_rfl) (by kernel_rfl) (by kernel_rfl) (by kernel_rfl) (fun _ _ _ h => h) (Or.inl ⟨by rfl, ?_⟩) hHeld ?_
      rotate_left
      · (intro w' hSw; unfold F9 at hSw; go_simp; try (with_reducible rfl))
      (try simp only [Act.put, List.setIfInBounds_toArray, List.set_cons_zero, List.set_cons_succ])
      refine wpAnyM_one (i := 5) (o := ⟨_, _, _, _, _, _⟩) (by kernel_rfl) rfl (fun K hK => ?_)
      go_simp
      go_at_call 39
      refine (end_any HF1.out.om mk HRL.out).mono ?_
      rintro e w3 ⟨rfl, E, D, om3, ft3, pm3, e3⟩
      have HF3 := hide (HF1.out.ended om3 ft3)
      have HI3 := hide (end_inv HIV.out pm3 e3)
      clear om3 ft3 pm3 e3
      refine hK.out _ _ ⟨HF3.out.cells.2.2.1, HF3.out.cells.2.2.2⟩ (fun hHeld => ?_)
      clear hK K
      (try simp only [List.setIfInBounds_toArray, List.set_cons_zero, List.set_cons_succ])
      refine wpAnyM_done (by kernel_rfl) ?_ _
      have HSG := hide (HF3.out.row.seg Pn.cs_len (by omega))
      have HWF := hide (Fire_any HSG.out (by omega) mk)
      have hk3 := HF3.out.cells.2.2.2
      have HSR : Hid (srt c = srt (M.filter (ovr mk))) := srt_eq P2.out
      have HOL : Hid ((outF mk (srt c)).length ≤ 90000) := (show _ ≤ _ by have h1 := out_len mk (srt c); rw [srt_len] at h1; omega)
      obtain ⟨OU, hOU⟩ : ∃ OU, OU = outF mk (srt c) := ⟨_, rfl⟩
      rw [← hOU] at HWF HOL
      have HOU : Hid (OU = outF mk (srt (M.filter (ovr mk)))) := (show _ = _ from hOU.trans (by rw [HSR.out]))
      clear hOU
      have HOL2 := HOL.out
      go_wp2_with (first | (go_at_call 40; refine HWF.out.mono ?_; rintro e w4 ⟨u1, u2, rfl, o4, o5, b4⟩; obtain ⟨ra, rc, rfl⟩ := o4.shape; have O4 := hide o4; have B4 := hide b4; have HF4 := hide (HF3.out.below b4); have HR4 := hide (isReduce_any HF4.out.cells.1); clear o4 o5 b4; rw [← HRB.out] at HR4) | (go_at_call 34; refine HR4.out.mono ?_; rintro e w6 ⟨rfl, rfl⟩) | fail)
      have O5 : Hid (OwnL 39 3 Rc.cs w3.heap.size w6 (.slice ra OU.length rc) (eL OU 0)) := O4
      clear O4 HWF HF4 HR4 hk3
      go_loopg [49] (OU.length + 1) (fun gh iv wr => ∃ (i : Nat), iv = .int .i64 (i : Int) ∧ i ≤ OU.length ∧ OU.length + 1 ≤ gh + i ∧ Hid (OwnL 39 3 Rc.cs w3.heap.size wr (.slice ra OU.length rc) (eL OU i)) ∧ Hid (Below w3.heap.size w3 wr))
      case atStart => exact ⟨0, rfl, by omega, by omega, O5, B4⟩
      case round =>
        clear O5 B4
        obtain ⟨i, rfl, hi, hg, O5, B5⟩ := hrel
        obtain ⟨go, rfl⟩ : ∃ go, gk = go + 1 := ⟨gk - 1, by omega⟩
        by_cases hlt : i < OU.length
        · obtain ⟨x, hx⟩ := get_of_lt hlt
          have bt : (i : Int) < (OU.length : Int) := by omega
          obtain ⟨g5, rfl⟩ : ∃ g5, ra = some ⟨g5, 0, none⟩ := by
            obtain ⟨g5, cp5, e5⟩ := O5.out.own (by rw [eL_len]; omega)
            simp only [Value.slice.injEq] at e5
            exact ⟨g5, e5.1⟩
          have HS5 : Hid (OwnL 39 3 Rc.cs w3.heap.size (wr.setCell ⟨g5, i * 3 + 1, none⟩ (.int .i64 2199023255552)) (.slice (some ⟨g5, 0, none⟩) OU.length rc) (eL OU (i + 1))) := (show OwnL _ _ _ _ _ _ _ by rw [← eL_step hx]; exact O5.out.setField Rc.cs_len (by omega) (eL_get hx) (by omega) rfl)
          have HB5 : Hid (Below w3.heap.size w3 (wr.setCell ⟨g5, i * 3 + 1, none⟩ (.int .i64 2199023255552))) := B5.out.grown (grownBy_set _ _ _ _) B5.out.size (fun k e => by cases e; exact O5.out.at g5 rfl)
          have d1 : wr.cell? ⟨g5, i * 3 + 1, none⟩ = some (.int .i64 x.t) := by
            obtain ⟨nb, no, en, nlt, _, d⟩ := (O5.out.seg Rc.cs_len (by rw [eL_len]; omega)).readAt (eL_get hx)
            simp only [Option.some.injEq, Addr.mk.injEq] at en
            obtain ⟨rfl, rfl, _⟩ := en
            have d1 := d 1 _ rfl
            rwa [Nat.zero_add] at d1
          obtain ⟨cu5, hb5⟩ := O5.out.has g5 rfl
          have hf5 : ∀ j, wr.frozen? ⟨g5, j, none⟩ = false := fun j => (show BoxT 39 wr g5 cu5 from hb5).free j
          clear hb5 hx
          go_wp2_with fail
          go_roundg go
          case rel => exact ⟨i + 1, by go_num, by omega, by omega, HS5, HB5⟩
          case measure => omega
        · obtain rfl : i = OU.length := by omega
          have bt : ¬ ((OU.length : Nat) : Int) < (OU.length : Int) := by omega
          have HF4 := hide (HF3.out.below B5.out)
          have O6 : Hid (OwnL 39 3 Rc.cs w3.heap.size wr (.slice ra OU.length rc) (OU.map eT)) := (show OwnL _ _ _ _ _ _ _ by have h6 := O5.out; unfold eL at h6; rw [List.take_of_length_le (Nat.le_refl _), List.drop_length, List.append_nil] at h6; exact h6)
          clear O5 B5
          go_wp2_with fail
          go_ret
          refine ⟨.slice ra OU.length rc, E, rfl, ?_, ⟨HF4.out.box, HF4.out.mp, HF4.out.om, fun x hx => HOK.out x (List.mem_filter.1 hx).1, HF4.out.ns, HF4.out.nm, HI3.out⟩, HF4.out.ft⟩
          rw [← HOU.out]
          exact O6.out.mono (by have := HF3.out.ft.size; omega)
set_option maxHeartbeats 4000000 in
set_option maxRecDepth 100000 in
/-- Of a reduce nothing fires ahead of the last mark. -/
theorem Fire_idle {w : World} {s m o : Nat} {kd size slide ag : Int} {fq : Nat → Prop} {M : List Pn} {R : List SRow} (h : StAt w s m o kd size slide ag fq M R) (mk : Int) (hkd : kd = 0) (hmk : mk ≠ 9223372036854775807) :
    Calls Tryz.prog 14 #[.pointer (some ⟨s, 0, none⟩), .int .i64 mk] w fun e w' => e = .returned (.slice none 0 0) ∧ Below w.heap.size w w' := by
  have hb1 := below_box w (.cells #[.int .i64 mk] 2)
  obtain ⟨W1, hW1⟩ : ∃ W1, W1 = w.alloc (.cells #[.int .i64 mk] 2) := ⟨_, rfl⟩
  rw [← hW1] at hb1
  have hk1 : BoxT 2 W1 w.heap.size #[.int .i64 mk] := by rw [hW1]; exact BoxT.new _ _ _
  have h1 := h.below (fun i hi => hb1.block i (h.flt i hi)) hb1.size
  have HR := hide (isReduce_any h1.cells.1)
  have HB1 := hide hb1
  rw [show (kd == 0) = true by simpa using hkd] at HR
  have hmq : (mk == 9223372036854775807) = false := by simpa using hmk
  obtain ⟨mk0, _⟩ : W1.cell? ⟨w.heap.size, 0, none⟩ = some (.int .i64 mk) ∧ True := ⟨by rw [hk1.cellAt]; rfl, trivial⟩
  clear h h1 hb1 hk1 hkd
  go_enter Tryz.func14, Tryz.ntmps14
  go_upto_region 1 with fail
  rw [← hW1]
  clear hW1
  go_wp2_with (first | (go_at_call 34; refine HR.out.mono ?_; rintro e w1 ⟨rfl, rfl⟩) | fail)
  go_ret
  exact ⟨rfl, HB1.out⟩
end Go.Proofs.YtdoldohcimbdaaaGreat
