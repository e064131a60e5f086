/-
  Texts in build order: SGath.
-/
import Derived.Test.YtdoldohcimbdaaaGreatM23
/-
  gathered: a session with all that it overlaps, walked.
-/
namespace Go.Proofs.YtdoldohcimbdaaaGreat
open Go.RowKit

theorem GI.ex {M : List Pn} {k : Int} {gone : List Sp} (hdn : ∀ s ∈ gone, ∃ x ∈ M, x.k = k ∧ x.f = s.f ∧ x.t = s.t) (hfull : ∀ s ∈ gone, s.f < s.t) (hrise : gone.Pairwise fun a b => a.t ≤ b.f) (i : Nat) : i ≤ gone.length → ∃ G N, GI M k gone i G N := by
  induction i with
  | zero => intro _; exact ⟨[], M, .refl _, rfl, fun q x s h => by simp at h⟩
  | succ i ih =>
    intro hi
    obtain ⟨G, N, h⟩ := ih (by omega)
    obtain ⟨s, hs⟩ := get_of_lt (show i < gone.length by omega)
    obtain ⟨x, N', _, _, _, _, _, h2⟩ := h.next hdn hfull hrise hs
    exact ⟨_, _, h2⟩
theorem GI.le {M : List Pn} {k : Int} {gone : List Sp} {i : Nat} {G N : List Pn} (h : GI M k gone i G N) : i ≤ M.length := by
  have := h.all.length_eq
  rw [List.length_append, h.len] at this
  omega
structure GS (w wr : World) (s m o : Nat) (size slide ag : Int) (fq fq' : Nat → Prop) (R' : List SRow) (N : List Pn) (gv : Value) (gone : List Sp) (KW : Nat) (k f t c wf wt : Int) : Prop where
  box : BoxT 76 wr s #[.int .i64 3, .int .i64 size, .int .i64 slide, .int .i64 ag, .map (some m), .map (some o)]
  mp : MapAt Tryz.prog 89 wr m (N.map pEnt)
  om : OM wr o fq' R'
  ft : FT (FP s m fq) (FP s m fq') w wr
  bp : BoxT 70 wr w.heap.size #[.int .i64 k, .int .i64 f, .int .i64 t, .int .i64 c]
  br : BoxT 70 wr (w.heap.size + 1) #[.int .i64 0, .int .i64 0, .int .i64 0, .int .i64 0]
  bw : BoxT 68 wr KW #[.int .i64 wf, .int .i64 wt]
  gn : OwnL 68 2 Sp.cs w.heap.size wr gv gone
  ns : ¬ fq' s
  nm : ¬ fq' m
  n1 : ¬ fq' w.heap.size
  n2 : ¬ fq' (w.heap.size + 1)
  sl : s < w.heap.size
  ml : m < w.heap.size
section
variable {w wr w' : World} {s m o : Nat} {size slide ag : Int} {fq fq' : Nat → Prop} {R' : List SRow} {N : List Pn} {gv : Value} {gone : List Sp} {KW : Nat} {k f t c wf wt : Int}
theorem GS.below (h : GS w wr s m o size slide ag fq fq' R' N gv gone KW k f t c wf wt) (hb : Below wr.heap.size wr w') : GS w w' s m o size slide ag fq fq' R' N gv gone KW k f t c wf wt :=
  { h with box := BoxT.below (t := 76) h.box hb, mp := h.mp.back (hb.block _ h.mp.lt), om := h.om.below hb, ft := h.ft.trans (FT.of_below hb), bp := BoxT.below (t := 70) h.bp hb, br := BoxT.below (t := 70) h.br hb, bw := BoxT.below (t := 68) h.bw hb, gn := h.gn.below hb }
theorem GS.cells (h : GS w wr s m o size slide ag fq fq' R' N gv gone KW k f t c wf wt) : wr.cell? ⟨s, 3, none⟩ = some (.int .i64 ag) ∧ wr.cell? ⟨s, 4, none⟩ = some (.map (some m)) ∧ wr.cell? ⟨w.heap.size, 0, none⟩ = some (.int .i64 k) ∧ wr.cell? ⟨w.heap.size, 3, none⟩ = some (.int .i64 c) := by
  have h1 := h.box
  have h2 := h.bp
  unfold BoxT at h1 h2
  simp [World.cell?, h1, h2]
/-- The acc of the pane in its box is another one. -/
theorem GS.acc (h : GS w wr s m o size slide ag fq fq' R' N gv gone KW k f t c wf wt) (c' : Int) : GS w (wr.setCell ⟨w.heap.size, 3, none⟩ (.int .i64 c')) s m o size slide ag fq fq' R' N gv gone KW k f t c' wf wt := by
  have hg := grownBy_set wr w.heap.size 3 (.int .i64 c')
  have ho : ∀ i, i ≠ w.heap.size → i < wr.heap.size → (wr.setCell ⟨w.heap.size, 3, none⟩ (.int .i64 c')).heap[i]? = wr.heap[i]? := fun i hi hl => hg.block i hl (fun e => hi (by cases e; rfl))
  have hsl := h.sl
  have hml := h.ml
  have hKW : KW ≠ w.heap.size := fun e => by
    have h1 := h.bw
    have h2 := h.bp
    unfold BoxT at h1 h2
    rw [e, h2] at h1
    simp at h1
  have hgv : ∀ g, gv.ownBlock = some g → g ≠ w.heap.size := fun g e e' => by
    obtain ⟨cu, hcu⟩ := h.gn.has g e
    have h2 := h.bp
    unfold BoxT at h2
    rw [e', h2] at hcu
    simp at hcu
  refine { h with box := h.box.grown hg (by omega), mp := h.mp.back (ho m (by omega) h.mp.lt), om := h.om.back (fun i hi => ho i (fun e => h.n1 (e ▸ hi)) (h.om.flt i hi)) hg.size, ft := ⟨hg.os.trans h.ft.os, hg.tape.trans h.ft.tape, hg.output.trans h.ft.output, Nat.le_trans h.ft.size hg.size, fun i hi hn => (ho i (by omega) (Nat.lt_of_lt_of_le hi h.ft.size)).trans (h.ft.block i hi hn), h.ft.sub⟩, bp := ?_, br := h.br.grown hg (by omega), bw := h.bw.grown hg hKW, gn := h.gn.back (fun g e => ho g (hgv g e) (h.gn.lt g e)) }
  have := h.bp.set 3 (.int .i64 c')
  simpa using this
/-- One pane is out of the map. -/
theorem GS.del (h : GS w wr s m o size slide ag fq fq' R' N gv gone KW k f t c wf wt) {N' : List Pn} (hm : MapAt Tryz.prog 89 w' m (N'.map pEnt)) (ht : MTurn wr w' m) : GS w w' s m o size slide ag fq fq' R' N' gv gone KW k f t c wf wt := by
  have hg := ht.grown
  have ho : ∀ i, i ≠ m → w'.heap[i]? = wr.heap[i]? := fun i hi => ht.other hi
  have nb : ∀ {ty : TypeId} {i : Nat} {cs : Array Value}, BoxT ty wr i cs → i ≠ m := fun {ty i cs} hb e => by
    obtain ⟨es, ck, h1⟩ := h.mp.isMap
    unfold BoxT at hb
    rw [e, h1] at hb
    cases hb
  have bk : ∀ {ty : TypeId} {i : Nat} {cs : Array Value}, BoxT ty wr i cs → BoxT ty w' i cs := fun {ty i cs} hb => by
    have h1 := ho i (nb hb)
    unfold BoxT at *
    rw [h1]; exact hb
  refine { h with box := bk h.box, mp := hm, om := h.om.back (fun i hi => ho i (fun e => h.nm (e ▸ hi))) hg.size, ft := ⟨hg.os.trans h.ft.os, hg.tape.trans h.ft.tape, hg.output.trans h.ft.output, Nat.le_trans h.ft.size hg.size, fun i hi hn => (ho i (fun e => hn (.inr (.inl e)))).trans (h.ft.block i hi hn), h.ft.sub⟩, bp := bk h.bp, br := bk h.br, bw := bk h.bw, gn := h.gn.back (fun g e => ?_) }
  obtain ⟨cu, hcu⟩ := h.gn.has g e
  exact ho g (nb (ty := 68) (cs := cu) hcu)
end
theorem cell_alloc {w : World} {a : Addr} {v : Value} (h : w.cell? a = some v) (o : Obj) : (w.alloc o).cell? a = some v := by
  have hl : a.block < w.heap.size := by
    rcases Nat.lt_or_ge a.block w.heap.size with h1 | h1
    · exact h1
    · rw [World.cell?, Array.getElem?_eq_none h1] at h; cases h
  rw [World.cell?] at h ⊢
  rw [Below.heap_alloc w o _ hl]; exact h
theorem cell_set2 {w : World} {a : Addr} {v : Value} {K : Nat} (h : w.cell? a = some v) (hK : a.block ≠ K) (x y : Value) : ((w.setCell ⟨K, 0, none⟩ x).setCell ⟨K, 1, none⟩ y).cell? a = some v := by
  have hl : a.block < w.heap.size := by
    rcases Nat.lt_or_ge a.block w.heap.size with h1 | h1
    · exact h1
    · rw [World.cell?, Array.getElem?_eq_none h1] at h; cases h
  have hg := grownBy_trans (grownBy_set w K 0 x) (grownBy_set _ K 1 y)
  rw [World.cell?] at h ⊢
  rw [hg.block _ hl (fun e => hK (by cases e; rfl))]; exact h
/-- What region 1 reads. -/
def S1 (s o K : Nat) (k f t : Int) (w' : World) : Prop := w'.cell? ⟨s, 5, none⟩ = some (.map (some o)) ∧ w'.cell? ⟨K, 0, none⟩ = some (.int .i64 k) ∧ w'.cell? ⟨K, 1, none⟩ = some (.int .i64 f) ∧ w'.cell? ⟨K, 2, none⟩ = some (.int .i64 t)
theorem S1.alloc {s o K : Nat} {k f t : Int} {w' : World} (h : S1 s o K k f t w') (ob : Obj) : S1 s o K k f t (w'.alloc ob) := ⟨cell_alloc h.1 _, cell_alloc h.2.1 _, cell_alloc h.2.2.1 _, cell_alloc h.2.2.2 _⟩
theorem S1.set {s o K Q : Nat} {k f t : Int} {w' : World} (h : S1 s o K k f t w') (h1 : s ≠ Q) (h2 : K ≠ Q) (x y : Value) : S1 s o K k f t ((w'.setCell ⟨Q, 0, none⟩ x).setCell ⟨Q, 1, none⟩ y) := ⟨cell_set2 h.1 h1 _ _, cell_set2 h.2.1 h2 _ _, cell_set2 h.2.2.1 h2 _ _, cell_set2 h.2.2.2 h2 _ _⟩
/-- What region 6 reads. -/
def S6 (s m K P : Nat) (ag c xk xf xt xa : Int) (w' : World) : Prop := w'.cell? ⟨s, 3, none⟩ = some (.int .i64 ag) ∧ w'.cell? ⟨s, 4, none⟩ = some (.map (some m)) ∧ w'.cell? ⟨P, 0, none⟩ = some (.int .i64 xk) ∧ w'.cell? ⟨P, 1, none⟩ = some (.int .i64 xf) ∧ w'.cell? ⟨P, 2, none⟩ = some (.int .i64 xt) ∧ w'.cell? ⟨K, 3, none⟩ = some (.int .i64 c) ∧ (Instr.lookup 72 (.map (some m)) (.agg #[.int .i64 xk, .int .i64 xf, .int .i64 xt]) false).run Tryz.prog w' = .ok (.int .i64 xa) w'
theorem Turned.setB (k b : Nat) (w : World) (j : Nat) (u : Value) : Turned k b w (w.setCell ⟨b, j, none⟩ u) :=
  ⟨rfl, rfl, rfl, by simp, fun i _ _ h1 => Below.heap_setCell w ⟨b, j, none⟩ u i h1⟩
theorem GS.fin {w wr w' : World} {s m o : Nat} {size slide ag : Int} {fq fq' : Nat → Prop} {R' : List SRow} {N : List Pn} {gv : Value} {gone : List Sp} {KW : Nat} {k f t c wf wt : Int} (h : GS w wr s m o size slide ag fq fq' R' N gv gone KW k f t c wf wt) (hT : Turned w.heap.size (w.heap.size + 1) wr w') :
    BoxT 76 w' s #[.int .i64 3, .int .i64 size, .int .i64 slide, .int .i64 ag, .map (some m), .map (some o)] ∧ MapAt Tryz.prog 89 w' m (N.map pEnt) ∧ OM w' o fq' R' ∧ FT (FP s m fq) (FP s m fq') w w' := by
  have hsl := h.sl
  have hml := h.ml
  refine ⟨?_, h.mp.back (hT.block m h.mp.lt (by omega) (by omega)), h.om.back (fun i hi => hT.block i (h.om.flt i hi) (fun e => h.n1 (e ▸ hi)) (fun e => h.n2 (e ▸ hi))) hT.size, ⟨hT.os.trans h.ft.os, hT.tape.trans h.ft.tape, hT.output.trans h.ft.output, Nat.le_trans h.ft.size hT.size, fun i hi hn => (hT.block i (Nat.lt_of_lt_of_le hi h.ft.size) (by omega) (by omega)).trans (h.ft.block i hi hn), h.ft.sub⟩⟩
  have h1 := h.box
  have h2 := hT.block s h1.lt (by omega) (by omega)
  unfold BoxT at *
  rw [h2]; exact h1
/-- What region 7 reads. -/
def S7 (s m P : Nat) (xk xf xt : Int) (w' : World) : Prop := w'.cell? ⟨s, 4, none⟩ = some (.map (some m)) ∧ w'.cell? ⟨P, 0, none⟩ = some (.int .i64 xk) ∧ w'.cell? ⟨P, 1, none⟩ = some (.int .i64 xf) ∧ w'.cell? ⟨P, 2, none⟩ = some (.int .i64 xt)
theorem step_del_run {P : Program} {w : World} {ops : Array Oper} {o : Oper} {a : Act} {K : Act → World → Prop} {Q : Exit → Act → World → Prop} {E : Prop} (hgd : o.guard = none) (m x : Operand) (t k : TypeId) (hop : o.op = Op.call { callee := Callee.builtin Builtin.delete, args := #[m, x], argTypes := #[t, k] }) (mv kv : Value) (hm : a.eval m = mv) (hx : a.eval x = kv) {w' : World} (hrun : (Builtin.delete_ #[t, k] o.type #[mv, kv]).run P w = .ok (.tuple #[]) w')
    (h : K (a.put o.dst (.tuple #[])) w') : if Region.wanted o (yielded ops a.tmps) = true then Oper.wp P o a w K Q else E := by
  have hw : Region.wanted o (yielded ops a.tmps) = true := by simp [Region.wanted, hgd]
  rw [if_pos hw]
  unfold Oper.wp
  simp [execOp, hop, resolve, invoke, builtin, hm, hx, hrun, Result.andThen]
  exact h
theorem step_put_run {P : Program} {w : World} {ops : Array Oper} {o : Oper} {a : Act} {K : Act → World → Prop} {Q : Exit → Act → World → Prop} {E : Prop} (hgd : o.guard = none) (m x v : Operand) (t : TypeId) (hop : o.op = Op.mapUpdate t m x v) (mv kv vv : Value) (hm : a.eval m = mv) (hx : a.eval x = kv) (hv : a.eval v = vv) {w' : World} (hrun : (Instr.mapUpdate t mv kv vv).run P w = .ok () w')
    (h : K (a.put o.dst undef) w') : if Region.wanted o (yielded ops a.tmps) = true then Oper.wp P o a w K Q else E := by
  have hw : Region.wanted o (yielded ops a.tmps) = true := by simp [Region.wanted, hgd]
  rw [if_pos hw]
  unfold Oper.wp
  simp [execOp, hop, hm, hx, hv, hrun, Result.andThen]
  exact h
theorem GS.start {w W1 Wa w2 w3 : World} {s m o : Nat} {size slide ag : Int} {fq : Nat → Prop} {M : List Pn} {R R' : List SRow} {gv v' : Value} {gone : List Sp} {KW : Nat} {k f t c wf wt : Int} (h : StAt w s m o 3 size slide ag fq M R)
    (hW1 : W1 = (w.alloc (.cells #[.int .i64 k, .int .i64 f, .int .i64 t, .int .i64 c] 70)).alloc (.cells #[.int .i64 0, .int .i64 0, .int .i64 0, .int .i64 0] 70)) (hWa : Below W1.heap.size W1 Wa)
    (hom : OM w2 o (fun i => fq i ∨ v'.ownBlock = some i) R') (hft : FT fq (fun i => fq i ∨ v'.ownBlock = some i) Wa w2) (hgn : OwnL 68 2 Sp.cs Wa.heap.size w2 gv gone)
    (h3 : w2.grownBy w3 (some KW)) (hKW : W1.heap.size ≤ KW) (hKv : KW < Wa.heap.size ∨ w2.heap.size ≤ KW) (hbw : BoxT 68 w3 KW #[.int .i64 wf, .int .i64 wt]) :
    GS w w3 s m o size slide ag fq (fun i => fq i ∨ v'.ownBlock = some i) R' M gv gone KW k f t c wf wt := by
  have hb1 : Below w.heap.size w W1 := by rw [hW1]; exact below_box2 w _ _
  have hs1 : W1.heap.size = w.heap.size + 2 := by rw [hW1]; simp
  have hp1 : BoxT 70 W1 w.heap.size #[.int .i64 k, .int .i64 f, .int .i64 t, .int .i64 c] := by rw [hW1]; exact BoxT.alloc (t := 70) (BoxT.new _ _ _) _
  have hp2 : BoxT 70 W1 (w.heap.size + 1) #[.int .i64 0, .int .i64 0, .int .i64 0, .int .i64 0] := by rw [hW1]; exact BoxT.new_at (t := 70) (by simp)
  have hsl := h.box.lt
  have hml := h.mp.lt
  have sa := hWa.size
  have s2 := hft.size
  have s3 := h3.size
  have nq : ∀ i, w.heap.size ≤ i → ¬ fq i := fun i hi e => by have := h.om.flt i e; omega
  have st : ∀ i, i < w.heap.size + 2 → ¬ fq i → w3.heap[i]? = W1.heap[i]? := fun i hi hn => by
    rw [h3.block i (by omega) (fun e => by cases e; omega), hft.block i (by omega) hn]
    exact hWa.block i (by omega)
  have bx : ∀ {ty : TypeId} {i : Nat} {cs : Array Value}, BoxT ty W1 i cs → i < w.heap.size + 2 → ¬ fq i → BoxT ty w3 i cs := fun {ty i cs} hb hi hn => by
    unfold BoxT at *
    rw [st i hi hn]; exact hb
  have nv : ∀ i, i < Wa.heap.size → ¬ fq i → ¬ (fq i ∨ v'.ownBlock = some i) := fun i hi hn e => by
    rcases hft.sub i e with e | e
    · exact hn e
    · omega
  have nK : ∀ i, (fq i ∨ v'.ownBlock = some i) → i ≠ KW := fun i hi e => by
    subst e
    rcases hKv with e2 | e2
    · exact nv _ e2 (nq _ (by omega)) hi
    · have := hom.flt _ hi; omega
  exact
    { box := bx (BoxT.below (t := 76) h.box hb1) (by omega) h.ns
      mp := (h.mp.back (hb1.block m h.mp.lt)).back (st m (by omega) h.nm)
      om := hom.back (fun i hi => h3.block i (hom.flt i hi) (fun e => nK i hi (by cases e; rfl))) s3
      ft := ⟨h3.os.trans (hft.os.trans (hWa.os.trans hb1.os)), h3.tape.trans (hft.tape.trans (hWa.tape.trans hb1.tape)), h3.output.trans (hft.output.trans (hWa.output.trans hb1.output)), by omega, fun i hi hn => by
        rw [st i (by omega) (fun e => hn (.inr (.inr e)))]; exact hb1.block i hi, fun i hi => by
        rcases hi with e | e | e
        · exact .inl (.inl e)
        · exact .inl (.inr (.inl e))
        · rcases hft.sub i e with e | e
          · exact .inl (.inr (.inr e))
          · exact .inr (by omega)⟩
      bp := bx hp1 (by omega) (nq _ (Nat.le_refl _))
      br := bx hp2 (by omega) (nq _ (by omega))
      bw := hbw
      gn := (hgn.mono (by omega)).back (fun g e => h3.block g (hgn.lt g e) (fun e' => by
        cases e'
        rcases hKv with e2 | e2
        · have := hgn.at _ e; omega
        · have := hgn.lt _ e; omega))
      ns := nv s (by omega) h.ns, nm := nv m (by omega) h.nm, n1 := nv _ (by omega) (nq _ (Nat.le_refl _)), n2 := nv _ (by omega) (nq _ (by omega)), sl := hsl, ml := hml }
def GPost (w : World) (s m o : Nat) (size slide ag : Int) (fq : Nat → Prop) (M : List Pn) (R : List SRow) (k f t c : Int) (e : Ending) (w' : World) : Prop := ∃ a b l v v' R0 G N, RowOf R R0 k v l ∧ AddR l f t a b ∧ GI M k ((l.take b).drop a) ((l.take b).drop a).length G N ∧
      e = .returned (.agg #[.int .i64 k, .int .i64 (whl ⟨f, t⟩ l a b).f, .int .i64 (whl ⟨f, t⟩ l a b).t, .int .i64 (G.foldl (fun a x => jn ag x.a a) c)]) ∧
      BoxT 76 w' s #[.int .i64 3, .int .i64 size, .int .i64 slide, .int .i64 ag, .map (some m), .map (some o)] ∧ MapAt Tryz.prog 89 w' m (N.map pEnt) ∧ OM w' o (fun i => fq i ∨ v'.ownBlock = some i) (⟨k, v', l.take a ++ whl ⟨f, t⟩ l a b :: l.drop b⟩ :: R0) ∧ FT (FP s m fq) (FP s m (fun i => fq i ∨ v'.ownBlock = some i)) w w' ∧ ¬ (fq s ∨ v'.ownBlock = some s) ∧ ¬ (fq m ∨ v'.ownBlock = some m)
set_option maxHeartbeats 8000000 in
set_option maxRecDepth 100000 in
theorem gathered_any {w : World} {s m o : Nat} {size slide ag : Int} {fq : Nat → Prop} {M : List Pn} {R : List SRow} {k f t c : Int} (h : StAt w s m o 3 size slide ag fq M R) (hk : In64 k) (hf : f < t) (hM : M.length ≤ 100000) :
    Calls Tryz.prog 51 #[.pointer (some ⟨s, 0, none⟩), .agg #[.int .i64 k, .int .i64 f, .int .i64 t, .int .i64 c]] w (GPost w s m o size slide ag fq M R k f t c) := by
  obtain ⟨R0, v, l, hr⟩ := rowOf R k
  have hlrow : ∀ sp ∈ l, sp.f < sp.t ∧ ∃ x ∈ M, x.k = k ∧ x.f = sp.f ∧ x.t = sp.t := fun sp hsp => by
    rcases hr with ⟨_, _, _, rfl⟩ | hp
    · cases hsp
    · exact h.inv.dn _ (hp.mem_iff.2 (List.mem_cons_self ..)) sp hsp
  have hrise : l.Pairwise fun a b => a.t ≤ b.f := by
    rcases hr with ⟨_, _, _, rfl⟩ | hp
    · exact .nil
    · exact h.inv.rise _ (hp.mem_iff.2 (List.mem_cons_self ..))
  have hll : l.length ≤ M.length := by
    obtain ⟨G, N, hg⟩ := GI.ex (M := M) (k := k) (fun sp hsp => (hlrow sp hsp).2) (fun sp hsp => (hlrow sp hsp).1) hrise l.length (Nat.le_refl _)
    exact hg.le
  have hb1 := below_box2 w (.cells #[.int .i64 k, .int .i64 f, .int .i64 t, .int .i64 c] 70) (.cells #[.int .i64 0, .int .i64 0, .int .i64 0, .int .i64 0] 70)
  obtain ⟨W1, hW1⟩ : ∃ W1, W1 = ((w.alloc (.cells #[.int .i64 k, .int .i64 f, .int .i64 t, .int .i64 c] 70)).alloc (.cells #[.int .i64 0, .int .i64 0, .int .i64 0, .int .i64 0] 70)) := ⟨_, rfl⟩
  rw [← hW1] at hb1
  have hst := h.below (fun i hi => hb1.block i (h.flt i hi)) hb1.size
  have HADD : Hid (∀ w', Below W1.heap.size W1 w' → Calls Tryz.prog 73 #[.map (some o), .int .i64 k, .agg #[.int .i64 f, .int .i64 t]] w' fun e w'' => ∃ a b gv v', AddR l f t a b ∧ e = .returned (.tuple #[(whl ⟨f, t⟩ l a b).val, gv]) ∧ OwnL 68 2 Sp.cs w'.heap.size w'' gv ((l.take b).drop a) ∧ OM w'' o (fun i => fq i ∨ v'.ownBlock = some i) (⟨k, v', l.take a ++ whl ⟨f, t⟩ l a b :: l.drop b⟩ :: R0) ∧ FT fq (fun i => fq i ∨ v'.ownBlock = some i) w' w'') := fun w' hb => oadd_any (hst.om.below hb) hk hr hf hrise (fun sp hsp => (hlrow sp hsp).1) (by omega)
  obtain ⟨_, _, _, _, _, y5⟩ := hst.cells
  have hpb : BoxT 70 W1 w.heap.size #[.int .i64 k, .int .i64 f, .int .i64 t, .int .i64 c] := by rw [hW1]; exact BoxT.alloc (t := 70) (BoxT.new _ _ _) _
  obtain ⟨x0, x1, x2, _⟩ := hpb.cells4
  have hs1 : W1.heap.size = w.heap.size + 2 := by rw [hW1]; simp
  have HS1 : Hid (S1 s o w.heap.size k f t W1) := ⟨y5, x0, x1, x2⟩
  have HKC : Hid (∀ Wa w' v', Below W1.heap.size W1 Wa → FT fq (fun i => fq i ∨ v' = some i) Wa w' → S1 s o w.heap.size k f t w') := fun Wa w' v' hba hft => by
    have hsl := h.box.lt
    have sa := hba.size
    have nq : ∀ i, w.heap.size ≤ i → ¬ fq i := fun i hi e => by have := h.om.flt i e; omega
    have c5 : BoxT 76 w' s #[.int .i64 3, .int .i64 size, .int .i64 slide, .int .i64 ag, .map (some m), .map (some o)] := by have hbx := hst.box; unfold BoxT at *; rw [hft.block s (by omega) h.ns, hba.block s (by omega)]; exact hbx
    have cp : BoxT 70 w' w.heap.size #[.int .i64 k, .int .i64 f, .int .i64 t, .int .i64 c] := by unfold BoxT at *; rw [hft.block w.heap.size (by omega) (nq _ (Nat.le_refl _)), hba.block _ (by omega)]; exact hpb
    exact ⟨by rw [c5.cellAt]; rfl, by rw [cp.cellAt]; rfl, by rw [cp.cellAt]; rfl, by rw [cp.cellAt]; rfl⟩
  have HSL := hide h.box.lt
  have HST := hide h
  have HLR := hide hlrow
  have HRI := hide hrise
  have HR := hide hr
  have HB1 := hide hb1
  have HW1 := hide hW1
  have HSZ := hide hs1
  clear h hst hr hlrow hrise hb1 hpb y5 x0 x1 x2 hs1
  go_enter Tryz.func51, Tryz.ntmps51
  go_upto_region 1 with fail
  rw [← hW1]
  clear hW1
  go_cut [5, 6] from 10 to 21 (fun p5 p6 wc => ∃ (a b KW : Nat) (gv v' : Value), p5 = .pointer (some ⟨KW, 0, none⟩) ∧ p6 = gv ∧ Hid (AddR l f t a b) ∧ Hid (GS w wc s m o size slide ag fq (fun i => fq i ∨ v'.ownBlock = some i) (⟨k, v', l.take a ++ whl ⟨f, t⟩ l a b :: l.drop b⟩ :: R0) M gv ((l.take b).drop a) KW k f t c (whl ⟨f, t⟩ l a b).f (whl ⟨f, t⟩ l a b).t))
  case first =>
    refine wp_region_M (S := fun w' => S1 s o w.heap.size k f t w') (late := []) (by kernel_rfl) HS1.out (fun hHeld => ?_)
    (try simp only [List.size_toArray, List.length_cons, List.length_nil, Nat.zero_add, Nat.reduceAdd, Array.replicate, List.replicate])
    refine wpAnyM_take (i := 0) (oi := ⟨_, _, _, _, _, _⟩) (v := ?_) rfl (by kernel_rfl) (by kernel_rfl) (by kernel_rfl) (by kernel_rfl) (fun _ _ _ h => h) (Or.inl ⟨by rfl, ?_⟩) hHeld ?_
    rotate_left
    · (intro w' hSw; unfold S1 at hSw; go_simp; try (with_reducible rfl))
    (try simp only [Act.put, List.setIfInBounds_toArray, List.set_cons_zero, List.set_cons_succ])
    refine wpAnyM_take (i := 1) (oi := ⟨_, _, _, _, _, _⟩) (v := ?_) rfl (by kernel_rfl) (by kernel_rfl) (by kernel_rfl) (by kernel_rfl) (fun _ _ _ h => h) (Or.inl ⟨by rfl, ?_⟩) hHeld ?_
    rotate_left
    · (intro w' hSw; unfold S1 at hSw; go_simp; try (with_reducible rfl))
    (try simp only [Act.put, List.setIfInBounds_toArray, List.set_cons_zero, List.set_cons_succ])
    refine wpAnyM_take (i := 2) (oi := ⟨_, _, _, _, _, _⟩) (v := ?_) rfl (by kernel_rfl) (by kernel_rfl) (by kernel_rfl) (by kernel_rfl) (fun _ _ _ h => h) (Or.inl ⟨by rfl, ?_⟩) hHeld ?_
    rotate_left
    · (intro w' hSw; unfold S1 at hSw; go_simp; try (with_reducible rfl))
    (try simp only [Act.put, List.setIfInBounds_toArray, List.set_cons_zero, List.set_cons_succ])
    refine wpAnyM_take (i := 3) (oi := ⟨_, _, _, _, _, _⟩) (v := ?_) rfl (by kernel_rfl) (by kernel_rfl) (by kernel_rfl) (by kernel_rfl) (fun _ _ _ h => h) (Or.inl ⟨by rfl, ?_⟩) hHeld ?_
    rotate_left
    · (intro w' hSw; unfold S1 at hSw; go_simp; try (with_reducible rfl))
    (try simp only [Act.put, List.setIfInBounds_toArray, List.set_cons_zero, List.set_cons_succ])
    refine wpAnyM_take (i := 4) (oi := ⟨_, _, _, _, _, _⟩) (v := ?_) rfl (by kernel_rfl) (by kernel_rfl) (by kernel_rfl) (by kernel_rfl) (fun _ _ _ h => h) (Or.inl ⟨by rfl, ?_⟩) hHeld ?_
    rotate_left
    · (intro w' hSw; unfold S1 at hSw; go_simp; try (with_reducible rfl))
    (try simp only [Act.put, List.setIfInBounds_toArray, List.set_cons_zero, List.set_cons_succ])
    refine wpAnyM_take (i := 5) (oi := ⟨_, _, _, _, _, _⟩) (v := ?_) rfl (by kernel_rfl) (by kernel_rfl) (by kernel_rfl) (by kernel_rfl) (fun _ _ _ h => h) (Or.inl ⟨by rfl, ?_⟩) hHeld ?_
    rotate_left
    · (intro w' hSw; unfold S1 at hSw; go_simp; try (with_reducible rfl))
    (try simp only [Act.put, List.setIfInBounds_toArray, List.set_cons_zero, List.set_cons_succ])
    refine wpAnyM_take (i := 6) (oi := ⟨_, _, _, _, _, _⟩) (v := ?_) rfl (by kernel_rfl) (by kernel_rfl) (by kernel_rfl) (by kernel_rfl) (fun _ _ _ h => h) (Or.inl ⟨by rfl, ?_⟩) hHeld ?_
    rotate_left
    · (intro w' hSw; unfold S1 at hSw; go_simp; try (with_reducible rfl))
    (try simp only [Act.put, List.setIfInBounds_toArray, List.set_cons_zero, List.set_cons_succ])
    refine wpAnyM_take (i := 7) (oi := ⟨_, _, _, _, _, _⟩) (v := ?_) rfl (by kernel_rfl) (by kernel_rfl) (by kernel_rfl) (by kernel_rfl) (fun _ _ _ h => h) (Or.inl ⟨by rfl, ?_⟩) hHeld ?_
    rotate_left
    · (intro w' hSw; unfold S1 at hSw; go_simp; try (with_reducible rfl))
    (try simp only [Act.put, List.setIfInBounds_toArray, List.set_cons_zero, List.set_cons_succ])
    refine wpAnyM_two (i := 8) (j := 12) (oi := ⟨_, _, _, _, _, _⟩) (oj := ⟨_, _, _, _, _, _⟩) (by kernel_rfl) rfl rfl (fun K hK => ?_) (fun K hK => ?_)
    · go_simp
      go_at_call 73
      refine (HADD.out W1.drew (Below.refl _ _).drew).mono ?_
      rintro e w2 ⟨a, b, gv, v', hA, rfl, hgn, hom, hft⟩
      have HA := hide hA
      have HK2 := hide (HKC.out _ _ _ (Below.refl _ _).drew hft)
      have HG := hide (And.intro hgn (And.intro hom hft))
      refine hK.out _ _ HK2.out (fun hHeld => ?_)
      clear hK K hA hgn hom hft
      unfold Sp.val
      generalize hWH : whl ⟨f, t⟩ l a b = WH at *
      have HWH := hide hWH
      clear hWH
      obtain ⟨wf, wt⟩ := WH
      simp only
      (try simp only [List.setIfInBounds_toArray, List.set_cons_zero, List.set_cons_succ])
      refine wpAnyM_take (i := 9) (oi := ⟨_, _, _, _, _, _⟩) (v := ?_) rfl (by kernel_rfl) (by kernel_rfl) (by kernel_rfl) (by kernel_rfl) (fun _ _ _ h => h) (Or.inl ⟨by rfl, ?_⟩) hHeld ?_
      rotate_left
      · (intro w' hSw; unfold S1 at hSw; go_simp; try (with_reducible rfl))
      (try simp only [Act.put, List.setIfInBounds_toArray, List.set_cons_zero, List.set_cons_succ])
      refine wpAnyM_take (i := 10) (oi := ⟨_, _, _, _, _, _⟩) (v := ?_) rfl (by kernel_rfl) (by kernel_rfl) (by kernel_rfl) (by kernel_rfl) (fun _ _ _ h => h) (Or.inl ⟨by rfl, ?_⟩) hHeld ?_
      rotate_left
      · (intro w' hSw; unfold S1 at hSw; go_simp; try (with_reducible rfl))
      (try simp only [Act.put, List.setIfInBounds_toArray, List.set_cons_zero, List.set_cons_succ])
      refine wpAnyM_take (i := 11) (oi := ⟨_, _, _, _, _, _⟩) (v := ?_) rfl (by kernel_rfl) (by kernel_rfl) (by kernel_rfl) (by kernel_rfl) (fun _ _ _ h => h) (Or.inl ⟨by rfl, ?_⟩) hHeld ?_
      rotate_left
      · (intro w' hSw; unfold S1 at hSw; go_simp; try (with_reducible rfl))
      (try simp only [Act.put, List.setIfInBounds_toArray, List.set_cons_zero, List.set_cons_succ])
      refine wpAnyM_one (i := 12) (o := ⟨_, _, _, _, _, _⟩) (by kernel_rfl) rfl (fun K hK => ?_)
      go_simp
      refine hK.out _ _ (HK2.out.alloc _) (fun hHeld => ?_)
      clear hK K
      (try simp only [List.setIfInBounds_toArray, List.set_cons_zero, List.set_cons_succ])
      refine wpAnyM_one (i := 13) (o := ⟨_, _, _, _, _, _⟩) (by kernel_rfl) rfl (fun K hK => ?_)
      go_simp
      refine hK.out _ _ (HK2.out.alloc _) (fun hHeld => ?_)
      clear hK K
      (try simp only [List.setIfInBounds_toArray, List.set_cons_zero, List.set_cons_succ])
      refine wpAnyM_take (i := 14) (oi := ⟨_, _, _, _, _, _⟩) (v := ?_) rfl (by kernel_rfl) (by kernel_rfl) (by kernel_rfl) (by kernel_rfl) (fun _ _ _ h => h) (Or.inl ⟨by rfl, ?_⟩) hHeld ?_
      rotate_left
      · (intro w' hSw; unfold S1 at hSw; go_simp; try (with_reducible rfl))
      (try simp only [Act.put, List.setIfInBounds_toArray, List.set_cons_zero, List.set_cons_succ])
      refine wpAnyM_done (by kernel_rfl) ?_ _
      go_wp2_with fail
      go_meet
      case rel => exact ⟨a, b, w2.heap.size, gv, v', rfl, rfl, HA, (show GS _ _ _ _ _ _ _ _ _ _ _ _ _ _ _ _ _ _ _ _ _ by rw [HWH.out]; exact GS.start HST.out HW1.out (Below.refl _ _).drew HG.out.2.1 HG.out.2.2 HG.out.1 (grownBy_alloc' w2 _ _) (by have := HG.out.2.2.size; exact this) (.inr (Nat.le_refl _)) (BoxT.new _ _ _))⟩
    · go_simp
      refine hK.out _ _ (HS1.out.alloc _) (fun hHeld => ?_)
      clear hK K
      (try simp only [List.setIfInBounds_toArray, List.set_cons_zero, List.set_cons_succ])
      have HBA : Hid (Below W1.heap.size W1 (W1.alloc (.cells #[.int .i64 0, .int .i64 0] 68)).drew) := (below_box W1 _).drew
      refine wpAnyM_one (i := 8) (o := ⟨_, _, _, _, _, _⟩) (by kernel_rfl) rfl (fun K hK => ?_)
      go_simp
      go_at_call 73
      refine (HADD.out _ HBA.out).mono ?_
      rintro e w2 ⟨a, b, gv, v', hA, rfl, hgn, hom, hft⟩
      have HA := hide hA
      have HK2 := hide (HKC.out _ _ _ HBA.out hft)
      have hbz : BoxT 68 w2 W1.heap.size #[.int .i64 0, .int .i64 0] := by
        have h1 : BoxT 68 (W1.alloc (.cells #[.int .i64 0, .int .i64 0] 68)).drew W1.heap.size #[.int .i64 0, .int .i64 0] := BoxT.new _ _ _
        have h2 := hft.block W1.heap.size (by simp [World.drew]) (fun e => by have := HST.out.om.flt _ e; have := HSZ.out; omega)
        unfold BoxT at *
        rw [h2]; exact h1
      have HBZ := hide hbz
      obtain ⟨z0, z1⟩ := hbz.cells2
      have zf := fun j => hbz.free j
      clear hbz
      have HG := hide (And.intro hgn (And.intro hom hft))
      refine hK.out _ _ HK2.out (fun hHeld => ?_)
      clear hK K hA hgn hom hft
      unfold Sp.val
      generalize hWH : whl ⟨f, t⟩ l a b = WH at *
      have HWH := hide hWH
      clear hWH
      obtain ⟨wf, wt⟩ := WH
      simp only
      (try simp only [List.setIfInBounds_toArray, List.set_cons_zero, List.set_cons_succ])
      refine wpAnyM_take (i := 9) (oi := ⟨_, _, _, _, _, _⟩) (v := ?_) rfl (by kernel_rfl) (by kernel_rfl) (by kernel_rfl) (by kernel_rfl) (fun _ _ _ h => h) (Or.inl ⟨by rfl, ?_⟩) hHeld ?_
      rotate_left
      · (intro w' hSw; unfold S1 at hSw; go_simp; try (with_reducible rfl))
      (try simp only [Act.put, List.setIfInBounds_toArray, List.set_cons_zero, List.set_cons_succ])
      refine wpAnyM_take (i := 10) (oi := ⟨_, _, _, _, _, _⟩) (v := ?_) rfl (by kernel_rfl) (by kernel_rfl) (by kernel_rfl) (by kernel_rfl) (fun _ _ _ h => h) (Or.inl ⟨by rfl, ?_⟩) hHeld ?_
      rotate_left
      · (intro w' hSw; unfold S1 at hSw; go_simp; try (with_reducible rfl))
      (try simp only [Act.put, List.setIfInBounds_toArray, List.set_cons_zero, List.set_cons_succ])
      refine wpAnyM_take (i := 11) (oi := ⟨_, _, _, _, _, _⟩) (v := ?_) rfl (by kernel_rfl) (by kernel_rfl) (by kernel_rfl) (by kernel_rfl) (fun _ _ _ h => h) (Or.inl ⟨by rfl, ?_⟩) hHeld ?_
      rotate_left
      · (intro w' hSw; unfold S1 at hSw; go_simp; try (with_reducible rfl))
      (try simp only [Act.put, List.setIfInBounds_toArray, List.set_cons_zero, List.set_cons_succ])
      refine wpAnyM_one (i := 13) (o := ⟨_, _, _, _, _, _⟩) (by kernel_rfl) rfl (fun K hK => ?_)
      go_simp
      refine hK.out _ _ (HK2.out.set (by have := HSL.out; have := HSZ.out; omega) (by have := HSZ.out; omega) _ _) (fun hHeld => ?_)
      clear hK K
      (try simp only [List.setIfInBounds_toArray, List.set_cons_zero, List.set_cons_succ])
      refine wpAnyM_take (i := 14) (oi := ⟨_, _, _, _, _, _⟩) (v := ?_) rfl (by kernel_rfl) (by kernel_rfl) (by kernel_rfl) (by kernel_rfl) (fun _ _ _ h => h) (Or.inl ⟨by rfl, ?_⟩) hHeld ?_
      rotate_left
      · (intro w' hSw; unfold S1 at hSw; go_simp; try (with_reducible rfl))
      (try simp only [Act.put, List.setIfInBounds_toArray, List.set_cons_zero, List.set_cons_succ])
      refine wpAnyM_done (by kernel_rfl) ?_ _
      go_wp2_with fail
      go_meet
      case rel => exact ⟨a, b, W1.heap.size, gv, v', rfl, rfl, HA, (show GS _ _ _ _ _ _ _ _ _ _ _ _ _ _ _ _ _ _ _ _ _ by rw [HWH.out]; exact GS.start HST.out HW1.out HBA.out HG.out.2.1 HG.out.2.2 HG.out.1 (grownBy_trans (grownBy_set _ _ _ _) (grownBy_set _ _ _ _)) (Nat.le_refl _) (.inl (by simp [World.drew])) (by have := (HBZ.out.set 0 (.int .i64 wf)).set 1 (.int .i64 wt); simpa using this))⟩
  case rest =>
    obtain ⟨a, b, KW, gv, v', rfl, rfl, HA, HGS⟩ := hcut
    obtain ⟨gone, hgone⟩ : ∃ gone, gone = (l.take b).drop a := ⟨_, rfl⟩
    have HGO := hide hgone
    rw [← hgone] at HGS
    have hsub : ∀ sp ∈ gone, sp ∈ l := fun sp hsp => by rw [hgone] at hsp; exact List.mem_of_mem_take (List.mem_of_mem_drop hsp)
    have HDN : Hid (∀ sp ∈ gone, ∃ x ∈ M, x.k = k ∧ x.f = sp.f ∧ x.t = sp.t) := fun sp hsp => (HLR.out sp (hsub sp hsp)).2
    have HFU : Hid (∀ sp ∈ gone, sp.f < sp.t) := fun sp hsp => (HLR.out sp (hsub sp hsp)).1
    have HRG : Hid (gone.Pairwise fun a b => a.t ≤ b.f) := (show List.Pairwise _ _ by rw [hgone]; exact (HRI.out.sublist (List.take_sublist ..)).sublist (List.drop_sublist ..))
    have hgl : gone.length ≤ 100000 := by
      obtain ⟨G, N, hg⟩ := GI.ex HDN.out HFU.out HRG.out gone.length (Nat.le_refl _)
      exact Nat.le_trans hg.le hM
    clear hgone hsub
    obtain ⟨ga, gc, rfl⟩ := HGS.out.gn.shape
    generalize hWH : whl ⟨f, t⟩ l a b = WH at *
    have HWH := hide hWH
    clear hWH
    obtain ⟨wf, wt⟩ := WH
    generalize hRR : (⟨k, v', l.take a ++ (⟨wf, wt⟩ : Sp) :: l.drop b⟩ :: R0 : List SRow) = RR at *
    have HRR := hide hRR
    clear hRR
    generalize hFQ : (fun i => fq i ∨ v'.ownBlock = some i) = FQ at *
    have HFQ := hide hFQ
    clear hFQ
    simp only at HGS
    go_wp2_with fail
    go_loopg [24] (gone.length + 1) (fun gh iv wr => ∃ (i : Nat) (G N : List Pn), iv = .int .i64 (i : Int) ∧ i ≤ gone.length ∧ gone.length + 1 ≤ gh + i ∧ Hid (GI M k gone i G N) ∧ Hid (GS w wr s m o size slide ag fq FQ RR N (.slice ga gone.length gc) gone KW k f t (G.foldl (fun a x => jn ag x.a a) c) wf wt))
    case atStart => exact ⟨0, [], M, rfl, by omega, by omega, ⟨.refl _, rfl, fun q x s h => by simp at h⟩, HGS⟩
    case round =>
      clear HGS
      obtain ⟨i, G, N, rfl, hi, hg, HGI, HG⟩ := hrel
      obtain ⟨go, rfl⟩ : ∃ go, gk = go + 1 := ⟨gk - 1, by omega⟩
      by_cases hlt : i < gone.length
      · obtain ⟨sp, hsp⟩ := get_of_lt hlt
        have bt : (i : Int) < (gone.length : Int) := by omega
        obtain ⟨nb, no, rfl, nlt, e0, e1⟩ := (HG.out.gn.seg Sp.cs_len (by omega)).span hsp
        obtain ⟨x, N', x1, x2, x3, x4, hN, hGI⟩ := HGI.out.next HDN.out HFU.out HRG.out hsp
        have HN := hide hN
        have HGI2 := hide hGI
        have hpx := HST.out.ok x x4
        have HPX := hide hpx
        clear hN hGI hsp x4 hpx
        obtain ⟨xk, xf, xt, xa⟩ := x
        obtain ⟨sf, sto⟩ := sp
        simp only at x1 x2 x3 e0 e1
        subst x1 x2 x3
        have HFO : Hid ((G ++ [(⟨xk, xf, xt, xa⟩ : Pn)]).foldl (fun a x => jn ag x.a a) c = jn ag xa (G.foldl (fun a x => jn ag x.a a) c)) := (show _ = _ by rw [List.foldl_append]; rfl)
        generalize hC : G.foldl (fun a x => jn ag x.a a) c = C at *
        clear hC
        obtain ⟨WB, hWB⟩ : ∃ WB, WB = (wr.alloc (.cells #[.int .i64 xf, .int .i64 xt] 68)).alloc (.cells #[.int .i64 xk, .int .i64 xf, .int .i64 xt] 89) := ⟨_, rfl⟩
        have hbb : Below wr.heap.size wr WB := by rw [hWB]; exact below_box2 wr _ _
        have HGB := hide (HG.out.below hbb)
        have hpl : BoxT 89 WB (wr.heap.size + 1) #[.int .i64 xk, .int .i64 xf, .int .i64 xt] := by rw [hWB]; exact BoxT.new_at (t := 89) (by simp)
        have HPL := hide hpl
        clear hbb hpl
        obtain ⟨c3, c4, cc0, cc3⟩ := HG.out.cells
        have HMG : Hid (∀ w', Below WB.heap.size WB w' → Calls Tryz.prog 52 #[.int .i64 ag, .int .i64 xa, .int .i64 C] w' fun e w'' => e = .returned (.int .i64 (jn ag xa C)) ∧ Below WB.heap.size WB w'') := fun w' hb => (Merge_any w' ag xa C).mono (by rintro e w'' ⟨rfl, h2⟩; exact ⟨rfl, hb.trans (h2.mono hb.size)⟩)
        generalize hJ : jn ag xa C = J at *
        clear hJ
        have HKC2 : Hid (∀ w', Below WB.heap.size WB w' → S6 s m w.heap.size (wr.heap.size + 1) ag C xk xf xt xa w') := fun w' hb => by
          have h1 := HGB.out.below hb
          obtain ⟨d3, d4, _, d3'⟩ := h1.cells
          have h2 := BoxT.below (t := 89) HPL.out hb
          obtain ⟨p0, p1, p2⟩ := h2.cells3
          obtain ⟨lk, hlk⟩ := HPX.out.key
          exact ⟨d3, d4, p0, p1, p2, d3', h1.mp.look_hit Tryz.lawPl Tryz.underlying72 hlk (R := N'.map pEnt) (by have := HN.out.map pEnt; rwa [List.map_cons] at this) false⟩
        have cc0' := cell_alloc cc0 (.cells #[.int .i64 xf, .int .i64 xt] 68)
        go_upto_region 6 with fail
        rw [← hWB]
        clear hWB
        refine wp_region_M (S := fun w' => S6 s m w.heap.size (wr.heap.size + 1) ag C xk xf xt xa w') (late := [14]) (by kernel_rfl) (HKC2.out _ (Below.refl _ _).drew) (fun hHeld => ?_)
        (try simp only [List.size_toArray, List.length_cons, List.length_nil, Nat.zero_add, Nat.reduceAdd, Array.replicate, List.replicate])
        refine wpAnyM_take (i := 0) (oi := ⟨_, _, _, _, _, _⟩) (v := ?_) rfl (by kernel_rfl) (by kernel_rfl) (by kernel_rfl) (by kernel_rfl) (fun _ _ _ h => h) (Or.inl ⟨by rfl, ?_⟩) hHeld ?_
        rotate_left
        · (intro w' hSw; unfold S6 at hSw; go_simp; try (with_reducible rfl))
        (try simp only [Act.put, List.setIfInBounds_toArray, List.set_cons_zero, List.set_cons_succ])
        refine wpAnyM_take (i := 1) (oi := ⟨_, _, _, _, _, _⟩) (v := ?_) rfl (by kernel_rfl) (by kernel_rfl) (by kernel_rfl) (by kernel_rfl) (fun _ _ _ h => h) (Or.inl ⟨by rfl, ?_⟩) hHeld ?_
        rotate_left
        · (intro w' hSw; unfold S6 at hSw; go_simp; try (with_reducible rfl))
        (try simp only [Act.put, List.setIfInBounds_toArray, List.set_cons_zero, List.set_cons_succ])
        refine wpAnyM_take (i := 2) (oi := ⟨_, _, _, _, _, _⟩) (v := ?_) rfl (by kernel_rfl) (by kernel_rfl) (by kernel_rfl) (by kernel_rfl) (fun _ _ _ h => h) (Or.inl ⟨by rfl, ?_⟩) hHeld ?_
        rotate_left
        · (intro w' hSw; unfold S6 at hSw; go_simp; try (with_reducible rfl))
        (try simp only [Act.put, List.setIfInBounds_toArray, List.set_cons_zero, List.set_cons_succ])
        refine wpAnyM_take (i := 3) (oi := ⟨_, _, _, _, _, _⟩) (v := ?_) rfl (by kernel_rfl) (by kernel_rfl) (by kernel_rfl) (by kernel_rfl) (fun _ _ _ h => h) (Or.inl ⟨by rfl, ?_⟩) hHeld ?_
        rotate_left
        · (intro w' hSw; unfold S6 at hSw; go_simp; try (with_reducible rfl))
        (try simp only [Act.put, List.setIfInBounds_toArray, List.set_cons_zero, List.set_cons_succ])
        refine wpAnyM_take (i := 4) (oi := ⟨_, _, _, _, _, _⟩) (v := ?_) rfl (by kernel_rfl) (by kernel_rfl) (by kernel_rfl) (by kernel_rfl) (fun _ _ _ h => h) (Or.inl ⟨by rfl, ?_⟩) hHeld ?_
        rotate_left
        · (intro w' hSw; unfold S6 at hSw; go_simp; try (with_reducible rfl))
        (try simp only [Act.put, List.setIfInBounds_toArray, List.set_cons_zero, List.set_cons_succ])
        refine wpAnyM_take (i := 5) (oi := ⟨_, _, _, _, _, _⟩) (v := ?_) rfl (by kernel_rfl) (by kernel_rfl) (by kernel_rfl) (by kernel_rfl) (fun _ _ _ h => h) (Or.inl ⟨by rfl, ?_⟩) hHeld ?_
        rotate_left
        · (intro w' hSw; unfold S6 at hSw; go_simp; try (with_reducible rfl))
        (try simp only [Act.put, List.setIfInBounds_toArray, List.set_cons_zero, List.set_cons_succ])
        refine wpAnyM_take (i := 6) (oi := ⟨_, _, _, _, _, _⟩) (v := ?_) rfl (by kernel_rfl) (by kernel_rfl) (by kernel_rfl) (by kernel_rfl) (fun _ _ _ h => h) (Or.inl ⟨by rfl, ?_⟩) hHeld ?_
        rotate_left
        · (intro w' hSw; unfold S6 at hSw; go_simp; try (with_reducible rfl))
        (try simp only [Act.put, List.setIfInBounds_toArray, List.set_cons_zero, List.set_cons_succ])
        refine wpAnyM_take (i := 7) (oi := ⟨_, _, _, _, _, _⟩) (v := ?_) rfl (by kernel_rfl) (by kernel_rfl) (by kernel_rfl) (by kernel_rfl) (fun _ _ _ h => h) (Or.inl ⟨by rfl, ?_⟩) hHeld ?_
        rotate_left
        · (intro w' hSw; unfold S6 at hSw; go_simp; try (with_reducible rfl))
        (try simp only [Act.put, List.setIfInBounds_toArray, List.set_cons_zero, List.set_cons_succ])
        refine wpAnyM_take (i := 8) (oi := ⟨_, _, _, _, _, _⟩) (v := ?_) rfl (by kernel_rfl) (by kernel_rfl) (by kernel_rfl) (by kernel_rfl) (fun _ _ _ h => h) (Or.inl ⟨by rfl, ?_⟩) hHeld ?_
        rotate_left
        · (intro w' hSw; unfold S6 at hSw; go_simp; try (with_reducible rfl))
        (try simp only [Act.put, List.setIfInBounds_toArray, List.set_cons_zero, List.set_cons_succ])
        refine wpAnyM_take (i := 9) (oi := ⟨_, _, _, _, _, _⟩) (v := ?_) rfl (by kernel_rfl) (by kernel_rfl) (by kernel_rfl) (by kernel_rfl) (fun _ _ _ h => h) (Or.inl ⟨by rfl, ?_⟩) hHeld ?_
        rotate_left
        · (intro w' hSw; unfold S6 at hSw; go_simp; try (with_reducible rfl))
        (try simp only [Act.put, List.setIfInBounds_toArray, List.set_cons_zero, List.set_cons_succ])
        refine wpAnyM_take (i := 10) (oi := ⟨_, _, _, _, _, _⟩) (v := ?_) rfl (by kernel_rfl) (by kernel_rfl) (by kernel_rfl) (by kernel_rfl) (fun _ _ _ h => h) (Or.inl ⟨by rfl, ?_⟩) hHeld ?_
        rotate_left
        · (intro w' hSw; unfold S6 at hSw; go_simp; try (with_reducible rfl))
        (try simp only [Act.put, List.setIfInBounds_toArray, List.set_cons_zero, List.set_cons_succ])
        refine wpAnyM_take (i := 11) (oi := ⟨_, _, _, _, _, _⟩) (v := ?_) rfl (by kernel_rfl) (by kernel_rfl) (by kernel_rfl) (by kernel_rfl) (fun _ _ _ h => h) (Or.inl ⟨by rfl, ?_⟩) hHeld ?_
        rotate_left
        · (intro w' hSw; unfold S6 at hSw; go_simp; try (with_reducible rfl))
        (try simp only [Act.put, List.setIfInBounds_toArray, List.set_cons_zero, List.set_cons_succ])
        refine wpAnyM_one (i := 12) (o := ⟨_, _, _, _, _, _⟩) (by kernel_rfl) rfl (fun K hK => ?_)
        go_simp
        go_at_call 52
        refine (HMG.out _ (Below.refl _ _).drew).mono ?_
        rintro e w3 ⟨rfl, b3⟩
        have B3 := hide b3
        refine hK.out _ _ (HKC2.out _ b3) (fun hHeld => ?_)
        clear hK K b3
        (try simp only [List.setIfInBounds_toArray, List.set_cons_zero, List.set_cons_succ])
        refine wpAnyM_take (i := 13) (oi := ⟨_, _, _, _, _, _⟩) (v := ?_) rfl (by kernel_rfl) (by kernel_rfl) (by kernel_rfl) (by kernel_rfl) (fun _ _ _ h => h) (Or.inl ⟨by rfl, ?_⟩) hHeld ?_
        rotate_left
        · (intro w' hSw; unfold S6 at hSw; go_simp; try (with_reducible rfl))
        (try simp only [Act.put, List.setIfInBounds_toArray, List.set_cons_zero, List.set_cons_succ])
        have G3 := hide (HGB.out.below B3.out)
        have hf3 := fun j => G3.out.bp.free j
        have hc3 : w3.cell? ⟨w.heap.size, 3, none⟩ = some (.int .i64 C) := G3.out.cells.2.2.2
        refine wpAnyM_last (i := 14) (o := ⟨_, _, _, _, _, _⟩) (by kernel_rfl) (by kernel_rfl) rfl (fun K hK => ?_)
        go_simp
        refine hK.out _ _ ?_
        clear hK K
        (try simp only [List.setIfInBounds_toArray, List.set_cons_zero, List.set_cons_succ])
        refine wpAnyM_done (by kernel_rfl) ?_ _
        have G4 := hide (G3.out.acc J)
        have P4 : Hid (BoxT 89 (w3.setCell ⟨w.heap.size, 3, none⟩ (.int .i64 J)) (wr.heap.size + 1) #[.int .i64 xk, .int .i64 xf, .int .i64 xt]) := (BoxT.below (t := 89) HPL.out B3.out).grown (grownBy_set _ _ _ _) (by have := HG.out.bp.lt; omega)
        clear hf3 hc3 hHeld
        generalize hw4 : w3.setCell ⟨w.heap.size, 3, none⟩ (.int .i64 J) = w4 at *
        clear hw4
        go_upto_region 7 with fail
        obtain ⟨lk, hlk⟩ := HPX.out.key
        obtain ⟨w5, hrun5, hm5, ht5⟩ := (G4.out.below ((Below.refl _ _).drew)).mp.drop_hit Tryz.lawPl Tryz.underlying72 hlk (R := N'.map pEnt) (by have := HN.out.map pEnt; rwa [List.map_cons] at this) 0
        obtain ⟨_, e4, _, _⟩ := G4.out.cells
        obtain ⟨p0, p1, p2⟩ := P4.out.cells3
        have hS7 : S7 s m (wr.heap.size + 1) xk xf xt w5 := by
          have g5 := (G4.out.below ((Below.refl _ _).drew)).del hm5 ht5
          have hne : wr.heap.size + 1 ≠ m := fun e => by have := HG.out.ml; have := HG.out.ft.size; omega
          have hp : BoxT 89 w5 (wr.heap.size + 1) #[.int .i64 xk, .int .i64 xf, .int .i64 xt] := by have h1 := P4.out; unfold BoxT at *; rw [ht5.other hne]; exact h1
          obtain ⟨q0, q1, q2⟩ := hp.cells3
          exact ⟨g5.cells.2.1, q0, q1, q2⟩
        have HS7 := hide hS7
        have G5 := hide ((G4.out.below ((Below.refl _ _).drew)).del hm5 ht5)
        clear hS7 hm5 ht5
        refine wp_region_M (S := fun w' => S7 s m (wr.heap.size + 1) xk xf xt w') (late := []) (by kernel_rfl) ⟨e4, p0, p1, p2⟩ (fun hHeld => ?_)
        (try simp only [List.size_toArray, List.length_cons, List.length_nil, Nat.zero_add, Nat.reduceAdd, Array.replicate, List.replicate])
        refine wpAnyM_take (i := 0) (oi := ⟨_, _, _, _, _, _⟩) (v := ?_) rfl (by kernel_rfl) (by kernel_rfl) (by kernel_rfl) (by kernel_rfl) (fun _ _ _ h => h) (Or.inl ⟨by rfl, ?_⟩) hHeld ?_
        rotate_left
        · (intro w' hSw; unfold S7 at hSw; go_simp; try (with_reducible rfl))
        (try simp only [Act.put, List.setIfInBounds_toArray, List.set_cons_zero, List.set_cons_succ])
        refine wpAnyM_take (i := 1) (oi := ⟨_, _, _, _, _, _⟩) (v := ?_) rfl (by kernel_rfl) (by kernel_rfl) (by kernel_rfl) (by kernel_rfl) (fun _ _ _ h => h) (Or.inl ⟨by rfl, ?_⟩) hHeld ?_
        rotate_left
        · (intro w' hSw; unfold S7 at hSw; go_simp; try (with_reducible rfl))
        (try simp only [Act.put, List.setIfInBounds_toArray, List.set_cons_zero, List.set_cons_succ])
        refine wpAnyM_take (i := 2) (oi := ⟨_, _, _, _, _, _⟩) (v := ?_) rfl (by kernel_rfl) (by kernel_rfl) (by kernel_rfl) (by kernel_rfl) (fun _ _ _ h => h) (Or.inl ⟨by rfl, ?_⟩) hHeld ?_
        rotate_left
        · (intro w' hSw; unfold S7 at hSw; go_simp; try (with_reducible rfl))
        (try simp only [Act.put, List.setIfInBounds_toArray, List.set_cons_zero, List.set_cons_succ])
        refine wpAnyM_take (i := 3) (oi := ⟨_, _, _, _, _, _⟩) (v := ?_) rfl (by kernel_rfl) (by kernel_rfl) (by kernel_rfl) (by kernel_rfl) (fun _ _ _ h => h) (Or.inl ⟨by rfl, ?_⟩) hHeld ?_
        rotate_left
        · (intro w' hSw; unfold S7 at hSw; go_simp; try (with_reducible rfl))
        (try simp only [Act.put, List.setIfInBounds_toArray, List.set_cons_zero, List.set_cons_succ])
        refine wpAnyM_take (i := 4) (oi := ⟨_, _, _, _, _, _⟩) (v := ?_) rfl (by kernel_rfl) (by kernel_rfl) (by kernel_rfl) (by kernel_rfl) (fun _ _ _ h => h) (Or.inl ⟨by rfl, ?_⟩) hHeld ?_
        rotate_left
        · (intro w' hSw; unfold S7 at hSw; go_simp; try (with_reducible rfl))
        (try simp only [Act.put, List.setIfInBounds_toArray, List.set_cons_zero, List.set_cons_succ])
        refine wpAnyM_one (i := 5) (o := ⟨_, _, _, _, _, _⟩) (by kernel_rfl) rfl (fun K hK => ?_)
        refine step_del_run rfl _ _ 72 89 rfl _ _ rfl rfl hrun5 ?_
        refine hK.out _ _ HS7.out (fun hHeld => ?_)
        clear hK K
        (try simp only [List.setIfInBounds_toArray, List.set_cons_zero, List.set_cons_succ])
        refine wpAnyM_done (by kernel_rfl) ?_ _
        go_wp2_with fail
        go_roundg go
        case rel => exact ⟨i + 1, G ++ [⟨xk, xf, xt, xa⟩], N', by go_num, by omega, by omega, HGI2, (show GS _ _ _ _ _ _ _ _ _ _ _ _ _ _ _ _ _ _ _ _ _ by rw [HFO.out]; exact G5.out)⟩
        case measure => omega
      · obtain rfl : i = gone.length := by omega
        have bt : ¬ ((gone.length : Nat) : Int) < (gone.length : Int) := by omega
        obtain ⟨c0, c1, c2, c3⟩ := HG.out.bp.cells4
        obtain ⟨r0, r1, r2, r3⟩ := HG.out.br.cells4
        obtain ⟨u0, u1⟩ := HG.out.bw.cells2
        have hfp := fun j => HG.out.bp.free j
        have hfr := fun j => HG.out.br.free j
        have hKW : ¬ KW = w.heap.size := fun e => by
          have h1 := HG.out.bw
          have h2 := HG.out.bp
          unfold BoxT at h1 h2
          rw [e, h2] at h1
          simp at h1
        generalize hC : G.foldl (fun a x => jn ag x.a a) c = C at *
        have HC := hide hC
        clear hC
        go_wp2_with fail
        obtain ⟨Wf, hWf⟩ : ∃ Wf, Wf = (((((wr.setCell ⟨w.heap.size, 1, none⟩ (.int .i64 wf)).setCell ⟨w.heap.size, 2, none⟩ (.int .i64 wt)).setCell ⟨w.heap.size + 1, 0, none⟩ (.int .i64 k)).setCell ⟨w.heap.size + 1, 1, none⟩ (.int .i64 wf)).setCell ⟨w.heap.size + 1, 2, none⟩ (.int .i64 wt)).setCell ⟨w.heap.size + 1, 3, none⟩ (.int .i64 C) := ⟨_, rfl⟩
        rw [← hWf]
        have hT : Turned w.heap.size (w.heap.size + 1) wr Wf := by
          rw [hWf]
          exact ((((((Turned.set _ _ _ _ _).trans (Turned.set _ _ _ _ _)).trans (Turned.setB _ _ _ _ _)).trans (Turned.setB _ _ _ _ _)).trans (Turned.setB _ _ _ _ _)).trans (Turned.setB _ _ _ _ _))
        have hbr : BoxT 70 Wf (w.heap.size + 1) #[.int .i64 k, .int .i64 wf, .int .i64 wt, .int .i64 C] := by
          rw [hWf]
          have h1 : BoxT 70 ((wr.setCell ⟨w.heap.size, 1, none⟩ (.int .i64 wf)).setCell ⟨w.heap.size, 2, none⟩ (.int .i64 wt)) (w.heap.size + 1) #[.int .i64 0, .int .i64 0, .int .i64 0, .int .i64 0] := (HG.out.br.other _ _ (by omega)).other _ _ (by omega)
          have := (((h1.set 0 (.int .i64 k)).set 1 (.int .i64 wf)).set 2 (.int .i64 wt)).set 3 (.int .i64 C)
          simpa using this
        obtain ⟨q0, q1, q2, q3⟩ := hbr.cells4
        have hfin := HG.out.fin hT
        refine bodyPost_ret (v := .agg #[.int .i64 k, .int .i64 wf, .int .i64 wt, .int .i64 C]) (by simp [results, Tryz.results51, go_sem, q0, q1, q2, q3]) rfl ⟨a, b, l, v, v', R0, G, N, HR.out, HA.out, by rw [← HGO.out]; exact HGI.out, by rw [HWH.out, HC.out], hfin.1, hfin.2.1, by rw [HWH.out, HRR.out, HFQ.out]; exact hfin.2.2.1, by rw [HFQ.out]; exact hfin.2.2.2, ?_, ?_⟩
        · have := HG.out.ns; rw [← HFQ.out] at this; exact this
        · have := HG.out.nm; rw [← HFQ.out] at this; exact this
end Go.Proofs.YtdoldohcimbdaaaGreat
