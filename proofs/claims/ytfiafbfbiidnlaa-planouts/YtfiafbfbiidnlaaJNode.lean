/-
  Nodes and jobs as they lie in memory; a line of nodes that wait for their places.
-/
import Derived.Test.YtfiafbfbiidnlaaJPure
import Derived.Test.YtfiafbfbiidnlaaETree
namespace Go.Proofs.Ytfiafbfbiidnlaa
open Go.RowKit

def ic (x : Int) : List Value := [.int .i64 x]
theorem ic_len (x : Int) : (ic x).length = 1 := rfl
/-- A node: what it says, and where its inputs lie. -/
structure Nd where
  kind : Int
  ia : Option Addr
  ic : Nat
  ins : List Int
  par : Int
  e : Ex
  agg : Int
  wk : Int
  ws : Int
  wl : Int
def Nd.cs (n : Nd) : List Value := [.int .i64 n.kind, .slice n.ia n.ins.length n.ic, .int .i64 n.par, .int .i64 n.e.op, .int .i64 n.e.n, .slice n.e.a n.e.l.length n.e.c, .int .i64 n.agg, .int .i64 n.wk, .int .i64 n.ws, .int .i64 n.wl]
def Nd.val (n : Nd) : Value := .agg #[.int .i64 n.kind, .slice n.ia n.ins.length n.ic, .int .i64 n.par, .int .i64 n.e.op, .int .i64 n.e.n, .slice n.e.a n.e.l.length n.e.c, .int .i64 n.agg, .int .i64 n.wk, .int .i64 n.ws, .int .i64 n.wl]
theorem Nd.cs_len (n : Nd) : n.cs.length = 10 := rfl
/-- The nodes lie there, and their inputs. -/
structure JobIn (B : Nat) (w : World) (v : Value) (ns : List Nd) : Prop where
  seg : LSeg 10 Nd.cs B w v ns
  ins : ∀ n ∈ ns, LSeg 1 ic B w (.slice n.ia n.ins.length n.ic) n.ins
theorem JobIn.below {B : Nat} {w w' : World} {v : Value} {ns : List Nd} (h : JobIn B w v ns) (hb : Below B w w') : JobIn B w' v ns := ⟨h.seg.below hb, fun n hn => (h.ins n hn).below hb⟩
theorem JobIn.mono {B B' : Nat} {w : World} {v : Value} {ns : List Nd} (h : JobIn B w v ns) (hb : B ≤ B') : JobIn B' w v ns := ⟨h.seg.mono hb, fun n hn => (h.ins n hn).mono hb⟩
theorem JobIn.shape {B : Nat} {w : World} {v : Value} {ns : List Nd} (h : JobIn B w v ns) : ∃ ao cap, v = .slice ao ns.length cap := by
  obtain ⟨ao, cap, h1, _⟩ := h.seg
  exact ⟨ao, cap, h1⟩
/-- The i-th node's cells. -/
theorem JobIn.at_ {B : Nat} {w : World} {ao : Option Addr} {m cap : Nat} {ns : List Nd} (h : JobIn B w (.slice ao m cap) ns) {i : Nat} {n : Nd} (hn : ns[i]? = some n) :
    ∃ b o, ao = some ⟨b, o, none⟩ ∧ b < B ∧ w.cell? ⟨b, o + i * 10, none⟩ = some (.int .i64 n.kind) ∧ w.cell? ⟨b, o + i * 10 + 1, none⟩ = some (.slice n.ia n.ins.length n.ic) ∧ w.cell? ⟨b, o + i * 10 + 2, none⟩ = some (.int .i64 n.par) ∧
      w.cell? ⟨b, o + i * 10 + 3, none⟩ = some (.int .i64 n.e.op) ∧ w.cell? ⟨b, o + i * 10 + 4, none⟩ = some (.int .i64 n.e.n) ∧ w.cell? ⟨b, o + i * 10 + 5, none⟩ = some (.slice n.e.a n.e.l.length n.e.c) ∧ w.cell? ⟨b, o + i * 10 + 6, none⟩ = some (.int .i64 n.agg) ∧
      w.cell? ⟨b, o + i * 10 + 7, none⟩ = some (.int .i64 n.wk) ∧ w.cell? ⟨b, o + i * 10 + 8, none⟩ = some (.int .i64 n.ws) ∧ w.cell? ⟨b, o + i * 10 + 9, none⟩ = some (.int .i64 n.wl) := by
  obtain ⟨ao', cap', e, h2, h4⟩ := h.seg
  cases e
  rcases h4 with h4 | ⟨b, off, h5, h6, h7⟩
  · subst h4; simp at hn
  · exact ⟨b, off, h5, h6, h7 i n hn 0 _ rfl, h7 i n hn 1 _ rfl, h7 i n hn 2 _ rfl, h7 i n hn 3 _ rfl, h7 i n hn 4 _ rfl, h7 i n hn 5 _ rfl, h7 i n hn 6 _ rfl, h7 i n hn 7 _ rfl, h7 i n hn 8 _ rfl, h7 i n hn 9 _ rfl⟩
/-- The k-th input's cell. -/
theorem LSeg.num {B : Nat} {w : World} {ao : Option Addr} {m cap : Nat} {l : List Int} (h : LSeg 1 ic B w (.slice ao m cap) l) {k : Nat} {x : Int} (hx : l[k]? = some x) : ∃ b o, ao = some ⟨b, o, none⟩ ∧ b < B ∧ w.cell? ⟨b, o + k, none⟩ = some (.int .i64 x) := by
  obtain ⟨ao', cap', e, h2, h4⟩ := h
  cases e
  rcases h4 with h4 | ⟨b, off, h5, h6, h7⟩
  · subst h4; simp at hx
  · exact ⟨b, off, h5, h6, by simpa using h7 k x hx 0 _ rfl⟩

/-- A line of nodes in what the call has made: pl: who has a place; ps: how many inputs are known to have one; bs: who waits for whom, in the rows vs; rs: who may come next, in the row rv; C: rows that stay as they are meanwhile. -/
structure Ln (base : Nat) (w : World) (K A P B n : Nat) (nv : Value) (pl : List Bool) (ps : List Nat) (vs : List Value) (bs : List (List Nat)) (rv : Value) (rs : List Nat) (C : List (Value × List Nat)) : Prop where
  hp : Hp base w K nv (.slice (some ⟨A, 0, none⟩) n n) (.slice (some ⟨P, 0, none⟩) n n) (.slice (some ⟨B, 0, none⟩) n n) rv rs
  ba : BoxT 4 w A (pl.map Value.bool).toArray
  bp : BoxT 3 w P (ps.map fun x : Nat => Value.int .i64 (x : Int)).toArray
  bb : BoxT 34 w B vs.toArray
  lp : pl.length = n
  lq : ps.length = n
  lv : vs.length = n
  lb : bs.length = n
  be : ∀ (i : Nat) (v : Value) (b : List Nat), pl[i]? = some false → vs[i]? = some v → bs[i]? = some b → OwnN base w v b
  ap : ∀ (i : Nat) (v : Value) (g : Nat), pl[i]? = some false → vs[i]? = some v → v.ownBlock = some g → g ≠ P ∧ rv.ownBlock ≠ some g ∧ ∀ (j : Nat) (v' : Value), pl[j]? = some false → vs[j]? = some v' → v'.ownBlock = some g → i = j
  rp : rv.ownBlock ≠ some P
  co : ∀ c ∈ C, OwnN base w c.1 c.2
  ca : ∀ c ∈ C, ∀ g, c.1.ownBlock = some g → g ≠ P ∧ rv.ownBlock ≠ some g ∧ ∀ (f : Nat) (v : Value), pl[f]? = some false → vs[f]? = some v → v.ownBlock ≠ some g
  kK : base ≤ K
  kA : base ≤ A
  kP : base ≤ P
  kB : base ≤ B
section
variable {base : Nat} {w w' : World} {K A P B n : Nat} {nv : Value} {pl : List Bool} {ps : List Nat} {vs : List Value} {bs : List (List Nat)} {rv rv' : Value} {rs rs' : List Nat} {C : List (Value × List Nat)}
theorem Ln.vown (h : Ln base w K A P B n nv pl ps vs bs rv rs C) {i : Nat} {v : Value} (hi : pl[i]? = some false) (hv : vs[i]? = some v) : ∃ b, bs[i]? = some b ∧ OwnN base w v b := by
  obtain ⟨b, hb⟩ := get_of_lt (l := bs) (i := i) (by rw [h.lb, ← h.lv]; exact lt_of_get hv)
  exact ⟨b, hb, h.be i v b hi hv hb⟩
/-- The heap has turned. -/
theorem Ln.heap (h : Ln base w K A P B n nv pl ps vs bs rv rs C) (h' : Hp base w' K nv (.slice (some ⟨A, 0, none⟩) n n) (.slice (some ⟨P, 0, none⟩) n n) (.slice (some ⟨B, 0, none⟩) n n) rv' rs') (t : HT K rv rv' w w') :
    Ln base w' K A P B n nv pl ps vs bs rv' rs' C := by
  have hrb : ∀ {k : Nat} {ty : TypeId} {cs : Array Value}, BoxT ty w k cs → ty ≠ 90 → rv.ownBlock ≠ some k → BoxT ty w' k cs := by
    intro k ty cs hb hty hk
    have := t.block k hb.lt (hb.ne h.hp.box hty) hk
    unfold BoxT at *
    rw [this]; exact hb
  have hr3 : ∀ {k : Nat} {ty : TypeId} {cs : Array Value}, BoxT ty w k cs → ty ≠ 3 → rv.ownBlock ≠ some k := by
    intro k ty cs hb hty e
    obtain ⟨cur, hc⟩ := h.hp.own.has k e
    exact hb.ne (t' := 3) hc hty rfl
  have own : ∀ {v : Value} {b : List Nat}, OwnN base w v b → (∀ g, v.ownBlock = some g → rv.ownBlock ≠ some g) → OwnN base w' v b := by
    intro v b ho hn
    refine ho.back (fun g hg => ?_)
    obtain ⟨cur, hc⟩ := ho.has g hg
    exact t.block g (ho.lt g hg) (BoxT.ne (t := 3) hc h.hp.box (by decide)) (hn g hg)
  have new : ∀ g, rv'.ownBlock = some g → rv.ownBlock = some g ∨ w.heap.size ≤ g := t.own
  refine ⟨h', hrb h.ba (by decide) (hr3 h.ba (by decide)), hrb h.bp (by decide) h.rp, hrb h.bb (by decide) (hr3 h.bb (by decide)), h.lp, h.lq, h.lv, h.lb, fun i v b hi hv hb => own (h.be i v b hi hv hb) (fun g hg => (h.ap i v g hi hv hg).2.1), fun i v g hi hv hg => ?_, fun e => ?_, fun c hc => own (h.co c hc) (fun g hg => (h.ca c hc g hg).2.1), fun c hc g hg => ?_, h.kK, h.kA, h.kP, h.kB⟩
  · obtain ⟨a1, a2, a3⟩ := h.ap i v g hi hv hg
    refine ⟨a1, fun e => ?_, a3⟩
    obtain ⟨b, _, ho⟩ := h.vown hi hv
    rcases new g e with e | e
    · exact a2 e
    · exact absurd (ho.lt g hg) (by omega)
  · rcases new P e with e | e
    · exact h.rp e
    · exact absurd h.bp.lt (by omega)
  · obtain ⟨a1, a2, a3⟩ := h.ca c hc g hg
    refine ⟨a1, fun e => ?_, a3⟩
    rcases new g e with e | e
    · exact a2 e
    · exact absurd ((h.co c hc).lt g hg) (by omega)
theorem Ln.heapBelow (h : Ln base w K A P B n nv pl ps vs bs rv rs C) (t : HT K rv rv' w w') : Below base w w' := by
  refine ⟨t.os, t.tape, t.output, ?_, fun i hi => ?_⟩
  · exact t.size
  · exact t.block i (by have := h.kK; have := h.hp.box.lt; omega) (by have := h.kK; omega) (fun e => by have := h.hp.own.at i e; omega)
theorem Ln.below (h : Ln base w K A P B n nv pl ps vs bs rv rs C) (hb : Below w.heap.size w w') : Ln base w' K A P B n nv pl ps vs bs rv rs C := by
  have bx : ∀ {k : Nat} {ty : TypeId} {cs : Array Value}, BoxT ty w k cs → BoxT ty w' k cs := by
    intro k ty cs hk
    have := hb.block k hk.lt
    unfold BoxT at *
    rw [this]; exact hk
  exact ⟨⟨bx h.hp.box, h.hp.own.below hb⟩, bx h.ba, bx h.bp, bx h.bb, h.lp, h.lq, h.lv, h.lb, fun i v b hi hv hb' => (h.be i v b hi hv hb').below hb, h.ap, h.rp, fun c hc => (h.co c hc).below hb, h.ca, h.kK, h.kA, h.kP, h.kB⟩
/-- A cell of P, A or B is another one. -/
theorem Ln.ne3 (h : Ln base w K A P B n nv pl ps vs bs rv rs C) {g : Nat} {cur : Array Value} (hg : BoxT 3 w g cur) : g ≠ K ∧ g ≠ A ∧ g ≠ B :=
  ⟨hg.ne h.hp.box (by decide), hg.ne h.ba (by decide), hg.ne h.bb (by decide)⟩
theorem OwnN.other {base : Nat} {w : World} {v : Value} {l : List Nat} (h : OwnN base w v l) {k j : Nat} {u : Value} (hk : ∀ g, v.ownBlock = some g → g ≠ k) : OwnN base (w.setCell ⟨k, j, none⟩ u) v l :=
  h.back (fun g hg => Below.heap_setCell w ⟨k, j, none⟩ u g (hk g hg))
theorem map_set {α : Type} (f : α → Value) (l : List α) (i : Nat) (x : α) : ((l.map f).toArray.setIfInBounds i (f x)) = ((l.set i x).map f).toArray := by
  simp [List.map_set]
/-- One more input of node i is known to have a place. -/
theorem Ln.pass (h : Ln base w K A P B n nv pl ps vs bs rv rs C) (i q : Nat) : Ln base (w.setCell ⟨P, i, none⟩ (.int .i64 (q : Int))) K A P B n nv pl (ps.set i q) vs bs rv rs C := by
  have k3 := h.ne3 h.bp
  have hbp := h.bp.set i (.int .i64 (q : Int))
  rw [map_set (fun x : Nat => Value.int .i64 (x : Int))] at hbp
  exact ⟨⟨h.hp.box.other _ _ k3.1.symm, h.hp.own.other (fun g hg e => h.rp (e ▸ hg))⟩, h.ba.other _ _ k3.2.1.symm, hbp, h.bb.other _ _ k3.2.2.symm, h.lp, by simpa using h.lq, h.lv, h.lb,
    fun i v b hi hv hb => (h.be i v b hi hv hb).other (fun g hg => (h.ap i v g hi hv hg).1), h.ap, h.rp, fun c hc => (h.co c hc).other (fun g hg => (h.ca c hc g hg).1), h.ca, h.kK, h.kA, h.kP, h.kB⟩
/-- Node i waits for node f. -/
theorem Ln.wait (h : Ln base w K A P B n nv pl ps vs bs rv rs C) {f i : Nat} {v v1 : Value} {b : List Nat} (hf : pl[f]? = some false) (hv : vs[f]? = some v) (hb : bs[f]? = some b)
    (ho : OwnN base w' v1 (b ++ [i])) (hg : w.grownBy w' v.ownBlock) (hn : ∀ g, v1.ownBlock = some g → v.ownBlock = some g ∨ w.heap.size ≤ g) :
    Ln base (w'.setCell ⟨B, f, none⟩ v1) K A P B n nv pl ps (vs.set f v1) (bs.set f (b ++ [i])) rv rs C := by
  have hvl : f < vs.length := lt_of_get hv
  have hbl : f < bs.length := lt_of_get hb
  have ov := h.be f v b hf hv hb
  have bx : ∀ {k : Nat} {ty : TypeId} {cs : Array Value}, BoxT ty w k cs → v.ownBlock ≠ some k → BoxT ty w' k cs := fun hk hn => hk.grownO hg (Ne.symm hn)
  have n3 : ∀ {k : Nat} {ty : TypeId} {cs : Array Value}, BoxT ty w k cs → ty ≠ 3 → v.ownBlock ≠ some k := by
    intro k ty cs hk hty e
    obtain ⟨cur, hc⟩ := ov.has k e
    exact hk.ne (t' := 3) hc hty rfl
  have hnB : ∀ {g : Nat} {cur : Array Value}, BoxT 3 w g cur → g ≠ B := fun hc => (h.ne3 hc).2.2
  have keep : ∀ {u : Value} {l : List Nat}, OwnN base w u l → (∀ g, u.ownBlock = some g → v.ownBlock ≠ some g) → OwnN base (w'.setCell ⟨B, f, none⟩ v1) u l := by
    intro u l hu hne
    have h1 : OwnN base w' u l := hu.back (fun g e => hg.block g (hu.lt g e) (Ne.symm (hne g e)))
    refine h1.other (fun g e => ?_)
    obtain ⟨cur, hc⟩ := hu.has g e
    exact hnB hc
  have hbb := (bx h.bb (n3 h.bb (by decide)))
  have hv1B : ∀ g, v1.ownBlock = some g → g ≠ B := by
    intro g e
    obtain ⟨cur, hc⟩ := ho.has g e
    exact BoxT.ne (t := 3) hc hbb (by decide)
  have hset : ∀ (j : Nat) (u : Value), (vs.set f v1)[j]? = some u → (j = f ∧ u = v1) ∨ (j ≠ f ∧ vs[j]? = some u) := by
    intro j u hu
    rw [get_set hvl] at hu
    by_cases e : j = f
    · rw [if_pos e] at hu; exact .inl ⟨e, (Option.some.inj hu).symm⟩
    · rw [if_neg e] at hu; exact .inr ⟨e, hu⟩
  have old : ∀ g, v1.ownBlock = some g → g < w.heap.size → v.ownBlock = some g := fun g e hl => (hn g e).resolve_right (by omega)
  have apf := fun g (e : v.ownBlock = some g) => h.ap f v g hf hv e
  refine ⟨⟨(bx h.hp.box (n3 h.hp.box (by decide))).other _ _ (h.hp.box.ne h.bb (by decide)), keep h.hp.own (fun g e e' => (apf g e').2.1 e)⟩, (bx h.ba (n3 h.ba (by decide))).other _ _ (h.ba.ne h.bb (by decide)), (bx h.bp (fun e => (apf P e).1 rfl)).other _ _ (h.bp.ne h.bb (by decide)), ?_, h.lp, h.lq, by simpa using h.lv, by simpa using h.lb, fun j u c hj hu hc => ?_, fun j u g hj hu hg' => ?_, h.rp, fun c hc => keep (h.co c hc) (fun g e e' => (h.ca c hc g e).2.2 f v hf hv e'), fun c hc g e => ?_, h.kK, h.kA, h.kP, h.kB⟩
  · have := hbb.set f v1
    rwa [show vs.toArray.setIfInBounds f v1 = (vs.set f v1).toArray from by simp] at this
  · rcases hset j u hu with ⟨rfl, rfl⟩ | ⟨hjf, hu⟩
    · rw [get_set hbl, if_pos rfl] at hc
      cases hc
      exact ho.other hv1B
    · rw [get_set hbl, if_neg hjf] at hc
      exact keep (h.be j u c hj hu hc) (fun g e e' => hjf ((h.ap j u g hj hu e).2.2 f v hf hv e'))
  · rcases hset j u hu with ⟨rfl, rfl⟩ | ⟨hjf, hu⟩
    · rcases hn g hg' with e | e
      · obtain ⟨a1, a2, a3⟩ := apf g e
        refine ⟨a1, a2, fun k u' hk hu' e' => ?_⟩
        rcases hset k u' hu' with ⟨rfl, _⟩ | ⟨_, hu'⟩
        · rfl
        · exact a3 k u' hk hu' e'
      · refine ⟨fun e' => absurd h.bp.lt (by omega), fun e' => absurd (h.hp.own.lt g e') (by omega), fun k u' hk hu' e' => ?_⟩
        rcases hset k u' hu' with ⟨rfl, _⟩ | ⟨_, hu'⟩
        · rfl
        · obtain ⟨c, _, oc⟩ := h.vown hk hu'
          exact absurd (oc.lt g e') (by omega)
    · obtain ⟨a1, a2, a3⟩ := h.ap j u g hj hu hg'
      refine ⟨a1, a2, fun k u' hk hu' e' => ?_⟩
      obtain ⟨c, _, oc⟩ := h.vown hj hu
      rcases hset k u' hu' with ⟨rfl, rfl⟩ | ⟨_, hu'⟩
      · exact a3 k v hk hv (old g e' (oc.lt g hg'))
      · exact a3 k u' hk hu' e'
  · obtain ⟨a1, a2, a3⟩ := h.ca c hc g e
    refine ⟨a1, a2, fun k u hk hu e' => ?_⟩
    rcases hset k u hu with ⟨rfl, rfl⟩ | ⟨_, hu⟩
    · exact a3 k v hk hv (old g e' ((h.co c hc).lt g e))
    · exact a3 k u hk hu e'
/-- Node i has its place; those that waited for it are read. -/
theorem Ln.place (h : Ln base w K A P B n nv pl ps vs bs rv rs C) {i : Nat} {v : Value} {b : List Nat} (hi : pl[i]? = some false) (hv : vs[i]? = some v) (hb : bs[i]? = some b) :
    Ln base (w.setCell ⟨A, i, none⟩ (.bool true)) K A P B n nv (pl.set i true) ps vs bs rv rs ((v, b) :: C) := by
  have kA : ∀ {k : Nat} {ty : TypeId} {cs : Array Value}, BoxT ty w k cs → ty ≠ 4 → k ≠ A := fun hk hty => hk.ne h.ba hty
  have hba := h.ba.set i (.bool true)
  rw [map_set Value.bool] at hba
  have keep : ∀ {u : Value} {l : List Nat}, OwnN base w u l → OwnN base (w.setCell ⟨A, i, none⟩ (.bool true)) u l := fun hu => hu.other (fun g e => by
    obtain ⟨cur, hc⟩ := hu.has g e
    exact kA (ty := 3) hc (by decide))
  have un : ∀ j : Nat, (pl.set i true)[j]? = some false → j ≠ i ∧ pl[j]? = some false := by
    intro j hj
    rw [get_set (lt_of_get hi)] at hj
    by_cases e : j = i
    · rw [if_pos e] at hj; cases hj
    · rw [if_neg e] at hj; exact ⟨e, hj⟩
  refine ⟨⟨h.hp.box.other _ _ (kA h.hp.box (by decide)), keep h.hp.own⟩, hba, h.bp.other _ _ (kA h.bp (by decide)), h.bb.other _ _ (kA h.bb (by decide)), by simpa using h.lp, h.lq, h.lv, h.lb, fun j u c hj hu hc => keep (h.be j u c (un j hj).2 hu hc), fun j u g hj hu hg => ?_, h.rp, fun c hc => ?_, fun c hc g e => ?_, h.kK, h.kA, h.kP, h.kB⟩
  · obtain ⟨a1, a2, a3⟩ := h.ap j u g (un j hj).2 hu hg
    exact ⟨a1, a2, fun k u' hk hu' e' => a3 k u' (un k hk).2 hu' e'⟩
  · rcases List.mem_cons.1 hc with rfl | hc
    · exact keep (h.be i v b hi hv hb)
    · exact keep (h.co c hc)
  · rcases List.mem_cons.1 hc with rfl | hc
    · obtain ⟨a1, a2, a3⟩ := h.ap i v g hi hv e
      exact ⟨a1, a2, fun f u hf hu e' => (un f hf).1 (a3 f u (un f hf).2 hu e').symm⟩
    · obtain ⟨a1, a2, a3⟩ := h.ca c hc g e
      exact ⟨a1, a2, fun f u hf hu e' => a3 f u (un f hf).2 hu e'⟩
/-- Fewer rows are kept. -/
theorem Ln.less (h : Ln base w K A P B n nv pl ps vs bs rv rs C) {D : List (Value × List Nat)} (hd : ∀ c ∈ D, c ∈ C) : Ln base w K A P B n nv pl ps vs bs rv rs D :=
  ⟨h.hp, h.ba, h.bp, h.bb, h.lp, h.lq, h.lv, h.lb, h.be, h.ap, h.rp, fun c hc => h.co c (hd c hc), fun c hc => h.ca c (hd c hc), h.kK, h.kA, h.kP, h.kB⟩
/-- One more row is kept, which is new. -/
theorem Ln.more (h : Ln base w K A P B n nv pl ps vs bs rv rs C) (hb : Below w.heap.size w w') {v : Value} {l : List Nat} (ho : OwnN base w' v l) (hn : ∀ g, v.ownBlock = some g → w.heap.size ≤ g) : Ln base w' K A P B n nv pl ps vs bs rv rs ((v, l) :: C) := by
  have h' := h.below hb
  refine ⟨h'.hp, h'.ba, h'.bp, h'.bb, h'.lp, h'.lq, h'.lv, h'.lb, h'.be, h'.ap, h'.rp, fun c hc => ?_, fun c hc g e => ?_, h'.kK, h'.kA, h'.kP, h'.kB⟩
  · rcases List.mem_cons.1 hc with rfl | hc
    · exact ho
    · exact h'.co c hc
  · rcases List.mem_cons.1 hc with rfl | hc
    · have := hn g e
      refine ⟨fun e' => absurd h.bp.lt (by omega), fun e' => absurd (h.hp.own.lt g e') (by omega), fun f u hf hu e' => ?_⟩
      obtain ⟨b, _, ob⟩ := h.vown hf hu
      exact absurd (ob.lt g e') (by omega)
    · exact h'.ca c hc g e
/-- The one row that is kept grows. -/
theorem Ln.grow {v v1 : Value} {l l1 : List Nat} (h : Ln base w K A P B n nv pl ps vs bs rv rs [(v, l)]) (ho : OwnN base w' v1 l1) (hg : w.grownBy w' v.ownBlock) (hn : ∀ g, v1.ownBlock = some g → v.ownBlock = some g ∨ w.heap.size ≤ g) :
    Ln base w' K A P B n nv pl ps vs bs rv rs [(v1, l1)] := by
  have ov : OwnN base w v l := h.co (v, l) (by simp)
  have av := h.ca (v, l) (by simp)
  simp only at av
  have bx : ∀ {k : Nat} {ty : TypeId} {cs : Array Value}, BoxT ty w k cs → v.ownBlock ≠ some k → BoxT ty w' k cs := fun hk hn => hk.grownO hg (Ne.symm hn)
  have n3 : ∀ {k : Nat} {ty : TypeId} {cs : Array Value}, BoxT ty w k cs → ty ≠ 3 → v.ownBlock ≠ some k := by
    intro k ty cs hk hty e
    obtain ⟨cur, hc⟩ := ov.has k e
    exact hk.ne (t' := 3) hc hty rfl
  have keep : ∀ {u : Value} {l : List Nat}, OwnN base w u l → (∀ g, u.ownBlock = some g → v.ownBlock ≠ some g) → OwnN base w' u l :=
    fun hu hne => hu.back (fun g e => hg.block g (hu.lt g e) (Ne.symm (hne g e)))
  refine ⟨⟨bx h.hp.box (n3 h.hp.box (by decide)), keep h.hp.own (fun g e e' => (av g e').2.1 e)⟩, bx h.ba (n3 h.ba (by decide)), bx h.bp (fun e => (av P e).1 rfl), bx h.bb (n3 h.bb (by decide)), h.lp, h.lq, h.lv, h.lb, fun i u b hi hu hb => keep (h.be i u b hi hu hb) (fun g e e' => (av g e').2.2 i u hi hu e), h.ap, h.rp, fun c hc => ?_, fun c hc g e => ?_, h.kK, h.kA, h.kP, h.kB⟩
  · simp at hc
    subst hc
    exact ho
  · simp at hc
    subst hc
    rcases hn g e with e | e
    · exact av g e
    · refine ⟨fun e' => absurd h.bp.lt (by omega), fun e' => absurd (h.hp.own.lt g e') (by omega), fun f u hf hu e' => ?_⟩
      obtain ⟨b, _, ob⟩ := h.vown hf hu
      exact absurd (ob.lt g e') (by omega)
end
end Go.Proofs.Ytfiafbfbiidnlaa
