/-
  Texts in build order: SBase.
-/
import Derived.Test.YtpcbhcdpegbfjaaGreatM04
import Derived.Test.YtpcbhcdpegbfjaaGreatM07
import Derived.Test.YtpcbhcdpegbfjaaGreatM08
import Derived.DeepKeys4
/-
 A state as it lies: its box, the map of its panes, the map of its sessions, their rows.
-/
namespace Go.Proofs.YtpcbhcdpegbfjaaGreat
open Go.RowKit
open Go.Maps (Keyed)
theorem Tryz.laidOut : laidOutB Tryz.prog = true := by kernel_rfl
theorem Tryz.rowPl : (150 : TypeId) < Tryz.prog.types.size := of_decide_eq_true (by kernel_rfl)
theorem Tryz.ktaPl : Tryz.prog.keyTypeAt 3 150 = true := by kernel_rfl
theorem Tryz.klawPl : WideMaps.KeyLaw Tryz.prog 150 := deep_law_laid Tryz.laidOut (m := 3) (by omega) Tryz.rowPl Tryz.ktaPl (by rw [Tryz.underlying150])
theorem Tryz.lawPl : Keyed Tryz.prog 150 := Keyed.of_law Tryz.klawPl
theorem Tryz.lawI : Keyed Tryz.prog 2 := Maps.int_keyed Tryz.underlying2
theorem wf64 {x : Int} (h : In64 x) : (Lit.int .i64 x).wf = true := by
 unfold In64 at h
 simp [Lit.wf, IntKind.min, IntKind.max, IntKind.bits, IntKind.signed]
 omega
theorem Tryz.ktPl : Tryz.prog.keyType 150 = true := by kernel_rfl
theorem Tryz.tsz : ∃ n, Tryz.prog.types.size + 1 = n + 3 := ⟨Tryz.prog.types.size - 2, by have : Tryz.prog.types.size ≥ 2 := of_decide_eq_true (by kernel_rfl); omega⟩
theorem Tryz.cellsPl : Tryz.prog.cellsOf 150 = 3 := by kernel_rfl
theorem Tryz.cellsSp : Tryz.prog.cellsOf 72 = 2 := by kernel_rfl
theorem Tryz.cellsI : Tryz.prog.cellsOf 2 = 1 := by kernel_rfl
def plV (x : Pn) : Value := .agg #[.int .i64 x.k, .int .i64 x.f, .int .i64 x.t]
def pEnt (x : Pn) : Value × Value := (plV x, .int .i64 x.a)
theorem keyPl {k f t : Int} (hk : In64 k) (hf : In64 f) (ht : In64 t) : ∃ l, keyOf Tryz.prog 150 (.agg #[.int .i64 k, .int .i64 f, .int .i64 t]) = some l := by
 obtain ⟨n, hn⟩ := Tryz.tsz
 unfold keyOf
 rw [Tryz.underlying150]
 simp only [Tryz.ktPl, hn]
 simp [Value.formed, Tryz.underlying150, Tryz.cellsPl, Program.keyLits, Tryz.cellsI, Tryz.cellsSp, Tryz.underlying72, Tryz.underlying2, wf64 hk, wf64 hf, wf64 ht, Value.cells]
 rw [if_pos (fun i hi => by match i, hi with | 0, _ => simp | 1, _ => simp)]
 exact ⟨_, rfl⟩
theorem keyI {k : Int} (hk : In64 k) : keyOf Tryz.prog 2 (.int .i64 k) = some (.int .i64 k) := by
 simp [keyOf, Tryz.underlying2, mapKey, wf64 hk]
structure PnOk (x : Pn) : Prop where
 k : In64 x.k
 f : In64 x.f
 t : In64 x.t
 a : In64 x.a
theorem PnOk.key {x : Pn} (h : PnOk x) : ∃ l, keyOf Tryz.prog 150 (plV x) = some l := keyPl h.k h.f h.t
structure SRow where
 k : Int
 v : Value
 l : List Sp
def sEnt (r : SRow) : Value × Value := (.int .i64 r.k, r.v)
structure Inv (kd : Int) (M : List Pn) (R : List SRow) : Prop where
 none : kd ≠ 3 → R = []
 up : kd = 3 → ∀ x ∈ M, x.f < x.t → ∃ r ∈ R, r.k = x.k ∧ (⟨x.f, x.t⟩ : Sp) ∈ r.l
 dn : ∀ r ∈ R, ∀ sp ∈ r.l, sp.f < sp.t ∧ ∃ x ∈ M, x.k = r.k ∧ x.f = sp.f ∧ x.t = sp.t
 rise : ∀ r ∈ R, r.l.Pairwise fun a b => a.t ≤ b.f
structure OM (w : World) (o : Nat) (fq : Nat → Prop) (R : List SRow) : Prop where
 op : MapAt Tryz.prog 2 w o (R.map sEnt)
 rows : ∀ r ∈ R, OwnL 72 2 Sp.cs 0 w r.v r.l ∧ r.l ≠ [] ∧ In64 r.k
 fr : ∀ r ∈ R, ∀ g, r.v.ownBlock = some g → fq g
 apart : R.Pairwise fun a b => a.v.ownBlock ≠ b.v.ownBlock
 fo : fq o
 flt : ∀ i, fq i → i < w.heap.size
structure StAt (w : World) (s m o : Nat) (kd size slide ag : Int) (fq : Nat → Prop) (M : List Pn) (R : List SRow) : Prop where
 box : BoxT 117 w s #[.int .i64 kd, .int .i64 size, .int .i64 slide, .int .i64 ag, .map (some m), .map (some o)]
 mp : MapAt Tryz.prog 150 w m (M.map pEnt)
 om : OM w o fq R
 ok : ∀ x ∈ M, PnOk x
 ns : ¬ fq s
 nm : ¬ fq m
 inv : Inv kd M R
structure FT (fp fp' : Nat → Prop) (w w' : World) : Prop where
 os : w'.os = w.os
 tape : w'.tape = w.tape
 output : w'.output = w.output
 size : w.heap.size ≤ w'.heap.size
 block : ∀ i, i < w.heap.size → ¬ fp i → w'.heap[i]? = w.heap[i]?
 sub : ∀ i, fp' i → fp i ∨ w.heap.size ≤ i
theorem FT.refl (fp : Nat → Prop) (w : World) : FT fp fp w w := ⟨rfl, rfl, rfl, Nat.le_refl _, fun _ _ _ => rfl, fun _ h => .inl h⟩
theorem FT.trans {fp fp' fp'' : Nat → Prop} {a b c : World} (h : FT fp fp' a b) (h' : FT fp' fp'' b c) : FT fp fp'' a c :=
 ⟨h'.os.trans h.os, h'.tape.trans h.tape, h'.output.trans h.output, Nat.le_trans h.size h'.size,
  fun i hi hn => (h'.block i (Nat.lt_of_lt_of_le hi h.size) (fun e => by rcases h.sub i e with e | e; exact hn e; omega)).trans (h.block i hi hn),
  fun i hi => by
   rcases h'.sub i hi with e | e
   ·exact h.sub i e
   ·exact .inr (Nat.le_trans h.size e)⟩
theorem FT.of_below {fp : Nat → Prop} {a b : World} (h : Below a.heap.size a b) : FT fp fp a b :=
 ⟨h.os, h.tape, h.output, h.size, fun i hi _ => h.block i hi, fun _ h => .inl h⟩
theorem FT.below {fp fp' : Nat → Prop} {a b : World} {B : Nat} (h : FT fp fp' a b) (hB : B ≤ a.heap.size) (hf : ∀ i, fp i → B ≤ i) : Below B a b :=
 ⟨h.os, h.tape, h.output, h.size, fun i hi => h.block i (by omega) (fun e => by have := hf i e; omega)⟩
theorem FT.of_grown {fp : Nat → Prop} {a b : World} {g : Nat} (h : a.grownBy b (some g)) (hg : fp g) : FT fp fp a b :=
 ⟨h.os, h.tape, h.output, h.size, fun i hi hn => h.block i hi (fun e => by cases e; exact hn hg), fun _ h => .inl h⟩
theorem FT.drew {fp fp' : Nat → Prop} {a b : World} (h : FT fp fp' a b) : FT fp fp' a b.drew := ⟨h.os, h.tape, h.output, h.size, h.block, h.sub⟩
theorem OM.back {w w' : World} {o : Nat} {fq : Nat → Prop} {R : List SRow} (h : OM w o fq R) (hb : ∀ i, fq i → w'.heap[i]? = w.heap[i]?) (hs : w.heap.size ≤ w'.heap.size) : OM w' o fq R :=
 {op := h.op.back (hb o h.fo)
  rows := fun r hr => ⟨(h.rows r hr).1.back (fun g e => hb g (h.fr r hr g e)), (h.rows r hr).2⟩
  fr := h.fr, apart := h.apart, fo := h.fo
  flt := fun i hi => Nat.lt_of_lt_of_le (h.flt i hi) hs }
theorem OM.below {w w' : World} {o : Nat} {fq : Nat → Prop} {R : List SRow} (h : OM w o fq R) (hb : Below w.heap.size w w') : OM w' o fq R := h.back (fun i hi => hb.block i (h.flt i hi)) hb.size
def FP (s m : Nat) (fq : Nat → Prop) (i : Nat) : Prop := i = s ∨ i = m ∨ fq i
theorem StAt.below {w w' : World} {s m o : Nat} {kd size slide ag : Int} {fq : Nat → Prop} {M : List Pn} {R : List SRow} (h : StAt w s m o kd size slide ag fq M R) (hb : ∀ i, FP s m fq i → w'.heap[i]? = w.heap[i]?) (hs : w.heap.size ≤ w'.heap.size) : StAt w' s m o kd size slide ag fq M R :=
 {box := by have := h.box; unfold BoxT at *; rw [hb s (.inl rfl)]; exact this
  mp := h.mp.back (hb m (.inr (.inl rfl)))
  om := h.om.back (fun i hi => hb i (.inr (.inr hi))) hs
  ok := h.ok, ns := h.ns, nm := h.nm, inv := h.inv }
theorem StAt.sm {w : World} {s m o : Nat} {kd size slide ag : Int} {fq : Nat → Prop} {M : List Pn} {R : List SRow} (h : StAt w s m o kd size slide ag fq M R) : s ≠ m := fun e => by
 obtain ⟨es, ck, h1⟩ := h.mp.isMap
 have h2 := h.box
 unfold BoxT at h2
 rw [e, h1] at h2
 cases h2
theorem StAt.flt {w : World} {s m o : Nat} {kd size slide ag : Int} {fq : Nat → Prop} {M : List Pn} {R : List SRow} (h : StAt w s m o kd size slide ag fq M R) : ∀ i, FP s m fq i → i < w.heap.size := fun i hi => by
 rcases hi with rfl | rfl | hi
 ·exact h.box.lt
 ·exact h.mp.lt
 ·exact h.om.flt i hi
theorem StAt.cells {w : World} {s m o : Nat} {kd size slide ag : Int} {fq : Nat → Prop} {M : List Pn} {R : List SRow} (h : StAt w s m o kd size slide ag fq M R) :
  w.cell? ⟨s, 0, none⟩ = some (.int .i64 kd) ∧ w.cell? ⟨s, 1, none⟩ = some (.int .i64 size) ∧ w.cell? ⟨s, 2, none⟩ = some (.int .i64 slide) ∧ w.cell? ⟨s, 3, none⟩ = some (.int .i64 ag) ∧ w.cell? ⟨s, 4, none⟩ = some (.map (some m)) ∧ w.cell? ⟨s, 5, none⟩ = some (.map (some o)) := by
 have hb := h.box
 unfold BoxT at hb
 simp [World.cell?, hb]
def SA (w : World) (s : Nat) (kd size slide ag : Int) (fp : Nat → Prop) (M : List Pn) : Prop := ∃ m o fq R, StAt w s m o kd size slide ag fq M R ∧ ∀ i, fp i ↔ FP s m fq i
theorem SA.back {w w' : World} {s : Nat} {kd size slide ag : Int} {fp : Nat → Prop} {M : List Pn} (h : SA w s kd size slide ag fp M) (hb : ∀ i, fp i → w'.heap[i]? = w.heap[i]?) (hs : w.heap.size ≤ w'.heap.size) : SA w' s kd size slide ag fp M := by
 obtain ⟨m, o, fq, R, h, hf⟩ := h
 exact ⟨m, o, fq, R, h.below (fun i hi => hb i ((hf i).2 hi)) hs, hf⟩
theorem SA.flt {w : World} {s : Nat} {kd size slide ag : Int} {fp : Nat → Prop} {M : List Pn} (h : SA w s kd size slide ag fp M) : ∀ i, fp i → i < w.heap.size := by
 obtain ⟨m, o, fq, R, h, hf⟩ := h
 exact fun i hi => h.flt i ((hf i).1 hi)
theorem SA.below {w w' : World} {s : Nat} {kd size slide ag : Int} {fp : Nat → Prop} {M : List Pn} (h : SA w s kd size slide ag fp M) (hb : Below w.heap.size w w') : SA w' s kd size slide ag fp M :=
 h.back (fun i hi => hb.block i (h.flt i hi)) hb.size
theorem SA.beside {w w' : World} {s : Nat} {kd size slide ag : Int} {fp fq fq' : Nat → Prop} {M : List Pn} (h : SA w s kd size slide ag fp M) (hf : FT fq fq' w w') (hd : ∀ i, fp i → ¬ fq i) : SA w' s kd size slide ag fp M :=
 h.back (fun i hi => hf.block i (h.flt i hi) (hd i hi)) hf.size
theorem FT.apart {w w' : World} {fp fq fq' : Nat → Prop} (hf : FT fq fq' w w') (hlt : ∀ i, fp i → i < w.heap.size) (hd : ∀ i, fp i → ¬ fq i) : ∀ i, fp i → ¬ fq' i := fun i hi e => by
 rcases hf.sub i e with e | e
 ·exact hd i hi e
 ·have := hlt i hi; omega
theorem SA.ok {w : World} {s : Nat} {kd size slide ag : Int} {fp : Nat → Prop} {M : List Pn} (h : SA w s kd size slide ag fp M) : ∀ x ∈ M, PnOk x := by
 obtain ⟨m, o, fq, R, h, _⟩ := h
 exact h.ok
theorem Inv.perm {kd : Int} {M M' : List Pn} {R R' : List SRow} (h : Inv kd M R) (hp : M.Perm M') (hq : R.Perm R') : Inv kd M' R' :=
 ⟨fun e => by have := h.none e; subst this; exact (List.perm_nil.1 hq.symm), fun e x hx hlt => by
  obtain ⟨r, h1, h2⟩ := h.up e x (hp.mem_iff.2 hx) hlt
  exact ⟨r, hq.mem_iff.1 h1, h2⟩, fun r hr sp hsp => by
  obtain ⟨h1, x, h2, h3⟩ := h.dn r (hq.mem_iff.2 hr) sp hsp
  exact ⟨h1, x, hp.mem_iff.1 h2, h3⟩, fun r hr => h.rise r (hq.mem_iff.2 hr)⟩
theorem OM.perm {w : World} {o : Nat} {fq : Nat → Prop} {R R' : List SRow} (h : OM w o fq R) (hp : R.Perm R') : OM w o fq R' :=
 {op := h.op.perm (hp.map _), rows := fun r hr => h.rows r (hp.mem_iff.2 hr), fr := fun r hr => h.fr r (hp.mem_iff.2 hr), apart := h.apart.perm hp (fun e => e.symm), fo := h.fo, flt := h.flt }
theorem SA.perm {w : World} {s : Nat} {kd size slide ag : Int} {fp : Nat → Prop} {M M' : List Pn} (h : SA w s kd size slide ag fp M) (hp : M.Perm M') : SA w s kd size slide ag fp M' := by
 obtain ⟨m, o, fq, R, h, hf⟩ := h
 exact ⟨m, o, fq, R, { h with mp := h.mp.perm (hp.map _), ok := fun x hx => h.ok x (hp.mem_iff.2 hx), inv := h.inv.perm hp (.refl _) }, hf⟩
end Go.Proofs.YtpcbhcdpegbfjaaGreat
