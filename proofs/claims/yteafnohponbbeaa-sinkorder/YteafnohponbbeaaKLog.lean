/-
  A log as it lies.
-/
import Derived.Test.YteafnohponbbeaaKWo
namespace Go.Proofs.Yteafnohponbbeaa
open Go.RowKit

open Go.Maps (Keyed)
theorem Try.lawI : Keyed Try.prog 3 := Maps.int_keyed Try.underlying3
def In64 (x : Int) : Prop := -9223372036854775808 ≤ x ∧ x ≤ 9223372036854775807
theorem wf64 {x : Int} (h : In64 x) : (Lit.int .i64 x).wf = true := by
  unfold In64 at h
  simp [Lit.wf, IntKind.min, IntKind.max, IntKind.bits, IntKind.signed]
  omega
theorem keyI {k : Int} (hk : In64 k) : keyOf Try.prog 3 (.int .i64 k) = some (.int .i64 k) := by
  simp [keyOf, Try.underlying3, mapKey, wf64 hk]
theorem zero_part (w : World) : (zeroValue 65).run Try.prog w = .ok (.agg #[.slice none 0 0, .slice none 0 0, .int .u64 0]) w := by
  have hinfo : (Try.prog.info? 65).map (fun i => i.zero) = some (some (.agg #[.slice none 0 0, .slice none 0 0, .int .u64 0])) := by kernel_rfl
  cases hi : Try.prog.info? 65 with
  | none => rw [hi] at hinfo; cases hinfo
  | some i =>
    rw [hi] at hinfo
    simp only [Option.map_some, Option.some.injEq] at hinfo
    simp [zeroValue, typeInfo, hi, hinfo]
/-- A part as the map holds it: its key, its two rows, what they hold, the greatest committed number. -/
structure Pt where
  k : Int
  cv : Value
  sv : Value
  com : List Tx
  stg : List Tx
  last : Nat
def ptV (p : Pt) : Value := .agg #[p.cv, p.sv, .int .u64 (p.last : Int)]
def pEnt (p : Pt) : Value × Value := (.int .i64 p.k, ptV p)
/-- A part, plainly. -/
structure PS where
  com : List (Nat × List Rc)
  stg : List (Nat × List Rc)
  last : Nat
def emp : PS := ⟨[], [], 0⟩
def Tx.pr (x : Tx) : Nat × List Rc := (x.n, x.rs)
def Pt.ps (p : Pt) : PS := ⟨p.com.map Tx.pr, p.stg.map Tx.pr, p.last⟩
def pNone (k : Int) : Pt := ⟨k, .slice none 0 0, .slice none 0 0, [], [], 0⟩
/-- A transaction's records as they lie. -/
structure TxOk (w : World) (fq : Nat → Prop) (x : Tx) : Prop where
  row : OwnL 39 3 Rc.cs 0 w x.v x.rs
  fr : ∀ g, x.v.ownBlock = some g → fq g
def pb (p : Pt) (i : Nat) : Prop := p.cv.ownBlock = some i ∨ p.sv.ownBlock = some i
structure PtOk (w : World) (fq : Nat → Prop) (p : Pt) : Prop where
  cr : Row 69 2 Tx.cs 0 w p.cv p.com
  sr : Row 69 2 Tx.cs 0 w p.sv p.stg
  fr : ∀ g, pb p g → fq g
  cs : ∀ g, p.cv.ownBlock = some g → p.sv.ownBlock ≠ some g
  co : ∀ x ∈ p.com, TxOk w fq x
  so : ∀ x ∈ p.stg, TxOk w fq x
/-- A log as it lies, but for its map. -/
structure LG (w : World) (l mm : Nat) (ov : Value) (fq : Nat → Prop) (L : List Pt) (O : List Tx) : Prop where
  box : BoxT 62 w l #[.map (some mm), ov]
  out : OwnL 29 1 Tx.c1 0 w ov O
  oks : ∀ x ∈ O, TxOk w fq x
  pts : ∀ p ∈ L, PtOk w fq p
  ap : L.Pairwise fun p q => ∀ i, pb p i → ¬ pb q i
  ofr : ∀ g, ov.ownBlock = some g → fq g
  flt : ∀ i, fq i → i < w.heap.size
  nl : ¬ fq l
  nm : ¬ fq mm
  ml : mm < w.heap.size
  lm : l ≠ mm
/-- What is so of it plainly. -/
structure PtP (p : Pt) : Prop where
  key : In64 p.k
  rc : Ris p.com
  rs : Ris p.stg
  cl : ∀ x ∈ p.com, 0 < x.n ∧ x.n ≤ p.last
  ls : ∀ x ∈ p.stg, p.last < x.n
def sumw (l : List Tx) : Nat := (l.map fun x => x.rs.length + 1).sum
def sumS (L : List Pt) : Nat := (L.map fun p => sumw p.stg).sum
structure LP (L : List Pt) (O : List Tx) (W : Nat) : Prop where
  keys : (L.map Pt.k).Nodup
  pp : ∀ p ∈ L, PtP p
  wt : sumw O + sumS L ≤ W
  cw : ∀ p ∈ L, sumw p.com ≤ sumw O
def Sees (L : List Pt) (f : Int → PS) : Prop := (∀ p ∈ L, f p.k = p.ps) ∧ ∀ k, (∀ p ∈ L, p.k ≠ k) → f k = emp
def FP (l mm : Nat) (fq : Nat → Prop) (i : Nat) : Prop := i = l ∨ i = mm ∨ fq i
structure LX (w : World) (l mm : Nat) (ov : Value) (fq : Nat → Prop) (f : Int → PS) (O : List Tx) (W : Nat) (Ms : List Pt) : Prop where
  g : LG w l mm ov fq Ms O
  p : LP Ms O W
  mp : MapAt Try.prog 3 w mm (Ms.map pEnt)
  s : Sees Ms f
/-- A log with just these parts, and what is committed. -/
def LA (w : World) (l : Nat) (fp : Nat → Prop) (f : Int → PS) (o : List (List Rc)) (W : Nat) : Prop :=
  ∃ mm ov fq O Ms, LX w l mm ov fq f O W Ms ∧ o = O.map Tx.rs ∧ ∀ i, fp i ↔ FP l mm fq i
theorem sumw_cons (x : Tx) (l : List Tx) : sumw (x :: l) = x.rs.length + 1 + sumw l := by simp [sumw]
theorem sumw_append (a b : List Tx) : sumw (a ++ b) = sumw a + sumw b := by simp [sumw]
theorem sumw_nil : sumw [] = 0 := rfl
theorem sumw_len (l : List Tx) : l.length ≤ sumw l := by
  induction l with
  | nil => simp
  | cons x l ih => rw [sumw_cons, List.length_cons]; omega
theorem sumw_flat (l : List Tx) : (l.map Tx.rs).flatten.length ≤ sumw l := by
  induction l with
  | nil => simp
  | cons x l ih => rw [sumw_cons, List.map_cons, List.flatten_cons, List.length_append]; omega
theorem sumw_filter (q : Tx → Bool) (l : List Tx) : sumw (l.filter q) ≤ sumw l := by
  induction l with
  | nil => simp
  | cons x l ih =>
    rw [List.filter_cons]
    split
    · rw [sumw_cons, sumw_cons]; omega
    · rw [sumw_cons]; omega
theorem sumS_cons (p : Pt) (L : List Pt) : sumS (p :: L) = sumw p.stg + sumS L := by simp [sumS]
theorem sumS_perm {L M : List Pt} (h : L.Perm M) : sumS L = sumS M := by
  induction h with
  | nil => rfl
  | cons x _ ih => rw [sumS_cons, sumS_cons, ih]
  | swap x y l => simp only [sumS_cons]; omega
  | trans _ _ i1 i2 => exact i1.trans i2
theorem TxOk.back {w w' : World} {fq fq' : Nat → Prop} {x : Tx} (h : TxOk w fq x) (hf : ∀ i, fq i → fq' i) (hb : ∀ i cur, BoxT 39 w i cur → w'.heap[i]? = w.heap[i]?) : TxOk w' fq' x :=
  ⟨h.row.back (fun g e => by obtain ⟨cur, hc⟩ := h.row.has g e; exact hb g cur hc), fun g e => hf g (h.fr g e)⟩
theorem PtOk.typ {w : World} {fq : Nat → Prop} {p : Pt} (h : PtOk w fq p) {i : Nat} (hi : pb p i) : ∃ cur, BoxT 69 w i cur := by
  rcases hi with e | e
  · exact h.cr.has i e
  · exact h.sr.has i e
section
variable {w w' : World} {l mm : Nat} {ov : Value} {fq fq' : Nat → Prop} {L R : List Pt} {O : List Tx} {p p' : Pt}
theorem LG.back (h : LG w l mm ov fq L O) (hb : ∀ i, i < w.heap.size → i ≠ mm → w'.heap[i]? = w.heap[i]?) (hs : w.heap.size ≤ w'.heap.size) : LG w' l mm ov fq L O := by
  have hl := h.box.lt
  have hf : ∀ i, fq i → w'.heap[i]? = w.heap[i]? := fun i hi => hb i (h.flt i hi) (fun e => h.nm (e ▸ hi))
  have hx : ∀ x, TxOk w fq x → TxOk w' fq x := fun x hx => ⟨hx.row.back (fun g e => hf g (hx.fr g e)), hx.fr⟩
  exact { box := h.box.back (hb l hl h.lm), out := h.out.back (fun g e => hf g (h.ofr g e)), oks := fun x h1 => hx x (h.oks x h1)
          pts := fun p hp => by
            have h1 := h.pts p hp
            exact ⟨h1.cr.back (fun g e => hf g (h1.fr g (.inl e))), h1.sr.back (fun g e => hf g (h1.fr g (.inr e))), h1.fr, h1.cs, fun x h2 => hx x (h1.co x h2), fun x h2 => hx x (h1.so x h2)⟩
          ap := h.ap, ofr := h.ofr, flt := fun i hi => Nat.lt_of_lt_of_le (h.flt i hi) hs, nl := h.nl, nm := h.nm, ml := Nat.lt_of_lt_of_le h.ml hs, lm := h.lm }
theorem LG.below (h : LG w l mm ov fq L O) (hb : Below w.heap.size w w') : LG w' l mm ov fq L O := h.back (fun i hi _ => hb.block i hi) hb.size
theorem LG.turn (h : LG w l mm ov fq L O) (hb : MTurn w w' mm) : LG w' l mm ov fq L O := h.back (fun i _ hi => hb.other hi) (by rw [hb.size]; exact Nat.le_refl _)
/-- Of one part alone its rows have turned. -/
theorem LG.swap (h : LG w l mm ov fq (p :: R) O) (hs : w.heap.size ≤ w'.heap.size) (hb : ∀ i, i < w.heap.size → ¬ pb p i → w'.heap[i]? = w.heap[i]?) (hf : ∀ i, fq i → fq' i) (hn : ∀ i, fq' i → fq i ∨ (w.heap.size ≤ i ∧ i < w'.heap.size)) (hp : PtOk w' fq' p') (hpb : ∀ i, pb p' i → pb p i ∨ w.heap.size ≤ i) : LG w' l mm ov fq' (p' :: R) O := by
  have h0 := h.pts p (List.mem_cons_self ..)
  have hk : ∀ (t : TypeId) i cur, t ≠ 69 → BoxT t w i cur → w'.heap[i]? = w.heap[i]? := fun t i cur ht hc => hb i hc.lt (fun e => by
    obtain ⟨c2, h2⟩ := h0.typ e
    exact BoxT.ne (t := t) (t' := 69) hc h2 ht rfl)
  have hx : ∀ x, TxOk w fq x → TxOk w' fq' x := fun x hx => hx.back hf (fun i cur hc => hk 39 i cur (by decide) hc)
  have hap := List.pairwise_cons.1 h.ap
  have hl := h.box.lt
  have hnew : ∀ i, i < w.heap.size → ¬ fq i → ¬ fq' i := fun i hi hq e => by
    rcases hn i e with e | ⟨e, _⟩
    · exact hq e
    · omega
  exact { box := h.box.back (hk 62 l _ (by decide) h.box)
          out := h.out.back (fun g e => by obtain ⟨cur, hc⟩ := h.out.has g e; exact hk 29 g cur (by decide) hc)
          oks := fun x h1 => hx x (h.oks x h1)
          pts := fun q hq => by
            rcases List.mem_cons.1 hq with rfl | hq
            · exact hp
            · have h1 := h.pts q (List.mem_cons_of_mem _ hq)
              have h2 : ∀ i, pb q i → w'.heap[i]? = w.heap[i]? := fun i e => hb i (h.flt i (h1.fr i e)) (fun e2 => hap.1 q hq i e2 e)
              exact ⟨h1.cr.back (fun g e => h2 g (.inl e)), h1.sr.back (fun g e => h2 g (.inr e)), fun g e => hf g (h1.fr g e), h1.cs, fun x h3 => hx x (h1.co x h3), fun x h3 => hx x (h1.so x h3)⟩
          ap := List.pairwise_cons.2 ⟨fun q hq i e1 e2 => by
            rcases hpb i e1 with e3 | e3
            · exact hap.1 q hq i e3 e2
            · have := h.flt i ((h.pts q (List.mem_cons_of_mem _ hq)).fr i e2)
              omega, hap.2⟩
          ofr := fun g e => hf g (h.ofr g e)
          flt := fun i hi => by
            rcases hn i hi with e | ⟨_, e⟩
            · exact Nat.lt_of_lt_of_le (h.flt i e) hs
            · exact e
          nl := hnew l hl h.nl, nm := hnew mm h.ml h.nm, ml := Nat.lt_of_lt_of_le h.ml hs, lm := h.lm }
/-- One more is committed. -/
theorem LG.addout {w1 : World} {ov' : Value} {x : Tx} (h : LG w l mm ov fq L O) (hg : w.grownBy w1 ov.ownBlock) (ho : OwnL 29 1 Tx.c1 0 w1 ov' (O ++ [x])) (hk : ∀ g, ov'.ownBlock = some g → ov.ownBlock = some g ∨ w.heap.size ≤ g) (hx : TxOk w fq x) :
    LG (w1.setCell ⟨l, 1, none⟩ ov') l mm ov' (fun i => fq i ∨ ov'.ownBlock = some i) L (O ++ [x]) := by
  have hl := h.box.lt
  have hkp : ∀ (t : TypeId) i cur, t ≠ 29 → BoxT t w i cur → w1.heap[i]? = w.heap[i]? := fun t i cur ht hc => hg.block i hc.lt (fun e => by
    obtain ⟨c2, h2⟩ := h.out.has i e.symm
    exact BoxT.ne (t := t) (t' := 29) hc h2 ht rfl)
  have hb1 : BoxT 62 w1 l #[.map (some mm), ov] := h.box.back (hkp 62 l _ (by decide) h.box)
  have hk2 : ∀ (t : TypeId) i cur, t ≠ 29 → t ≠ 62 → BoxT t w i cur → (w1.setCell ⟨l, 1, none⟩ ov').heap[i]? = w.heap[i]? := fun t i cur ht ht2 hc => by
    rw [Below.heap_setCell w1 ⟨l, 1, none⟩ ov' i (fun e => BoxT.ne (t := t) (t' := 62) hc h.box ht2 e)]
    exact hkp t i cur ht hc
  have hxx : ∀ y, TxOk w fq y → TxOk (w1.setCell ⟨l, 1, none⟩ ov') (fun i => fq i ∨ ov'.ownBlock = some i) y := fun y hy => hy.back (fun i e => .inl e) (fun i cur hc => hk2 39 i cur (by decide) (by decide) hc)
  have hsz : (w1.setCell ⟨l, 1, none⟩ ov').heap.size = w1.heap.size := by simp
  have hnew : ∀ i, i < w.heap.size → ¬ fq i → ¬ (fq i ∨ ov'.ownBlock = some i) := fun i hi hq e => by
    rcases e with e | e
    · exact hq e
    · rcases hk i e with e | e
      · exact hq (h.ofr i e)
      · omega
  exact { box := by simpa using hb1.set 1 ov'
          out := ho.otherBox hb1 (by decide) _ _
          oks := fun y hy => by
            rcases List.mem_append.1 hy with hy | hy
            · exact hxx y (h.oks y hy)
            · obtain rfl : y = x := by simpa using hy
              exact hxx y hx
          pts := fun q hq => by
            have h1 := h.pts q hq
            have h2 : ∀ i, pb q i → (w1.setCell ⟨l, 1, none⟩ ov').heap[i]? = w.heap[i]? := fun i e => by obtain ⟨cur, hc⟩ := h1.typ e; exact hk2 69 i cur (by decide) (by decide) hc
            exact ⟨h1.cr.back (fun g e => h2 g (.inl e)), h1.sr.back (fun g e => h2 g (.inr e)), fun g e => .inl (h1.fr g e), h1.cs, fun x h3 => hxx x (h1.co x h3), fun x h3 => hxx x (h1.so x h3)⟩
          ap := h.ap, ofr := fun g e => .inr e
          flt := fun i hi => by
            rw [hsz]
            rcases hi with e | e
            · exact Nat.lt_of_lt_of_le (h.flt i e) hg.size
            · exact ho.lt i e
          nl := hnew l hl h.nl, nm := hnew mm h.ml h.nm, ml := by rw [hsz]; exact Nat.lt_of_lt_of_le h.ml hg.size, lm := h.lm }
theorem LG.perm {M : List Pt} (h : LG w l mm ov fq L O) (hp : L.Perm M) : LG w l mm ov fq M O :=
  { h with pts := fun p hq => h.pts p (hp.mem_iff.2 hq), ap := h.ap.perm hp (fun hab i h1 h2 => hab i h2 h1) }
theorem pNone_pb {k : Int} {i : Nat} (e : pb (pNone k) i) : False := by
  rcases e with e | e <;> cases e
theorem LG.none (h : LG w l mm ov fq R O) (k : Int) : LG w l mm ov fq (pNone k :: R) O :=
  { h with pts := fun p hq => by
             rcases List.mem_cons.1 hq with rfl | hq
             · exact ⟨Row.nil _ _ _ _ _, Row.nil _ _ _ _ _, fun g e => (pNone_pb e).elim, fun g e => (pNone_pb (.inl e)).elim, fun x hx => (List.not_mem_nil hx).elim, fun x hx => (List.not_mem_nil hx).elim⟩
             · exact h.pts p hq
           ap := List.pairwise_cons.2 ⟨fun q _ i e => (pNone_pb e).elim, h.ap⟩ }
theorem LP.perm {M : List Pt} {W : Nat} (h : LP L O W) (hp : L.Perm M) : LP M O W :=
  ⟨(hp.map Pt.k).nodup_iff.1 h.keys, fun p hq => h.pp p (hp.mem_iff.2 hq), by rw [← sumS_perm hp]; exact h.wt, fun p hq => h.cw p (hp.mem_iff.2 hq)⟩
theorem LP.none {W : Nat} (h : LP R O W) {k : Int} (hk : In64 k) (hn : ∀ p ∈ R, p.k ≠ k) : LP (pNone k :: R) O W :=
  ⟨by
    rw [List.map_cons, List.nodup_cons]
    exact ⟨fun e => by obtain ⟨q, hq, e⟩ := List.mem_map.1 e; exact hn q hq e, h.keys⟩, fun p hq => by
    rcases List.mem_cons.1 hq with rfl | hq
    · exact ⟨hk, List.Pairwise.nil, List.Pairwise.nil, fun x hx => (List.not_mem_nil hx).elim, fun x hx => (List.not_mem_nil hx).elim⟩
    · exact h.pp p hq, by rw [sumS_cons]; simpa [pNone, sumw_nil] using h.wt, fun p hq => by
    rcases List.mem_cons.1 hq with rfl | hq
    · exact Nat.zero_le _
    · exact h.cw p hq⟩
theorem Sees.perm {M : List Pt} {f : Int → PS} (h : Sees L f) (hp : L.Perm M) : Sees M f := ⟨fun p hq => h.1 p (hp.mem_iff.2 hq), fun k hk => h.2 k (fun p hq => hk p (hp.mem_iff.1 hq))⟩
end
/-- A part ahead of all others: what a look-up tells, what a store leaves. -/
structure PickAt (w : World) (l mm : Nat) (ov : Value) (fq : Nat → Prop) (f : Int → PS) (O : List Tx) (W : Nat) (k : Int) (p : Pt) (R : List Pt) : Prop where
  key : p.k = k
  g : LG w l mm ov fq (p :: R) O
  pl : LP (p :: R) O W
  s : Sees (p :: R) f
  ps : f k = p.ps
  look : ∀ w' : World, w'.heap[mm]? = w.heap[mm]? → (Instr.lookup 59 (.map (some mm)) (.int .i64 k) false).run Try.prog w' = .ok (ptV p) w'
  store : ∀ (w' : World) (v : Value), w'.heap[mm]? = w.heap[mm]? → ∃ w'', (Instr.mapUpdate 59 (.map (some mm)) (.int .i64 k) v).run Try.prog w' = .ok () w'' ∧ MapAt Try.prog 3 w'' mm ((.int .i64 k, v) :: R.map pEnt) ∧ MTurn w' w'' mm
theorem LX.pick {w : World} {l mm : Nat} {ov : Value} {fq : Nat → Prop} {f : Int → PS} {O : List Tx} {W : Nat} {Ms : List Pt} (h : LX w l mm ov fq f O W Ms) {k : Int} (hk : In64 k) : ∃ p R, PickAt w l mm ov fq f O W k p R := by
  by_cases hin : ∃ p ∈ Ms, p.k = k
  · obtain ⟨p, hp, rfl⟩ := hin
    obtain ⟨a, b, rfl⟩ := List.append_of_mem hp
    have hq : (a ++ p :: b).Perm (p :: (a ++ b)) := List.perm_middle
    have hm := h.mp.perm (hq.map pEnt)
    refine ⟨p, a ++ b, rfl, h.g.perm hq, h.p.perm hq, h.s.perm hq, h.s.1 p hp, fun w' e => ?_, fun w' v e => ?_⟩
    · have := (hm.back e).look_hit Try.lawI Try.underlying59 (keyI hk) (v := ptV p) (R := (a ++ b).map pEnt) (.refl _) false
      simpa using this
    · exact (hm.back e).store_old Try.lawI Try.underlying59 (keyI hk) (v0 := ptV p) (R := (a ++ b).map pEnt) (.refl _)
  · have hno : ∀ p ∈ Ms, p.k ≠ k := fun p hp e => hin ⟨p, hp, e⟩
    have hno2 : ∀ q ∈ Ms.map pEnt, q.1 ≠ .int .i64 k := fun q hq e => by
      obtain ⟨p, hp, rfl⟩ := List.mem_map.1 hq
      have e2 : Value.int .i64 p.k = .int .i64 k := e
      cases e2
      exact hno p hp rfl
    refine ⟨pNone k, Ms, rfl, h.g.none k, h.p.none hk hno, ⟨fun p hp => ?_, fun k' hk' => ?_⟩, h.s.2 k hno, fun w' e => ?_, fun w' v e => ?_⟩
    · rcases List.mem_cons.1 hp with rfl | hp
      · exact h.s.2 k hno
      · exact h.s.1 p hp
    · exact h.s.2 k' (fun p hp => hk' p (List.mem_cons_of_mem _ hp))
    · have := (h.mp.back e).look_miss Try.lawI Try.underlying59 (zero_part w') (keyI hk) hno2 false
      simpa [ptV, pNone] using this
    · exact (h.mp.back e).store_new Try.lawI Try.underlying59 (keyI hk) hno2
/-- One key's part is another. -/
def upd (f : Int → PS) (k : Int) (s : PS) : Int → PS := fun i => if i = k then s else f i
theorem Sees.swap {p p' : Pt} {R : List Pt} {f : Int → PS} {k : Int} (h : Sees (p :: R) f) (hn : ((p :: R).map Pt.k).Nodup) (hk : p.k = k) (hk' : p'.k = k) : Sees (p' :: R) (upd f k p'.ps) := by
  rw [List.map_cons, List.nodup_cons] at hn
  have hr : ∀ q ∈ R, q.k ≠ k := fun q hq e => hn.1 (List.mem_map.2 ⟨q, hq, by rw [e, hk]⟩)
  refine ⟨fun q hq => ?_, fun i hi => ?_⟩
  · rcases List.mem_cons.1 hq with rfl | hq
    · unfold upd; rw [if_pos hk']
    · unfold upd; rw [if_neg (hr q hq)]; exact h.1 q (List.mem_cons_of_mem _ hq)
  · have h1 := hi p' (List.mem_cons_self ..)
    have hik : i ≠ k := fun e => h1 (by rw [hk', e])
    unfold upd
    rw [if_neg hik]
    refine h.2 i (fun q hq => ?_)
    rcases List.mem_cons.1 hq with rfl | hq
    · rw [hk]; exact fun e => hik e.symm
    · exact hi q (List.mem_cons_of_mem _ hq)
theorem Sees.gone {p : Pt} {R : List Pt} {f : Int → PS} {k : Int} (h : Sees (p :: R) f) (hn : ((p :: R).map Pt.k).Nodup) (hk : p.k = k) : Sees R (upd f k emp) := by
  rw [List.map_cons, List.nodup_cons] at hn
  have hr : ∀ q ∈ R, q.k ≠ k := fun q hq e => hn.1 (List.mem_map.2 ⟨q, hq, by rw [e, hk]⟩)
  refine ⟨fun q hq => ?_, fun i hi => ?_⟩
  · unfold upd; rw [if_neg (hr q hq)]; exact h.1 q (List.mem_cons_of_mem _ hq)
  · unfold upd
    by_cases hik : i = k
    · rw [if_pos hik]
    · rw [if_neg hik]
      refine h.2 i (fun q hq => ?_)
      rcases List.mem_cons.1 hq with rfl | hq
      · rw [hk]; exact fun e => hik e.symm
      · exact hi q hq

end Go.Proofs.Yteafnohponbbeaa
