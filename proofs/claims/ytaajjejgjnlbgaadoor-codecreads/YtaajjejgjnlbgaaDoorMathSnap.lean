/-
  What is read of a part's bytes is the part.
-/
import Derived.Test.YtaajjejgjnlbgaaDoorRdSnap
import Derived.Test.YtaajjejgjnlbgaaDoorMath
namespace Go.Proofs.YtaajjejgjnlbgaaDoor
open Go.RowKit

/-- A reader that reads what a writer wrote, of those that are good. -/
theorem rL_of {α : Type} (rd : (List Nat × Bool) → α × (List Nat × Bool)) (enc : α → List Nat) (xs : List α) (h : ∀ x ∈ xs, ∀ l, rd (enc x ++ l, false) = (x, (l, false))) : ∀ l, rL rd xs.length (xs.flatMap enc ++ l, false) = (xs, (l, false)) := by
  induction xs with
  | nil => intro l; rfl
  | cons x xs ih =>
    intro l
    have e : (x :: xs).flatMap enc ++ l = enc x ++ (xs.flatMap enc ++ l) := by simp
    rw [e, List.length_cons]
    unfold rL
    rw [h x (by simp) _]
    simp only [Bool.false_eq_true, if_false, ih (fun y hy => h y (by simp [hy])) l]
theorem rList_of {α : Type} (rd : (List Nat × Bool) → α × (List Nat × Bool)) (enc : α → List Nat) (most : Nat) (xs : List α) (hm : xs.length ≤ most) (hs : xs.length ≤ 65535) (h : ∀ x ∈ xs, ∀ l, rd (enc x ++ l, false) = (x, (l, false))) (l : List Nat) : rList rd most ((be 2 xs.length ++ xs.flatMap enc) ++ l, false) = (xs, (l, false)) := by
  unfold rList
  rw [List.append_assoc, num_be 2 _ _ _ (by omega)]
  simp only [if_neg (show ¬ most < xs.length by omega), rL_of rd enc xs h l]
def Pn.ok (p : Pn) : Prop := I64 p.ke ∧ I64 p.fr ∧ I64 p.to ∧ I64 p.ac
def Frm.ok (f : Frm) : Prop := I64 f.ke ∧ I64 f.ti ∧ I64 f.va ∧ I64 f.ma ∧ U64 f.n
def Ot.ok (o : Ot) : Prop := o.f.ok
structure Sn.ok (s : Sn) : Prop where
  mark : I64 s.mark
  marks : ∀ x ∈ s.marks, I64 x
  panes : ∀ x ∈ s.panes, x.ok
  outs : ∀ x ∈ s.outs, x.ok
theorem rInt_of (n : Int) (h : I64 n) (l : List Nat) : (i64of (num 8 (sbe n ++ l, false)).1, (num 8 (sbe n ++ l, false)).2) = (n, (l, false)) := by
  rw [num_sbe, i64of_wrap n h.1 h.2]
theorem rPane_of (p : Pn) (h : p.ok) (l : List Nat) : rPane (pnb p ++ l, false) = (p, (l, false)) := by
  obtain ⟨ke, fr, to, ac⟩ := p
  obtain ⟨h1, h2, h3, h4⟩ := h
  simp only at h1 h2 h3 h4
  have e : pnb ⟨ke, fr, to, ac⟩ ++ l = sbe ke ++ (sbe fr ++ (sbe to ++ (sbe ac ++ l))) := by simp [pnb]
  unfold rPane
  simp only [e, num_sbe, i64of_wrap _ h1.1 h1.2, i64of_wrap _ h2.1 h2.2, i64of_wrap _ h3.1 h3.2, i64of_wrap _ h4.1 h4.2]
theorem rOut_of (o : Ot) (hf : o.fits = true) (h : o.ok) (l : List Nat) : rOut (otb o ++ l, false) = (o, (l, false)) := by
  obtain ⟨ch, kd, ke, ti, va, ma, n, ov⟩ := o
  obtain ⟨h1, h2, h3, h4, h5⟩ := h
  unfold Ot.fits at hf
  rw [Bool.and_eq_true] at hf
  have hc := of_decide_eq_true hf.1
  have hff : fits kd ke ti va ma n ov = true := hf.2
  simp only at h1 h2 h3 h4 h5 hc
  have e : otb ⟨ch, kd, ke, ti, va, ma, n, ov⟩ ++ l = be 2 ch.toNat ++ (frb kd ke ti va ma n ov ++ l) := by simp [otb, Frm.b]
  unfold rOut
  rw [e, num_be 2 _ _ _ (by omega)]
  simp only [rFrame_frb kd ke ti va ma n ov l hff h1 h2 h3 h4 h5, Int.toNat_of_nonneg hc.1]
theorem Sn.form_iff (s : Sn) : s.form = true ↔ (0 ≤ s.task ∧ s.task ≤ 65535) ∧ (0 ≤ s.off ∧ s.off ≤ 65535) ∧ ∀ o ∈ s.outs, o.fits = true := by
  unfold Sn.form fitsO
  simp [List.all_eq_true]
theorem Sn.big_iff (s : Sn) : s.big = false ↔ s.panes.length ≤ 4096 ∧ s.outs.length ≤ 4096 ∧ s.marks.length ≤ 65535 := by
  unfold Sn.big
  rw [decide_eq_false_iff_not]
  omega
theorem rSnap_of (s : Sn) (hb : s.big = false) (hf : s.form = true) (h : s.ok) (l : List Nat) : rSnap (snb s ++ l, false) = (s, (l, false)) := by
  obtain ⟨b1, b2, b3⟩ := (Sn.big_iff s).1 hb
  obtain ⟨⟨f1, f2⟩, ⟨f3, f4⟩, f5⟩ := (Sn.form_iff s).1 hf
  have e : snb s ++ l = be 2 s.task.toNat ++ (be 2 s.off.toNat ++ (sbe s.mark ++ ((be 2 s.marks.length ++ s.marks.flatMap sbe) ++ ((be 2 s.panes.length ++ s.panes.flatMap pnb) ++ ((be 2 s.outs.length ++ s.outs.flatMap otb) ++ l))))) := by
    simp only [snb, List.append_assoc]
  have r3 := rList_of (fun s => (i64of (num 8 s).1, (num 8 s).2)) sbe 65535 s.marks b3 b3 (fun x hx l => rInt_of x (h.marks x hx) l)
  have r4 := rList_of rPane pnb 4096 s.panes b1 (by omega) (fun x hx l => rPane_of x (h.panes x hx) l)
  have r5 := rList_of rOut otb 4096 s.outs b2 (by omega) (fun x hx l => rOut_of x (f5 x hx) (h.outs x hx) l)
  unfold rSnap
  simp only [e, num_be 2 s.task.toNat _ _ (by omega), num_be 2 s.off.toNat _ _ (by omega), num_sbe, i64of_wrap _ h.mark.1 h.mark.2, r3, r4, r5, Int.toNat_of_nonneg f1, Int.toNat_of_nonneg f3]
theorem flat_byts {α : Type} (enc : α → List Nat) (h : ∀ x, Byts (enc x)) (xs : List α) : Byts (xs.flatMap enc) := by
  induction xs with
  | nil => exact Byts.nil
  | cons x xs ih => rw [List.flatMap_cons]; exact (h x).app ih
theorem pnb_byts (p : Pn) : Byts (pnb p) := (Byts.sbe _).app ((Byts.sbe _).app ((Byts.sbe _).app (Byts.sbe _)))
theorem otb_byts (o : Ot) : Byts (otb o) := (Byts.be _ _).app (frb_byts _ _ _ _ _ _ _)
theorem snb_byts (s : Sn) : Byts (snb s) :=
  (Byts.be _ _).app ((Byts.be _ _).app ((Byts.sbe _).app (((Byts.be _ _).app (flat_byts _ Byts.sbe _)).app (((Byts.be _ _).app (flat_byts _ pnb_byts _)).app ((Byts.be _ _).app (flat_byts _ otb_byts _))))))
theorem snb_len (s : Sn) (hb : s.big = false) : (snb s).length ≤ 1000000 := by
  obtain ⟨b1, b2, b3⟩ := (Sn.big_iff s).1 hb
  have h1 := flat_len sbe 8 (fun n => Nat.le_of_eq (sbe_len n)) s.marks
  have h2 := flat_len pnb 32 (fun n => Nat.le_of_eq (pnb_len n)) s.panes
  have h3 := flat_len otb 27 otb_len s.outs
  simp only [snb, List.length_append, be_length, sbe_len]
  omega
theorem sOut_len (s : Sn) : (sOut s).length ≤ 1000000 := by
  unfold sOut
  split
  · simp
  · rename_i h
    split
    · exact snb_len s (by simpa using h)
    · simp
end Go.Proofs.YtaajjejgjnlbgaaDoor
