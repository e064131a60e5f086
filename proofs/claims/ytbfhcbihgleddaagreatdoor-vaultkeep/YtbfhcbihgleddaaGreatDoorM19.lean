/-
  Texts of the vault, in build order: MathSnap, LawMan, MathCuts, Crc, RefSeal, VAll, DBase, DMap.
-/
import Derived.Test.YtbfhcbihgleddaaGreatDoorM13
import Derived.Test.YtbfhcbihgleddaaGreatDoorM05
import Derived.Test.YtbfhcbihgleddaaGreatDoorM10
import Derived.Test.YtbfhcbihgleddaaGreatDoorM14
import Derived.Test.YtbfhcbihgleddaaGreatDoorM17
import Derived.Test.YtbfhcbihgleddaaGreatDoorM18
import Derived.Test.YtbfhcbihgleddaaGreatDoorM06
import Derived.Test.YtbfhcbihgleddaaGreatDoorM08
import Derived.Test.YtbfhcbihgleddaaGreatDoorProg
import Derived.WalkKit
import Derived.Laws.StructEq
import Derived.Deep.RegionHeld
import Derived.Deep.RegionHeld3
import Derived.Deep.QuietTactic
import Derived.BigQuiet
import Derived.Laws.AppendOwnNone
import Derived.Lib.SliceRun
import Derived.Maps.OwnSet
import Derived.Maps.OwnOps
import Derived.Maps.Ext
/-
  What is read of a part's bytes is the part.
-/
namespace Go.Proofs.YtbfhcbihgleddaaGreatDoor
open Go.RowKit

/-- A reader that reads what a writer wrote, of those that are good. -/
theorem rL_of {α : Type} (rd : (List Nat × Bool) → α × (List Nat × Bool)) (enc : α → List Nat) (xs : List α) (h : ∀ x ∈ xs, ∀ l, rd (enc x ++ l, false) = (x, (l, false))) : ∀ l, rL rd xs.length (xs.flatMap enc ++ l, false) = (xs, (l, false)) := by
  induction xs with
  | nil => intro l; rfl
  | cons x xs ih =>
    intro l
    have e : (x :: xs).flatMap enc ++ l = enc x ++ (xs.flatMap enc ++ l) := by simp
    rw [e, List.length_cons]
    unfold rL
    rw [h x (by simp) _]
    simp only [Bool.false_eq_true, if_false, ih (fun y hy => h y (by simp [hy])) l]
theorem rList_of {α : Type} (rd : (List Nat × Bool) → α × (List Nat × Bool)) (enc : α → List Nat) (most : Nat) (xs : List α) (hm : xs.length ≤ most) (hs : xs.length ≤ 65535) (h : ∀ x ∈ xs, ∀ l, rd (enc x ++ l, false) = (x, (l, false))) (l : List Nat) : rList rd most ((be 2 xs.length ++ xs.flatMap enc) ++ l, false) = (xs, (l, false)) := by
  unfold rList
  rw [List.append_assoc, num_be 2 _ _ _ (by omega)]
  simp only [if_neg (show ¬ most < xs.length by omega), rL_of rd enc xs h l]
def Pn.ok (p : Pn) : Prop := I64 p.ke ∧ I64 p.fr ∧ I64 p.to ∧ I64 p.ac
def Frm.ok (f : Frm) : Prop := I64 f.ke ∧ I64 f.ti ∧ I64 f.va ∧ I64 f.ma ∧ U64 f.n
def Ot.ok (o : Ot) : Prop := o.f.ok
structure Sn.ok (s : Sn) : Prop where
  mark : I64 s.mark
  marks : ∀ x ∈ s.marks, I64 x
  panes : ∀ x ∈ s.panes, x.ok
  outs : ∀ x ∈ s.outs, x.ok
theorem rInt_of (n : Int) (h : I64 n) (l : List Nat) : (i64of (num 8 (sbe n ++ l, false)).1, (num 8 (sbe n ++ l, false)).2) = (n, (l, false)) := by
  rw [num_sbe, i64of_wrap n h.1 h.2]
theorem rPane_of (p : Pn) (h : p.ok) (l : List Nat) : rPane (pnb p ++ l, false) = (p, (l, false)) := by
  obtain ⟨ke, fr, to, ac⟩ := p
  obtain ⟨h1, h2, h3, h4⟩ := h
  simp only at h1 h2 h3 h4
  have e : pnb ⟨ke, fr, to, ac⟩ ++ l = sbe ke ++ (sbe fr ++ (sbe to ++ (sbe ac ++ l))) := by simp [pnb]
  unfold rPane
  simp only [e, num_sbe, i64of_wrap _ h1.1 h1.2, i64of_wrap _ h2.1 h2.2, i64of_wrap _ h3.1 h3.2, i64of_wrap _ h4.1 h4.2]
theorem rOut_of (o : Ot) (hf : o.fits = true) (h : o.ok) (l : List Nat) : rOut (otb o ++ l, false) = (o, (l, false)) := by
  obtain ⟨ch, kd, ke, ti, va, ma, n, ov⟩ := o
  obtain ⟨h1, h2, h3, h4, h5⟩ := h
  unfold Ot.fits at hf
  rw [Bool.and_eq_true] at hf
  have hc := of_decide_eq_true hf.1
  have hff : fits kd ke ti va ma n ov = true := hf.2
  simp only at h1 h2 h3 h4 h5 hc
  have e : otb ⟨ch, kd, ke, ti, va, ma, n, ov⟩ ++ l = be 2 ch.toNat ++ (frb kd ke ti va ma n ov ++ l) := by simp [otb, Frm.b]
  unfold rOut
  rw [e, num_be 2 _ _ _ (by omega)]
  simp only [rFrame_frb kd ke ti va ma n ov l hff h1 h2 h3 h4 h5, Int.toNat_of_nonneg hc.1]
theorem Sn.form_iff (s : Sn) : s.form = true ↔ (0 ≤ s.task ∧ s.task ≤ 65535) ∧ (0 ≤ s.off ∧ s.off ≤ 65535) ∧ ∀ o ∈ s.outs, o.fits = true := by
  unfold Sn.form fitsO
  simp [List.all_eq_true]
theorem Sn.big_iff (s : Sn) : s.big = false ↔ s.panes.length ≤ 4096 ∧ s.outs.length ≤ 4096 ∧ s.marks.length ≤ 65535 := by
  unfold Sn.big
  rw [decide_eq_false_iff_not]
  omega
theorem rSnap_of (s : Sn) (hb : s.big = false) (hf : s.form = true) (h : s.ok) (l : List Nat) : rSnap (snb s ++ l, false) = (s, (l, false)) := by
  obtain ⟨b1, b2, b3⟩ := (Sn.big_iff s).1 hb
  obtain ⟨⟨f1, f2⟩, ⟨f3, f4⟩, f5⟩ := (Sn.form_iff s).1 hf
  have e : snb s ++ l = be 2 s.task.toNat ++ (be 2 s.off.toNat ++ (sbe s.mark ++ ((be 2 s.marks.length ++ s.marks.flatMap sbe) ++ ((be 2 s.panes.length ++ s.panes.flatMap pnb) ++ ((be 2 s.outs.length ++ s.outs.flatMap otb) ++ l))))) := by
    simp only [snb, List.append_assoc]
  have r3 := rList_of (fun s => (i64of (num 8 s).1, (num 8 s).2)) sbe 65535 s.marks b3 b3 (fun x hx l => rInt_of x (h.marks x hx) l)
  have r4 := rList_of rPane pnb 4096 s.panes b1 (by omega) (fun x hx l => rPane_of x (h.panes x hx) l)
  have r5 := rList_of rOut otb 4096 s.outs b2 (by omega) (fun x hx l => rOut_of x (f5 x hx) (h.outs x hx) l)
  unfold rSnap
  simp only [e, num_be 2 s.task.toNat _ _ (by omega), num_be 2 s.off.toNat _ _ (by omega), num_sbe, i64of_wrap _ h.mark.1 h.mark.2, r3, r4, r5, Int.toNat_of_nonneg f1, Int.toNat_of_nonneg f3]
theorem flat_byts {α : Type} (enc : α → List Nat) (h : ∀ x, Byts (enc x)) (xs : List α) : Byts (xs.flatMap enc) := by
  induction xs with
  | nil => exact Byts.nil
  | cons x xs ih => rw [List.flatMap_cons]; exact (h x).app ih
theorem pnb_byts (p : Pn) : Byts (pnb p) := (Byts.sbe _).app ((Byts.sbe _).app ((Byts.sbe _).app (Byts.sbe _)))
theorem otb_byts (o : Ot) : Byts (otb o) := (Byts.be _ _).app (frb_byts _ _ _ _ _ _ _)
theorem snb_byts (s : Sn) : Byts (snb s) :=
  (Byts.be _ _).app ((Byts.be _ _).app ((Byts.sbe _).app (((Byts.be _ _).app (flat_byts _ Byts.sbe _)).app (((Byts.be _ _).app (flat_byts _ pnb_byts _)).app ((Byts.be _ _).app (flat_byts _ otb_byts _))))))
theorem snb_len (s : Sn) (hb : s.big = false) : (snb s).length ≤ 1000000 := by
  obtain ⟨b1, b2, b3⟩ := (Sn.big_iff s).1 hb
  have h1 := flat_len sbe 8 (fun n => Nat.le_of_eq (sbe_len n)) s.marks
  have h2 := flat_len pnb 32 (fun n => Nat.le_of_eq (pnb_len n)) s.panes
  have h3 := flat_len otb 27 otb_len s.outs
  simp only [snb, List.length_append, be_length, sbe_len]
  omega
theorem sOut_len (s : Sn) : (sOut s).length ≤ 1000000 := by
  unfold sOut
  split
  · simp
  · rename_i h
    split
    · exact snb_len s (by simpa using h)
    · simp
end Go.Proofs.YtbfhcbihgleddaaGreatDoor
/-
  The law of manifests, walked.
-/
namespace Go.Proofs.YtbfhcbihgleddaaGreatDoor
open Go.RowKit

theorem rName_of (s : ByteArray) (l : List Nat) (h : s.size ≤ 32) : rName (nameb s ++ l, false) = (s, (l, false)) := by
  have e : nameb s ++ l = s.size :: (sb s ++ l) := rfl
  unfold rName
  rw [e, num_one]
  simp only [if_neg (show ¬ 32 < s.size by omega)]
  have ht : takeS s.size (sb s ++ l, false) = (sb s, (l, false)) := by
    unfold takeS
    rw [if_pos (by simp [sb_length])]
    have h1 : (sb s ++ l).take s.size = sb s := List.take_left' (sb_length s)
    have h2 : (sb s ++ l).drop s.size = l := List.drop_left' (sb_length s)
    simp only [h1, h2]
  rw [ht, strOf_sb]
theorem rListS_of (ss : List ByteArray) : (∀ s ∈ ss, s.size ≤ 32) → ∀ l, rListS ss.length (namesb ss ++ l, false) = (ss, (l, false)) := by
  induction ss with
  | nil => intro _ l; rfl
  | cons s ss ih =>
    intro h l
    have e : namesb (s :: ss) ++ l = nameb s ++ (namesb ss ++ l) := by simp [namesb]
    have h1 := rName_of s (namesb ss ++ l) (h s (by simp))
    rw [e, List.length_cons]
    unfold rListS
    rw [h1]
    simp only [Bool.false_eq_true, if_false, ih (fun t ht => h t (by simp [ht])) l]
theorem rMan_of (n ep : Int) (ss : List ByteArray) (l : List Nat) (h1 : U64 n) (h2 : U64 ep) (h : mfits ss = true) : rMan (manb n ep ss ++ l, false) = (⟨n.toNat, ep.toNat, ss⟩, (l, false)) := by
  unfold mfits at h
  rw [Bool.and_eq_true] at h
  have hl := of_decide_eq_true h.1
  have hs : ∀ s ∈ ss, s.size ≤ 32 := fun s hs => by have := List.all_eq_true.1 h.2 s hs; simpa using this
  have e : manb n ep ss ++ l = be 8 n.toNat ++ (be 8 ep.toNat ++ (be 2 ss.length ++ (namesb ss ++ l))) := by simp [manb]
  have b1 : n.toNat < 2 ^ (8 * 8) := by have := h1.2; omega
  have b2 : ep.toNat < 2 ^ (8 * 8) := by have := h2.2; omega
  have b3 : ss.length < 2 ^ (8 * 2) := by omega
  rw [e]
  unfold rMan
  simp only [num_be 8 _ _ _ b1, num_be 8 _ _ _ b2, num_be 2 _ _ _ b3, rListS_of ss hs l]
theorem namesb_byts (ss : List ByteArray) (h : ∀ s ∈ ss, s.size ≤ 32) : Byts (namesb ss) := by
  induction ss with
  | nil => exact Byts.nil
  | cons s ss ih =>
    have e : namesb (s :: ss) = nameb s ++ namesb ss := by simp [namesb]
    rw [e]
    exact (Byts.cons (by have := h s (by simp); omega) (sb_byts s)).app (ih (fun t ht => h t (by simp [ht])))
theorem manb_byts (n ep : Int) (ss : List ByteArray) (h : mfits ss = true) : Byts (manb n ep ss) := by
  unfold mfits at h
  rw [Bool.and_eq_true] at h
  have hs : ∀ s ∈ ss, s.size ≤ 32 := fun s hs => by have := List.all_eq_true.1 h.2 s hs; simpa using this
  exact (Byts.be _ _).app ((Byts.be _ _).app ((Byts.be _ _).app (namesb_byts ss hs)))

def nsum (ss : List ByteArray) : Nat := (ss.map fun s => s.size + 1).sum
theorem nsum_snoc (ss : List ByteArray) (k : Nat) (s : ByteArray) (h : ss[k]? = some s) : nsum (ss.take (k + 1)) = nsum (ss.take k) + (s.size + 1) := by
  unfold nsum
  rw [List.take_add_one, h, List.map_append, List.sum_append]; simp
theorem nsum_len (ss : List ByteArray) : ss.length ≤ nsum ss := by
  induction ss with
  | nil => simp
  | cons s ss ih => simp only [nsum, List.map_cons, List.sum_cons, List.length_cons] at *; omega
theorem nsum_names (ss : List ByteArray) : (namesb ss).length = nsum ss := by
  induction ss with
  | nil => rfl
  | cons s ss ih =>
    simp only [namesb, nsum, List.flatMap_cons, List.length_append, List.map_cons, List.sum_cons] at *
    rw [ih]; simp [nameb, sb_length]
theorem mOut_len (n ep : Int) (ss : List ByteArray) : (mOut n ep ss).length ≤ 18 + nsum ss := by
  unfold mOut
  split
  · simp only [manb, List.length_append, be_length, nsum_names]; omega
  · simp

/-- In the midst of the law: its box, and that what was there is as it was. -/
structure LM (w W : World) (mc : Array Value) : Prop where
  bm : BoxT 110 W w.heap.size mc
  bel : Below w.heap.size w W
  gl : Glob W
theorem LM.step {w W W' : World} {mc : Array Value} (h : LM w W mc) (hb : Below W.heap.size W W') : LM w W' mc :=
  ⟨h.bm.kept (base := 0) (Kept.of_below hb) (by decide), h.bel.trans (hb.mono h.bel.size), h.gl.below hb h.gl.1⟩
theorem LM.start (w : World) (mc : Array Value) (hg : Glob w) : LM w (w.alloc (.cells mc 110)) mc := by
  have hb : Below w.heap.size w (w.alloc (.cells mc 110)) := (Below.refl _ _).alloc (Nat.le_refl _) _
  exact ⟨BoxT.new 110 w mc, hb, hg.below hb hg.1⟩
theorem SSeg.lm {w W : World} {mc : Array Value} {v : Value} {ss : List ByteArray} (h : SSeg w.heap.size w v ss) (q : LM w W mc) : SSeg W.heap.size W v ss := (h.below q.bel).mono q.bel.size

end Go.Proofs.YtbfhcbihgleddaaGreatDoor
/-
  Readers that end well do the same where more bytes stand behind: so what is cut off is refused.
-/
namespace Go.Proofs.YtbfhcbihgleddaaGreatDoor
open Go.RowKit

def ext (m : List Nat) (s : List Nat × Bool) : List Nat × Bool := (s.1 ++ m, s.2)
/-- What ends well began well, and does the same where m stands behind. -/
def Mono {α : Type} (f : (List Nat × Bool) → α × (List Nat × Bool)) : Prop := ∀ s m, (f s).2.2 = false → s.2 = false ∧ f (ext m s) = ((f s).1, ext m (f s).2)
theorem mono_num (k : Nat) : Mono (num k) := by
  intro s m h
  by_cases hk : k ≤ s.1.length
  · rw [num_yes hk] at h ⊢
    refine ⟨h, ?_⟩
    have hk' : k ≤ (ext m s).1.length := by simp only [ext, List.length_append]; omega
    rw [num_yes hk']
    simp only [ext, List.take_append_of_le_length hk, List.drop_append_of_le_length hk]
  · rw [num_no hk] at h
    cases h
theorem mono_take (k : Nat) : Mono (takeS k) := by
  intro s m h
  unfold takeS at h ⊢
  by_cases hk : k ≤ s.1.length
  · have hk' : k ≤ (ext m s).1.length := by simp only [ext, List.length_append]; omega
    rw [if_pos hk] at h ⊢
    rw [if_pos hk']
    refine ⟨h, ?_⟩
    simp only [ext, List.take_append_of_le_length hk, List.drop_append_of_le_length hk]
  · rw [if_neg hk] at h
    cases h
theorem mono_int : Mono (fun s => (i64of (num 8 s).1, (num 8 s).2)) := by
  intro s m h
  obtain ⟨g, e⟩ := mono_num 8 s m h
  exact ⟨g, by simp only [e]⟩
theorem mono_flag : Mono rFlag := by
  intro s m h
  unfold rFlag at h ⊢
  by_cases h1 : 1 < (num 1 s).1
  · simp only [if_pos h1] at h; cases h
  · simp only [if_neg h1] at h ⊢
    obtain ⟨g, e⟩ := mono_num 1 s m h
    exact ⟨g, by simp only [e, if_neg h1]⟩
theorem mono_pane : Mono rPane := by
  intro s m h
  obtain ⟨g3, e4⟩ := mono_num 8 _ m (show (num 8 (num 8 (num 8 (num 8 s).2).2).2).2.2 = false from h)
  obtain ⟨g2, e3⟩ := mono_num 8 _ m g3
  obtain ⟨g1, e2⟩ := mono_num 8 _ m g2
  obtain ⟨g0, e1⟩ := mono_num 8 _ m g1
  exact ⟨g0, by unfold rPane; simp only [e1, e2, e3, e4]⟩
theorem mono_frame : Mono rFrame := by
  intro s m h
  unfold rFrame at h ⊢
  by_cases h1 : (num 1 s).1 = 1
  · simp only [if_pos h1] at h ⊢
    obtain ⟨g3, e4⟩ := mono_num 8 _ m h
    obtain ⟨g2, e3⟩ := mono_num 8 _ m g3
    obtain ⟨g1, e2⟩ := mono_num 8 _ m g2
    obtain ⟨g0, e1⟩ := mono_num 1 _ m g1
    exact ⟨g0, by simp only [e1, e2, e3, e4, if_pos h1]⟩
  by_cases h2 : (num 1 s).1 = 2
  · simp only [if_neg h1, if_pos h2] at h ⊢
    obtain ⟨g1, e2⟩ := mono_num 8 _ m h
    obtain ⟨g0, e1⟩ := mono_num 1 _ m g1
    exact ⟨g0, by simp only [e1, e2, if_neg h1, if_pos h2]⟩
  by_cases h3 : (num 1 s).1 = 3
  · simp only [if_neg h1, if_neg h2, if_pos h3] at h ⊢
    obtain ⟨g2, e3⟩ := mono_flag _ m h
    obtain ⟨g1, e2⟩ := mono_num 8 _ m g2
    obtain ⟨g0, e1⟩ := mono_num 1 _ m g1
    exact ⟨g0, by simp only [e1, e2, e3, if_neg h1, if_neg h2, if_pos h3]⟩
  · simp only [if_neg h1, if_neg h2, if_neg h3] at h
    cases h
theorem mono_out : Mono rOut := by
  intro s m h
  obtain ⟨g1, e2⟩ := mono_frame _ m (show (rFrame (num 2 s).2).2.2 = false from h)
  obtain ⟨g0, e1⟩ := mono_num 2 _ m g1
  exact ⟨g0, by unfold rOut; simp only [e1, e2]⟩
theorem mono_rL {α : Type} {rd : (List Nat × Bool) → α × (List Nat × Bool)} (hrd : Mono rd) (n : Nat) : Mono (rL rd n) := by
  induction n with
  | zero => intro s m h; exact ⟨h, rfl⟩
  | succ n ih =>
    intro s m h
    unfold rL at h
    by_cases hb : s.2 = true
    · simp only [if_pos hb] at h
      rw [hb] at h; cases h
    · simp only [if_neg hb] at h
      obtain ⟨g1, e2⟩ := ih _ m h
      obtain ⟨g0, e1⟩ := hrd _ m g1
      refine ⟨g0, ?_⟩
      have hb' : ¬ (ext m s).2 = true := hb
      conv => lhs; unfold rL
      conv => rhs; unfold rL
      simp only [if_neg hb, if_neg hb', e1, e2]
theorem mono_rList {α : Type} {rd : (List Nat × Bool) → α × (List Nat × Bool)} (hrd : Mono rd) (most : Nat) : Mono (rList rd most) := by
  intro s m h
  unfold rList at h ⊢
  by_cases hm : most < (num 2 s).1
  · simp only [if_pos hm] at h; cases h
  · simp only [if_neg hm] at h ⊢
    obtain ⟨g1, e2⟩ := mono_rL hrd _ _ m h
    obtain ⟨g0, e1⟩ := mono_num 2 _ m g1
    exact ⟨g0, by simp only [e1, e2, if_neg hm]⟩
theorem mono_snap : Mono rSnap := by
  intro s m h
  unfold rSnap at h ⊢
  simp only at h ⊢
  obtain ⟨g5, e6⟩ := mono_rList mono_out 4096 _ m h
  obtain ⟨g4, e5⟩ := mono_rList mono_pane 4096 _ m g5
  obtain ⟨g3, e4⟩ := mono_rList mono_int 65535 _ m g4
  obtain ⟨g2, e3⟩ := mono_num 8 _ m g3
  obtain ⟨g1, e2⟩ := mono_num 2 _ m g2
  obtain ⟨g0, e1⟩ := mono_num 2 _ m g1
  exact ⟨g0, by simp only [e1, e2, e3, e4, e5, e6]⟩
theorem mono_name : Mono rName := by
  intro s m h
  unfold rName at h ⊢
  by_cases hm : 32 < (num 1 s).1
  · simp only [if_pos hm] at h
    have := (mono_take _ _ [] h).1
    cases this
  · simp only [if_neg hm] at h ⊢
    obtain ⟨g1, e2⟩ := mono_take _ _ m h
    obtain ⟨g0, e1⟩ := mono_num 1 _ m g1
    exact ⟨g0, by simp only [e1, e2, if_neg hm]⟩
theorem mono_rListS (n : Nat) : Mono (rListS n) := by
  induction n with
  | zero => intro s m h; exact ⟨h, rfl⟩
  | succ n ih =>
    intro s m h
    unfold rListS at h
    by_cases hb : s.2 = true
    · simp only [if_pos hb] at h
      rw [hb] at h; cases h
    · simp only [if_neg hb] at h
      obtain ⟨g1, e2⟩ := ih _ m h
      obtain ⟨g0, e1⟩ := mono_name _ m g1
      refine ⟨g0, ?_⟩
      have hb' : ¬ (ext m s).2 = true := hb
      conv => lhs; unfold rListS
      conv => rhs; unfold rListS
      simp only [if_neg hb, if_neg hb', e1, e2]
theorem mono_man : Mono rMan := by
  intro s m h
  unfold rMan at h ⊢
  simp only at h ⊢
  obtain ⟨g3, e4⟩ := mono_rListS _ _ m h
  obtain ⟨g2, e3⟩ := mono_num 2 _ m g3
  obtain ⟨g1, e2⟩ := mono_num 8 _ m g2
  obtain ⟨g0, e1⟩ := mono_num 8 _ m g1
  exact ⟨g0, by simp only [e1, e2, e3, e4]⟩
theorem done_eq {s : List Nat × Bool} (h : done s = true) : s = ([], false) := by
  obtain ⟨l, b⟩ := s
  cases b <;> rcases l with _ | ⟨x, l⟩ <;> simp [done] at h ⊢
/-- What is read whole of a is not read of a beginning of a. -/
theorem cut_no {α : Type} {f : (List Nat × Bool) → α × (List Nat × Bool)} (hf : Mono f) {a : List Nat} {x : α} (ha : f (a, false) = (x, ([], false))) {k : Nat} (hk : k < a.length) : done (f (a.take k, false)).2 = false := by
  rcases Bool.eq_false_or_eq_true (done (f (a.take k, false)).2) with h | h
  · exfalso
    have e := done_eq h
    obtain ⟨_, e2⟩ := hf (a.take k, false) (a.drop k) (by rw [e])
    rw [show ext (a.drop k) (a.take k, false) = (a, false) by simp [ext], ha, e] at e2
    have e3 : [] = a.drop k := by
      have := congrArg (fun p => p.2.1) e2
      simpa [ext] using this
    have := congrArg List.length e3
    simp at this
    omega
  · exact h
theorem more_no {x : Nat} {l : List Nat} {b : Bool} : done (x :: l, b) = false := by cases b <;> rfl
end Go.Proofs.YtbfhcbihgleddaaGreatDoor
/-
  Plain mathematics of the sum: by bits and by four bits it is the same; one byte changed changes it; what a seal's bytes are read as.
-/
namespace Go.Proofs.YtbfhcbihgleddaaGreatDoor
open Go.RowKit

def bstep (c : Nat) : Nat := if c % 2 = 1 then c / 2 ^^^ 3988292384 else c / 2
theorem xor_half (a b : Nat) : (a ^^^ b) / 2 = a / 2 ^^^ b / 2 := by
  have h := Nat.shiftRight_xor_distrib (a := a) (b := b) (i := 1)
  simpa [Nat.shiftRight_eq_div_pow] using h
theorem xor_par (a b : Nat) (ha : a % 2 = 0) : (a ^^^ b) % 2 = b % 2 := by
  have h := Nat.xor_mod_two_pow (a := a) (b := b) (n := 1)
  rw [Nat.pow_one, ha, Nat.zero_xor] at h
  exact h
theorem bstep_xor (a b : Nat) (ha : a % 2 = 0) : bstep (a ^^^ b) = a / 2 ^^^ bstep b := by
  unfold bstep
  rw [xor_par a b ha, xor_half]
  split
  · rw [Nat.xor_assoc]
  · rfl
theorem xor16 (q r : Nat) (hr : r < 16) : 16 * q ^^^ r = 16 * q + r := by
  have h1 : (16 * q ^^^ r) / 2 ^ 4 = q ^^^ 0 := by
    rw [Nat.xor_div_two_pow]
    congr 1 <;> omega
  have h2 : (16 * q ^^^ r) % 2 ^ 4 = r := by
    rw [Nat.xor_mod_two_pow, show 16 * q % 2 ^ 4 = 0 from by omega, Nat.zero_xor]; omega
  rw [Nat.xor_zero] at h1
  omega
theorem bstep4_low (r : Nat) (hr : r < 16) : bstep (bstep (bstep (bstep r))) = nib r := by
  match r, hr with
  | 0, _ | 1, _ | 2, _ | 3, _ | 4, _ | 5, _ | 6, _ | 7, _ | 8, _ | 9, _ | 10, _ | 11, _ | 12, _ | 13, _ | 14, _ | 15, _ => decide +kernel
  | n + 16, h => exact absurd h (by omega)
/-- Four steps of one bit are one of four bits. -/
theorem bstep4 (c : Nat) : bstep (bstep (bstep (bstep c))) = nstep c := by
  have hc : c = 16 * (c / 16) ^^^ c % 16 := by rw [xor16 _ _ (by omega)]; omega
  unfold nstep
  generalize hq : c / 16 = q at *
  generalize hr : c % 16 = r at *
  have hr16 : r < 16 := by omega
  rw [hc, bstep_xor _ _ (by omega), show 16 * q / 2 = 8 * q from by omega, bstep_xor _ _ (by omega), show 8 * q / 2 = 4 * q from by omega, bstep_xor _ _ (by omega), show 4 * q / 2 = 2 * q from by omega, bstep_xor _ _ (by omega), show 2 * q / 2 = q from by omega, bstep4_low r hr16]

theorem nib_top (i j : Nat) (hi : i < 16) (hj : j < 16) (h : nib i / 2 ^ 28 = nib j / 2 ^ 28) : i = j := by
  have : ∀ i : Fin 16, ∀ j : Fin 16, nib i.1 / 2 ^ 28 = nib j.1 / 2 ^ 28 → i.1 = j.1 := by decide +kernel
  exact this ⟨i, hi⟩ ⟨j, hj⟩ h
theorem xor_cancel {a b c : Nat} (h : a ^^^ c = b ^^^ c) : a = b := by
  have := congrArg (· ^^^ c) h
  simpa [Nat.xor_assoc] using this
theorem xor_cancel' {a b c : Nat} (h : c ^^^ a = c ^^^ b) : a = b := by
  rw [Nat.xor_comm c a, Nat.xor_comm c b] at h; exact xor_cancel h
theorem nstep_inj {a b : Nat} (ha : a < 4294967296) (hb : b < 4294967296) (h : nstep a = nstep b) : a = b := by
  unfold nstep at h
  have ht := congrArg (· / 2 ^ 28) h
  simp only [Nat.xor_div_two_pow] at ht
  rw [show a / 16 / 2 ^ 28 = 0 from by omega, show b / 16 / 2 ^ 28 = 0 from by omega, Nat.zero_xor, Nat.zero_xor] at ht
  have hr := nib_top _ _ (by omega) (by omega) ht
  rw [hr] at h
  have := xor_cancel h
  omega
theorem nstep_lt {a : Nat} (ha : a < 4294967296) : nstep a < 4294967296 := xor_lt32 (by omega) (nib_lt _)
theorem cstep_lt {c x : Nat} (hc : c < 4294967296) (hx : x < 256) : cstep c x < 4294967296 := nstep_lt (nstep_lt (xor_lt32 hc (by omega)))
theorem cstep_inj {c d x y : Nat} (hc : c < 4294967296) (hd : d < 4294967296) (hx : x < 256) (hy : y < 256) (h : cstep c x = cstep d y) : c ^^^ x = d ^^^ y :=
  nstep_inj (xor_lt32 hc (by omega)) (xor_lt32 hd (by omega)) (nstep_inj (nstep_lt (xor_lt32 hc (by omega))) (nstep_lt (xor_lt32 hd (by omega))) h)
theorem fold_inj (l : List Nat) : Byts l → ∀ c d, c < 4294967296 → d < 4294967296 → l.foldl cstep c = l.foldl cstep d → c = d := by
  induction l with
  | nil => intro _ c d _ _ h; exact h
  | cons x l ih =>
    intro hb c d hc hd h
    have hx : x < 256 := hb 0 x rfl
    have hb' : Byts l := fun i y hy => hb (i + 1) y (by simpa using hy)
    have := ih hb' _ _ (cstep_lt hc hx) (cstep_lt hd hx) h
    exact xor_cancel (cstep_inj hc hd hx hx this)
theorem fold_set (l : List Nat) : Byts l → ∀ (i y x : Nat) c, c < 4294967296 → y < 256 → l[i]? = some x → y ≠ x → (l.set i y).foldl cstep c ≠ l.foldl cstep c := by
  induction l with
  | nil => intro _ i y x c _ _ h; simp at h
  | cons a l ih =>
    intro hb i y x c hc hy hx hne h
    have ha : a < 256 := hb 0 a rfl
    have hb' : Byts l := fun i y hy => hb (i + 1) y (by simpa using hy)
    cases i with
    | zero =>
      simp only [List.getElem?_cons_zero, Option.some.injEq] at hx
      subst hx
      have := fold_inj l hb' _ _ (cstep_lt hc hy) (cstep_lt hc ha) h
      exact hne (xor_cancel' (cstep_inj hc hc hy ha this))
    | succ i => exact ih hb' i y x _ (cstep_lt hc ha) hy (by simpa using hx) hne h
theorem crc_set (l : List Nat) (hb : Byts l) (i y x : Nat) (hy : y < 256) (hx : l[i]? = some x) (hne : y ≠ x) : crc (l.set i y) ≠ crc l := by
  unfold crc
  intro h
  exact fold_set l hb i y x _ (by omega) hy hx hne (xor_cancel' h)

theorem be_val (l : List Nat) (hb : Byts l) : be l.length (val l) = l := by
  have key : ∀ (n : Nat) (l : List Nat), l.length = n → Byts l → ∀ m, m % 2 ^ (8 * n) = val l → be n m = l := by
    intro n
    induction n with
    | zero => intro l hl _ m _; simp at hl; subst hl; rfl
    | succ n ih =>
      intro l hl hb m hm
      match l, hl with
      | x :: l, hl =>
        have hl : l.length = n := by simpa using hl
        have hx : x < 256 := hb 0 x rfl
        have hb' : Byts l := fun i y hy => hb (i + 1) y (by simpa using hy)
        have hv : val l < 2 ^ (8 * n) := by
          have := val_lt l hb' l.length (Nat.le_refl _)
          rw [List.take_length, hl, show (256 : Nat) = 2 ^ 8 from rfl, ← Nat.pow_mul] at this
          exact this
        have hval : val (x :: l) = x * 2 ^ (8 * n) + val l := by
          have fold : ∀ (l : List Nat) (a : Nat), l.foldl (fun n c => n * 256 + c) a = a * 2 ^ (8 * l.length) + val l := by
            intro l
            induction l with
            | nil => intro a; simp [val]
            | cons y l ih2 =>
              intro a
              have e1 : val (y :: l) = l.foldl (fun n c => n * 256 + c) y := by simp [val]
              have e2 : 2 ^ (8 * (l.length + 1)) = 2 ^ (8 * l.length) * 256 := by rw [show 8 * (l.length + 1) = 8 * l.length + 8 from by omega, Nat.pow_add]
              rw [List.foldl_cons, ih2, e1, ih2, List.length_cons, e2, Nat.add_mul]
              have : a * 256 * 2 ^ (8 * l.length) = a * (2 ^ (8 * l.length) * 256) := by rw [Nat.mul_assoc, Nat.mul_comm 256]
              omega
          have := fold l x
          rw [hl] at this
          rw [← this]; simp [val]
        have e : 2 ^ (8 * (n + 1)) = 2 ^ (8 * n) * 256 := by rw [show 8 * (n + 1) = 8 * n + 8 from by omega, Nat.pow_add]
        rw [e, Nat.mod_mul, hval] at hm
        have hpos : 0 < 2 ^ (8 * n) := Nat.pow_pos (by omega)
        have hml := Nat.mod_lt m hpos
        have h1 : m % 2 ^ (8 * n) = val l := by
          have := congrArg (· % 2 ^ (8 * n)) hm
          simp only [Nat.add_mul_mod_self_left, Nat.mod_mod] at this
          rw [this, Nat.add_comm, Nat.add_mul_mod_self_right, Nat.mod_eq_of_lt hv]
        have h2 : m / 2 ^ (8 * n) % 256 = x := by
          rw [h1] at hm
          have : 2 ^ (8 * n) * (m / 2 ^ (8 * n) % 256) = 2 ^ (8 * n) * x := by rw [Nat.mul_comm _ x]; omega
          exact Nat.eq_of_mul_eq_mul_left hpos this
        simp only [be, h2, ih l hl hb' m h1]
  refine key _ l rfl hb _ ?_
  have := val_lt l hb l.length (Nat.le_refl _)
  rw [List.take_length, show (256 : Nat) = 2 ^ 8 from rfl, ← Nat.pow_mul] at this
  exact Nat.mod_eq_of_lt this
theorem val_inj {a b : List Nat} (hl : a.length = b.length) (ha : Byts a) (hb : Byts b) (h : val a = val b) : a = b := by
  rw [← be_val a ha, ← be_val b hb, hl, h]

/-- What a bad reader reads stays bad. -/
theorem num_bad (k : Nat) (l : List Nat) : (num k (l, true)).2.2 = true := by unfold num; split <;> rfl
theorem num_short (k : Nat) (l : List Nat) (b : Bool) (h : l.length < k) : num k (l, b) = (0, (l, true)) := num_no (by simp; omega)

theorem rOpen_none_of_bad (l : List Nat) (h : (num 4 (num 4 (l, false)).2).2.2 = true) : rOpen l = none := by
  unfold rOpen
  rw [if_neg]
  rw [h]
  intro hh
  exact absurd hh.2.1 (by decide)

/-- What is read of a length and a sum. -/
theorem rOpen_parts (n s : Nat) (l : List Nat) (hn : n < 4294967296) (hs : s < 4294967296) : rOpen (be 4 n ++ (be 4 s ++ l)) = if n ≤ 1048576 ∧ n ≤ l.length ∧ crc (l.take n) = s then some (l.take n) else none := by
  unfold rOpen
  rw [num_be 4 n _ _ (by omega)]
  simp only [num_be 4 s _ _ (show s < 2 ^ (8 * 4) by omega), true_and]

theorem rOpen_sealed (l m : List Nat) (hb : Byts l) (hl : l.length ≤ 1048576) : rOpen (sealed l ++ m) = some l := by
  have e : sealed l ++ m = be 4 l.length ++ (be 4 (crc l) ++ (l ++ m)) := by simp [sealed]
  have ht : (l ++ m).take l.length = l := List.take_left' rfl
  rw [e, rOpen_parts _ _ _ (by omega) (crc_lt l hb), ht, if_pos ⟨hl, by simp, rfl⟩]
theorem sealed_len (l : List Nat) : (sealed l).length = l.length + 8 := by simp [sealed, be_length]; omega
theorem sealed_byts' (l : List Nat) (hb : Byts l) : Byts (sealed l) := (Byts.be _ _).app ((Byts.be _ _).app hb)

theorem rOpen_cut (l : List Nat) (k : Nat) (hb : Byts l) (hl : l.length ≤ 1048576) (hk : k < (sealed l).length) : rOpen ((sealed l).take k) = none := by
  rw [sealed_len] at hk
  by_cases h4 : k < 4
  · apply rOpen_none_of_bad
    rw [num_short 4 ((sealed l).take k) false (by rw [List.length_take]; omega)]
    exact num_bad _ _
  by_cases h8 : k < 8
  · have e : (sealed l).take k = be 4 l.length ++ ((be 4 (crc l) ++ l).take (k - 4)) := by
      unfold sealed; rw [List.take_append, be_length, List.take_of_length_le (by rw [be_length]; omega)]
    apply rOpen_none_of_bad
    rw [e, num_be 4 _ _ _ (by omega), num_short 4 _ _ (by rw [List.length_take]; omega)]
  · have e : (sealed l).take k = be 4 l.length ++ (be 4 (crc l) ++ l.take (k - 8)) := by
      unfold sealed; rw [List.take_append, be_length, List.take_of_length_le (by rw [be_length]; omega), List.take_append, be_length, List.take_of_length_le (by rw [be_length]; omega), show k - 4 - 4 = k - 8 from by omega]
    rw [e, rOpen_parts _ _ _ (by omega) (crc_lt l hb), if_neg]
    intro h
    have := h.2.1
    rw [List.length_take] at this
    omega

theorem rOpen_turned (l : List Nat) (k y x : Nat) (hb : Byts l) (hl : l.length ≤ 1048576) (h4 : 4 ≤ k) (hx : (sealed l)[k]? = some x) (hy : y < 256) (hne : y ≠ x) : rOpen ((sealed l).set k y) = none := by
  have hk : k < l.length + 8 := by rw [← sealed_len]; exact (List.getElem?_eq_some_iff.1 hx).1
  by_cases h8 : k < 8
  · have e : (sealed l).set k y = be 4 l.length ++ ((be 4 (crc l)).set (k - 4) y ++ l) := by
      unfold sealed
      rw [List.set_append_right _ _ (by rw [be_length]; omega), be_length, List.set_append_left _ _ (by rw [be_length]; omega)]
    have hlen : ((be 4 (crc l)).set (k - 4) y).length = 4 := by simp [be_length]
    have hbs : Byts ((be 4 (crc l)).set (k - 4) y) := by
      intro i z hz
      rw [List.getElem?_set] at hz
      split at hz
      · split at hz
        · simp at hz; omega
        · cases hz
      · exact Byts.be _ _ i z hz
    have hvl : val ((be 4 (crc l)).set (k - 4) y) < 4294967296 := by
      have := val_lt _ hbs 4 (by omega)
      rw [List.take_of_length_le (by omega)] at this
      exact this
    have hbe := be_val _ hbs
    rw [hlen] at hbe
    rw [e, ← hbe, rOpen_parts _ _ _ (by omega) hvl, if_neg]
    intro h
    rw [List.take_length] at h
    have heq : (be 4 (crc l)).set (k - 4) y = be 4 (crc l) := by rw [← hbe, ← h.2.2]
    have hx' : (be 4 (crc l))[k - 4]? = some x := by
      have h2 := hx
      unfold sealed at h2
      rw [List.getElem?_append_right (by rw [be_length]; omega), be_length, List.getElem?_append_left (by rw [be_length]; omega)] at h2
      exact h2
    have := congrArg (·[k - 4]?) heq
    simp only [List.getElem?_set_self (show k - 4 < (be 4 (crc l)).length by rw [be_length]; omega), hx'] at this
    exact hne (Option.some.inj this)
  · have e : (sealed l).set k y = be 4 l.length ++ (be 4 (crc l) ++ l.set (k - 8) y) := by
      unfold sealed
      rw [List.set_append_right _ _ (by rw [be_length]; omega), be_length, List.set_append_right _ _ (by rw [be_length]; omega), be_length, show k - 4 - 4 = k - 8 from by omega]
    have hx' : l[k - 8]? = some x := by
      have h2 := hx
      unfold sealed at h2
      rw [List.getElem?_append_right (by rw [be_length]; omega), be_length, List.getElem?_append_right (by rw [be_length]; omega), be_length, show k - 4 - 4 = k - 8 from by omega] at h2
      exact h2
    rw [e, rOpen_parts _ _ _ (by omega) (crc_lt l hb), if_neg]
    intro h
    have h3 := h.2.2
    rw [List.take_of_length_le (by simp)] at h3
    exact crc_set l hb _ y x hy hx' hne h3
end Go.Proofs.YtbfhcbihgleddaaGreatDoor
namespace Go.Proofs.YtbfhcbihgleddaaGreatDoor
open Go.RowKit

def bstepN : Nat → Nat → Nat
  | 0, c => c
  | k + 1, c => bstep (bstepN k c)
theorem bstepN8 (c : Nat) : bstepN 8 c = nstep (nstep c) := by
  rw [← bstep4, ← bstep4]; rfl
theorem bstep_lt {c : Nat} (hc : c < 4294967296) : bstep c < 4294967296 := by
  unfold bstep
  split
  · exact xor_lt32 (by omega) (by omega)
  · omega
theorem bstepN_lt {c : Nat} (hc : c < 4294967296) (k : Nat) : bstepN k c < 4294967296 := by
  induction k with
  | zero => exact hc
  | succ k ih => exact bstep_lt ih
theorem and1 (z : Nat) (hz : z < 4294967296) : bits .and .u32 (z : Int) 1 = ((z % 2 : Nat) : Int) := by
  have h := u32_and_nat z 1 hz (by omega)
  have e : z &&& 1 = z % 2 := Nat.and_two_pow_sub_one_eq_mod z 1
  rw [e] at h
  exact h

/-- Place: a number from 0 to n - 1. -/
theorem Place_any (k n : Int) (w : World) (hk : I64 k) (h0 : 0 < n) (h1 : n ≤ 1000000000) :
    Calls Tryz.prog 20 #[.int .i64 k, .int .i64 n] w fun e w' => ∃ p : Nat, e = .returned (.int .i64 p) ∧ (p : Int) < n ∧ w' = w := by
  obtain ⟨k1, k2⟩ := hk
  have hb1 := Int.tmod_lt_of_pos k h0
  have hb2 := Int.lt_tmod_of_pos k h0
  have hne : (n == 0) = false := beq_eq_false_iff_ne.2 (by omega)
  have hne' : ¬ n = 0 := by omega
  by_cases hneg : k.tmod n < 0
  · go_enter Tryz.func20, Tryz.ntmps20
    go_wp2
    go_ret
    refine ⟨(k.tmod n + n).toNat, ?_, ?_, rfl⟩
    · exact congrArg (fun q => Ending.returned (Value.int .i64 q)) (by omega)
    · omega
  · go_enter Tryz.func20, Tryz.ntmps20
    go_wp2
    go_ret
    refine ⟨(k.tmod n).toNat, ?_, ?_, rfl⟩
    · exact congrArg (fun q => Ending.returned (Value.int .i64 q)) (by omega)
    · omega
end Go.Proofs.YtbfhcbihgleddaaGreatDoor

/-
  Rows of bytes, boxes, what stays: the laws of the walks over package disk (turned from the walks over package codec).
-/
namespace Go
section
variable {P : Program} {w : World}
end
end Go
namespace Go.Proofs.YtbfhcbihgleddaaGreatDoor
open Go.RowKit

end Go.Proofs.YtbfhcbihgleddaaGreatDoor
/-
  The program's disk as it lies: a box, and a map of files by names.
-/
namespace Go.Proofs.YtbfhcbihgleddaaGreatDoor
open Go.RowKit Go.Maps

/-- How a file reads. -/
def fileR (v : Value) : Option (DataW Unit × List MemPlace) :=
  match v with
  | .agg ⟨[.string s, .int .i64 n]⟩ => if s.size ≤ maxLen ∧ (Lit.int .i64 n).wf = true then some (.agg [.lit (.string s.data.toList), .lit (.int .i64 n)], []) else none
  | _ => none
/-- A file's datum. -/
def fd (s : ByteArray) (n : Int) : DataW Unit := .agg [.lit (.string s.data.toList), .lit (.int .i64 n)]
theorem fileR_mk {s : ByteArray} {n : Int} (hs : s.size ≤ maxLen) (hn : (Lit.int .i64 n).wf = true) : fileR (.agg #[.string s, .int .i64 n]) = some (fd s n, []) := by
  simp only [fileR, hs, hn, and_self, if_true, fd]
theorem fileR_inv {v : Value} {d : DataW Unit} {ps : List MemPlace} (h : fileR v = some (d, ps)) : ∃ s n, v = .agg #[.string s, .int .i64 n] ∧ d = fd s n ∧ s.size ≤ maxLen ∧ (Lit.int .i64 n).wf = true := by
  unfold fileR at h
  split at h
  · rename_i s n
    split at h
    · rename_i hc
      simp only [Option.some.injEq, Prod.mk.injEq] at h
      exact ⟨s, n, rfl, h.1.symm, hc.1, hc.2⟩
    · cases h
  · cases h
theorem fd_inj {s s' : ByteArray} {n n' : Int} (h : fd s n = fd s' n') : s = s' ∧ n = n' := by
  simp only [fd, DataW.agg.injEq, List.cons.injEq, DataW.lit.injEq, Lit.string.injEq, Lit.int.injEq, and_true, true_and] at h
  refine ⟨?_, h.2⟩
  have := h.1
  cases s with | mk a => cases s' with | mk b => cases a with | mk x => cases b with | mk y => simpa using this

/-- A disk: its files, and its three numbers. -/
structure Dk where
  D : DataW Unit
  used : Int
  room : Int
  left : Int
/-- The disk d lies in box k, its files in map b. -/
structure DiskAt (w : World) (k b n : Nat) (d : Dk) : Prop where
  box : BoxT 78 w k #[.map (some b), .int .i64 d.used, .int .i64 d.room, .int .i64 d.left]
  map : w.ownsMap Tryz.prog 9 fileR b n d.D
  used : (Lit.int .i64 d.used).wf = true
  room : (Lit.int .i64 d.room).wf = true
  left : (Lit.int .i64 d.left).wf = true
/-- Nothing but box k and map b has turned; there may be more. -/
structure Turned (k b : Nat) (w w' : World) : Prop where
  os : w'.os = w.os
  tape : w'.tape = w.tape
  output : w'.output = w.output
  size : w.heap.size ≤ w'.heap.size
  block : ∀ i, i < w.heap.size → i ≠ k → i ≠ b → w'.heap[i]? = w.heap[i]?
theorem Turned.refl (k b : Nat) (w : World) : Turned k b w w := ⟨rfl, rfl, rfl, Nat.le_refl _, fun _ _ _ _ => rfl⟩
theorem Turned.trans {k b : Nat} {u v w : World} (h : Turned k b u v) (h' : Turned k b v w) : Turned k b u w :=
  ⟨h'.os.trans h.os, h'.tape.trans h.tape, h'.output.trans h.output, Nat.le_trans h.size h'.size, fun i hi h1 h2 => (h'.block i (Nat.lt_of_lt_of_le hi h.size) h1 h2).trans (h.block i hi h1 h2)⟩
theorem Turned.below {k b : Nat} {w w' : World} (h : Below w.heap.size w w') : Turned k b w w' := ⟨h.os, h.tape, h.output, h.size, fun i hi _ _ => h.block i hi⟩
theorem Turned.set (k b : Nat) (w : World) (j : Nat) (u : Value) : Turned k b w (w.setCell ⟨k, j, none⟩ u) :=
  ⟨rfl, rfl, rfl, by simp, fun i _ h1 _ => Below.heap_setCell w ⟨k, j, none⟩ u i h1⟩
theorem Turned.map {k b : Nat} {w w' : World} (h : w.mapTurned w' b) : Turned k b w w' :=
  have g := h.grown
  ⟨g.os, g.tape, g.output, g.size, fun i hi _ h2 => g.block i hi (fun e => h2 (by simpa using e))⟩
theorem DiskAt.ne {w : World} {k b n : Nat} {d : Dk} (h : DiskAt w k b n d) : k ≠ b := by
  intro e
  subst e
  obtain ⟨es, clock, hb, _⟩ := h.map
  have := h.box
  unfold BoxT at this
  rw [this] at hb
  cases hb
theorem DiskAt.below {w w' : World} {k b n : Nat} {d : Dk} (h : DiskAt w k b n d) (hb : Below w.heap.size w w') : DiskAt w' k b n d := by
  refine ⟨?_, ?_, h.used, h.room, h.left⟩
  · have h1 := h.box
    have hl := h.box.lt
    unfold BoxT at *
    rw [hb.block k hl]; exact h1
  · obtain ⟨es, clock, h1, h2⟩ := h.map
    exact ⟨es, clock, (hb.block b h.map.lt).trans h1, h2⟩
theorem DiskAt.alloc {w : World} {k b n : Nat} {d : Dk} (h : DiskAt w k b n d) (o : Obj) : DiskAt (w.alloc o) k b n d := h.below ((Below.refl _ _).alloc (Nat.le_refl _) o)
theorem DiskAt.mono {w : World} {k b n n' : Nat} {d : Dk} (h : DiskAt w k b n d) (hn : n ≤ n') : DiskAt w k b n' d := ⟨h.box, h.map.mono hn, h.used, h.room, h.left⟩

set_option maxHeartbeats 400000 in
set_option maxRecDepth 100000 in
theorem Dead_any {w : World} {k b n : Nat} {d : Dk} (h : DiskAt w k b n d) :
    Calls Tryz.prog 22 #[.pointer (some ⟨k, 0, none⟩)] w fun e w' => e = .returned (.bool (d.left == 0)) ∧ w' = w := by
  obtain ⟨c0, c1, c2, c3⟩ := h.box.cells4
  go_enter Tryz.func22, Tryz.ntmps22
  go_wp2
  go_ret
  exact ⟨rfl, rfl⟩

set_option maxHeartbeats 400000 in
set_option maxRecDepth 100000 in
theorem Used_any {w : World} {k b n : Nat} {d : Dk} (h : DiskAt w k b n d) :
    Calls Tryz.prog 16 #[.pointer (some ⟨k, 0, none⟩)] w fun e w' => e = .returned (.int .i64 d.used) ∧ w' = w := by
  obtain ⟨c0, c1, c2, c3⟩ := h.box.cells4
  go_enter Tryz.func16, Tryz.ntmps16
  go_wp2
  go_ret
  exact ⟨rfl, rfl⟩

/-- A name of 1 to 32 bytes. -/
def isNm (s : ByteArray) : Bool := decide (1 ≤ s.size ∧ s.size ≤ 32)
set_option maxHeartbeats 400000 in
set_option maxRecDepth 100000 in
theorem isName_any (s : ByteArray) (w : World) : Calls Tryz.prog 54 #[.string s] w fun e w' => e = .returned (.bool (isNm s)) ∧ w' = w := by
  unfold isNm
  by_cases h1 : 1 ≤ s.size
  · by_cases h2 : s.size ≤ 32
    · go_enter Tryz.func54, Tryz.ntmps54
      go_wp2
      go_ret
      exact ⟨ret_bool0 (by rw [Bool.eq_iff_iff]; simp <;> omega), rfl⟩
    · go_enter Tryz.func54, Tryz.ntmps54
      go_wp2
      go_ret
      exact ⟨ret_bool0 (by rw [Bool.eq_iff_iff]; simp <;> omega), rfl⟩
  · go_enter Tryz.func54, Tryz.ntmps54
    go_wp2
    go_ret
    exact ⟨ret_bool0 rfl, rfl⟩

theorem Tryz.zero67 (w : World) : (zeroValue 99).run Tryz.prog w = .ok (.agg #[.string ByteArray.empty, .int .i64 0]) w := by
  have h : (Tryz.prog.info? 99).map (fun i => i.zero) = some (some (.agg #[.string ByteArray.empty, .int .i64 0])) := by kernel_rfl
  obtain ⟨i, hi, hz⟩ := Option.map_eq_some_iff.1 h
  simp [zeroValue, typeInfo, hi, hz]
def key (s : ByteArray) : Lit := .string s.data.toList
def nofile : DataW Unit := fd ByteArray.empty 0
/-- What find tells: the file's bytes, how many are synced, why there is none to be had. -/
def dFind (d : Dk) (s : ByteArray) : DataW Unit × Int :=
  if d.left = 0 then (nofile, 23) else if has d.D (key s) then (d.D.atKey (key s) nofile, 0) else (nofile, 20)
theorem keyOf_name {s : ByteArray} (hs : s.size ≤ maxLen) : keyOf Tryz.prog 9 (.string s) = some (key s) := WideMaps.keyOf_string_mk (P := Tryz.prog) Tryz.underlying9 hs
theorem nofile_R : fileR (.agg #[.string ByteArray.empty, .int .i64 0]) = some (nofile, []) := fileR_mk (by decide) (by decide)
theorem BoxT.two {t : TypeId} {w : World} {k : Nat} {c0 c1 : Value} (h : BoxT t w k #[c0, c1]) (u0 u1 : Value) : BoxT t ((w.setCell ⟨k, 0, none⟩ u0).setCell ⟨k, 1, none⟩ u1) k #[u0, u1] := by
  have h0 : BoxT t _ _ #[u0, c1] := h.set 0 u0
  exact h0.set 1 u1

set_option maxHeartbeats 2000000 in
set_option maxRecDepth 100000 in
theorem find_any {w : World} {k b n : Nat} {d : Dk} (h : DiskAt w k b n d) (s : ByteArray) (hs : s.size ≤ maxLen) :
    Calls Tryz.prog 52 #[.pointer (some ⟨k, 0, none⟩), .string s] w fun e w' => ∃ x m, e = .returned (.tuple #[.agg #[.string x, .int .i64 m], .int .i64 (dFind d s).2]) ∧ Hid ((dFind d s).1 = fd x m) ∧ Hid (x.size ≤ maxLen) ∧ Below w.heap.size w w' := by
  have h1 := h.alloc (.cells #[.string ByteArray.empty, .int .i64 0] 99)
  have bA := BoxT.new 99 w #[.string ByteArray.empty, .int .i64 0]
  have hb0 := (Below.refl w.heap.size w).alloc (Nat.le_refl _) (.cells #[.string ByteArray.empty, .int .i64 0] 99)
  obtain ⟨c0, c1, c2, c3⟩ := h1.box.cells4
  have hmap : Hid ((w.alloc (.cells #[.string ByteArray.empty, .int .i64 0] 99)).ownsMap Tryz.prog 9 fileR b n d.D) := h1.map
  obtain ⟨d0, d1⟩ := bA.cells2
  have fa := bA.free
  have hkl := h.box.lt
  by_cases hl : d.left = 0
  · have e1 : dFind d s = (nofile, 23) := by unfold dFind; rw [if_pos hl]
    rw [e1]
    have hd := Dead_any h1
    have e2 : (d.left == 0) = true := by simp [hl]
    rw [e2] at hd
    clear hmap
    go_enter Tryz.func52, Tryz.ntmps52
    go_wp2_with fail
    refine hd.mono ?_
    rintro e w1 ⟨rfl, rfl⟩
    clear hd
    go_wp2
    obtain ⟨x0, x1⟩ := bA.cells2
    exact bodyPost_ret (v := .tuple #[.agg #[.string ByteArray.empty, .int .i64 0], .int .i64 23]) (by simp [results, Tryz.results52, go_sem]; rfl) rfl ⟨_, _, rfl, rfl, by show _ ≤ _; decide, hb0⟩
  have e2 : (d.left == 0) = false := by simp [hl]
  have hd := Dead_any h1
  rw [e2] at hd
  generalize hh : has d.D (key s) = hb
  have HH : Hid (has d.D (key s) = hb) := hh
  cases hb
  · have e1 : dFind d s = (nofile, 20) := by unfold dFind; rw [if_neg hl, if_neg (by rw [hh]; decide)]
    rw [e1]
    clear hh
    go_enter Tryz.func52, Tryz.ntmps52
    go_wp2_with fail
    refine hd.mono ?_
    rintro e w1 ⟨rfl, rfl⟩
    clear hd
    go_wp2_with (first | (at_lookup; refine wpList_lookup_own_ok _ rfl _ _ 76 rfl 9 99 (string_keyed Tryz.underlying9) Tryz.underlying76 fileR (Tryz.zero67 _) nofile [] nofile_R b n d.D rfl hmap.out _ _ rfl (keyOf_name hs) ?_; intro v ps hv; rw [HH.out]; obtain ⟨x, m, rfl, hxm, hxs, hmw⟩ := fileR_inv hv) | fail)
    exact bodyPost_ret (v := .tuple #[.agg #[.string ByteArray.empty, .int .i64 0], .int .i64 20]) (by simp [results, Tryz.results52, go_sem]; rfl) rfl ⟨_, _, rfl, rfl, by show _ ≤ _; decide, hb0.alloc (by simp) _⟩
  · have e1 : dFind d s = (d.D.atKey (key s) nofile, 0) := by unfold dFind; rw [if_neg hl, if_pos hh]
    rw [e1]
    clear hh
    go_enter Tryz.func52, Tryz.ntmps52
    go_wp2_with fail
    refine hd.mono ?_
    rintro e w1 ⟨rfl, rfl⟩
    clear hd
    go_wp2_with (first | (at_lookup; refine wpList_lookup_own_ok _ rfl _ _ 76 rfl 9 99 (string_keyed Tryz.underlying9) Tryz.underlying76 fileR (Tryz.zero67 _) nofile [] nofile_R b n d.D rfl hmap.out _ _ rfl (keyOf_name hs) ?_; intro v ps hv; rw [HH.out]; obtain ⟨x, m, rfl, hxm, hxs, hmw⟩ := fileR_inv hv) | fail)
    have hb1 : Below w.heap.size w ((w.alloc (.cells #[.string x, .int .i64 m] 99)).alloc (.cells #[.string x, .int .i64 m] 99)) := ((Below.refl _ _).alloc (Nat.le_refl _) _).alloc (by simp) _
    exact bodyPost_ret (v := .tuple #[.agg #[.string x, .int .i64 m], .int .i64 0]) (by simp [results, Tryz.results52, go_sem]) rfl ⟨_, _, rfl, hxm, hxs, hb1⟩
end Go.Proofs.YtbfhcbihgleddaaGreatDoor
