/-
  Texts of the vault, in build order: MathSnap, LawMan, MathCuts.
-/
import Derived.Test.YtbfhcbihgleddaaGreatDoorM12
import Derived.Test.YtbfhcbihgleddaaGreatDoorM07
import Derived.Test.YtbfhcbihgleddaaGreatDoorM10
/-
  What is read of a part's bytes is the part.
-/
namespace Go.Proofs.YtbfhcbihgleddaaGreatDoor
open Go.RowKit

/-- A reader that reads what a writer wrote, of those that are good. -/
theorem rL_of {α : Type} (rd : (List Nat × Bool) → α × (List Nat × Bool)) (enc : α → List Nat) (xs : List α) (h : ∀ x ∈ xs, ∀ l, rd (enc x ++ l, false) = (x, (l, false))) : ∀ l, rL rd xs.length (xs.flatMap enc ++ l, false) = (xs, (l, false)) := by
  induction xs with
  | nil => intro l; rfl
  | cons x xs ih =>
    intro l
    have e : (x :: xs).flatMap enc ++ l = enc x ++ (xs.flatMap enc ++ l) := by simp
    rw [e, List.length_cons]
    unfold rL
    rw [h x (by simp) _]
    simp only [Bool.false_eq_true, if_false, ih (fun y hy => h y (by simp [hy])) l]
theorem rList_of {α : Type} (rd : (List Nat × Bool) → α × (List Nat × Bool)) (enc : α → List Nat) (most : Nat) (xs : List α) (hm : xs.length ≤ most) (hs : xs.length ≤ 65535) (h : ∀ x ∈ xs, ∀ l, rd (enc x ++ l, false) = (x, (l, false))) (l : List Nat) : rList rd most ((be 2 xs.length ++ xs.flatMap enc) ++ l, false) = (xs, (l, false)) := by
  unfold rList
  rw [List.append_assoc, num_be 2 _ _ _ (by omega)]
  simp only [if_neg (show ¬ most < xs.length by omega), rL_of rd enc xs h l]
def Pn.ok (p : Pn) : Prop := I64 p.ke ∧ I64 p.fr ∧ I64 p.to ∧ I64 p.ac
def Frm.ok (f : Frm) : Prop := I64 f.ke ∧ I64 f.ti ∧ I64 f.va ∧ I64 f.ma ∧ U64 f.n
def Ot.ok (o : Ot) : Prop := o.f.ok
structure Sn.ok (s : Sn) : Prop where
  mark : I64 s.mark
  marks : ∀ x ∈ s.marks, I64 x
  panes : ∀ x ∈ s.panes, x.ok
  outs : ∀ x ∈ s.outs, x.ok
theorem rInt_of (n : Int) (h : I64 n) (l : List Nat) : (i64of (num 8 (sbe n ++ l, false)).1, (num 8 (sbe n ++ l, false)).2) = (n, (l, false)) := by
  rw [num_sbe, i64of_wrap n h.1 h.2]
theorem rPane_of (p : Pn) (h : p.ok) (l : List Nat) : rPane (pnb p ++ l, false) = (p, (l, false)) := by
  obtain ⟨ke, fr, to, ac⟩ := p
  obtain ⟨h1, h2, h3, h4⟩ := h
  simp only at h1 h2 h3 h4
  have e : pnb ⟨ke, fr, to, ac⟩ ++ l = sbe ke ++ (sbe fr ++ (sbe to ++ (sbe ac ++ l))) := by simp [pnb]
  unfold rPane
  simp only [e, num_sbe, i64of_wrap _ h1.1 h1.2, i64of_wrap _ h2.1 h2.2, i64of_wrap _ h3.1 h3.2, i64of_wrap _ h4.1 h4.2]
theorem rOut_of (o : Ot) (hf : o.fits = true) (h : o.ok) (l : List Nat) : rOut (otb o ++ l, false) = (o, (l, false)) := by
  obtain ⟨ch, kd, ke, ti, va, ma, n, ov⟩ := o
  obtain ⟨h1, h2, h3, h4, h5⟩ := h
  unfold Ot.fits at hf
  rw [Bool.and_eq_true] at hf
  have hc := of_decide_eq_true hf.1
  have hff : fits kd ke ti va ma n ov = true := hf.2
  simp only at h1 h2 h3 h4 h5 hc
  have e : otb ⟨ch, kd, ke, ti, va, ma, n, ov⟩ ++ l = be 2 ch.toNat ++ (frb kd ke ti va ma n ov ++ l) := by simp [otb, Frm.b]
  unfold rOut
  rw [e, num_be 2 _ _ _ (by omega)]
  simp only [rFrame_frb kd ke ti va ma n ov l hff h1 h2 h3 h4 h5, Int.toNat_of_nonneg hc.1]
theorem Sn.form_iff (s : Sn) : s.form = true ↔ (0 ≤ s.task ∧ s.task ≤ 65535) ∧ (0 ≤ s.off ∧ s.off ≤ 65535) ∧ ∀ o ∈ s.outs, o.fits = true := by
  unfold Sn.form fitsO
  simp [List.all_eq_true]
theorem Sn.big_iff (s : Sn) : s.big = false ↔ s.panes.length ≤ 4096 ∧ s.outs.length ≤ 4096 ∧ s.marks.length ≤ 65535 := by
  unfold Sn.big
  rw [decide_eq_false_iff_not]
  omega
theorem rSnap_of (s : Sn) (hb : s.big = false) (hf : s.form = true) (h : s.ok) (l : List Nat) : rSnap (snb s ++ l, false) = (s, (l, false)) := by
  obtain ⟨b1, b2, b3⟩ := (Sn.big_iff s).1 hb
  obtain ⟨⟨f1, f2⟩, ⟨f3, f4⟩, f5⟩ := (Sn.form_iff s).1 hf
  have e : snb s ++ l = be 2 s.task.toNat ++ (be 2 s.off.toNat ++ (sbe s.mark ++ ((be 2 s.marks.length ++ s.marks.flatMap sbe) ++ ((be 2 s.panes.length ++ s.panes.flatMap pnb) ++ ((be 2 s.outs.length ++ s.outs.flatMap otb) ++ l))))) := by
    simp only [snb, List.append_assoc]
  have r3 := rList_of (fun s => (i64of (num 8 s).1, (num 8 s).2)) sbe 65535 s.marks b3 b3 (fun x hx l => rInt_of x (h.marks x hx) l)
  have r4 := rList_of rPane pnb 4096 s.panes b1 (by omega) (fun x hx l => rPane_of x (h.panes x hx) l)
  have r5 := rList_of rOut otb 4096 s.outs b2 (by omega) (fun x hx l => rOut_of x (f5 x hx) (h.outs x hx) l)
  unfold rSnap
  simp only [e, num_be 2 s.task.toNat _ _ (by omega), num_be 2 s.off.toNat _ _ (by omega), num_sbe, i64of_wrap _ h.mark.1 h.mark.2, r3, r4, r5, Int.toNat_of_nonneg f1, Int.toNat_of_nonneg f3]
theorem flat_byts {α : Type} (enc : α → List Nat) (h : ∀ x, Byts (enc x)) (xs : List α) : Byts (xs.flatMap enc) := by
  induction xs with
  | nil => exact Byts.nil
  | cons x xs ih => rw [List.flatMap_cons]; exact (h x).app ih
theorem pnb_byts (p : Pn) : Byts (pnb p) := (Byts.sbe _).app ((Byts.sbe _).app ((Byts.sbe _).app (Byts.sbe _)))
theorem otb_byts (o : Ot) : Byts (otb o) := (Byts.be _ _).app (frb_byts _ _ _ _ _ _ _)
theorem snb_byts (s : Sn) : Byts (snb s) :=
  (Byts.be _ _).app ((Byts.be _ _).app ((Byts.sbe _).app (((Byts.be _ _).app (flat_byts _ Byts.sbe _)).app (((Byts.be _ _).app (flat_byts _ pnb_byts _)).app ((Byts.be _ _).app (flat_byts _ otb_byts _))))))
theorem snb_len (s : Sn) (hb : s.big = false) : (snb s).length ≤ 1000000 := by
  obtain ⟨b1, b2, b3⟩ := (Sn.big_iff s).1 hb
  have h1 := flat_len sbe 8 (fun n => Nat.le_of_eq (sbe_len n)) s.marks
  have h2 := flat_len pnb 32 (fun n => Nat.le_of_eq (pnb_len n)) s.panes
  have h3 := flat_len otb 27 otb_len s.outs
  simp only [snb, List.length_append, be_length, sbe_len]
  omega
theorem sOut_len (s : Sn) : (sOut s).length ≤ 1000000 := by
  unfold sOut
  split
  · simp
  · rename_i h
    split
    · exact snb_len s (by simpa using h)
    · simp
end Go.Proofs.YtbfhcbihgleddaaGreatDoor
/-
  The law of manifests, walked.
-/
namespace Go.Proofs.YtbfhcbihgleddaaGreatDoor
open Go.RowKit

theorem rName_of (s : ByteArray) (l : List Nat) (h : s.size ≤ 32) : rName (nameb s ++ l, false) = (s, (l, false)) := by
  have e : nameb s ++ l = s.size :: (sb s ++ l) := rfl
  unfold rName
  rw [e, num_one]
  simp only [if_neg (show ¬ 32 < s.size by omega)]
  have ht : takeS s.size (sb s ++ l, false) = (sb s, (l, false)) := by
    unfold takeS
    rw [if_pos (by simp [sb_length])]
    have h1 : (sb s ++ l).take s.size = sb s := List.take_left' (sb_length s)
    have h2 : (sb s ++ l).drop s.size = l := List.drop_left' (sb_length s)
    simp only [h1, h2]
  rw [ht, strOf_sb]
theorem rListS_of (ss : List ByteArray) : (∀ s ∈ ss, s.size ≤ 32) → ∀ l, rListS ss.length (namesb ss ++ l, false) = (ss, (l, false)) := by
  induction ss with
  | nil => intro _ l; rfl
  | cons s ss ih =>
    intro h l
    have e : namesb (s :: ss) ++ l = nameb s ++ (namesb ss ++ l) := by simp [namesb]
    have h1 := rName_of s (namesb ss ++ l) (h s (by simp))
    rw [e, List.length_cons]
    unfold rListS
    rw [h1]
    simp only [Bool.false_eq_true, if_false, ih (fun t ht => h t (by simp [ht])) l]
theorem rMan_of (n ep : Int) (ss : List ByteArray) (l : List Nat) (h1 : U64 n) (h2 : U64 ep) (h : mfits ss = true) : rMan (manb n ep ss ++ l, false) = (⟨n.toNat, ep.toNat, ss⟩, (l, false)) := by
  unfold mfits at h
  rw [Bool.and_eq_true] at h
  have hl := of_decide_eq_true h.1
  have hs : ∀ s ∈ ss, s.size ≤ 32 := fun s hs => by have := List.all_eq_true.1 h.2 s hs; simpa using this
  have e : manb n ep ss ++ l = be 8 n.toNat ++ (be 8 ep.toNat ++ (be 2 ss.length ++ (namesb ss ++ l))) := by simp [manb]
  have b1 : n.toNat < 2 ^ (8 * 8) := by have := h1.2; omega
  have b2 : ep.toNat < 2 ^ (8 * 8) := by have := h2.2; omega
  have b3 : ss.length < 2 ^ (8 * 2) := by omega
  rw [e]
  unfold rMan
  simp only [num_be 8 _ _ _ b1, num_be 8 _ _ _ b2, num_be 2 _ _ _ b3, rListS_of ss hs l]
theorem namesb_byts (ss : List ByteArray) (h : ∀ s ∈ ss, s.size ≤ 32) : Byts (namesb ss) := by
  induction ss with
  | nil => exact Byts.nil
  | cons s ss ih =>
    have e : namesb (s :: ss) = nameb s ++ namesb ss := by simp [namesb]
    rw [e]
    exact (Byts.cons (by have := h s (by simp); omega) (sb_byts s)).app (ih (fun t ht => h t (by simp [ht])))
theorem manb_byts (n ep : Int) (ss : List ByteArray) (h : mfits ss = true) : Byts (manb n ep ss) := by
  unfold mfits at h
  rw [Bool.and_eq_true] at h
  have hs : ∀ s ∈ ss, s.size ≤ 32 := fun s hs => by have := List.all_eq_true.1 h.2 s hs; simpa using this
  exact (Byts.be _ _).app ((Byts.be _ _).app ((Byts.be _ _).app (namesb_byts ss hs)))

def nsum (ss : List ByteArray) : Nat := (ss.map fun s => s.size + 1).sum
theorem nsum_snoc (ss : List ByteArray) (k : Nat) (s : ByteArray) (h : ss[k]? = some s) : nsum (ss.take (k + 1)) = nsum (ss.take k) + (s.size + 1) := by
  unfold nsum
  rw [List.take_add_one, h, List.map_append, List.sum_append]; simp
theorem nsum_len (ss : List ByteArray) : ss.length ≤ nsum ss := by
  induction ss with
  | nil => simp
  | cons s ss ih => simp only [nsum, List.map_cons, List.sum_cons, List.length_cons] at *; omega
theorem nsum_names (ss : List ByteArray) : (namesb ss).length = nsum ss := by
  induction ss with
  | nil => rfl
  | cons s ss ih =>
    simp only [namesb, nsum, List.flatMap_cons, List.length_append, List.map_cons, List.sum_cons] at *
    rw [ih]; simp [nameb, sb_length]
theorem mOut_len (n ep : Int) (ss : List ByteArray) : (mOut n ep ss).length ≤ 18 + nsum ss := by
  unfold mOut
  split
  · simp only [manb, List.length_append, be_length, nsum_names]; omega
  · simp

/-- In the midst of the law: its box, and that what was there is as it was. -/
structure LM (w W : World) (mc : Array Value) : Prop where
  bm : BoxT 110 W w.heap.size mc
  bel : Below w.heap.size w W
  gl : Glob W
theorem LM.step {w W W' : World} {mc : Array Value} (h : LM w W mc) (hb : Below W.heap.size W W') : LM w W' mc :=
  ⟨h.bm.kept (base := 0) (Kept.of_below hb) (by decide), h.bel.trans (hb.mono h.bel.size), h.gl.below hb h.gl.1⟩
theorem LM.start (w : World) (mc : Array Value) (hg : Glob w) : LM w (w.alloc (.cells mc 110)) mc := by
  have hb : Below w.heap.size w (w.alloc (.cells mc 110)) := (Below.refl _ _).alloc (Nat.le_refl _) _
  exact ⟨BoxT.new 110 w mc, hb, hg.below hb hg.1⟩
theorem SSeg.lm {w W : World} {mc : Array Value} {v : Value} {ss : List ByteArray} (h : SSeg w.heap.size w v ss) (q : LM w W mc) : SSeg W.heap.size W v ss := (h.below q.bel).mono q.bel.size

end Go.Proofs.YtbfhcbihgleddaaGreatDoor
/-
  Readers that end well do the same where more bytes stand behind: so what is cut off is refused.
-/
namespace Go.Proofs.YtbfhcbihgleddaaGreatDoor
open Go.RowKit

def ext (m : List Nat) (s : List Nat × Bool) : List Nat × Bool := (s.1 ++ m, s.2)
/-- What ends well began well, and does the same where m stands behind. -/
def Mono {α : Type} (f : (List Nat × Bool) → α × (List Nat × Bool)) : Prop := ∀ s m, (f s).2.2 = false → s.2 = false ∧ f (ext m s) = ((f s).1, ext m (f s).2)
theorem mono_num (k : Nat) : Mono (num k) := by
  intro s m h
  by_cases hk : k ≤ s.1.length
  · rw [num_yes hk] at h ⊢
    refine ⟨h, ?_⟩
    have hk' : k ≤ (ext m s).1.length := by simp only [ext, List.length_append]; omega
    rw [num_yes hk']
    simp only [ext, List.take_append_of_le_length hk, List.drop_append_of_le_length hk]
  · rw [num_no hk] at h
    cases h
theorem mono_take (k : Nat) : Mono (takeS k) := by
  intro s m h
  unfold takeS at h ⊢
  by_cases hk : k ≤ s.1.length
  · have hk' : k ≤ (ext m s).1.length := by simp only [ext, List.length_append]; omega
    rw [if_pos hk] at h ⊢
    rw [if_pos hk']
    refine ⟨h, ?_⟩
    simp only [ext, List.take_append_of_le_length hk, List.drop_append_of_le_length hk]
  · rw [if_neg hk] at h
    cases h
theorem mono_int : Mono (fun s => (i64of (num 8 s).1, (num 8 s).2)) := by
  intro s m h
  obtain ⟨g, e⟩ := mono_num 8 s m h
  exact ⟨g, by simp only [e]⟩
theorem mono_flag : Mono rFlag := by
  intro s m h
  unfold rFlag at h ⊢
  by_cases h1 : 1 < (num 1 s).1
  · simp only [if_pos h1] at h; cases h
  · simp only [if_neg h1] at h ⊢
    obtain ⟨g, e⟩ := mono_num 1 s m h
    exact ⟨g, by simp only [e, if_neg h1]⟩
theorem mono_pane : Mono rPane := by
  intro s m h
  obtain ⟨g3, e4⟩ := mono_num 8 _ m (show (num 8 (num 8 (num 8 (num 8 s).2).2).2).2.2 = false from h)
  obtain ⟨g2, e3⟩ := mono_num 8 _ m g3
  obtain ⟨g1, e2⟩ := mono_num 8 _ m g2
  obtain ⟨g0, e1⟩ := mono_num 8 _ m g1
  exact ⟨g0, by unfold rPane; simp only [e1, e2, e3, e4]⟩
theorem mono_frame : Mono rFrame := by
  intro s m h
  unfold rFrame at h ⊢
  by_cases h1 : (num 1 s).1 = 1
  · simp only [if_pos h1] at h ⊢
    obtain ⟨g3, e4⟩ := mono_num 8 _ m h
    obtain ⟨g2, e3⟩ := mono_num 8 _ m g3
    obtain ⟨g1, e2⟩ := mono_num 8 _ m g2
    obtain ⟨g0, e1⟩ := mono_num 1 _ m g1
    exact ⟨g0, by simp only [e1, e2, e3, e4, if_pos h1]⟩
  by_cases h2 : (num 1 s).1 = 2
  · simp only [if_neg h1, if_pos h2] at h ⊢
    obtain ⟨g1, e2⟩ := mono_num 8 _ m h
    obtain ⟨g0, e1⟩ := mono_num 1 _ m g1
    exact ⟨g0, by simp only [e1, e2, if_neg h1, if_pos h2]⟩
  by_cases h3 : (num 1 s).1 = 3
  · simp only [if_neg h1, if_neg h2, if_pos h3] at h ⊢
    obtain ⟨g2, e3⟩ := mono_flag _ m h
    obtain ⟨g1, e2⟩ := mono_num 8 _ m g2
    obtain ⟨g0, e1⟩ := mono_num 1 _ m g1
    exact ⟨g0, by simp only [e1, e2, e3, if_neg h1, if_neg h2, if_pos h3]⟩
  · simp only [if_neg h1, if_neg h2, if_neg h3] at h
    cases h
theorem mono_out : Mono rOut := by
  intro s m h
  obtain ⟨g1, e2⟩ := mono_frame _ m (show (rFrame (num 2 s).2).2.2 = false from h)
  obtain ⟨g0, e1⟩ := mono_num 2 _ m g1
  exact ⟨g0, by unfold rOut; simp only [e1, e2]⟩
theorem mono_rL {α : Type} {rd : (List Nat × Bool) → α × (List Nat × Bool)} (hrd : Mono rd) (n : Nat) : Mono (rL rd n) := by
  induction n with
  | zero => intro s m h; exact ⟨h, rfl⟩
  | succ n ih =>
    intro s m h
    unfold rL at h
    by_cases hb : s.2 = true
    · simp only [if_pos hb] at h
      rw [hb] at h; cases h
    · simp only [if_neg hb] at h
      obtain ⟨g1, e2⟩ := ih _ m h
      obtain ⟨g0, e1⟩ := hrd _ m g1
      refine ⟨g0, ?_⟩
      have hb' : ¬ (ext m s).2 = true := hb
      conv => lhs; unfold rL
      conv => rhs; unfold rL
      simp only [if_neg hb, if_neg hb', e1, e2]
theorem mono_rList {α : Type} {rd : (List Nat × Bool) → α × (List Nat × Bool)} (hrd : Mono rd) (most : Nat) : Mono (rList rd most) := by
  intro s m h
  unfold rList at h ⊢
  by_cases hm : most < (num 2 s).1
  · simp only [if_pos hm] at h; cases h
  · simp only [if_neg hm] at h ⊢
    obtain ⟨g1, e2⟩ := mono_rL hrd _ _ m h
    obtain ⟨g0, e1⟩ := mono_num 2 _ m g1
    exact ⟨g0, by simp only [e1, e2, if_neg hm]⟩
theorem mono_snap : Mono rSnap := by
  intro s m h
  unfold rSnap at h ⊢
  simp only at h ⊢
  obtain ⟨g5, e6⟩ := mono_rList mono_out 4096 _ m h
  obtain ⟨g4, e5⟩ := mono_rList mono_pane 4096 _ m g5
  obtain ⟨g3, e4⟩ := mono_rList mono_int 65535 _ m g4
  obtain ⟨g2, e3⟩ := mono_num 8 _ m g3
  obtain ⟨g1, e2⟩ := mono_num 2 _ m g2
  obtain ⟨g0, e1⟩ := mono_num 2 _ m g1
  exact ⟨g0, by simp only [e1, e2, e3, e4, e5, e6]⟩
theorem mono_name : Mono rName := by
  intro s m h
  unfold rName at h ⊢
  by_cases hm : 32 < (num 1 s).1
  · simp only [if_pos hm] at h
    have := (mono_take _ _ [] h).1
    cases this
  · simp only [if_neg hm] at h ⊢
    obtain ⟨g1, e2⟩ := mono_take _ _ m h
    obtain ⟨g0, e1⟩ := mono_num 1 _ m g1
    exact ⟨g0, by simp only [e1, e2, if_neg hm]⟩
theorem mono_rListS (n : Nat) : Mono (rListS n) := by
  induction n with
  | zero => intro s m h; exact ⟨h, rfl⟩
  | succ n ih =>
    intro s m h
    unfold rListS at h
    by_cases hb : s.2 = true
    · simp only [if_pos hb] at h
      rw [hb] at h; cases h
    · simp only [if_neg hb] at h
      obtain ⟨g1, e2⟩ := ih _ m h
      obtain ⟨g0, e1⟩ := mono_name _ m g1
      refine ⟨g0, ?_⟩
      have hb' : ¬ (ext m s).2 = true := hb
      conv => lhs; unfold rListS
      conv => rhs; unfold rListS
      simp only [if_neg hb, if_neg hb', e1, e2]
theorem mono_man : Mono rMan := by
  intro s m h
  unfold rMan at h ⊢
  simp only at h ⊢
  obtain ⟨g3, e4⟩ := mono_rListS _ _ m h
  obtain ⟨g2, e3⟩ := mono_num 2 _ m g3
  obtain ⟨g1, e2⟩ := mono_num 8 _ m g2
  obtain ⟨g0, e1⟩ := mono_num 8 _ m g1
  exact ⟨g0, by simp only [e1, e2, e3, e4]⟩
theorem done_eq {s : List Nat × Bool} (h : done s = true) : s = ([], false) := by
  obtain ⟨l, b⟩ := s
  cases b <;> rcases l with _ | ⟨x, l⟩ <;> simp [done] at h ⊢
/-- What is read whole of a is not read of a beginning of a. -/
theorem cut_no {α : Type} {f : (List Nat × Bool) → α × (List Nat × Bool)} (hf : Mono f) {a : List Nat} {x : α} (ha : f (a, false) = (x, ([], false))) {k : Nat} (hk : k < a.length) : done (f (a.take k, false)).2 = false := by
  rcases Bool.eq_false_or_eq_true (done (f (a.take k, false)).2) with h | h
  · exfalso
    have e := done_eq h
    obtain ⟨_, e2⟩ := hf (a.take k, false) (a.drop k) (by rw [e])
    rw [show ext (a.drop k) (a.take k, false) = (a, false) by simp [ext], ha, e] at e2
    have e3 : [] = a.drop k := by
      have := congrArg (fun p => p.2.1) e2
      simpa [ext] using this
    have := congrArg List.length e3
    simp at this
    omega
  · exact h
theorem more_no {x : Nat} {l : List Nat} {b : Bool} : done (x :: l, b) = false := by cases b <;> rfl
end Go.Proofs.YtbfhcbihgleddaaGreatDoor
