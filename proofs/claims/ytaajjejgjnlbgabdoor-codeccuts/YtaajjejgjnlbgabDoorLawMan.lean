/-
  The law of manifests, walked.
-/
import Derived.Test.YtaajjejgjnlbgabDoorOpenMan
namespace Go.Proofs.YtaajjejgjnlbgabDoor
open Go.RowKit

theorem rName_of (s : ByteArray) (l : List Nat) (h : s.size ≤ 32) : rName (nameb s ++ l, false) = (s, (l, false)) := by
  have e : nameb s ++ l = s.size :: (sb s ++ l) := rfl
  unfold rName
  rw [e, num_one]
  simp only [if_neg (show ¬ 32 < s.size by omega)]
  have ht : takeS s.size (sb s ++ l, false) = (sb s, (l, false)) := by
    unfold takeS
    rw [if_pos (by simp [sb_length])]
    have h1 : (sb s ++ l).take s.size = sb s := List.take_left' (sb_length s)
    have h2 : (sb s ++ l).drop s.size = l := List.drop_left' (sb_length s)
    simp only [h1, h2]
  rw [ht, strOf_sb]
theorem rListS_of (ss : List ByteArray) : (∀ s ∈ ss, s.size ≤ 32) → ∀ l, rListS ss.length (namesb ss ++ l, false) = (ss, (l, false)) := by
  induction ss with
  | nil => intro _ l; rfl
  | cons s ss ih =>
    intro h l
    have e : namesb (s :: ss) ++ l = nameb s ++ (namesb ss ++ l) := by simp [namesb]
    have h1 := rName_of s (namesb ss ++ l) (h s (by simp))
    rw [e, List.length_cons]
    unfold rListS
    rw [h1]
    simp only [Bool.false_eq_true, if_false, ih (fun t ht => h t (by simp [ht])) l]
theorem rMan_of (n ep : Int) (ss : List ByteArray) (l : List Nat) (h1 : U64 n) (h2 : U64 ep) (h : mfits ss = true) : rMan (manb n ep ss ++ l, false) = (⟨n.toNat, ep.toNat, ss⟩, (l, false)) := by
  unfold mfits at h
  rw [Bool.and_eq_true] at h
  have hl := of_decide_eq_true h.1
  have hs : ∀ s ∈ ss, s.size ≤ 32 := fun s hs => by have := List.all_eq_true.1 h.2 s hs; simpa using this
  have e : manb n ep ss ++ l = be 8 n.toNat ++ (be 8 ep.toNat ++ (be 2 ss.length ++ (namesb ss ++ l))) := by simp [manb]
  have b1 : n.toNat < 2 ^ (8 * 8) := by have := h1.2; omega
  have b2 : ep.toNat < 2 ^ (8 * 8) := by have := h2.2; omega
  have b3 : ss.length < 2 ^ (8 * 2) := by omega
  rw [e]
  unfold rMan
  simp only [num_be 8 _ _ _ b1, num_be 8 _ _ _ b2, num_be 2 _ _ _ b3, rListS_of ss hs l]
theorem namesb_byts (ss : List ByteArray) (h : ∀ s ∈ ss, s.size ≤ 32) : Byts (namesb ss) := by
  induction ss with
  | nil => exact Byts.nil
  | cons s ss ih =>
    have e : namesb (s :: ss) = nameb s ++ namesb ss := by simp [namesb]
    rw [e]
    exact (Byts.cons (by have := h s (by simp); omega) (sb_byts s)).app (ih (fun t ht => h t (by simp [ht])))
theorem manb_byts (n ep : Int) (ss : List ByteArray) (h : mfits ss = true) : Byts (manb n ep ss) := by
  unfold mfits at h
  rw [Bool.and_eq_true] at h
  have hs : ∀ s ∈ ss, s.size ≤ 32 := fun s hs => by have := List.all_eq_true.1 h.2 s hs; simpa using this
  exact (Byts.be _ _).app ((Byts.be _ _).app ((Byts.be _ _).app (namesb_byts ss hs)))

def nsum (ss : List ByteArray) : Nat := (ss.map fun s => s.size + 1).sum
theorem nsum_snoc (ss : List ByteArray) (k : Nat) (s : ByteArray) (h : ss[k]? = some s) : nsum (ss.take (k + 1)) = nsum (ss.take k) + (s.size + 1) := by
  unfold nsum
  rw [List.take_add_one, h, List.map_append, List.sum_append]; simp
theorem nsum_len (ss : List ByteArray) : ss.length ≤ nsum ss := by
  induction ss with
  | nil => simp
  | cons s ss ih => simp only [nsum, List.map_cons, List.sum_cons, List.length_cons] at *; omega
theorem nsum_names (ss : List ByteArray) : (namesb ss).length = nsum ss := by
  induction ss with
  | nil => rfl
  | cons s ss ih =>
    simp only [namesb, nsum, List.flatMap_cons, List.length_append, List.map_cons, List.sum_cons] at *
    rw [ih]; simp [nameb, sb_length]
theorem mOut_len (n ep : Int) (ss : List ByteArray) : (mOut n ep ss).length ≤ 18 + nsum ss := by
  unfold mOut
  split
  · simp only [manb, List.length_append, be_length, nsum_names]; omega
  · simp

/-- In the midst of the law: its box, and that what was there is as it was. -/
structure LM (w W : World) (mc : Array Value) : Prop where
  bm : BoxT 30 W w.heap.size mc
  bel : Below w.heap.size w W
  gl : Glob W
theorem LM.step {w W W' : World} {mc : Array Value} (h : LM w W mc) (hb : Below W.heap.size W W') : LM w W' mc :=
  ⟨h.bm.kept (base := 0) (Kept.of_below hb) (by decide), h.bel.trans (hb.mono h.bel.size), h.gl.below hb h.gl.1⟩
theorem LM.start (w : World) (mc : Array Value) (hg : Glob w) : LM w (w.alloc (.cells mc 30)) mc := by
  have hb : Below w.heap.size w (w.alloc (.cells mc 30)) := (Below.refl _ _).alloc (Nat.le_refl _) _
  exact ⟨BoxT.new 30 w mc, hb, hg.below hb hg.1⟩
theorem SSeg.lm {w W : World} {mc : Array Value} {v : Value} {ss : List ByteArray} (h : SSeg w.heap.size w v ss) (q : LM w W mc) : SSeg W.heap.size W v ss := (h.below q.bel).mono q.bel.size

end Go.Proofs.YtaajjejgjnlbgabDoor
