/-
  Texts of the vault, in build order: VClean.
-/
import Derived.Test.YtbfhcbihgleddaaGreatDoorM43
/-
  The disk under a vault, up to the order of its files: what each call makes of it.
-/
namespace Go.Proofs.YtbfhcbihgleddaaGreatDoor

/-- The disk has just the files F, and power without end. -/
structure Has (p : Pd) (F : List Fi) : Prop where
  perm : p.l.Perm F
  left : p.left = -1
  nodup : (F.map Fi.n).Nodup
theorem fIns_perm (f : Fi) (l : List Fi) : (fIns f l).Perm (f :: l) := by
  induction l with
  | nil => exact List.Perm.refl _
  | cons g l ih =>
    rw [fIns]
    split
    · exact List.Perm.refl _
    · exact (ih.cons g).trans (List.Perm.swap f g l)
theorem fGet_nodup {l : List Fi} (h : (l.map Fi.n).Nodup) {f : Fi} (hf : f ∈ l) : fGet f.n l = some f := by
  unfold fGet
  induction l with
  | nil => cases hf
  | cons a l ih =>
    rw [List.map_cons, List.nodup_cons] at h
    rcases List.mem_cons.1 hf with rfl | hf
    · simp
    · have hne : (a.n == f.n) = false := by
        rw [beq_eq_false_iff_ne]
        intro e
        exact h.1 (List.mem_map.2 ⟨f, hf, e.symm⟩)
      rw [List.find?_cons, hne]
      exact ih h.2 hf
theorem fGet_out {l : List Fi} {s : List UInt8} (h : s ∉ l.map Fi.n) : fGet s l = none := by
  unfold fGet
  rw [List.find?_eq_none]
  intro f hf e
  exact h (List.mem_map.2 ⟨f, hf, by simpa using e⟩)
section
variable {p : Pd} {F G : List Fi}
theorem Has.names (h : Has p F) : (p.l.map Fi.n).Perm (F.map Fi.n) := h.perm.map _
theorem Has.out (h : Has p F) {s : List UInt8} (hs : s ∉ F.map Fi.n) : s ∉ p.l.map Fi.n := fun hm => hs (h.names.subset hm)
theorem Has.get (h : Has p F) {f : Fi} (hf : f ∈ F) : fGet f.n p.l = some f := fGet_nodup (h.names.nodup_iff.2 h.nodup) (h.perm.symm.subset hf)
theorem Has.none (h : Has p F) {s : List UInt8} (hs : s ∉ F.map Fi.n) : fGet s p.l = Option.none := fGet_out (h.out hs)
theorem fSum_perm {a b : List Fi} (h : a.Perm b) : fSum a = fSum b := by
  unfold fSum
  exact (h.map _).sum_nat
theorem Has.sum (h : Has p F) : fSum p.l = fSum F := fSum_perm h.perm
theorem Has.re (h : Has p F) (hp : F.Perm G) : Has p G := ⟨h.perm.trans hp, h.left, (hp.map Fi.n).nodup_iff.1 h.nodup⟩
theorem fDel_out {l : List Fi} {s : List UInt8} (h : s ∉ l.map Fi.n) : fDel s l = l := fDel_none (fun f hf e => h (List.mem_map.2 ⟨f, hf, e⟩))
theorem fDel_perm {a b : List Fi} (h : a.Perm b) (s : List UInt8) : (fDel s a).Perm (fDel s b) := h.filter _
theorem fDel_cons {f : Fi} {l : List Fi} (h : f.n ∉ l.map Fi.n) : fDel f.n (f :: l) = l := by
  have h1 := fDel_out h
  unfold fDel at *
  rw [List.filter_cons]
  simp only [beq_self_eq_true, Bool.not_true]
  exact h1
theorem done_inf {p : Pd} (h : p.left = -1) : p.done.left = -1 := by unfold Pd.done; simp [h]
/-- A new file. -/
theorem Has.write (h : Has p F) {s : List UInt8} {x : List Nat} (hs : s ∉ F.map Fi.n) (hn : okName s = true) (hr : (fSum F : Int) + x.length ≤ p.room) (hx : x.length ≤ 1048576) : ∃ p', pWrite p s x = (p', 0) ∧ Has p' (⟨s, x, 0⟩ :: F) ∧ p'.room = p.room := by
  have h0 : ¬ (p.left = 0) := by rw [h.left]; decide
  have hw : fWas s p.l = 0 := by unfold fWas; rw [h.none hs]
  have hsum := h.sum
  have hp : pWrite p s x = (({ p with l := fPut ⟨s, x, 0⟩ p.l } : Pd).done, 0) := by
    unfold pWrite
    rw [if_neg h0, if_neg (by rw [hn]; decide), if_neg (by rw [hw]; omega)]
  refine ⟨_, hp, ⟨?_, done_inf (p := { p with l := fPut ⟨s, x, 0⟩ p.l }) h.left, ?_⟩, rfl⟩
  · show (fPut ⟨s, x, 0⟩ p.l).Perm _
    unfold fPut
    rw [fDel_out (h.out hs)]
    exact (fIns_perm _ _).trans (h.perm.cons _)
  · rw [List.map_cons, List.nodup_cons]
    exact ⟨hs, h.nodup⟩
theorem Has.sync {s : List UInt8} {x : List Nat} {y : Nat} (h : Has p (⟨s, x, y⟩ :: F)) : ∃ p', pSync p s = (p', 0) ∧ Has p' (⟨s, x, x.length⟩ :: F) ∧ p'.room = p.room := by
  have h0 : ¬ (p.left = 0) := by rw [h.left]; decide
  have hg : fGet s p.l = some ⟨s, x, y⟩ := h.get (f := ⟨s, x, y⟩) (by simp)
  have hnd := h.nodup
  rw [List.map_cons, List.nodup_cons] at hnd
  have hp : pSync p s = (({ p with l := fPut ⟨s, x, x.length⟩ p.l } : Pd).done, 0) := by
    unfold pSync pFind
    rw [if_neg h0, hg]
  refine ⟨_, hp, ⟨?_, done_inf (p := { p with l := fPut ⟨s, x, x.length⟩ p.l }) h.left, ?_⟩, rfl⟩
  · show (fPut ⟨s, x, x.length⟩ p.l).Perm _
    unfold fPut
    refine (fIns_perm _ _).trans (List.Perm.cons _ ?_)
    refine (fDel_perm h.perm s).trans ?_
    rw [show s = (⟨s, x, y⟩ : Fi).n from rfl, fDel_cons hnd.1]
  · rw [List.map_cons, List.nodup_cons]
    exact hnd
theorem Has.store (h : Has p F) {s : ByteArray} {c : List Nat} (hs : nm s ∉ F.map Fi.n) (hn : okName (nm s) = true) (hr : (fSum F : Int) + (sealed c).length ≤ p.room) (hx : (sealed c).length ≤ 1048576) : ∃ p', pStore p s c = (p', 0, true) ∧ Has p' (⟨nm s, sealed c, (sealed c).length⟩ :: F) ∧ p'.room = p.room := by
  obtain ⟨p1, e1, h1, r1⟩ := h.write hs hn hr hx
  obtain ⟨p2, e2, h2, r2⟩ := h1.sync
  refine ⟨p2, ?_, h2, r2.trans r1⟩
  unfold pStore
  rw [e1]
  simp only [if_true, e2]
theorem Has.rename {s t : List UInt8} {x : List Nat} {y : Nat} (h : Has p (⟨s, x, y⟩ :: F)) (ht : t ∉ F.map Fi.n) (hn : okName t = true) : ∃ p', pRename p s t = (p', 0) ∧ Has p' (⟨t, x, y⟩ :: F) ∧ p'.room = p.room := by
  have h0 : ¬ (p.left = 0) := by rw [h.left]; decide
  have hg : fGet s p.l = some ⟨s, x, y⟩ := h.get (f := ⟨s, x, y⟩) (by simp)
  have hnd := h.nodup
  rw [List.map_cons, List.nodup_cons] at hnd
  have hd : (fDel s p.l).Perm F := by
    refine (fDel_perm h.perm s).trans ?_
    rw [show s = (⟨s, x, y⟩ : Fi).n from rfl, fDel_cons hnd.1]
  have ht2 : t ∉ (fDel s p.l).map Fi.n := fun hm => ht ((hd.map Fi.n).subset hm)
  have hp : pRename p s t = (({ p with l := fPut ⟨t, x, y⟩ (fDel s p.l) } : Pd).done, 0) := by
    unfold pRename pFind
    rw [if_neg h0, hg]
    simp [hn]
  refine ⟨_, hp, ⟨?_, done_inf (p := { p with l := fPut ⟨t, x, y⟩ (fDel s p.l) }) h.left, ?_⟩, rfl⟩
  · show (fPut ⟨t, x, y⟩ (fDel s p.l)).Perm _
    unfold fPut
    rw [fDel_out ht2]
    exact (fIns_perm _ _).trans (hd.cons _)
  · rw [List.map_cons, List.nodup_cons]
    exact ⟨ht, hnd.2⟩
theorem Has.delete {f : Fi} (h : Has p (f :: F)) : ∃ p', pDelete p f.n = (p', 0) ∧ Has p' F ∧ p'.room = p.room := by
  have h0 : ¬ (p.left = 0) := by rw [h.left]; decide
  have hg : fGet f.n p.l = some f := h.get (by simp)
  have hnd := h.nodup
  rw [List.map_cons, List.nodup_cons] at hnd
  have hp : pDelete p f.n = (({ p with l := fDel f.n p.l } : Pd).done, 0) := by
    unfold pDelete pFind
    rw [if_neg h0, hg]
  refine ⟨_, hp, ⟨?_, done_inf (p := { p with l := fDel f.n p.l }) h.left, hnd.2⟩, rfl⟩
  show (fDel f.n p.l).Perm F
  refine (fDel_perm h.perm f.n).trans ?_
  rw [fDel_cons hnd.1]
theorem Has.tidy (ws : List ByteArray) : ∀ {p : Pd} {D : List Fi}, Has p (D ++ F) → D.map Fi.n = ws.map nm → ∃ p', pTidy p ws = (p', []) ∧ Has p' F ∧ p'.room = p.room := by
  induction ws with
  | nil =>
    intro p D h e
    obtain rfl : D = [] := by simpa using e
    exact ⟨p, rfl, h, rfl⟩
  | cons s ws ih =>
    intro p D h e
    match D, e with
    | f :: D, e =>
      simp only [List.map_cons, List.cons.injEq] at e
      obtain ⟨p1, e1, h1, r1⟩ := Has.delete (F := D ++ F) h
      rw [e.1] at e1
      obtain ⟨p2, e2, h2, r2⟩ := ih h1 e.2
      refine ⟨p2, ?_, h2, r2.trans r1⟩
      rw [pTidy, e1]
      simp only [e2]
      rfl
end
end Go.Proofs.YtbfhcbihgleddaaGreatDoor
