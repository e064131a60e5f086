/-
  Texts of the vault, in build order: VClean, VKeepP, VLight, VKeepV.
-/
import Derived.Test.YtbfhcbihgleddaaGreatDoorM33
import Derived.Test.YtbfhcbihgleddaaGreatDoorM28
import Derived.Test.YtbfhcbihgleddaaGreatDoorM34
/-
  The disk under a vault, up to the order of its files: what each call makes of it.
-/
namespace Go.Proofs.YtbfhcbihgleddaaGreatDoor

/-- The disk has just the files F, and power without end. -/
structure Has (p : Pd) (F : List Fi) : Prop where
  perm : p.l.Perm F
  left : p.left = -1
  nodup : (F.map Fi.n).Nodup
theorem fIns_perm (f : Fi) (l : List Fi) : (fIns f l).Perm (f :: l) := by
  induction l with
  | nil => exact List.Perm.refl _
  | cons g l ih =>
    rw [fIns]
    split
    · exact List.Perm.refl _
    · exact (ih.cons g).trans (List.Perm.swap f g l)
theorem fGet_nodup {l : List Fi} (h : (l.map Fi.n).Nodup) {f : Fi} (hf : f ∈ l) : fGet f.n l = some f := by
  unfold fGet
  induction l with
  | nil => cases hf
  | cons a l ih =>
    rw [List.map_cons, List.nodup_cons] at h
    rcases List.mem_cons.1 hf with rfl | hf
    · simp
    · have hne : (a.n == f.n) = false := by
        rw [beq_eq_false_iff_ne]
        intro e
        exact h.1 (List.mem_map.2 ⟨f, hf, e.symm⟩)
      rw [List.find?_cons, hne]
      exact ih h.2 hf
theorem fGet_out {l : List Fi} {s : List UInt8} (h : s ∉ l.map Fi.n) : fGet s l = none := by
  unfold fGet
  rw [List.find?_eq_none]
  intro f hf e
  exact h (List.mem_map.2 ⟨f, hf, by simpa using e⟩)
section
variable {p : Pd} {F G : List Fi}
theorem Has.names (h : Has p F) : (p.l.map Fi.n).Perm (F.map Fi.n) := h.perm.map _
theorem Has.out (h : Has p F) {s : List UInt8} (hs : s ∉ F.map Fi.n) : s ∉ p.l.map Fi.n := fun hm => hs (h.names.subset hm)
theorem Has.get (h : Has p F) {f : Fi} (hf : f ∈ F) : fGet f.n p.l = some f := fGet_nodup (h.names.nodup_iff.2 h.nodup) (h.perm.symm.subset hf)
theorem Has.none (h : Has p F) {s : List UInt8} (hs : s ∉ F.map Fi.n) : fGet s p.l = Option.none := fGet_out (h.out hs)
theorem fSum_perm {a b : List Fi} (h : a.Perm b) : fSum a = fSum b := by
  unfold fSum
  exact (h.map _).sum_nat
theorem Has.sum (h : Has p F) : fSum p.l = fSum F := fSum_perm h.perm
theorem Has.re (h : Has p F) (hp : F.Perm G) : Has p G := ⟨h.perm.trans hp, h.left, (hp.map Fi.n).nodup_iff.1 h.nodup⟩
theorem fDel_out {l : List Fi} {s : List UInt8} (h : s ∉ l.map Fi.n) : fDel s l = l := fDel_none (fun f hf e => h (List.mem_map.2 ⟨f, hf, e⟩))
theorem fDel_perm {a b : List Fi} (h : a.Perm b) (s : List UInt8) : (fDel s a).Perm (fDel s b) := h.filter _
theorem fDel_cons {f : Fi} {l : List Fi} (h : f.n ∉ l.map Fi.n) : fDel f.n (f :: l) = l := by
  have h1 := fDel_out h
  unfold fDel at *
  rw [List.filter_cons]
  simp only [beq_self_eq_true, Bool.not_true]
  exact h1
theorem done_inf {p : Pd} (h : p.left = -1) : p.done.left = -1 := by unfold Pd.done; simp [h]
/-- A new file. -/
theorem Has.write (h : Has p F) {s : List UInt8} {x : List Nat} (hs : s ∉ F.map Fi.n) (hn : okName s = true) (hr : (fSum F : Int) + x.length ≤ p.room) (hx : x.length ≤ 1048576) : ∃ p', pWrite p s x = (p', 0) ∧ Has p' (⟨s, x, 0⟩ :: F) ∧ p'.room = p.room := by
  have h0 : ¬ (p.left = 0) := by rw [h.left]; decide
  have hw : fWas s p.l = 0 := by unfold fWas; rw [h.none hs]
  have hsum := h.sum
  have hp : pWrite p s x = (({ p with l := fPut ⟨s, x, 0⟩ p.l } : Pd).done, 0) := by
    unfold pWrite
    rw [if_neg h0, if_neg (by rw [hn]; decide), if_neg (by rw [hw]; omega)]
  refine ⟨_, hp, ⟨?_, done_inf (p := { p with l := fPut ⟨s, x, 0⟩ p.l }) h.left, ?_⟩, rfl⟩
  · show (fPut ⟨s, x, 0⟩ p.l).Perm _
    unfold fPut
    rw [fDel_out (h.out hs)]
    exact (fIns_perm _ _).trans (h.perm.cons _)
  · rw [List.map_cons, List.nodup_cons]
    exact ⟨hs, h.nodup⟩
theorem Has.sync {s : List UInt8} {x : List Nat} {y : Nat} (h : Has p (⟨s, x, y⟩ :: F)) : ∃ p', pSync p s = (p', 0) ∧ Has p' (⟨s, x, x.length⟩ :: F) ∧ p'.room = p.room := by
  have h0 : ¬ (p.left = 0) := by rw [h.left]; decide
  have hg : fGet s p.l = some ⟨s, x, y⟩ := h.get (f := ⟨s, x, y⟩) (by simp)
  have hnd := h.nodup
  rw [List.map_cons, List.nodup_cons] at hnd
  have hp : pSync p s = (({ p with l := fPut ⟨s, x, x.length⟩ p.l } : Pd).done, 0) := by
    unfold pSync pFind
    rw [if_neg h0, hg]
  refine ⟨_, hp, ⟨?_, done_inf (p := { p with l := fPut ⟨s, x, x.length⟩ p.l }) h.left, ?_⟩, rfl⟩
  · show (fPut ⟨s, x, x.length⟩ p.l).Perm _
    unfold fPut
    refine (fIns_perm _ _).trans (List.Perm.cons _ ?_)
    refine (fDel_perm h.perm s).trans ?_
    rw [show s = (⟨s, x, y⟩ : Fi).n from rfl, fDel_cons hnd.1]
  · rw [List.map_cons, List.nodup_cons]
    exact hnd
theorem Has.store (h : Has p F) {s : ByteArray} {c : List Nat} (hs : nm s ∉ F.map Fi.n) (hn : okName (nm s) = true) (hr : (fSum F : Int) + (sealed c).length ≤ p.room) (hx : (sealed c).length ≤ 1048576) : ∃ p', pStore p s c = (p', 0, true) ∧ Has p' (⟨nm s, sealed c, (sealed c).length⟩ :: F) ∧ p'.room = p.room := by
  obtain ⟨p1, e1, h1, r1⟩ := h.write hs hn hr hx
  obtain ⟨p2, e2, h2, r2⟩ := h1.sync
  refine ⟨p2, ?_, h2, r2.trans r1⟩
  unfold pStore
  rw [e1]
  simp only [if_true, e2]
theorem Has.rename {s t : List UInt8} {x : List Nat} {y : Nat} (h : Has p (⟨s, x, y⟩ :: F)) (ht : t ∉ F.map Fi.n) (hn : okName t = true) : ∃ p', pRename p s t = (p', 0) ∧ Has p' (⟨t, x, y⟩ :: F) ∧ p'.room = p.room := by
  have h0 : ¬ (p.left = 0) := by rw [h.left]; decide
  have hg : fGet s p.l = some ⟨s, x, y⟩ := h.get (f := ⟨s, x, y⟩) (by simp)
  have hnd := h.nodup
  rw [List.map_cons, List.nodup_cons] at hnd
  have hd : (fDel s p.l).Perm F := by
    refine (fDel_perm h.perm s).trans ?_
    rw [show s = (⟨s, x, y⟩ : Fi).n from rfl, fDel_cons hnd.1]
  have ht2 : t ∉ (fDel s p.l).map Fi.n := fun hm => ht ((hd.map Fi.n).subset hm)
  have hp : pRename p s t = (({ p with l := fPut ⟨t, x, y⟩ (fDel s p.l) } : Pd).done, 0) := by
    unfold pRename pFind
    rw [if_neg h0, hg]
    simp [hn]
  refine ⟨_, hp, ⟨?_, done_inf (p := { p with l := fPut ⟨t, x, y⟩ (fDel s p.l) }) h.left, ?_⟩, rfl⟩
  · show (fPut ⟨t, x, y⟩ (fDel s p.l)).Perm _
    unfold fPut
    rw [fDel_out ht2]
    exact (fIns_perm _ _).trans (hd.cons _)
  · rw [List.map_cons, List.nodup_cons]
    exact ⟨ht, hnd.2⟩
theorem Has.delete {f : Fi} (h : Has p (f :: F)) : ∃ p', pDelete p f.n = (p', 0) ∧ Has p' F ∧ p'.room = p.room := by
  have h0 : ¬ (p.left = 0) := by rw [h.left]; decide
  have hg : fGet f.n p.l = some f := h.get (by simp)
  have hnd := h.nodup
  rw [List.map_cons, List.nodup_cons] at hnd
  have hp : pDelete p f.n = (({ p with l := fDel f.n p.l } : Pd).done, 0) := by
    unfold pDelete pFind
    rw [if_neg h0, hg]
  refine ⟨_, hp, ⟨?_, done_inf (p := { p with l := fDel f.n p.l }) h.left, hnd.2⟩, rfl⟩
  show (fDel f.n p.l).Perm F
  refine (fDel_perm h.perm f.n).trans ?_
  rw [fDel_cons hnd.1]
theorem Has.tidy (ws : List ByteArray) : ∀ {p : Pd} {D : List Fi}, Has p (D ++ F) → D.map Fi.n = ws.map nm → ∃ p', pTidy p ws = (p', []) ∧ Has p' F ∧ p'.room = p.room := by
  induction ws with
  | nil =>
    intro p D h e
    obtain rfl : D = [] := by simpa using e
    exact ⟨p, rfl, h, rfl⟩
  | cons s ws ih =>
    intro p D h e
    match D, e with
    | f :: D, e =>
      simp only [List.map_cons, List.cons.injEq] at e
      obtain ⟨p1, e1, h1, r1⟩ := Has.delete (F := D ++ F) h
      rw [e.1] at e1
      obtain ⟨p2, e2, h2, r2⟩ := ih h1 e.2
      refine ⟨p2, ?_, h2, r2.trans r1⟩
      rw [pTidy, e1]
      simp only [e2]
      rfl
end
end Go.Proofs.YtbfhcbihgleddaaGreatDoor
/-
  A vault of snapshots of one part: what Put makes of its disk.
-/
namespace Go.Proofs.YtbfhcbihgleddaaGreatDoor

def pt1 (c : List Nat) (n : Nat) : ByteArray := partN n 0 (crc c)
def XS (c : List Nat) (n : Nat) : Sp := ⟨n, 3, [pt1 c n], [c]⟩
def Wf (c : List Nat) (n : Nat) : Fi := ⟨nm (wholeN n), sealed (mOut n 3 [pt1 c n]), (sealed (mOut n 3 [pt1 c n])).length⟩
def Pf (c : List Nat) (n : Nat) : Fi := ⟨nm (pt1 c n), sealed c, (sealed c).length⟩
def FF (c : List Nat) (ns : List Nat) : List Fi := ns.flatMap fun n => [Wf c n, Pf c n]
theorem newS_XS (c : List Nat) (n : Nat) : newS n 3 [c] = XS c n := rfl
theorem FF_app (c : List Nat) (a b : List Nat) : FF c (a ++ b) = FF c a ++ FF c b := List.flatMap_append
theorem mem_FF {c : List Nat} {ns : List Nat} {s : List UInt8} : s ∈ (FF c ns).map Fi.n ↔ ∃ n ∈ ns, s = nm (wholeN n) ∨ s = nm (pt1 c n) := by
  unfold FF
  simp only [List.mem_map, List.mem_flatMap, List.mem_cons, List.not_mem_nil, or_false]
  constructor
  · rintro ⟨f, ⟨n, hn, rfl | rfl⟩, rfl⟩
    · exact ⟨n, hn, .inl rfl⟩
    · exact ⟨n, hn, .inr rfl⟩
  · rintro ⟨n, hn, rfl | rfl⟩
    · exact ⟨Wf c n, ⟨n, hn, .inl rfl⟩, rfl⟩
    · exact ⟨Pf c n, ⟨n, hn, .inr rfl⟩, rfl⟩
theorem head_w (n : Nat) : (nm (wholeN n)).head? = some 119 := by unfold wholeN; rw [nm_app]; rfl
theorem head_f (n : Nat) : (nm (freshN n)).head? = some 110 := by unfold freshN; rw [nm_app]; rfl
theorem head_p (n i c : Nat) : (nm (partN n i c)).head? = some 112 := by unfold partN; simp only [nm_app, List.append_assoc]; rfl
theorem w_ne_p {n m i c : Nat} : nm (wholeN n) ≠ nm (partN m i c) := fun e => by have := congrArg List.head? e; rw [head_w, head_p] at this; cases this
theorem f_ne_p {n m i c : Nat} : nm (freshN n) ≠ nm (partN m i c) := fun e => by have := congrArg List.head? e; rw [head_f, head_p] at this; cases this
theorem f_ne_w {n m : Nat} : nm (freshN n) ≠ nm (wholeN m) := fun e => by have := congrArg List.head? e; rw [head_f, head_w] at this; cases this
theorem n36_zero : (n36 0).size = 1 := by kernel_rfl
theorem n36_crc {c : List Nat} (hb : Byts c) : (n36 (crc c)).size ≤ 7 := by
  have := d36_len 6 (crc c) (Nat.lt_of_lt_of_le (crc_lt c hb) (by decide))
  show ((d36 (crc c)).map UInt8.ofNat).toArray.size ≤ 7
  simpa using this
theorem pt1_size {c : List Nat} (hb : Byts c) {n : Nat} (hn : n < 18446744073709551616) : (pt1 c n).size ≤ 28 ∧ 1 ≤ (pt1 c n).size := by
  have z1 := n36_size hn
  have z2 := n36_zero
  have z3 := n36_crc hb
  unfold pt1 partN
  simp only [size_append]
  show 5 + _ + 1 + _ + 1 + _ ≤ 28 ∧ 1 ≤ 5 + _ + 1 + _ + 1 + _
  omega
theorem ok_p {c : List Nat} (hb : Byts c) {n : Nat} (hn : n < 18446744073709551616) : okName (nm (pt1 c n)) = true := by
  obtain ⟨h1, h2⟩ := pt1_size hb hn
  unfold okName
  simp only [nm_length, decide_eq_true_eq]
  omega
theorem ok_w {n : Nat} (hn : n < 18446744073709551616) : okName (nm (wholeN n)) = true := by
  have z1 := n36_size hn
  have h1 : (wholeN n).size = 6 + (n36 n).size := by unfold wholeN; rw [size_append]; rfl
  unfold okName
  simp only [nm_length, decide_eq_true_eq, h1]
  omega
theorem ok_f {n : Nat} (hn : n < 18446744073709551616) : okName (nm (freshN n)) = true := by
  have z1 := n36_size hn
  have h1 : (freshN n).size = 4 + (n36 n).size := by unfold freshN; rw [size_append]; rfl
  unfold okName
  simp only [nm_length, decide_eq_true_eq, h1]
  omega
theorem mfits1 {c : List Nat} (hb : Byts c) {n : Nat} (hn : n < 18446744073709551616) : mfits [pt1 c n] = true := by
  have := (pt1_size hb hn).1
  unfold mfits fitsN
  simp
  omega
theorem man_len {c : List Nat} (hb : Byts c) {n : Nat} (hn : n < 18446744073709551616) : (sealed (mOut n 3 [pt1 c n])).length ≤ 100 := by
  have := (pt1_size hb hn).1
  rw [sealed_len, mOut, if_pos (mfits1 hb hn)]
  unfold manb
  have hsb : (sb (pt1 c n)).length = (pt1 c n).size := by simp [sb]
  simp [be_length, namesb, nameb, hsb]
  omega
theorem FF_nodup {c : List Nat} {ns : List Nat} (h : ns.Nodup) : ((FF c ns).map Fi.n).Nodup := by
  induction ns with
  | nil => exact List.nodup_nil
  | cons n ns ih =>
    rw [List.nodup_cons] at h
    show (nm (wholeN n) :: nm (pt1 c n) :: (FF c ns).map Fi.n).Nodup
    rw [List.nodup_cons, List.nodup_cons]
    refine ⟨fun hm => ?_, fun hm => ?_, ih h.2⟩
    · rcases List.mem_cons.1 hm with e | hm
      · exact w_ne_p e
      · obtain ⟨m, hm, e | e⟩ := mem_FF.1 hm
        · exact h.1 (by rw [wholeN_inj e]; exact hm)
        · exact w_ne_p e
    · obtain ⟨m, hm, e | e⟩ := mem_FF.1 hm
      · exact w_ne_p e.symm
      · exact h.1 (by rw [(partN_inj e).1]; exact hm)
theorem FF_sum {c : List Nat} (hb : Byts c) {ns : List Nat} (hn : ∀ n ∈ ns, n < 18446744073709551616) : ns.length * (sealed c).length ≤ fSum (FF c ns) ∧ fSum (FF c ns) ≤ ns.length * ((sealed c).length + 100) := by
  induction ns with
  | nil => simp [FF, fSum]
  | cons n ns ih =>
    obtain ⟨h1, h2⟩ := ih (fun m hm => hn m (by simp [hm]))
    have h3 := man_len hb (hn n (by simp))
    have h4 : fSum (FF c (n :: ns)) = (sealed (mOut n 3 [pt1 c n])).length + ((sealed c).length + fSum (FF c ns)) := by
      show fSum (Wf c n :: Pf c n :: FF c ns) = _
      simp [fSum, Wf, Pf]
    rw [h4, List.length_cons, Nat.succ_mul, Nat.succ_mul]
    omega
theorem fls_FF (c : List Nat) (ns : List Nat) : (FF c ns).map Fi.n = (flsS (ns.map (XS c))).map nm := by
  induction ns with
  | nil => rfl
  | cons n ns ih =>
    show nm (wholeN n) :: nm (pt1 c n) :: (FF c ns).map Fi.n = nm (wholeN n) :: nm (pt1 c n) :: (flsS (ns.map (XS c))).map nm
    rw [ih]
theorem newest_lt {c : List Nat} {ns : List Nat} {n : Nat} (h0 : 0 < n) (h : ∀ m ∈ ns, m < n) : ¬ (n ≤ newestS (ns.map (XS c))) := by
  unfold newestS
  rw [List.getLast?_map]
  cases hl : ns.getLast? with
  | none => simp; omega
  | some m =>
    have := h m (List.mem_of_getLast? hl)
    simp [XS]; omega
set_option maxHeartbeats 1000000 in
/-- What Put does. -/
theorem put_clean {c : List Nat} (hb : Byts c) {p : Pd} {ns : List Nat} {n kp : Nat} (h : Has p (FF c ns)) (hn : n < 18446744073709551616) (h0 : 0 < n) (hlt : ∀ m ∈ ns, m < n) (hr : p.room = 1048576) (hs : (ns.length + 1) * ((sealed c).length + 100) ≤ 1048576) :
    ∃ p', pPut kp p (ns.map (XS c)) [] n 3 ([c], 0) = (p', 0, ((ns ++ [n]).drop (ns.length + 1 - kp)).map (XS c), []) ∧ Has p' (FF c ((ns ++ [n]).drop (ns.length + 1 - kp))) ∧ p'.room = 1048576 := by
  have hns : ∀ m ∈ ns, m < 18446744073709551616 := fun m hm => Nat.lt_trans (hlt m hm) hn
  have hsum := (FF_sum hb hns).2
  have hml := man_len hb hn
  rw [Nat.succ_mul] at hs
  have hp1 : nm (pt1 c n) ∉ (FF c ns).map Fi.n := fun hm => by
    obtain ⟨m, hm, e | e⟩ := mem_FF.1 hm
    · exact w_ne_p e.symm
    · have := hlt m hm
      rw [(partN_inj e).1] at this
      omega
  obtain ⟨p1, e1, h1, r1⟩ := h.store (s := pt1 c n) (c := c) hp1 (ok_p hb hn) (by rw [hr]; omega) (by omega)
  have hf1 : nm (freshN n) ∉ (Pf c n :: FF c ns).map Fi.n := fun hm => by
    rcases List.mem_cons.1 hm with e | hm
    · exact f_ne_p e
    · obtain ⟨m, hm, e | e⟩ := mem_FF.1 hm
      · exact f_ne_w e
      · exact f_ne_p e
  have hs1 : fSum (Pf c n :: FF c ns) = (sealed c).length + fSum (FF c ns) := by simp [fSum, Pf]
  obtain ⟨p2, e2, h2, r2⟩ := Has.store (F := Pf c n :: FF c ns) h1 (s := freshN n) (c := mOut n 3 [pt1 c n]) hf1 (ok_f hn) (by rw [r1, hr, hs1]; omega) (by omega)
  have hw1 : nm (wholeN n) ∉ (Pf c n :: FF c ns).map Fi.n := fun hm => by
    rcases List.mem_cons.1 hm with e | hm
    · exact w_ne_p e
    · obtain ⟨m, hm, e | e⟩ := mem_FF.1 hm
      · have := hlt m hm
        rw [wholeN_inj e] at this
        omega
      · exact w_ne_p e
  obtain ⟨p3, e3, h3, r3⟩ := h2.rename hw1 (ok_w hn)
  have hlay : pLay (XS c n) p [] = (p3, 0, [pt1 c n, freshN n]) := by
    unfold pLay
    have hm : mEr (XS c n).parts = 0 := by unfold mEr; rw [show (XS c n).parts = [pt1 c n] from rfl, mfits1 hb hn]; rfl
    rw [if_pos hm]
    have hst : pStores p [] (XS c n).parts (XS c n).chunks = (p1, 0, [pt1 c n]) := by
      show pStores p [] [pt1 c n] [c] = _
      simp only [pStores, e1]
      simp
    rw [hst]
    simp only [if_true]
    unfold pLay2
    rw [show (XS c n).n = n from rfl, show (XS c n).ep = 3 from rfl, show (XS c n).parts = [pt1 c n] from rfl]
    rw [show pStore p1 (freshN n) (mOut (n : Nat) (3 : Nat) [pt1 c n]) = (p2, 0, true) from e2]
    simp only [if_true, e3]
    rfl
  have hperm : (Wf c n :: Pf c n :: FF c ns).Perm (FF c ((ns ++ [n]).take (ns.length + 1 - kp)) ++ FF c ((ns ++ [n]).drop (ns.length + 1 - kp))) := by
    rw [← FF_app, List.take_append_drop, FF_app]
    exact List.perm_append_comm (l₁ := [Wf c n, Pf c n])
  obtain ⟨p4, e4, h4, r4⟩ := Has.tidy (flsS (((ns ++ [n]).take (ns.length + 1 - kp)).map (XS c))) (Has.re h3 hperm) (fls_FF c _)
  refine ⟨p4, ?_, h4, by rw [r4, r3, r2, r1, hr]⟩
  have hadd : ns.map (XS c) ++ [XS c n] = (ns ++ [n]).map (XS c) := by simp
  unfold pPut
  rw [if_pos rfl, if_neg (newest_lt h0 hlt), newS_XS]
  show pEnd kp (ns.map (XS c)) (XS c n) (pLay (XS c n) p []) = _
  rw [hlay]
  unfold pEnd
  rw [if_pos rfl, hadd, List.length_map, ← List.map_take, ← List.map_drop, e4]
theorem pk_one {s : Sn} (h : sEr s = 0) : pk [] [] [s] = ([sealed (sOut s)], 0) := by
  have h1 := sOut_len s
  have h2 := sealed_len (sOut s)
  rw [pk, if_pos h, if_neg (by simp only [List.length_nil]; omega), List.nil_append, pk, if_neg (by intro e; rw [e] at h2; simp at h2), List.nil_append]
theorem pk_bad {s : Sn} (h : sEr s ≠ 0) : pk [] [] [s] = ([], sEr s) := by rw [pk, if_neg h]
theorem sEr_three (s : Sn) : sEr s = 0 ∨ sEr s = 10 ∨ sEr s = 12 := by
  unfold sEr
  split
  · exact .inr (.inr rfl)
  · split
    · exact .inl rfl
    · exact .inr (.inl rfl)
theorem snb_len2 {s : Sn} (hl : 10 + s.marks.length + 4 * s.panes.length + 4 * s.outs.length ≤ 20000) : (sealed (sealed (sOut s))).length ≤ 160000 ∧ Byts (sealed (sOut s)) := by
  refine ⟨?_, sealed_byts' _ (sOut_byts s)⟩
  rw [sealed_len, sealed_len]
  have h1 := flat_len sbe 8 (fun n => Nat.le_of_eq (sbe_len n)) s.marks
  have h2 := flat_len pnb 32 (fun n => Nat.le_of_eq (pnb_len n)) s.panes
  have h3 := flat_len otb 27 otb_len s.outs
  have h4 : (sOut s).length ≤ (snb s).length := by
    unfold sOut
    split
    · simp
    · split
      · exact Nat.le_refl _
      · simp
  have h5 : (snb s).length ≤ 18 + s.marks.length * 8 + s.panes.length * 32 + s.outs.length * 27 := by
    unfold snb
    simp only [List.length_append, be_length, sbe_len]
    omega
  omega
theorem drop_step (al : List Nat) (n kp : Nat) : (al.drop (al.length - kp) ++ [n]).drop ((al.drop (al.length - kp)).length + 1 - kp) = (al ++ [n]).drop ((al ++ [n]).length - kp) := by
  have h1 : al.drop (al.length - kp) ++ [n] = (al ++ [n]).drop (al.length - kp) := by rw [List.drop_append_of_le_length (by omega)]
  rw [h1, List.drop_drop, List.length_drop, List.length_append, List.length_singleton]
  congr 1
  omega
end Go.Proofs.YtbfhcbihgleddaaGreatDoor
/-
  The law's light, of one step with one part.
-/
namespace Go.Proofs.YtbfhcbihgleddaaGreatDoor
open Go.RowKit

set_option maxHeartbeats 4000000 in
set_option maxRecDepth 100000 in
theorem light1 {w : World} {G1 G2 m pn cn cm cp cc : Nat} {am ap ac : Option Addr} {a b c : Value} (h2 : BoxT 33 w G2 #[.int .i64 0, .int .i64 0, .slice (some ⟨G1, 0, none⟩) 1 1, .slice none 0 0, .slice none 0 0]) (h1 : BoxT 27 w G1 #[a, b, c, .slice am m cm, .slice ap pn cp, .slice ac cn cc])
    (lm : m ≤ 140737488355328) (lp : pn ≤ 140737488355328) (lc : cn ≤ 140737488355328) :
    Calls Tryz.prog 10 #[.slice (some ⟨G2, 0, none⟩) 1 1] w fun e w' => e = .returned (.bool (decide (10 + m + 4 * pn + 4 * cn ≤ 20000))) ∧ Below w.heap.size w w' := by
  obtain ⟨t, ht⟩ : ∃ t, 10 + m + 4 * pn + 4 * cn = t := ⟨_, rfl⟩
  have ht2 : (10 : Int) + (m : Int) + 4 * (pn : Int) + 4 * (cn : Int) = (t : Int) := by omega
  rw [ht]
  have hw1 : IntKind.i64.wrap (10 + (m : Int)) = 10 + (m : Int) := by rw [IntKind.wrap_i64]; omega
  have hw2 : IntKind.i64.wrap (4 * (pn : Int)) = 4 * (pn : Int) := by rw [IntKind.wrap_i64]; omega
  have hw3 : IntKind.i64.wrap (4 * (cn : Int)) = 4 * (cn : Int) := by rw [IntKind.wrap_i64]; omega
  have hw4 : IntKind.i64.wrap (10 + (m : Int) + 4 * (pn : Int)) = 10 + (m : Int) + 4 * (pn : Int) := by rw [IntKind.wrap_i64]; omega
  have hw5 : IntKind.i64.wrap (10 + (m : Int) + 4 * (pn : Int) + 4 * (cn : Int)) = (t : Int) := by rw [IntKind.wrap_i64]; omega
  have H1 := hide h1
  have H2 := hide h2
  clear h1 h2 ht
  go_enter Tryz.func10, Tryz.ntmps10
  go_wp2_with fail
  go_loopw [3, 4] (fun nv iv wr => ((nv = .int .i64 0 ∧ iv = .int .i64 0) ∨ (nv = .int .i64 (t : Int) ∧ iv = .int .i64 1)) ∧ Hid (Below w.heap.size w wr)) (fun _ iv _ => 1 - (intOf iv).toNat)
  case atStart => exact ⟨.inl ⟨rfl, rfl⟩, Below.refl _ _⟩
  case round =>
    obtain ⟨hc, HB⟩ := hrel
    have X1 := H1.out.belowT HB.out
    have X2 := H2.out.belowT HB.out
    obtain ⟨f0, f1, f2, f3, f4, f5⟩ := X1.cells6
    have d2 : wr.cell? ⟨G2, 2, none⟩ = some (.slice (some ⟨G1, 0, none⟩) 1 1) := (X2.cellAt 2).trans rfl
    have d3 : wr.cell? ⟨G2, 3, none⟩ = some (.slice none 0 0) := (X2.cellAt 3).trans rfl
    have d4 : wr.cell? ⟨G2, 4, none⟩ = some (.slice none 0 0) := (X2.cellAt 4).trans rfl
    rcases hc with ⟨rfl, rfl⟩ | ⟨rfl, rfl⟩
    · go_wp2_with fail
      go_quiet (fail)
      have HB2 := hide (below_drewN' HB.out nq)
      generalize wr.drewN nq = wa at *
      clear f0 f1 f2 f3 f4 f5 d2 d3 d4 X1 X2
      go_wp2_with fail
      go_loopw [3, 5] (fun nv kv wz => ((nv = .int .i64 0 ∧ kv = .int .i64 0) ∨ (nv = .int .i64 (t : Int) ∧ kv = .int .i64 1)) ∧ Hid (Below w.heap.size w wz)) (fun _ kv _ => 1 - (intOf kv).toNat)
      case atStart => exact ⟨.inl ⟨rfl, rfl⟩, HB2.out⟩
      case round =>
        obtain ⟨hc, HZ⟩ := hrel
        have X1 := H1.out.belowT HZ.out
        have X2 := H2.out.belowT HZ.out
        obtain ⟨f0, f1, f2, f3, f4, f5⟩ := X1.cells6
        have d2 : wr.cell? ⟨G2, 2, none⟩ = some (.slice (some ⟨G1, 0, none⟩) 1 1) := (X2.cellAt 2).trans rfl
        clear X1 X2
        rcases hc with ⟨rfl, rfl⟩ | ⟨rfl, rfl⟩
        · go_wp2_with fail
          go_quiet (fail)
          have HZ2 := hide (below_drewN' HZ.out nq)
          go_wp2
          go_roundw
          case rel => exact ⟨.inr ⟨by first | rfl | (rw [ht2]), rfl⟩, HZ2.out⟩
          case measure => simp [intOf]
        · go_wp2
          go_roundw
          case rel => exact ⟨.inr ⟨rfl, rfl⟩, HZ.out⟩
          case measure => simp [intOf]
    · by_cases ht3 : t ≤ 20000
      · have h20 : (t : Int) ≤ 20000 := by omega
        go_wp2
        go_ret
        exact ⟨by simp [ht3], HB.out⟩
      · have h20 : ¬ ((t : Int) ≤ 20000) := by omega
        go_wp2
        go_ret
        exact ⟨by simp, HB.out⟩
end Go.Proofs.YtbfhcbihgleddaaGreatDoor
/-
  The vault of the law VaultKeep: what it keeps of the world.
-/
namespace Go.Proofs.YtbfhcbihgleddaaGreatDoor
open Go.RowKit

theorem tmod_nat (a b : Nat) : Int.tmod (a : Int) (b : Int) = ((a % b : Nat) : Int) := rfl
def u64cs (n : Nat) : List Value := [.int .u64 (n : Int)]
theorem u64cs_len (n : Nat) : (u64cs n).length = 1 := rfl
theorem u64cs_one (n : Nat) : ∀ u ∈ u64cs n, u.oneCell' = true := fun u hu => by simp [u64cs] at hu; subst hu; rfl
def snc (x : SnV) : Array Value := #[.int .i64 x.s.task, .int .i64 x.s.off, .int .i64 x.s.mark, .slice x.am x.s.marks.length x.cm, .slice x.ap x.s.panes.length x.cp, .slice x.ac x.s.outs.length x.cc]
theorem snIn {w : World} {g : Nat} {x : SnV} (h : BoxT 27 w g (snc x)) (hs : SnSeg w.heap.size w (.slice x.am x.s.marks.length x.cm) (.slice x.ap x.s.panes.length x.cp) (.slice x.ac x.s.outs.length x.cc) x.s) (hp : ∀ o ∈ x.s.outs, 0 ≤ o.f.n) : SnsIn w.heap.size w (.slice (some ⟨g, 0, none⟩) 1 1) [x] := by
  refine ⟨⟨_, _, rfl, by simp, .inr ⟨g, 0, rfl, h.lt, fun i z hz j u hu => ?_⟩⟩, fun z hz => ?_, fun z hz o ho => ?_⟩
  · have hi : i = 0 := by have := (List.getElem?_eq_some_iff.1 hz).1; simp at this; omega
    subst hi
    obtain rfl : x = z := by simpa using hz
    rw [h.cellAt, Nat.zero_mul, Nat.add_zero, Nat.zero_add]
    match j, hu with
    | 0, hu | 1, hu | 2, hu | 3, hu | 4, hu | 5, hu => simpa [SnV.cs, snc] using hu
  · rcases List.mem_singleton.1 hz with rfl; exact hs
  · rcases List.mem_singleton.1 hz with rfl; exact hp o ho
def SnOk (B : Nat) (w : World) (x : SnV) : Prop := SnSeg B w (.slice x.am x.s.marks.length x.cm) (.slice x.ap x.s.panes.length x.cp) (.slice x.ac x.s.outs.length x.cc) x.s
theorem SnOk.in_ {B : Nat} {w w' : World} {g : Nat} {x : SnV} (h : SnOk B w x) (hb : Below B w w') (hB : B ≤ w'.heap.size) (hx : BoxT 27 w' g (snc x)) (hp : ∀ o ∈ x.s.outs, 0 ≤ o.f.n) : SnsIn w'.heap.size w' (.slice (some ⟨g, 0, none⟩) 1 1) [x] :=
  snIn hx ((SnSeg.below h hb).mono hB) hp
theorem Row.pt {w0 w w' : World} {V k b n : Nat} {p : Pd} {keep : Int} {vt vw vt' vw' va : Value} {th : List SpV} {ws : List ByteArray} {al : List Nat} {base : Nat} (hr : Row 41 1 u64cs base w va al) (h : VAt w0 w V k b n p keep vt vw th ws) (ht : PT V k b vt vw vt' vw' w w') : Row 41 1 u64cs base w' va al :=
  hr.back fun g e => by
    obtain ⟨cur, hc⟩ := hr.has g e
    have := hc.pt h ht (by decide) (by decide) (by decide) (by decide)
    unfold BoxT at this hc
    rw [this, hc]
theorem VAt.rowed41 {w0 w w' : World} {V k b n : Nat} {p : Pd} {keep : Int} {vt vw va : Value} {th : List SpV} {ws : List ByteArray} {al : List Nat} (h : VAt w0 w V k b n p keep vt vw th ws) (hr : Row 41 1 u64cs w0.heap.size w va al) (hg : w.grownBy w' va.ownBlock) : VAt w0 w' V k b n p keep vt vw th ws := by
  cases ho : va.ownBlock with
  | none =>
    rw [ho] at hg
    exact h.below ⟨hg.os, hg.tape, hg.output, hg.size, fun i hi => hg.block i hi (by simp)⟩
  | some g =>
    rw [ho] at hg
    obtain ⟨cur, hc⟩ := hr.has g ho
    exact h.law hc (hr.at g ho) ⟨hg.os, hg.tape, hg.output, hg.size, fun i hi h1 _ => hg.block i hi (by simpa using h1)⟩ (by decide) (by decide) (by decide) (by decide) (by decide) (by decide)
/-- The vault of the law, and the list of all numbers that were put. -/
structure VK (w0 w : World) (S0 k V b nf kp : Nat) (c : List Nat) (al : List Nat) (va : Value) (x : SnV) : Prop where
  v : ∃ vt vw th p, th.map SpV.s = (al.drop (al.length - kp)).map (XS c) ∧ VAt w0 w V k b nf p (kp : Int) vt vw th [] ∧ Has p (FF c (al.drop (al.length - kp))) ∧ p.room = 1048576
  sn : BoxT 27 w S0 (snc x)
  row : Row 41 1 u64cs w0.heap.size w va al
theorem VK.below {w0 w w' : World} {S0 k V b nf kp : Nat} {c : List Nat} {al : List Nat} {va : Value} {x : SnV} (H : VK w0 w S0 k V b nf kp c al va x) (hb : Below w.heap.size w w') : VK w0 w' S0 k V b nf kp c al va x := by
  obtain ⟨vt, vw, th, p, h1, h2, h3⟩ := H.v
  exact ⟨⟨vt, vw, th, p, h1, h2.below hb, h3⟩, H.sn.belowT hb, H.row.below hb⟩
theorem VK.since {w0 w : World} {S0 k V b nf kp : Nat} {c : List Nat} {al : List Nat} {va : Value} {x : SnV} (H : VK w0 w S0 k V b nf kp c al va x) : Below w0.heap.size w0 w := by
  obtain ⟨vt, vw, th, p, h1, h2, h3⟩ := H.v
  exact h2.st.since
/-- A Put that is taken. -/
theorem VK.put {w0 w : World} {S0 k V b nf kp : Nat} {c : List Nat} {al : List Nat} {va vs : Value} {x : SnV} (H : VK w0 w S0 k V b nf kp c al va x) (hg : Glob w0) (hx : sEr x.s = 0) (hc : sealed (sOut x.s) = c) (hl : 10 + x.s.marks.length + 4 * x.s.panes.length + 4 * x.s.outs.length ≤ 20000) (hkp : 1 ≤ kp) (hkp4 : kp ≤ 4) (n : Nat) (h0 : 0 < n) (hlt : ∀ m ∈ al, m < n) (hn : n ≤ 1000) (hsn : SnsIn w.heap.size w vs [x]) (hnf : nf + 3000 ≤ 1000000) {vn ve : Int} (hvn : vn = (n : Int)) (hve : ve = 3) :
    Calls Tryz.prog 13 #[.pointer (some ⟨V, 0, none⟩), .int .u64 vn, .int .u64 ve, vs] w fun e w' => e = .returned (.int .i64 0) ∧ (∃ vt vw th p, th.map SpV.s = ((al ++ [n]).drop ((al ++ [n]).length - kp)).map (XS c) ∧ VAt w0 w' V k b (nf + 3000) p (kp : Int) vt vw th [] ∧ Has p (FF c ((al ++ [n]).drop ((al ++ [n]).length - kp))) ∧ p.room = 1048576) ∧ BoxT 27 w' S0 (snc x) ∧ Row 41 1 u64cs w0.heap.size w' va al := by
  subst hvn hve
  obtain ⟨vt, vw, th, p, h1, h2, h3, h4⟩ := H.v
  obtain ⟨hz, hb⟩ := snb_len2 hl
  rw [hc] at hz hb
  have hlen : (al.drop (al.length - kp)).length ≤ kp := by rw [List.length_drop]; omega
  have hth : th.length ≤ kp := by
    have := congrArg List.length h1
    rw [List.length_map, List.length_map] at this
    omega
  have hltd : ∀ m ∈ al.drop (al.length - kp), m < n := fun m hm => hlt m (List.mem_of_mem_drop hm)
  obtain ⟨p', e, h5, h6⟩ := put_clean (kp := kp) hb h3 (show n < 18446744073709551616 by omega) h0 hltd h4 (by
    have : ((al.drop (al.length - kp)).length + 1) * ((sealed c).length + 100) ≤ 5 * 160100 := Nat.mul_le_mul (by omega) (by omega)
    omega)
  rw [drop_step] at e h5
  have hpk : pk [] [] ([x].map SnV.s) = ([c], 0) := by rw [← hc]; exact pk_one hx
  refine (Put_any h2 hg n 3 (by omega) (by decide) vs [x] hsn (by simp) (by rw [hpk]; simp) (by omega) (by omega) (hx_of h1 (fun y hy => ?_)) (by simp) (fun s hs => by cases hs) hnf p' 0 _ [] (by rw [h1, hpk]; exact e)).mono ?_
  · obtain ⟨m, hm, rfl⟩ := List.mem_map.1 hy
    have hmn := hltd m hm
    refine ⟨by show m < _; omega, by simp [XS], fun s hs => ?_⟩
    rcases List.mem_singleton.1 hs with rfl
    have := (pt1_size hb (show m < 18446744073709551616 by omega)).1
    omega
  · rintro e2 w' ⟨rfl, vt', vw', th', g1, g2, g3⟩
    exact ⟨rfl, ⟨vt', vw', th', p', g1, g2, h5, h6⟩, H.sn.pt h2 g3 (by decide) (by decide) (by decide) (by decide), H.row.pt h2 g3⟩
theorem VK.bad {w0 w : World} {S0 k V b nf kp : Nat} {c : List Nat} {al : List Nat} {va vs : Value} {x : SnV} (H : VK w0 w S0 k V b nf kp c al va x) (hg : Glob w0) (hx : sEr x.s ≠ 0) (hc : sealed (sOut x.s) = c) (hl : 10 + x.s.marks.length + 4 * x.s.panes.length + 4 * x.s.outs.length ≤ 20000) (hkp4 : kp ≤ 4) (hlt : ∀ m ∈ al, m ≤ 1000) (n : Nat) (hn : n ≤ 1000) (hsn : SnsIn w.heap.size w vs [x]) (hnf : nf + 3000 ≤ 1000000) {vn ve : Int} (hvn : vn = (n : Int)) (hve : ve = 3) :
    Calls Tryz.prog 13 #[.pointer (some ⟨V, 0, none⟩), .int .u64 vn, .int .u64 ve, vs] w fun e w' => e = .returned (.int .i64 (sEr x.s)) ∧ Below w0.heap.size w0 w' := by
  subst hvn hve
  obtain ⟨vt, vw, th, p, h1, h2, h3, h4⟩ := H.v
  obtain ⟨hz, hb⟩ := snb_len2 hl
  rw [hc] at hz hb
  have hlen : (al.drop (al.length - kp)).length ≤ kp := by rw [List.length_drop]; omega
  have hth : th.length ≤ kp := by
    have := congrArg List.length h1
    rw [List.length_map, List.length_map] at this
    omega
  have hpk : pk [] [] ([x].map SnV.s) = ([], sEr x.s) := pk_bad hx
  refine (Put_any h2 hg n 3 (by omega) (by decide) vs [x] hsn (by simp) (by rw [hpk]; simp) (by omega) (by omega) (hx_of h1 (fun y hy => ?_)) (by simp) (fun s hs => by cases hs) hnf p (sEr x.s) _ [] (by rw [hpk, pPut, if_neg hx])).mono ?_
  · obtain ⟨m, hm, rfl⟩ := List.mem_map.1 hy
    have hmn := hlt m (List.mem_of_mem_drop hm)
    refine ⟨by show m < _; omega, by simp [XS], fun s hs => ?_⟩
    rcases List.mem_singleton.1 hs with rfl
    have := (pt1_size hb (show m < 18446744073709551616 by omega)).1
    omega
  · rintro e2 w' ⟨rfl, vt', vw', th', g1, g2, g3⟩
    exact ⟨rfl, g2.st.since⟩
theorem VK.app {w0 w w1 w' : World} {S0 k V b nf kp n : Nat} {c : List Nat} {al : List Nat} {va va' : Value} {x : SnV} (hv : ∃ vt vw th p, th.map SpV.s = ((al ++ [n]).drop ((al ++ [n]).length - kp)).map (XS c) ∧ VAt w0 w V k b nf p (kp : Int) vt vw th [] ∧ Has p (FF c ((al ++ [n]).drop ((al ++ [n]).length - kp))) ∧ p.room = 1048576) (hsn : BoxT 27 w S0 (snc x)) (hb : Below w.heap.size w w1) (hrow : Row 41 1 u64cs w0.heap.size w1 va al) (hr : Row 41 1 u64cs w0.heap.size w' va' (al ++ [n])) (hg : w1.grownBy w' va.ownBlock) : VK w0 w' S0 k V b nf kp c (al ++ [n]) va' x := by
  obtain ⟨vt, vw, th, p, h1, h2, h3⟩ := hv
  have hs1 := hsn.belowT hb
  refine ⟨⟨vt, vw, th, p, h1, (h2.below hb).rowed41 hrow hg, h3⟩, ?_, hr⟩
  have h0 := hs1
  unfold BoxT at h0 ⊢
  rw [hg.block S0 hs1.lt fun e => ?_]
  · exact h0
  · obtain ⟨cur, hc⟩ := hrow.has S0 e.symm
    unfold BoxT at hc
    rw [h0] at hc; simp at hc
theorem Row.cells41 {w : World} {base : Nat} {v : Value} {al : List Nat} (h : Row 41 1 u64cs base w v al) (h0 : al ≠ []) : ∃ g off cap, v = .slice (some ⟨g, off, none⟩) al.length cap ∧ g < w.heap.size ∧ al.length ≤ cap ∧ cap ≤ 9223372036854775807 ∧ ∀ j (y : Nat), al[j]? = some y → w.cell? ⟨g, off + j, none⟩ = some (.int .u64 (y : Int)) := by
  rcases h with ⟨_, h⟩ | ⟨g, off, cap, cur, e, h2, h3, h4, h5, h6, h7⟩
  · exact absurd h h0
  · refine ⟨g, off, cap, e, h3.lt, h4, by unfold maxLen at h5; omega, fun j y hy => ?_⟩
    rw [h3.cellAt]
    have := flat_get u64cs_len al j 0 y (.int .u64 (y : Int)) hy rfl
    rw [Nat.mul_one, Nat.add_zero] at this
    exact h7 _ _ this
theorem VK.cells {w0 w : World} {S0 k V b nf kp g o n cp : Nat} {c : List Nat} {al : List Nat} {x : SnV} (H : VK w0 w S0 k V b nf kp c al (.slice (some ⟨g, o, none⟩) n cp) x) (j y : Nat) (hy : al[j]? = some y) : w.cell? ⟨g, o + j, none⟩ = some (.int .u64 (y : Int)) := by
  obtain ⟨g', o', c', e, _, _, _, h⟩ := H.row.cells41 (fun h => by rw [h] at hy; cases hy)
  cases e
  exact h j y hy
theorem SpV.n_s (x : SpV) : x.s.n = x.n := rfl
theorem VK.nums {th : List SpV} {c : List Nat} {ns : List Nat} (h : th.map SpV.s = ns.map (XS c)) : th.map SpV.n = ns := by
  have := congrArg (List.map Sp.n) h
  rw [List.map_map, List.map_map] at this
  rw [show (Sp.n ∘ XS c) = id from rfl, List.map_id] at this
  exact this
theorem VK.list {w0 w : World} {S0 k V b nf kp : Nat} {c : List Nat} {al : List Nat} {va : Value} {x : SnV} (H : VK w0 w S0 k V b nf kp c al va x) (hkp4 : kp ≤ 4) (m : Nat) (hm : al.length - kp = m) :
    Calls Tryz.prog 14 #[.pointer (some ⟨V, 0, none⟩)] w fun e w' => e = .returned (.slice (some ⟨w.heap.size, 0, none⟩) (al.length - m) (al.length - m)) ∧ Below w.heap.size w w' ∧ w.heap.size < w'.heap.size ∧ ∀ j y, al[m + j]? = some y → w'.cell? ⟨w.heap.size, j, none⟩ = some (.int .u64 (y : Int)) := by
  obtain ⟨vt, vw, th, p, h1, h2, h3, h4⟩ := H.v
  rw [hm] at h1
  have hn := VK.nums h1
  have hl : th.length = al.length - m := by
    have := congrArg List.length hn
    rwa [List.length_map, List.length_drop] at this
  refine (list_any h2 (by omega)).mono ?_
  rintro e w' ⟨rfl, h5⟩
  rw [hl] at h5 ⊢
  obtain ⟨cs, g1, g2, g3⟩ := h5.box
  refine ⟨rfl, h5.bel, g1.lt, fun j y hy => ?_⟩
  rw [g1.cellAt]
  have hy2 : (th.map SpV.n)[j]? = some y := by rw [hn, List.getElem?_drop]; exact hy
  rw [List.getElem?_map] at hy2
  cases ht : th[j]? with
  | none => rw [ht] at hy2; cases hy2
  | some z =>
    rw [ht] at hy2
    obtain rfl : z.n = y := by simpa using hy2
    exact g3 j z (by have := (List.getElem?_eq_some_iff.1 ht).1; omega) ht
theorem VK.has {w0 w : World} {S0 k V b nf kp : Nat} {c : List Nat} {al : List Nat} {va : Value} {x : SnV} (H : VK w0 w S0 k V b nf kp c al va x) (hkp4 : kp ≤ 4) (hpw : al.Pairwise (· < ·)) (m : Nat) (hm : al.length - kp = m) (i t : Nat) (ht : al[i]? = some t) {vn : Int} (hvn : vn = (t : Int)) :
    Calls Tryz.prog 15 #[.pointer (some ⟨V, 0, none⟩), .int .u64 vn] w fun e w' => e = .returned (.bool (decide (m ≤ i))) ∧ Below w.heap.size w w' := by
  subst hvn
  obtain ⟨vt, vw, th, p, h1, h2, h3, h4⟩ := H.v
  rw [hm] at h1
  have hn := VK.nums h1
  have hl : th.length = al.length - m := by
    have := congrArg List.length hn
    rwa [List.length_map, List.length_drop] at this
  have hge : ∀ (a : Nat) (z : SpV), th[a]? = some z → al[m + a]? = some z.n := by
    intro a z hz
    have : (th.map SpV.n)[a]? = some z.n := by rw [List.getElem?_map, hz]; rfl
    rwa [hn, List.getElem?_drop] at this
  have hlt2 : ∀ (a e : Nat) (y z : Nat), a < e → al[a]? = some y → al[e]? = some z → y < z := by
    intro a e y z hae hy hz
    obtain ⟨ha, rfl⟩ := List.getElem?_eq_some_iff.1 hy
    obtain ⟨he, rfl⟩ := List.getElem?_eq_some_iff.1 hz
    exact List.pairwise_iff_getElem.1 hpw a e ha he hae
  have hs : Srt th := fun a e y z hae hy hz => hlt2 _ _ _ _ (Nat.add_lt_add_left hae m) (hge a y hy) (hge e z hz)
  refine (has_any h2 (by omega) hs t).mono ?_
  rintro e w' ⟨rfl, h5⟩
  refine ⟨?_, h5⟩
  congr 2
  have hil := (List.getElem?_eq_some_iff.1 ht).1
  by_cases hmi : m ≤ i
  · rw [decide_eq_true hmi, List.any_eq_true]
    have : (th.map SpV.n)[i - m]? = some t := by rw [hn, List.getElem?_drop, Nat.add_sub_cancel' hmi]; exact ht
    obtain ⟨z, hz, e⟩ := List.mem_map.1 (List.mem_of_getElem? this)
    exact ⟨z, hz, by simp [e]⟩
  · rw [decide_eq_false hmi, List.any_eq_false]
    intro z hz
    obtain ⟨a, ha⟩ := List.mem_iff_getElem?.1 hz
    have := hlt2 i (m + a) _ _ (by omega) ht (hge a z ha)
    simp only [beq_iff_eq]
    omega
theorem VK.used {w0 w : World} {S0 k V b nf kp : Nat} {c : List Nat} {al : List Nat} {va : Value} {x : SnV} (H : VK w0 w S0 k V b nf kp c al va x) (hc : sealed (sOut x.s) = c) (hl : 10 + x.s.marks.length + 4 * x.s.panes.length + 4 * x.s.outs.length ≤ 20000) (hkp4 : kp ≤ 4) (hlt : ∀ m ∈ al, m ≤ 1000) (hkl : kp ≤ al.length) :
    Calls Tryz.prog 16 #[.pointer (some ⟨k, 0, none⟩)] w fun e w' => ∃ us : Nat, e = .returned (.int .i64 (us : Int)) ∧ w' = w ∧ kp * (sealed c).length ≤ us ∧ us ≤ kp * (sealed c).length + 400 ∧ us ≤ 1048576 := by
  obtain ⟨vt, vw, th, p, h1, h2, h3, h4⟩ := H.v
  obtain ⟨hz, hb⟩ := snb_len2 hl
  rw [hc] at hz hb
  obtain ⟨g1, g2⟩ := FF_sum hb (ns := al.drop (al.length - kp)) (fun m hm => by have := hlt m (List.mem_of_mem_drop hm); omega)
  rw [List.length_drop, show al.length - (al.length - kp) = kp by omega] at g1 g2
  rw [← h3.sum] at g1 g2
  have h5 : kp * ((sealed c).length + 100) ≤ 4 * (160000 + 100) := Nat.mul_le_mul hkp4 (by omega)
  refine (kUsed h2.st).mono ?_
  rintro e w' ⟨rfl, rfl⟩
  refine ⟨_, rfl, rfl, g1, ?_, by omega⟩
  rw [Nat.mul_add] at g2
  omega
end Go.Proofs.YtbfhcbihgleddaaGreatDoor
