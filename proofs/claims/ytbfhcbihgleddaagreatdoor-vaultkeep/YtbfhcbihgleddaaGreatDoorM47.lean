/-
  Texts of the vault, in build order: VKeepP.
-/
import Derived.Test.YtbfhcbihgleddaaGreatDoorM46
import Derived.Test.YtbfhcbihgleddaaGreatDoorM36
/-
  A vault of snapshots of one part: what Put makes of its disk.
-/
namespace Go.Proofs.YtbfhcbihgleddaaGreatDoor

def pt1 (c : List Nat) (n : Nat) : ByteArray := partN n 0 (crc c)
def XS (c : List Nat) (n : Nat) : Sp := ⟨n, 3, [pt1 c n], [c]⟩
def Wf (c : List Nat) (n : Nat) : Fi := ⟨nm (wholeN n), sealed (mOut n 3 [pt1 c n]), (sealed (mOut n 3 [pt1 c n])).length⟩
def Pf (c : List Nat) (n : Nat) : Fi := ⟨nm (pt1 c n), sealed c, (sealed c).length⟩
def FF (c : List Nat) (ns : List Nat) : List Fi := ns.flatMap fun n => [Wf c n, Pf c n]
theorem newS_XS (c : List Nat) (n : Nat) : newS n 3 [c] = XS c n := rfl
theorem FF_app (c : List Nat) (a b : List Nat) : FF c (a ++ b) = FF c a ++ FF c b := List.flatMap_append
theorem mem_FF {c : List Nat} {ns : List Nat} {s : List UInt8} : s ∈ (FF c ns).map Fi.n ↔ ∃ n ∈ ns, s = nm (wholeN n) ∨ s = nm (pt1 c n) := by
  unfold FF
  simp only [List.mem_map, List.mem_flatMap, List.mem_cons, List.not_mem_nil, or_false]
  constructor
  · rintro ⟨f, ⟨n, hn, rfl | rfl⟩, rfl⟩
    · exact ⟨n, hn, .inl rfl⟩
    · exact ⟨n, hn, .inr rfl⟩
  · rintro ⟨n, hn, rfl | rfl⟩
    · exact ⟨Wf c n, ⟨n, hn, .inl rfl⟩, rfl⟩
    · exact ⟨Pf c n, ⟨n, hn, .inr rfl⟩, rfl⟩
theorem head_w (n : Nat) : (nm (wholeN n)).head? = some 119 := by unfold wholeN; rw [nm_app]; rfl
theorem head_f (n : Nat) : (nm (freshN n)).head? = some 110 := by unfold freshN; rw [nm_app]; rfl
theorem head_p (n i c : Nat) : (nm (partN n i c)).head? = some 112 := by unfold partN; simp only [nm_app, List.append_assoc]; rfl
theorem w_ne_p {n m i c : Nat} : nm (wholeN n) ≠ nm (partN m i c) := fun e => by have := congrArg List.head? e; rw [head_w, head_p] at this; cases this
theorem f_ne_p {n m i c : Nat} : nm (freshN n) ≠ nm (partN m i c) := fun e => by have := congrArg List.head? e; rw [head_f, head_p] at this; cases this
theorem f_ne_w {n m : Nat} : nm (freshN n) ≠ nm (wholeN m) := fun e => by have := congrArg List.head? e; rw [head_f, head_w] at this; cases this
theorem n36_zero : (n36 0).size = 1 := by kernel_rfl
theorem n36_crc {c : List Nat} (hb : Byts c) : (n36 (crc c)).size ≤ 7 := by
  have := d36_len 6 (crc c) (Nat.lt_of_lt_of_le (crc_lt c hb) (by decide))
  show ((d36 (crc c)).map UInt8.ofNat).toArray.size ≤ 7
  simpa using this
theorem pt1_size {c : List Nat} (hb : Byts c) {n : Nat} (hn : n < 18446744073709551616) : (pt1 c n).size ≤ 28 ∧ 1 ≤ (pt1 c n).size := by
  have z1 := n36_size hn
  have z2 := n36_zero
  have z3 := n36_crc hb
  unfold pt1 partN
  simp only [size_append]
  show 5 + _ + 1 + _ + 1 + _ ≤ 28 ∧ 1 ≤ 5 + _ + 1 + _ + 1 + _
  omega
theorem ok_p {c : List Nat} (hb : Byts c) {n : Nat} (hn : n < 18446744073709551616) : okName (nm (pt1 c n)) = true := by
  obtain ⟨h1, h2⟩ := pt1_size hb hn
  unfold okName
  simp only [nm_length, decide_eq_true_eq]
  omega
theorem ok_w {n : Nat} (hn : n < 18446744073709551616) : okName (nm (wholeN n)) = true := by
  have z1 := n36_size hn
  have h1 : (wholeN n).size = 6 + (n36 n).size := by unfold wholeN; rw [size_append]; rfl
  unfold okName
  simp only [nm_length, decide_eq_true_eq, h1]
  omega
theorem ok_f {n : Nat} (hn : n < 18446744073709551616) : okName (nm (freshN n)) = true := by
  have z1 := n36_size hn
  have h1 : (freshN n).size = 4 + (n36 n).size := by unfold freshN; rw [size_append]; rfl
  unfold okName
  simp only [nm_length, decide_eq_true_eq, h1]
  omega
theorem mfits1 {c : List Nat} (hb : Byts c) {n : Nat} (hn : n < 18446744073709551616) : mfits [pt1 c n] = true := by
  have := (pt1_size hb hn).1
  unfold mfits fitsN
  simp
  omega
theorem man_len {c : List Nat} (hb : Byts c) {n : Nat} (hn : n < 18446744073709551616) : (sealed (mOut n 3 [pt1 c n])).length ≤ 100 := by
  have := (pt1_size hb hn).1
  rw [sealed_len, mOut, if_pos (mfits1 hb hn)]
  unfold manb
  have hsb : (sb (pt1 c n)).length = (pt1 c n).size := by simp [sb]
  simp [be_length, namesb, nameb, hsb]
  omega
theorem FF_nodup {c : List Nat} {ns : List Nat} (h : ns.Nodup) : ((FF c ns).map Fi.n).Nodup := by
  induction ns with
  | nil => exact List.nodup_nil
  | cons n ns ih =>
    rw [List.nodup_cons] at h
    show (nm (wholeN n) :: nm (pt1 c n) :: (FF c ns).map Fi.n).Nodup
    rw [List.nodup_cons, List.nodup_cons]
    refine ⟨fun hm => ?_, fun hm => ?_, ih h.2⟩
    · rcases List.mem_cons.1 hm with e | hm
      · exact w_ne_p e
      · obtain ⟨m, hm, e | e⟩ := mem_FF.1 hm
        · exact h.1 (by rw [wholeN_inj e]; exact hm)
        · exact w_ne_p e
    · obtain ⟨m, hm, e | e⟩ := mem_FF.1 hm
      · exact w_ne_p e.symm
      · exact h.1 (by rw [(partN_inj e).1]; exact hm)
theorem FF_sum {c : List Nat} (hb : Byts c) {ns : List Nat} (hn : ∀ n ∈ ns, n < 18446744073709551616) : ns.length * (sealed c).length ≤ fSum (FF c ns) ∧ fSum (FF c ns) ≤ ns.length * ((sealed c).length + 100) := by
  induction ns with
  | nil => simp [FF, fSum]
  | cons n ns ih =>
    obtain ⟨h1, h2⟩ := ih (fun m hm => hn m (by simp [hm]))
    have h3 := man_len hb (hn n (by simp))
    have h4 : fSum (FF c (n :: ns)) = (sealed (mOut n 3 [pt1 c n])).length + ((sealed c).length + fSum (FF c ns)) := by
      show fSum (Wf c n :: Pf c n :: FF c ns) = _
      simp [fSum, Wf, Pf]
    rw [h4, List.length_cons, Nat.succ_mul, Nat.succ_mul]
    omega
theorem fls_FF (c : List Nat) (ns : List Nat) : (FF c ns).map Fi.n = (flsS (ns.map (XS c))).map nm := by
  induction ns with
  | nil => rfl
  | cons n ns ih =>
    show nm (wholeN n) :: nm (pt1 c n) :: (FF c ns).map Fi.n = nm (wholeN n) :: nm (pt1 c n) :: (flsS (ns.map (XS c))).map nm
    rw [ih]
theorem newest_lt {c : List Nat} {ns : List Nat} {n : Nat} (h0 : 0 < n) (h : ∀ m ∈ ns, m < n) : ¬ (n ≤ newestS (ns.map (XS c))) := by
  unfold newestS
  rw [List.getLast?_map]
  cases hl : ns.getLast? with
  | none => simp; omega
  | some m =>
    have := h m (List.mem_of_getLast? hl)
    simp [XS]; omega
set_option maxHeartbeats 1000000 in
/-- What Put does. -/
theorem put_clean {c : List Nat} (hb : Byts c) {p : Pd} {ns : List Nat} {n kp : Nat} (h : Has p (FF c ns)) (hn : n < 18446744073709551616) (h0 : 0 < n) (hlt : ∀ m ∈ ns, m < n) (hr : p.room = 1048576) (hs : (ns.length + 1) * ((sealed c).length + 100) ≤ 1048576) :
    ∃ p', pPut kp p (ns.map (XS c)) [] n 3 ([c], 0) = (p', 0, ((ns ++ [n]).drop (ns.length + 1 - kp)).map (XS c), []) ∧ Has p' (FF c ((ns ++ [n]).drop (ns.length + 1 - kp))) ∧ p'.room = 1048576 := by
  have hns : ∀ m ∈ ns, m < 18446744073709551616 := fun m hm => Nat.lt_trans (hlt m hm) hn
  have hsum := (FF_sum hb hns).2
  have hml := man_len hb hn
  rw [Nat.succ_mul] at hs
  have hp1 : nm (pt1 c n) ∉ (FF c ns).map Fi.n := fun hm => by
    obtain ⟨m, hm, e | e⟩ := mem_FF.1 hm
    · exact w_ne_p e.symm
    · have := hlt m hm
      rw [(partN_inj e).1] at this
      omega
  obtain ⟨p1, e1, h1, r1⟩ := h.store (s := pt1 c n) (c := c) hp1 (ok_p hb hn) (by rw [hr]; omega) (by omega)
  have hf1 : nm (freshN n) ∉ (Pf c n :: FF c ns).map Fi.n := fun hm => by
    rcases List.mem_cons.1 hm with e | hm
    · exact f_ne_p e
    · obtain ⟨m, hm, e | e⟩ := mem_FF.1 hm
      · exact f_ne_w e
      · exact f_ne_p e
  have hs1 : fSum (Pf c n :: FF c ns) = (sealed c).length + fSum (FF c ns) := by simp [fSum, Pf]
  obtain ⟨p2, e2, h2, r2⟩ := Has.store (F := Pf c n :: FF c ns) h1 (s := freshN n) (c := mOut n 3 [pt1 c n]) hf1 (ok_f hn) (by rw [r1, hr, hs1]; omega) (by omega)
  have hw1 : nm (wholeN n) ∉ (Pf c n :: FF c ns).map Fi.n := fun hm => by
    rcases List.mem_cons.1 hm with e | hm
    · exact w_ne_p e
    · obtain ⟨m, hm, e | e⟩ := mem_FF.1 hm
      · have := hlt m hm
        rw [wholeN_inj e] at this
        omega
      · exact w_ne_p e
  obtain ⟨p3, e3, h3, r3⟩ := h2.rename hw1 (ok_w hn)
  have hlay : pLay (XS c n) p [] = (p3, 0, [pt1 c n, freshN n]) := by
    unfold pLay
    have hm : mEr (XS c n).parts = 0 := by unfold mEr; rw [show (XS c n).parts = [pt1 c n] from rfl, mfits1 hb hn]; rfl
    rw [if_pos hm]
    have hst : pStores p [] (XS c n).parts (XS c n).chunks = (p1, 0, [pt1 c n]) := by
      show pStores p [] [pt1 c n] [c] = _
      simp only [pStores, e1]
      simp
    rw [hst]
    simp only [if_true]
    unfold pLay2
    rw [show (XS c n).n = n from rfl, show (XS c n).ep = 3 from rfl, show (XS c n).parts = [pt1 c n] from rfl]
    rw [show pStore p1 (freshN n) (mOut (n : Nat) (3 : Nat) [pt1 c n]) = (p2, 0, true) from e2]
    simp only [if_true, e3]
    rfl
  have hperm : (Wf c n :: Pf c n :: FF c ns).Perm (FF c ((ns ++ [n]).take (ns.length + 1 - kp)) ++ FF c ((ns ++ [n]).drop (ns.length + 1 - kp))) := by
    rw [← FF_app, List.take_append_drop, FF_app]
    exact List.perm_append_comm (l₁ := [Wf c n, Pf c n])
  obtain ⟨p4, e4, h4, r4⟩ := Has.tidy (flsS (((ns ++ [n]).take (ns.length + 1 - kp)).map (XS c))) (Has.re h3 hperm) (fls_FF c _)
  refine ⟨p4, ?_, h4, by rw [r4, r3, r2, r1, hr]⟩
  have hadd : ns.map (XS c) ++ [XS c n] = (ns ++ [n]).map (XS c) := by simp
  unfold pPut
  rw [if_pos rfl, if_neg (newest_lt h0 hlt), newS_XS]
  show pEnd kp (ns.map (XS c)) (XS c n) (pLay (XS c n) p []) = _
  rw [hlay]
  unfold pEnd
  rw [if_pos rfl, hadd, List.length_map, ← List.map_take, ← List.map_drop, e4]
theorem pk_one {s : Sn} (h : sEr s = 0) : pk [] [] [s] = ([sealed (sOut s)], 0) := by
  have h1 := sOut_len s
  have h2 := sealed_len (sOut s)
  rw [pk, if_pos h, if_neg (by simp only [List.length_nil]; omega), List.nil_append, pk, if_neg (by intro e; rw [e] at h2; simp at h2), List.nil_append]
theorem pk_bad {s : Sn} (h : sEr s ≠ 0) : pk [] [] [s] = ([], sEr s) := by rw [pk, if_neg h]
theorem sEr_three (s : Sn) : sEr s = 0 ∨ sEr s = 10 ∨ sEr s = 12 := by
  unfold sEr
  split
  · exact .inr (.inr rfl)
  · split
    · exact .inl rfl
    · exact .inr (.inl rfl)
theorem snb_len2 {s : Sn} (hl : 10 + s.marks.length + 4 * s.panes.length + 4 * s.outs.length ≤ 20000) : (sealed (sealed (sOut s))).length ≤ 160000 ∧ Byts (sealed (sOut s)) := by
  refine ⟨?_, sealed_byts' _ (sOut_byts s)⟩
  rw [sealed_len, sealed_len]
  have h1 := flat_len sbe 8 (fun n => Nat.le_of_eq (sbe_len n)) s.marks
  have h2 := flat_len pnb 32 (fun n => Nat.le_of_eq (pnb_len n)) s.panes
  have h3 := flat_len otb 27 otb_len s.outs
  have h4 : (sOut s).length ≤ (snb s).length := by
    unfold sOut
    split
    · simp
    · split
      · exact Nat.le_refl _
      · simp
  have h5 : (snb s).length ≤ 18 + s.marks.length * 8 + s.panes.length * 32 + s.outs.length * 27 := by
    unfold snb
    simp only [List.length_append, be_length, sbe_len]
    omega
  omega
theorem drop_step (al : List Nat) (n kp : Nat) : (al.drop (al.length - kp) ++ [n]).drop ((al.drop (al.length - kp)).length + 1 - kp) = (al ++ [n]).drop ((al ++ [n]).length - kp) := by
  have h1 : al.drop (al.length - kp) ++ [n] = (al ++ [n]).drop (al.length - kp) := by rw [List.drop_append_of_le_length (by omega)]
  rw [h1, List.drop_drop, List.length_drop, List.length_append, List.length_singleton]
  congr 1
  omega
end Go.Proofs.YtbfhcbihgleddaaGreatDoor
