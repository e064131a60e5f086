/-
  What each call does to the disk as a list of files.
-/
import Derived.Test.YtnokibjhkdaamaaDNames
namespace Go.Proofs.Ytnokibjhkdaamaa
open Go.RowKit Go.Maps

def pWrite (p : Pd) (s : List UInt8) (x : List Nat) : Pd × Int :=
  if p.left = 0 then (p, 23) else if okName s = false then (p, 21) else
  if 1048576 < x.length ∨ p.room < (fSum p.l : Int) - (fWas s p.l : Int) + (x.length : Int) then (p, 22) else
  (({ p with l := fPut ⟨s, x, 0⟩ p.l } : Pd).done, 0)
def pDelete (p : Pd) (s : List UInt8) : Pd × Int :=
  match (pFind p s).1 with
  | some _ => (({ p with l := fDel s p.l } : Pd).done, 0)
  | none => (p, (pFind p s).2)
def pSync (p : Pd) (s : List UInt8) : Pd × Int :=
  match (pFind p s).1 with
  | some f => (({ p with l := fPut ⟨s, f.x, f.x.length⟩ p.l } : Pd).done, 0)
  | none => (p, (pFind p s).2)
def pRename (p : Pd) (s t : List UInt8) : Pd × Int :=
  match (pFind p s).1 with
  | some f => if okName t = false then (p, 21) else (({ p with l := fPut ⟨t, f.x, f.s⟩ (fDel s p.l) } : Pd).done, 0)
  | none => (p, (pFind p s).2)

theorem pFind_some {p : Pd} {s : List UInt8} {f : Fi} (h : (pFind p s).1 = some f) : (pFind p s).2 = 0 ∧ p.left ≠ 0 ∧ fGet s p.l = some f := by
  unfold pFind at *
  by_cases h0 : p.left = 0
  · rw [if_pos h0] at h; cases h
  · rw [if_neg h0] at *
    cases e : fGet s p.l with
    | none => rw [e] at h; cases h
    | some g => rw [e] at h; simp at h; subst h; exact ⟨rfl, h0, rfl⟩
theorem pFind_none {p : Pd} {s : List UInt8} (h : (pFind p s).1 = none) : (pFind p s).2 ≠ 0 := by
  unfold pFind at *
  by_cases h0 : p.left = 0
  · rw [if_pos h0]; simp
  · rw [if_neg h0] at *
    cases e : fGet s p.l with
    | none => simp
    | some g => rw [e] at h; cases h
theorem sb_strOf {x : List Nat} (h : Byts x) : sb (strOf x) = x := by
  unfold sb strOf
  simp only [List.map_map]
  conv => rhs; rw [← List.map_id x]
  apply List.map_congr_left
  intro a ha
  obtain ⟨i, hi, rfl⟩ := List.getElem_of_mem ha
  have := h i _ (List.getElem?_eq_getElem hi)
  simp [Function.comp]
  omega
theorem strOf_inj {x y : List Nat} (hx : Byts x) (hy : Byts y) (h : strOf x = strOf y) : x = y := by rw [← sb_strOf hx, ← sb_strOf hy, h]
theorem Byts.nil : Byts [] := fun i x h => by simp at h
theorem Byts.take {x : List Nat} (h : Byts x) (n : Nat) : Byts (x.take n) := fun i a ha => by
  rw [List.getElem?_take] at ha
  split at ha
  · exact h i a ha
  · cases ha
theorem sb_byts (s : ByteArray) : Byts (sb s) := fun i x hx => by
  unfold sb at hx
  rw [List.getElem?_map] at hx
  obtain ⟨y, _, rfl⟩ := Option.map_eq_some_iff.1 hx
  exact y.toNat_lt
theorem Ok.data {p : Pd} {n : Nat} (h : Ok p n) (s : List UInt8) : (fData (pFind p s).1).length ≤ 1048576 ∧ Byts (fData (pFind p s).1) := by
  cases e : (pFind p s).1 with
  | none => exact ⟨by simp [fData], Byts.nil⟩
  | some f =>
    have := (fGet_mem (pFind_some e).2.2).1
    exact ⟨h.size f this, h.byts f this⟩
theorem Ok.put {p : Pd} {n : Nat} (h : Ok p n) (f : Fi) (h1 : okName f.n = true) (h2 : f.x.length ≤ 1048576) (h3 : f.s ≤ f.x.length) (h4 : Byts f.x) (hn : n + 1 ≤ 1000000) : Ok { p with l := fPut f p.l } (n + 1) where
  rise := h.rise.put f
  name := fun g hg => by rcases mem_fPut.1 hg with rfl | hg; exact h1; exact h.name g hg.1
  size := fun g hg => by rcases mem_fPut.1 hg with rfl | hg; exact h2; exact h.size g hg.1
  sync := fun g hg => by rcases mem_fPut.1 hg with rfl | hg; exact h3; exact h.sync g hg.1
  byts := fun g hg => by rcases mem_fPut.1 hg with rfl | hg; exact h4; exact h.byts g hg.1
  len := by
    show (fPut f p.l).length ≤ n + 1
    unfold fPut
    rw [len_ins]
    have := len_del f.n p.l
    have := h.len
    omega
  many := hn
theorem Ok.del {p : Pd} {n : Nat} (h : Ok p n) (s : List UInt8) : Ok { p with l := fDel s p.l } n where
  rise := h.rise.del s
  name := fun g hg => h.name g (mem_fDel.1 hg).1
  size := fun g hg => h.size g (mem_fDel.1 hg).1
  sync := fun g hg => h.sync g (mem_fDel.1 hg).1
  byts := fun g hg => h.byts g (mem_fDel.1 hg).1
  len := Nat.le_trans (len_del s p.l) h.len
  many := h.many
theorem Ok.done {p : Pd} {n : Nat} (h : Ok p n) : Ok p.done n := ⟨h.rise, h.name, h.size, h.sync, h.byts, h.len, h.many⟩
theorem Ok.more {p : Pd} {n : Nat} (h : Ok p n) (hn : n + 1 ≤ 1000000) : Ok p (n + 1) := { h with len := Nat.le_succ_of_le h.len, many := hn }
theorem fSum_put {l : List Fi} (h : Rise l) (f : Fi) : fSum (fPut f l) + fWas f.n l = fSum l + f.x.length := by
  unfold fPut
  rw [fSum_ins]
  have := fSum_del h f.n
  omega
theorem fWas_data (p : Pd) (s : List UInt8) (f : Fi) (h : fGet s p.l = some f) : fWas s p.l = f.x.length := by unfold fWas; rw [h]
theorem atKey_p (p : Pd) (s : ByteArray) : ∃ x : List Nat, ∃ m : Nat, p.dk.D.atKey (key s) nofile = fd (strOf x) m ∧ x.length = fWas (nm s) p.l := by
  unfold Pd.dk
  dsimp only
  rw [key_nm, mkD_atKey]
  unfold fWas
  cases fGet (nm s) p.l with
  | none => exact ⟨[], 0, rfl, rfl⟩
  | some f => exact ⟨f.x, f.s, rfl, rfl⟩

theorem write_p {p : Pd} {n : Nat} (h : Ok p n) (s : ByteArray) (l : List Nat) (hl : Byts l) (hn : n + 1 ≤ 1000000) (x : ByteArray) (hx : x.size = fWas (nm s) p.l) :
    dWrite p.dk s l x = ((pWrite p (nm s) l).1.dk, (pWrite p (nm s) l).2) ∧ Ok (pWrite p (nm s) l).1 (n + 1) := by
  unfold dWrite pWrite
  rw [isNm_ok, hx]
  show (if p.left = 0 then _ else _) = _ ∧ _
  by_cases h0 : p.left = 0
  · simp only [if_pos h0]; exact ⟨trivial, h.more hn⟩
  · simp only [if_neg h0]
    by_cases h1 : okName (nm s) = false
    · simp only [if_pos h1]; exact ⟨trivial, h.more hn⟩
    · simp only [if_neg h1]
      show (if 1048576 < l.length ∨ p.room < (fSum p.l : Int) - (fWas (nm s) p.l : Int) + (l.length : Int) then _ else _) = _ ∧ _
      by_cases h2 : 1048576 < l.length ∨ p.room < (fSum p.l : Int) - (fWas (nm s) p.l : Int) + (l.length : Int)
      · simp only [if_pos h2]; exact ⟨trivial, h.more hn⟩
      · simp only [if_neg h2]
        refine ⟨?_, (h.put ⟨nm s, l, 0⟩ (by simpa using h1) (by show l.length ≤ _; omega) (Nat.zero_le _) hl hn).done⟩
        rw [Pd.done_dk]
        have e1 : (mkD p.l).put (key s) (fd (strOf l) 0) = mkD (fPut ⟨nm s, l, 0⟩ p.l) := mkD_put ⟨nm s, l, 0⟩ p.l
        have e2 : (fSum p.l : Int) - (fWas (nm s) p.l : Int) + (l.length : Int) = fSum (fPut ⟨nm s, l, 0⟩ p.l) := by
          have := fSum_put h.rise ⟨nm s, l, 0⟩
          dsimp only at this
          omega
        have e3 : ({ p.dk with D := p.dk.D.put (key s) (fd (strOf l) 0), used := p.dk.used - (fWas (nm s) p.l : Nat) + (l.length : Nat) } : Dk) = ({ p with l := fPut ⟨nm s, l, 0⟩ p.l } : Pd).dk := by
          unfold Pd.dk
          dsimp only
          rw [e1, e2]
        rw [e3]
theorem Write_p {w : World} {k b n : Nat} {p : Pd} (h : PdAt w k b n p) (hn : n + 1 ≤ 1000000) (s : ByteArray) (hs : s.size ≤ maxLen) (vb : Value) (l : List Nat) (hsg : Seg w vb l) (hl : Byts l) :
    Calls Try.prog 18 #[.pointer (some ⟨k, 0, none⟩), .string s, vb] w fun e w' => e = .returned (.int .i64 (pWrite p (nm s) l).2) ∧ PdAt w' k b (n + 1) (pWrite p (nm s) l).1 ∧ Turned k b w w' := by
  obtain ⟨x, m, hxm, hx⟩ := atKey_p p s
  have hx2 : (strOf x).size = fWas (nm s) p.l := by rw [strOf_size]; exact hx
  have hu := h.ok.used
  obtain ⟨e1, e2⟩ := write_p h.ok s l hl hn (strOf x) hx2
  have := Write_any h.at_ s hs vb l hsg (strOf x) m hxm (by rw [hx2]; exact fWas_le h.ok.size) (by show 0 ≤ (fSum p.l : Int) ∧ (fSum p.l : Int) ≤ _; omega) (by have := h.ok.many; unfold maxLen; omega)
  rw [e1] at this
  refine this.mono ?_
  rintro e w' ⟨h1, h2, h3⟩
  exact ⟨h1, ⟨h2, e2⟩, h3⟩

theorem Read_p {w : World} {k b n : Nat} {p : Pd} (h : PdAt w k b n p) (s : ByteArray) (hs : s.size ≤ maxLen) :
    Calls Try.prog 27 #[.pointer (some ⟨k, 0, none⟩), .string s] w (RdPost w (pFind p (nm s)).2 (fData (pFind p (nm s)).1)) := by
  have hdf := dFind_p p s
  obtain ⟨h1, h2⟩ := h.ok.data (nm s)
  have := Read_any h.at_ s hs (strOf (fData (pFind p (nm s)).1)) (fSync (pFind p (nm s)).1) (by rw [hdf]; rfl) (by rw [strOf_size]; exact h1)
  rw [hdf] at this
  dsimp only at this
  rw [sb_strOf h2] at this
  have e : (if (pFind p (nm s)).2 = 0 then fData (pFind p (nm s)).1 else []) = fData (pFind p (nm s)).1 := by
    cases e : (pFind p (nm s)).1 with
    | some f => rw [if_pos (pFind_some e).1]
    | none => rw [if_neg (pFind_none e)]; rfl
  rw [e] at this
  exact this

theorem Delete_p {w : World} {k b n : Nat} {p : Pd} (h : PdAt w k b n p) (s : ByteArray) (hs : s.size ≤ maxLen) :
    Calls Try.prog 25 #[.pointer (some ⟨k, 0, none⟩), .string s] w fun e w' => e = .returned (.int .i64 (pDelete p (nm s)).2) ∧ PdAt w' k b n (pDelete p (nm s)).1 ∧ Turned k b w w' := by
  have hdf := dFind_p p s
  obtain ⟨h1, h2⟩ := h.ok.data (nm s)
  have hu := h.ok.used
  have := Delete_any h.at_ s hs (strOf (fData (pFind p (nm s)).1)) (fSync (pFind p (nm s)).1) (by rw [hdf]; rfl) (by rw [strOf_size]; exact h1) (by show 0 ≤ (fSum p.l : Int) ∧ (fSum p.l : Int) ≤ _; omega)
  have e : dDelete p.dk s (strOf (fData (pFind p (nm s)).1)) = ((pDelete p (nm s)).1.dk, (pDelete p (nm s)).2) ∧ Ok (pDelete p (nm s)).1 n := by
    unfold dDelete pDelete
    rw [hdf]
    dsimp only
    cases e : (pFind p (nm s)).1 with
    | none =>
      rw [if_neg (pFind_none e)]
      exact ⟨rfl, h.ok⟩
    | some f =>
      obtain ⟨e1, e2, e3⟩ := pFind_some e
      rw [if_pos e1]
      refine ⟨?_, (h.ok.del _).done⟩
      dsimp only
      rw [Pd.done_dk]
      have e4 : ({ p.dk with D := p.dk.D.del (key s), used := p.dk.used - ((strOf (fData (some f))).size : Nat) } : Dk) = ({ p with l := fDel (nm s) p.l } : Pd).dk := by
        unfold Pd.dk
        dsimp only
        rw [key_nm, mkD_del, strOf_size]
        have := fSum_del h.ok.rise (nm s)
        rw [fWas_data p (nm s) f e3] at this
        have e5 : (fSum p.l : Int) - ((fData (some f)).length : Nat) = fSum (fDel (nm s) p.l) := by show (fSum p.l : Int) - (f.x.length : Nat) = _; omega
        rw [e5]
      rw [e4]
  rw [e.1] at this
  refine this.mono ?_
  rintro e' w' ⟨h1, h2, h3⟩
  exact ⟨h1, ⟨h2, e.2⟩, h3⟩

theorem Sync_p {w : World} {k b n : Nat} {p : Pd} (h : PdAt w k b n p) (hn : n + 1 ≤ 1000000) (s : ByteArray) (hs : s.size ≤ maxLen) :
    Calls Try.prog 21 #[.pointer (some ⟨k, 0, none⟩), .string s] w fun e w' => e = .returned (.int .i64 (pSync p (nm s)).2) ∧ PdAt w' k b (n + 1) (pSync p (nm s)).1 ∧ Turned k b w w' := by
  have hdf := dFind_p p s
  obtain ⟨h1, h2⟩ := h.ok.data (nm s)
  have := Sync_any h.at_ (by have := h.ok.many; unfold maxLen; omega) s hs (strOf (fData (pFind p (nm s)).1)) (fSync (pFind p (nm s)).1) (by rw [hdf]; rfl) (by rw [strOf_size]; exact h1)
  have e : dSync p.dk s (strOf (fData (pFind p (nm s)).1)) = ((pSync p (nm s)).1.dk, (pSync p (nm s)).2) ∧ Ok (pSync p (nm s)).1 (n + 1) := by
    unfold dSync pSync
    rw [hdf]
    dsimp only
    cases e : (pFind p (nm s)).1 with
    | none =>
      rw [if_neg (pFind_none e)]
      exact ⟨rfl, h.ok.more hn⟩
    | some f =>
      obtain ⟨e1, e2, e3⟩ := pFind_some e
      obtain ⟨m1, m2⟩ := fGet_mem e3
      rw [if_pos e1]
      refine ⟨?_, (h.ok.put ⟨nm s, f.x, f.x.length⟩ (by show okName (nm s) = true; rw [← m2]; exact h.ok.name f m1) (h.ok.size f m1) (Nat.le_refl _) (h.ok.byts f m1) hn).done⟩
      dsimp only
      rw [Pd.done_dk]
      have e4 : ({ p.dk with D := p.dk.D.put (key s) (fd (strOf (fData (some f))) (strOf (fData (some f))).size) } : Dk) = ({ p with l := fPut ⟨nm s, f.x, f.x.length⟩ p.l } : Pd).dk := by
        unfold Pd.dk
        dsimp only
        rw [strOf_size]
        have e6 : (mkD p.l).put (key s) (fd (strOf (fData (some f))) ((fData (some f)).length : Nat)) = mkD (fPut ⟨nm s, f.x, f.x.length⟩ p.l) := mkD_put ⟨nm s, f.x, f.x.length⟩ p.l
        rw [e6]
        have := fSum_put h.ok.rise ⟨nm s, f.x, f.x.length⟩
        dsimp only at this
        rw [fWas_data p (nm s) f e3] at this
        have e5 : fSum p.l = fSum (fPut ⟨nm s, f.x, f.x.length⟩ p.l) := by omega
        rw [← e5]
      rw [e4]
  rw [e.1] at this
  refine this.mono ?_
  rintro e' w' ⟨h1, h2, h3⟩
  exact ⟨h1, ⟨h2, e.2⟩, h3⟩

theorem Rename_p {w : World} {k b n : Nat} {p : Pd} (h : PdAt w k b n p) (hn : n + 1 ≤ 1000000) (s t : ByteArray) (hs : s.size ≤ maxLen) (ht : t.size ≤ maxLen) :
    Calls Try.prog 23 #[.pointer (some ⟨k, 0, none⟩), .string s, .string t] w fun e w' => e = .returned (.int .i64 (pRename p (nm s) (nm t)).2) ∧ PdAt w' k b (n + 1) (pRename p (nm s) (nm t)).1 ∧ Turned k b w w' := by
  have hdf := dFind_p p s
  obtain ⟨h1, h2⟩ := h.ok.data (nm s)
  have hu := h.ok.used
  have hok2 := h.ok.del (nm s)
  obtain ⟨y, my, hym, hy⟩ := atKey_p ({ p with l := fDel (nm s) p.l } : Pd) t
  have hym2 : (p.dk.D.del (key s)).atKey (key t) nofile = fd (strOf y) my := by
    have : p.dk.D.del (key s) = ({ p with l := fDel (nm s) p.l } : Pd).dk.D := mkD_del (nm s) p.l
    rw [this]; exact hym
  have hmw : (fSync (pFind p (nm s)).1) ≤ 1048576 := by
    cases e : (pFind p (nm s)).1 with
    | none => simp [fSync]
    | some f =>
      have m1 := (fGet_mem (pFind_some e).2.2).1
      exact Nat.le_trans (h.ok.sync f m1) (h.ok.size f m1)
  have := Rename_any h.at_ (by have := h.ok.many; unfold maxLen; omega) s t hs ht (strOf (fData (pFind p (nm s)).1)) (fSync (pFind p (nm s)).1) (by rw [hdf]; rfl) (by rw [strOf_size]; exact h1) (wf_in (by omega)) (strOf y) my hym2 (by rw [strOf_size, hy]; exact fWas_le hok2.size) (by show 0 ≤ (fSum p.l : Int) ∧ (fSum p.l : Int) ≤ _; omega)
  have e : dRename p.dk s t (strOf (fData (pFind p (nm s)).1)) (fSync (pFind p (nm s)).1) (strOf y) = ((pRename p (nm s) (nm t)).1.dk, (pRename p (nm s) (nm t)).2) ∧ Ok (pRename p (nm s) (nm t)).1 (n + 1) := by
    unfold dRename pRename
    rw [hdf]
    dsimp only
    cases e : (pFind p (nm s)).1 with
    | none =>
      rw [if_neg (pFind_none e)]
      exact ⟨rfl, h.ok.more hn⟩
    | some f =>
      obtain ⟨e1, e2, e3⟩ := pFind_some e
      obtain ⟨m1, m2⟩ := fGet_mem e3
      rw [if_pos e1, isNm_ok]
      dsimp only
      by_cases hnm : okName (nm t) = false
      · rw [if_pos hnm, if_pos hnm]
        exact ⟨rfl, h.ok.more hn⟩
      · rw [if_neg hnm, if_neg hnm]
        have hk := hok2.put ⟨nm t, f.x, f.s⟩ (by simpa using hnm) (h.ok.size f m1) (h.ok.sync f m1) (h.ok.byts f m1) hn
        refine ⟨?_, hk.done⟩
        dsimp only
        rw [Pd.done_dk]
        have e4 : ({ p.dk with D := (p.dk.D.del (key s)).put (key t) (fd (strOf (fData (some f))) (fSync (some f))), used := p.dk.used - ((strOf y).size : Nat) } : Dk) = ({ p with l := fPut ⟨nm t, f.x, f.s⟩ (fDel (nm s) p.l) } : Pd).dk := by
          unfold Pd.dk
          dsimp only
          rw [strOf_size, key_nm, mkD_del]
          have e6 : (mkD (fDel (nm s) p.l)).put (key t) (fd (strOf (fData (some f))) (fSync (some f))) = mkD (fPut ⟨nm t, f.x, f.s⟩ (fDel (nm s) p.l)) := mkD_put ⟨nm t, f.x, f.s⟩ (fDel (nm s) p.l)
          rw [e6]
          have e7 := fSum_put hok2.rise ⟨nm t, f.x, f.s⟩
          have e8 := fSum_del h.ok.rise (nm s)
          rw [fWas_data p (nm s) f e3] at e8
          dsimp only at e7 hy
          have e5 : (fSum p.l : Int) - (y.length : Nat) = fSum (fPut ⟨nm t, f.x, f.s⟩ (fDel (nm s) p.l)) := by omega
          rw [e5]
        rw [e4]
  rw [e.1] at this
  refine this.mono ?_
  rintro e' w' ⟨h1, h2, h3⟩
  exact ⟨h1, ⟨h2, e.2⟩, h3⟩

theorem New_p (w : World) (x : Int) (hx : (Lit.int .i64 x).wf = true) :
    Calls Try.prog 10 #[.int .i64 x] w fun e w' => e = .returned (.pointer (some ⟨w.heap.size + 1, 0, none⟩)) ∧ PdAt w' (w.heap.size + 1) w.heap.size 0 ⟨[], max x 0, -1⟩ ∧ Below w.heap.size w w' := by
  refine (New_any w x hx).mono ?_
  rintro e w' ⟨h1, h2, h3⟩
  exact ⟨h1, ⟨h2, ⟨List.Pairwise.nil, by simp, by simp, by simp, by simp, by simp, by omega⟩⟩, h3⟩
theorem Dead_p {w : World} {k b n : Nat} {p : Pd} (h : PdAt w k b n p) :
    Calls Try.prog 39 #[.pointer (some ⟨k, 0, none⟩)] w fun e w' => e = .returned (.bool (p.left == 0)) ∧ w' = w := Dead_any h.at_
theorem Used_p {w : World} {k b n : Nat} {p : Pd} (h : PdAt w k b n p) :
    Calls Try.prog 13 #[.pointer (some ⟨k, 0, none⟩)] w fun e w' => e = .returned (.int .i64 (fSum p.l : Nat)) ∧ w' = w := Used_any h.at_
theorem Room_p {w : World} {k b n : Nat} {p : Pd} (h : PdAt w k b n p) (x : Int) (hx : (Lit.int .i64 x).wf = true) :
    Calls Try.prog 30 #[.pointer (some ⟨k, 0, none⟩), .int .i64 x] w fun e w' => e = .returned (.tuple #[]) ∧ PdAt w' k b n { p with room := max x 0 } ∧ Turned k b w w' := by
  refine (Room_any h.at_ x hx).mono ?_
  rintro e w' ⟨h1, h2, h3⟩
  exact ⟨h1, ⟨h2, ⟨h.ok.rise, h.ok.name, h.ok.size, h.ok.sync, h.ok.byts, h.ok.len, h.ok.many⟩⟩, h3⟩
theorem Cut_p {w : World} {k b n : Nat} {p : Pd} (h : PdAt w k b n p) (x : Int) (hx : (Lit.int .i64 x).wf = true) :
    Calls Try.prog 32 #[.pointer (some ⟨k, 0, none⟩), .int .i64 x] w fun e w' => e = .returned (.tuple #[]) ∧ PdAt w' k b n { p with left := if p.left = 0 then 0 else max x (-1) } ∧ Turned k b w w' := by
  refine (Cut_any h.at_ x hx).mono ?_
  rintro e w' ⟨h1, h2, h3⟩
  exact ⟨h1, ⟨h2, ⟨h.ok.rise, h.ok.name, h.ok.size, h.ok.sync, h.ok.byts, h.ok.len, h.ok.many⟩⟩, h3⟩
end Go.Proofs.Ytnokibjhkdaamaa
