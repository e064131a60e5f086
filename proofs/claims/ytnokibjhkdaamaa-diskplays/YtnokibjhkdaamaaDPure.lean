/-
  The disk as a plain list of files, sorted by their names: no walk.
-/
import Derived.Test.YtnokibjhkdaamaaDTorn
import Derived.Test.YtnokibjhkdaamaaShelf
namespace Go.Proofs.Ytnokibjhkdaamaa
open Go.RowKit Go.Maps

/-- A file: its name, its bytes, how many of them are synced. -/
structure Fi where
  n : List UInt8
  x : List Nat
  s : Nat
def Fi.ent (f : Fi) : Lit × DataW Unit := (.string f.n, fd (strOf f.x) f.s)
def mkD (l : List Fi) : DataW Unit := .map (l.map Fi.ent)
def fIns (f : Fi) : List Fi → List Fi
  | [] => [f]
  | g :: r => if bytesBefore f.n g.n then f :: g :: r else g :: fIns f r
def fDel (s : List UInt8) (l : List Fi) : List Fi := l.filter fun f => !(f.n == s)
def fPut (f : Fi) (l : List Fi) : List Fi := fIns f (fDel f.n l)
def fGet (s : List UInt8) (l : List Fi) : Option Fi := l.find? fun f => f.n == s
def fSum (l : List Fi) : Nat := (l.map fun f => f.x.length).sum
def nm (s : ByteArray) : List UInt8 := s.data.toList
theorem nm_length (s : ByteArray) : (nm s).length = s.size := by simp [nm]
theorem nm_ba (l : List UInt8) : nm ⟨l.toArray⟩ = l := by simp [nm]
theorem ba_nm (s : ByteArray) : (⟨(nm s).toArray⟩ : ByteArray) = s := by simp [nm]
theorem nm_inj {s t : ByteArray} (h : nm s = nm t) : s = t := by rw [← ba_nm s, ← ba_nm t, h]
theorem key_nm (s : ByteArray) : key s = .string (nm s) := rfl

theorem filter_ents (s : List UInt8) (l : List Fi) : (l.map Fi.ent).filter (fun p => !p.1.sameKey (.string s)) = (fDel s l).map Fi.ent := by
  induction l with
  | nil => rfl
  | cons f r ih =>
    simp only [List.map_cons, fDel, List.filter_cons, Fi.ent, Lit.sameKey] at *
    by_cases h : (f.n == s) = true
    · simp only [h, Bool.not_true, Bool.false_eq_true, if_false]; exact ih
    · have h : (f.n == s) = false := by simpa using h
      simp only [h, Bool.not_false, if_true, List.map_cons, Fi.ent]; rw [ih]
theorem insert_ents (f : Fi) (l : List Fi) : DataW.insert f.ent (l.map Fi.ent) = (fIns f l).map Fi.ent := by
  induction l with
  | nil => rfl
  | cons g r ih =>
    simp only [List.map_cons, DataW.insert, fIns]
    show (if bytesBefore f.n g.n = true then _ else _) = _
    by_cases h : bytesBefore f.n g.n = true
    · rw [if_pos h, if_pos h]; rfl
    · rw [if_neg h, if_neg h, ih]; rfl
theorem mkD_del (s : List UInt8) (l : List Fi) : (mkD l).del (.string s) = mkD (fDel s l) := by
  unfold mkD DataW.del
  dsimp only
  rw [filter_ents]
theorem mkD_put (f : Fi) (l : List Fi) : (mkD l).put (.string f.n) (fd (strOf f.x) f.s) = mkD (fPut f l) := by
  unfold mkD DataW.put fPut
  dsimp only
  rw [filter_ents]
  exact congrArg _ (insert_ents f _)
theorem find_ents (s : List UInt8) (l : List Fi) : (l.map Fi.ent).find? (fun p => p.1.sameKey (.string s)) = (fGet s l).map Fi.ent := by
  induction l with
  | nil => rfl
  | cons f r ih =>
    simp only [List.map_cons, fGet, List.find?_cons, Fi.ent, Lit.sameKey] at *
    by_cases h : (f.n == s) = true
    · simp only [h]; rfl
    · have h : (f.n == s) = false := by simpa using h
      simp only [h]; exact ih
theorem mkD_atKey (s : List UInt8) (l : List Fi) : (mkD l).atKey (.string s) nofile = match fGet s l with | some f => fd (strOf f.x) f.s | none => nofile := by
  unfold mkD DataW.atKey
  dsimp only
  rw [find_ents]
  cases fGet s l <;> rfl
theorem mkD_has (s : List UInt8) (l : List Fi) : has (mkD l) (.string s) = (fGet s l).isSome := by
  unfold mkD
  rw [has_eq]
  unfold fGet
  induction l with
  | nil => rfl
  | cons f r ih =>
    simp only [List.map_cons, List.any_cons, List.find?_cons, ih]
    show ((f.n == s) || _) = _
    by_cases h : (f.n == s) = true
    · simp only [h]; rfl
    · have h : (f.n == s) = false := by simpa using h
      simp only [h]; rfl
theorem mkD_keys (l : List Fi) : strKeys (mkD l) = l.map Fi.n := by
  unfold mkD strKeys
  dsimp only
  rw [List.map_map]
  apply List.map_congr_left
  intro f _
  rfl
theorem mkD_size (l : List Fi) : Maps.size (mkD l) = l.length := by
  unfold mkD
  rw [size_eq, List.length_map]

/-- The names rise. -/
def Rise (l : List Fi) : Prop := l.Pairwise fun f g => bytesBefore f.n g.n = true
theorem fDel_sub (s : List UInt8) (l : List Fi) : (fDel s l).Sublist l := List.filter_sublist
theorem Rise.del {l : List Fi} (h : Rise l) (s : List UInt8) : Rise (fDel s l) := List.Pairwise.sublist (fDel_sub s l) h
theorem mem_fIns {f g : Fi} {l : List Fi} : g ∈ fIns f l ↔ g = f ∨ g ∈ l := by
  induction l with
  | nil => simp [fIns]
  | cons a r ih =>
    unfold fIns
    split
    · simp
    · simp only [List.mem_cons, ih]
      constructor
      · rintro (h | h | h) <;> simp [h]
      · rintro (h | h | h) <;> simp [h]
theorem mem_fDel {g : Fi} {s : List UInt8} {l : List Fi} : g ∈ fDel s l ↔ g ∈ l ∧ g.n ≠ s := by
  unfold fDel
  rw [List.mem_filter]
  simp
theorem mem_fPut {f g : Fi} {l : List Fi} : g ∈ fPut f l ↔ g = f ∨ g ∈ l ∧ g.n ≠ f.n := by
  unfold fPut
  rw [mem_fIns, mem_fDel]
theorem Rise.ins {l : List Fi} (h : Rise l) (f : Fi) (hf : ∀ g ∈ l, g.n ≠ f.n) : Rise (fIns f l) := by
  induction l with
  | nil => simp [fIns, Rise]
  | cons a r ih =>
    unfold fIns
    have h0 := List.pairwise_cons.1 h
    split
    · rename_i hb
      refine List.pairwise_cons.2 ⟨fun g hg => ?_, h⟩
      rcases List.mem_cons.1 hg with rfl | hg
      · exact hb
      · exact WideShapes.bytes_trans _ _ _ hb (h0.1 g hg)
    · rename_i hb
      refine List.pairwise_cons.2 ⟨fun g hg => ?_, ih h0.2 fun g hg => hf g (List.mem_cons_of_mem _ hg)⟩
      rcases mem_fIns.1 hg with rfl | hg
      · rcases WideAt.bytes_total a.n g.n (hf a List.mem_cons_self) with h1 | h1
        · exact h1
        · exact absurd h1 hb
      · exact h0.1 g hg
theorem Rise.put {l : List Fi} (h : Rise l) (f : Fi) : Rise (fPut f l) := (h.del f.n).ins f fun _ hg => (mem_fDel.1 hg).2
theorem fGet_mem {s : List UInt8} {l : List Fi} {f : Fi} (h : fGet s l = some f) : f ∈ l ∧ f.n = s := by
  unfold fGet at h
  exact ⟨List.mem_of_find?_eq_some h, by simpa using List.find?_some h⟩
theorem fGet_none {s : List UInt8} {l : List Fi} (h : fGet s l = none) : ∀ f ∈ l, f.n ≠ s := by
  unfold fGet at h
  intro f hf e
  have := List.find?_eq_none.1 h f hf
  simp [e] at this
theorem fGet_of_mem {l : List Fi} (h : Rise l) {f : Fi} (hf : f ∈ l) : fGet f.n l = some f := by
  unfold fGet
  induction l with
  | nil => cases hf
  | cons a r ih =>
    have h0 := List.pairwise_cons.1 h
    rcases List.mem_cons.1 hf with rfl | hf
    · simp
    · have hne : (a.n == f.n) = false := by
        have h1 := h0.1 f hf
        rw [beq_eq_false_iff_ne]
        intro e
        rw [e, WideAt.bytes_irrefl] at h1
        cases h1
      rw [List.find?_cons, hne]
      exact ih h0.2 hf
theorem fSum_ins (f : Fi) (l : List Fi) : fSum (fIns f l) = f.x.length + fSum l := by
  induction l with
  | nil => simp [fIns, fSum]
  | cons a r ih =>
    unfold fIns
    split
    · simp [fSum]
    · simp only [fSum, List.map_cons, List.sum_cons] at *
      omega
theorem len_ins (f : Fi) (l : List Fi) : (fIns f l).length = l.length + 1 := by
  induction l with
  | nil => rfl
  | cons a r ih =>
    unfold fIns
    split
    · rfl
    · simp [ih]
/-- How many bytes the file of a name has. -/
def fWas (s : List UInt8) (l : List Fi) : Nat := match fGet s l with | some f => f.x.length | none => 0
theorem fDel_none {s : List UInt8} {l : List Fi} (h : ∀ f ∈ l, f.n ≠ s) : fDel s l = l := by
  unfold fDel
  rw [List.filter_eq_self]
  intro f hf
  simpa using h f hf
theorem fSum_del {l : List Fi} (h : Rise l) (s : List UInt8) : fSum (fDel s l) + fWas s l = fSum l := by
  induction l with
  | nil => rfl
  | cons a r ih =>
    have h0 := List.pairwise_cons.1 h
    by_cases e : a.n = s
    · have hr : ∀ f ∈ r, f.n ≠ s := fun f hf e' => by
        have := h0.1 f hf
        rw [e, e', WideAt.bytes_irrefl] at this
        cases this
      have e1 : fDel s (a :: r) = r := by
        unfold fDel
        rw [List.filter_cons]
        simp only [e, beq_self_eq_true, Bool.not_true, Bool.false_eq_true, if_false]
        exact fDel_none hr
      have e2 : fWas s (a :: r) = a.x.length := by
        unfold fWas fGet
        rw [List.find?_cons]
        simp [e]
      rw [e1, e2]
      simp only [fSum, List.map_cons, List.sum_cons]
      omega
    · have hb : (a.n == s) = false := by simpa using e
      have e1 : fDel s (a :: r) = a :: fDel s r := by
        unfold fDel
        rw [List.filter_cons]
        simp [hb]
      have e2 : fWas s (a :: r) = fWas s r := by
        unfold fWas fGet
        rw [List.find?_cons, hb]
      rw [e1, e2]
      have := ih h0.2
      simp only [fSum, List.map_cons, List.sum_cons] at *
      omega
theorem len_del (s : List UInt8) (l : List Fi) : (fDel s l).length ≤ l.length := List.length_filter_le _ _
theorem fWas_le {l : List Fi} {s : List UInt8} {B : Nat} (h : ∀ f ∈ l, f.x.length ≤ B) : fWas s l ≤ B := by
  unfold fWas
  cases e : fGet s l with
  | none => simp
  | some f => exact h f (fGet_mem e).1
theorem fSum_le {l : List Fi} {B : Nat} (h : ∀ f ∈ l, f.x.length ≤ B) : fSum l ≤ l.length * B := by
  induction l with
  | nil => simp [fSum]
  | cons a r ih =>
    have h1 := h a List.mem_cons_self
    have h2 := ih fun f hf => h f (List.mem_cons_of_mem _ hf)
    simp only [fSum, List.map_cons, List.sum_cons, List.length_cons, Nat.succ_mul] at *
    omega
theorem fGet_ins (f : Fi) {l : List Fi} (s : List UInt8) (hf : ∀ g ∈ l, g.n ≠ f.n) : fGet s (fIns f l) = if f.n = s then some f else fGet s l := by
  unfold fGet
  induction l with
  | nil =>
    simp only [fIns, List.find?_cons, List.find?_nil]
    by_cases e : f.n = s
    · simp [e]
    · have hb : (f.n == s) = false := by simpa using e
      rw [hb, if_neg e]
  | cons a r ih =>
    have ih := ih fun g hg => hf g (List.mem_cons_of_mem _ hg)
    unfold fIns
    split
    · rw [List.find?_cons]
      by_cases e : f.n = s
      · simp [e]
      · have hb : (f.n == s) = false := by simpa using e
        rw [hb, if_neg e]
    · rw [List.find?_cons, List.find?_cons, ih]
      by_cases e : f.n = s
      · have := hf a List.mem_cons_self
        rw [if_pos e, if_pos e]
        have hb : (a.n == s) = false := by rw [← e]; simpa using this
        rw [hb]
      · rw [if_neg e, if_neg e]
theorem fGet_del (s t : List UInt8) (l : List Fi) : fGet s (fDel t l) = if s = t then none else fGet s l := by
  by_cases e : s = t
  · rw [if_pos e]
    unfold fGet
    rw [List.find?_eq_none]
    intro f hf
    have := (mem_fDel.1 hf).2
    rw [e]; simpa using this
  · rw [if_neg e]
    unfold fGet fDel
    induction l with
    | nil => rfl
    | cons a r ih =>
      rw [List.filter_cons]
      by_cases ha : a.n = t
      · have h1 : (a.n == s) = false := by rw [ha]; simpa using fun h => e h.symm
        simp only [ha, beq_self_eq_true, Bool.not_true, Bool.false_eq_true, if_false]
        rw [ih, List.find?_cons, h1]
      · have hb : (a.n == t) = false := by simpa using ha
        simp only [hb, Bool.not_false, if_true]
        rw [List.find?_cons, List.find?_cons, ih]
theorem fGet_put (f : Fi) (s : List UInt8) (l : List Fi) : fGet s (fPut f l) = if f.n = s then some f else fGet s l := by
  unfold fPut
  rw [fGet_ins f s fun g hg => (mem_fDel.1 hg).2, fGet_del]
  by_cases e : f.n = s
  · rw [if_pos e, if_pos e]
  · rw [if_neg e, if_neg e, if_neg fun h => e h.symm]

/-- Two lists of files with rising names that tell the same of each name are the same. -/
theorem bytes_lt (a b : List UInt8) : bytesBefore a b = decide (a < b) := by
  induction a generalizing b with
  | nil => cases b <;> simp [bytesBefore]
  | cons x r ih =>
    cases b with
    | nil => simp [bytesBefore]
    | cons y t =>
      simp only [bytesBefore, ih]
      rw [Bool.eq_iff_iff]
      simp [List.cons_lt_cons_iff]
theorem sort_names {l : List Fi} (h : Rise l) {ss : List (List UInt8)} (hp : ss.Perm (l.map Fi.n)) : ss.mergeSort (fun x y => decide (x ≤ y)) = l.map Fi.n := by
  have h1 : (ss.mergeSort (fun x y => decide (x ≤ y))).Pairwise (fun a b => a ≤ b) := by
    have := List.pairwise_mergeSort (le := fun x y : List UInt8 => decide (x ≤ y)) (fun a b c => by simp only [decide_eq_true_eq]; exact List.le_trans) (fun a b => by simp only [Bool.or_eq_true, decide_eq_true_eq]; exact List.le_total a b) ss
    simpa using this
  have h2 : (l.map Fi.n).Pairwise (fun a b => a ≤ b) := by
    rw [List.pairwise_map]
    refine List.Pairwise.imp ?_ h
    intro a b hab
    rw [bytes_lt] at hab
    exact List.le_of_lt (of_decide_eq_true hab)
  exact List.Perm.eq_of_pairwise (fun a b _ _ h1 h2 => List.le_antisymm h1 h2) h1 h2 ((List.mergeSort_perm _ _).trans hp)

/-- A disk: its files, its room, how many calls are left. -/
structure Pd where
  l : List Fi
  room : Int
  left : Int
def Pd.dk (p : Pd) : Dk := ⟨mkD p.l, fSum p.l, p.room, p.left⟩
def okName (s : List UInt8) : Bool := decide (1 ≤ s.length ∧ s.length ≤ 32)
/-- What is true of a disk of at most n files. -/
structure Ok (p : Pd) (n : Nat) : Prop where
  rise : Rise p.l
  name : ∀ f ∈ p.l, okName f.n = true
  size : ∀ f ∈ p.l, f.x.length ≤ 1048576
  sync : ∀ f ∈ p.l, f.s ≤ f.x.length
  byts : ∀ f ∈ p.l, Byts f.x
  len : p.l.length ≤ n
  many : n ≤ 1000000
structure PdAt (w : World) (k b n : Nat) (p : Pd) : Prop where
  at_ : DiskAt w k b n p.dk
  ok : Ok p n
theorem PdAt.below {w w' : World} {k b n : Nat} {p : Pd} (h : PdAt w k b n p) (hb : Below w.heap.size w w') : PdAt w' k b n p := ⟨h.at_.below hb, h.ok⟩
theorem PdAt.mono {w : World} {k b n n' : Nat} {p : Pd} (h : PdAt w k b n p) (hn : n ≤ n') (h' : n' ≤ 1000000) : PdAt w k b n' p := ⟨h.at_.mono hn, { h.ok with len := Nat.le_trans h.ok.len hn, many := h' }⟩
theorem DiskAt.other {w w' : World} {k b n k' b' : Nat} {d : Dk} (h : DiskAt w k b n d) (ht : Turned k' b' w w') (h1 : k ≠ k') (h2 : k ≠ b') (h3 : b ≠ k') (h4 : b ≠ b') : DiskAt w' k b n d := by
  refine ⟨?_, ?_, h.used, h.room, h.left⟩
  · have e := h.box
    have hl := h.box.lt
    unfold BoxT at *
    rw [ht.block k hl h1 h2]; exact e
  · obtain ⟨es, clock, e1, e2⟩ := h.map
    exact ⟨es, clock, (ht.block b h.map.lt h3 h4).trans e1, e2⟩
theorem PdAt.other {w w' : World} {k b n k' b' : Nat} {p : Pd} (h : PdAt w k b n p) (ht : Turned k' b' w w') (h1 : k ≠ k') (h2 : k ≠ b') (h3 : b ≠ k') (h4 : b ≠ b') : PdAt w' k b n p := ⟨h.at_.other ht h1 h2 h3 h4, h.ok⟩
theorem Ok.used {p : Pd} {n : Nat} (h : Ok p n) : fSum p.l ≤ 1048576000000 := by
  have h1 := fSum_le h.size
  have h2 := h.len
  have h3 := h.many
  have : p.l.length * 1048576 ≤ 1000000 * 1048576 := Nat.mul_le_mul_right _ (by omega)
  omega
def Pd.done (p : Pd) : Pd := { p with left := if 0 < p.left then p.left - 1 else p.left }
theorem Pd.done_dk (p : Pd) : p.done.dk = p.dk.done := rfl
def pFind (p : Pd) (s : List UInt8) : Option Fi × Int :=
  if p.left = 0 then (none, 23) else match fGet s p.l with | some f => (some f, 0) | none => (none, 20)
def fData (o : Option Fi) : List Nat := match o with | some f => f.x | none => []
def fSync (o : Option Fi) : Nat := match o with | some f => f.s | none => 0
theorem strOf_nil : strOf [] = ByteArray.empty := rfl
theorem dFind_p (p : Pd) (s : ByteArray) : dFind p.dk s = (fd (strOf (fData (pFind p (nm s)).1)) (fSync (pFind p (nm s)).1), (pFind p (nm s)).2) := by
  unfold dFind pFind Pd.dk
  dsimp only
  rw [key_nm, mkD_has, mkD_atKey]
  by_cases h : p.left = 0
  · rw [if_pos h, if_pos h]; rfl
  · rw [if_neg h, if_neg h]
    cases fGet (nm s) p.l <;> rfl
theorem isNm_ok (s : ByteArray) : isNm s = okName (nm s) := by
  unfold isNm okName
  rw [nm_length]
theorem okName_dot {s : ByteArray} (h : okName (nm s) = true) : s.size ≤ maxLen := by
  unfold okName at h
  rw [nm_length] at h
  simp at h
  unfold maxLen; omega
end Go.Proofs.Ytnokibjhkdaamaa
