/-
  Texts of the vault, in build order: DPure, DNames, DLevel, DCrash, DCrashW, DKnown, DArgs, V36, VRead, VMan.
-/
import Derived.Test.YtbfhcbihgleddaaGreatDoorM19
import Derived.Test.YtbfhcbihgleddaaGreatDoorM22
import Derived.Test.YtbfhcbihgleddaaGreatDoorM23
import Derived.Lib.SlBytesConst
/-
  The disk as a plain list of files, sorted by their names: no walk.
-/
namespace Go.Proofs.YtbfhcbihgleddaaGreatDoor
open Go.RowKit Go.Maps

/-- A file: its name, its bytes, how many of them are synced. -/
structure Fi where
  n : List UInt8
  x : List Nat
  s : Nat
def Fi.ent (f : Fi) : Lit × DataW Unit := (.string f.n, fd (strOf f.x) f.s)
def mkD (l : List Fi) : DataW Unit := .map (l.map Fi.ent)
def fIns (f : Fi) : List Fi → List Fi
  | [] => [f]
  | g :: r => if bytesBefore f.n g.n then f :: g :: r else g :: fIns f r
def fDel (s : List UInt8) (l : List Fi) : List Fi := l.filter fun f => !(f.n == s)
def fPut (f : Fi) (l : List Fi) : List Fi := fIns f (fDel f.n l)
def fGet (s : List UInt8) (l : List Fi) : Option Fi := l.find? fun f => f.n == s
def fSum (l : List Fi) : Nat := (l.map fun f => f.x.length).sum
def nm (s : ByteArray) : List UInt8 := s.data.toList
theorem nm_length (s : ByteArray) : (nm s).length = s.size := by simp [nm]
theorem nm_ba (l : List UInt8) : nm ⟨l.toArray⟩ = l := by simp [nm]
theorem ba_nm (s : ByteArray) : (⟨(nm s).toArray⟩ : ByteArray) = s := by simp [nm]
theorem nm_inj {s t : ByteArray} (h : nm s = nm t) : s = t := by rw [← ba_nm s, ← ba_nm t, h]
theorem key_nm (s : ByteArray) : key s = .string (nm s) := rfl

theorem filter_ents (s : List UInt8) (l : List Fi) : (l.map Fi.ent).filter (fun p => !p.1.sameKey (.string s)) = (fDel s l).map Fi.ent := by
  induction l with
  | nil => rfl
  | cons f r ih =>
    simp only [List.map_cons, fDel, List.filter_cons, Fi.ent, Lit.sameKey] at *
    by_cases h : (f.n == s) = true
    · simp only [h, Bool.not_true, Bool.false_eq_true, if_false]; exact ih
    · have h : (f.n == s) = false := by simpa using h
      simp only [h, Bool.not_false, if_true, List.map_cons, Fi.ent]; rw [ih]
theorem insert_ents (f : Fi) (l : List Fi) : DataW.insert f.ent (l.map Fi.ent) = (fIns f l).map Fi.ent := by
  induction l with
  | nil => rfl
  | cons g r ih =>
    simp only [List.map_cons, DataW.insert, fIns]
    show (if bytesBefore f.n g.n = true then _ else _) = _
    by_cases h : bytesBefore f.n g.n = true
    · rw [if_pos h, if_pos h]; rfl
    · rw [if_neg h, if_neg h, ih]; rfl
theorem mkD_del (s : List UInt8) (l : List Fi) : (mkD l).del (.string s) = mkD (fDel s l) := by
  unfold mkD DataW.del
  dsimp only
  rw [filter_ents]
theorem mkD_put (f : Fi) (l : List Fi) : (mkD l).put (.string f.n) (fd (strOf f.x) f.s) = mkD (fPut f l) := by
  unfold mkD DataW.put fPut
  dsimp only
  rw [filter_ents]
  exact congrArg _ (insert_ents f _)
theorem find_ents (s : List UInt8) (l : List Fi) : (l.map Fi.ent).find? (fun p => p.1.sameKey (.string s)) = (fGet s l).map Fi.ent := by
  induction l with
  | nil => rfl
  | cons f r ih =>
    simp only [List.map_cons, fGet, List.find?_cons, Fi.ent, Lit.sameKey] at *
    by_cases h : (f.n == s) = true
    · simp only [h]; rfl
    · have h : (f.n == s) = false := by simpa using h
      simp only [h]; exact ih
theorem mkD_atKey (s : List UInt8) (l : List Fi) : (mkD l).atKey (.string s) nofile = match fGet s l with | some f => fd (strOf f.x) f.s | none => nofile := by
  unfold mkD DataW.atKey
  dsimp only
  rw [find_ents]
  cases fGet s l <;> rfl
theorem mkD_has (s : List UInt8) (l : List Fi) : has (mkD l) (.string s) = (fGet s l).isSome := by
  unfold mkD
  rw [has_eq]
  unfold fGet
  induction l with
  | nil => rfl
  | cons f r ih =>
    simp only [List.map_cons, List.any_cons, List.find?_cons, ih]
    show ((f.n == s) || _) = _
    by_cases h : (f.n == s) = true
    · simp only [h]; rfl
    · have h : (f.n == s) = false := by simpa using h
      simp only [h]; rfl
theorem mkD_keys (l : List Fi) : strKeys (mkD l) = l.map Fi.n := by
  unfold mkD strKeys
  dsimp only
  rw [List.map_map]
  apply List.map_congr_left
  intro f _
  rfl
theorem mkD_size (l : List Fi) : Maps.size (mkD l) = l.length := by
  unfold mkD
  rw [size_eq, List.length_map]

/-- The names rise. -/
def Rise (l : List Fi) : Prop := l.Pairwise fun f g => bytesBefore f.n g.n = true
theorem fDel_sub (s : List UInt8) (l : List Fi) : (fDel s l).Sublist l := List.filter_sublist
theorem Rise.del {l : List Fi} (h : Rise l) (s : List UInt8) : Rise (fDel s l) := List.Pairwise.sublist (fDel_sub s l) h
theorem mem_fIns {f g : Fi} {l : List Fi} : g ∈ fIns f l ↔ g = f ∨ g ∈ l := by
  induction l with
  | nil => simp [fIns]
  | cons a r ih =>
    unfold fIns
    split
    · simp
    · simp only [List.mem_cons, ih]
      constructor
      · rintro (h | h | h) <;> simp [h]
      · rintro (h | h | h) <;> simp [h]
theorem mem_fDel {g : Fi} {s : List UInt8} {l : List Fi} : g ∈ fDel s l ↔ g ∈ l ∧ g.n ≠ s := by
  unfold fDel
  rw [List.mem_filter]
  simp
theorem mem_fPut {f g : Fi} {l : List Fi} : g ∈ fPut f l ↔ g = f ∨ g ∈ l ∧ g.n ≠ f.n := by
  unfold fPut
  rw [mem_fIns, mem_fDel]
theorem Rise.ins {l : List Fi} (h : Rise l) (f : Fi) (hf : ∀ g ∈ l, g.n ≠ f.n) : Rise (fIns f l) := by
  induction l with
  | nil => simp [fIns, Rise]
  | cons a r ih =>
    unfold fIns
    have h0 := List.pairwise_cons.1 h
    split
    · rename_i hb
      refine List.pairwise_cons.2 ⟨fun g hg => ?_, h⟩
      rcases List.mem_cons.1 hg with rfl | hg
      · exact hb
      · exact WideShapes.bytes_trans _ _ _ hb (h0.1 g hg)
    · rename_i hb
      refine List.pairwise_cons.2 ⟨fun g hg => ?_, ih h0.2 fun g hg => hf g (List.mem_cons_of_mem _ hg)⟩
      rcases mem_fIns.1 hg with rfl | hg
      · rcases WideAt.bytes_total a.n g.n (hf a List.mem_cons_self) with h1 | h1
        · exact h1
        · exact absurd h1 hb
      · exact h0.1 g hg
theorem Rise.put {l : List Fi} (h : Rise l) (f : Fi) : Rise (fPut f l) := (h.del f.n).ins f fun _ hg => (mem_fDel.1 hg).2
theorem fGet_mem {s : List UInt8} {l : List Fi} {f : Fi} (h : fGet s l = some f) : f ∈ l ∧ f.n = s := by
  unfold fGet at h
  exact ⟨List.mem_of_find?_eq_some h, by simpa using List.find?_some h⟩
theorem fGet_none {s : List UInt8} {l : List Fi} (h : fGet s l = none) : ∀ f ∈ l, f.n ≠ s := by
  unfold fGet at h
  intro f hf e
  have := List.find?_eq_none.1 h f hf
  simp [e] at this
theorem fGet_of_mem {l : List Fi} (h : Rise l) {f : Fi} (hf : f ∈ l) : fGet f.n l = some f := by
  unfold fGet
  induction l with
  | nil => cases hf
  | cons a r ih =>
    have h0 := List.pairwise_cons.1 h
    rcases List.mem_cons.1 hf with rfl | hf
    · simp
    · have hne : (a.n == f.n) = false := by
        have h1 := h0.1 f hf
        rw [beq_eq_false_iff_ne]
        intro e
        rw [e, WideAt.bytes_irrefl] at h1
        cases h1
      rw [List.find?_cons, hne]
      exact ih h0.2 hf
theorem fSum_ins (f : Fi) (l : List Fi) : fSum (fIns f l) = f.x.length + fSum l := by
  induction l with
  | nil => simp [fIns, fSum]
  | cons a r ih =>
    unfold fIns
    split
    · simp [fSum]
    · simp only [fSum, List.map_cons, List.sum_cons] at *
      omega
theorem len_ins (f : Fi) (l : List Fi) : (fIns f l).length = l.length + 1 := by
  induction l with
  | nil => rfl
  | cons a r ih =>
    unfold fIns
    split
    · rfl
    · simp [ih]
/-- How many bytes the file of a name has. -/
def fWas (s : List UInt8) (l : List Fi) : Nat := match fGet s l with | some f => f.x.length | none => 0
theorem fDel_none {s : List UInt8} {l : List Fi} (h : ∀ f ∈ l, f.n ≠ s) : fDel s l = l := by
  unfold fDel
  rw [List.filter_eq_self]
  intro f hf
  simpa using h f hf
theorem fSum_del {l : List Fi} (h : Rise l) (s : List UInt8) : fSum (fDel s l) + fWas s l = fSum l := by
  induction l with
  | nil => rfl
  | cons a r ih =>
    have h0 := List.pairwise_cons.1 h
    by_cases e : a.n = s
    · have hr : ∀ f ∈ r, f.n ≠ s := fun f hf e' => by
        have := h0.1 f hf
        rw [e, e', WideAt.bytes_irrefl] at this
        cases this
      have e1 : fDel s (a :: r) = r := by
        unfold fDel
        rw [List.filter_cons]
        simp only [e, beq_self_eq_true, Bool.not_true, Bool.false_eq_true, if_false]
        exact fDel_none hr
      have e2 : fWas s (a :: r) = a.x.length := by
        unfold fWas fGet
        rw [List.find?_cons]
        simp [e]
      rw [e1, e2]
      simp only [fSum, List.map_cons, List.sum_cons]
      omega
    · have hb : (a.n == s) = false := by simpa using e
      have e1 : fDel s (a :: r) = a :: fDel s r := by
        unfold fDel
        rw [List.filter_cons]
        simp [hb]
      have e2 : fWas s (a :: r) = fWas s r := by
        unfold fWas fGet
        rw [List.find?_cons, hb]
      rw [e1, e2]
      have := ih h0.2
      simp only [fSum, List.map_cons, List.sum_cons] at *
      omega
theorem len_del (s : List UInt8) (l : List Fi) : (fDel s l).length ≤ l.length := List.length_filter_le _ _
theorem fWas_le {l : List Fi} {s : List UInt8} {B : Nat} (h : ∀ f ∈ l, f.x.length ≤ B) : fWas s l ≤ B := by
  unfold fWas
  cases e : fGet s l with
  | none => simp
  | some f => exact h f (fGet_mem e).1
theorem fSum_le {l : List Fi} {B : Nat} (h : ∀ f ∈ l, f.x.length ≤ B) : fSum l ≤ l.length * B := by
  induction l with
  | nil => simp [fSum]
  | cons a r ih =>
    have h1 := h a List.mem_cons_self
    have h2 := ih fun f hf => h f (List.mem_cons_of_mem _ hf)
    simp only [fSum, List.map_cons, List.sum_cons, List.length_cons, Nat.succ_mul] at *
    omega
theorem fGet_ins (f : Fi) {l : List Fi} (s : List UInt8) (hf : ∀ g ∈ l, g.n ≠ f.n) : fGet s (fIns f l) = if f.n = s then some f else fGet s l := by
  unfold fGet
  induction l with
  | nil =>
    simp only [fIns, List.find?_cons, List.find?_nil]
    by_cases e : f.n = s
    · simp [e]
    · have hb : (f.n == s) = false := by simpa using e
      rw [hb, if_neg e]
  | cons a r ih =>
    have ih := ih fun g hg => hf g (List.mem_cons_of_mem _ hg)
    unfold fIns
    split
    · rw [List.find?_cons]
      by_cases e : f.n = s
      · simp [e]
      · have hb : (f.n == s) = false := by simpa using e
        rw [hb, if_neg e]
    · rw [List.find?_cons, List.find?_cons, ih]
      by_cases e : f.n = s
      · have := hf a List.mem_cons_self
        rw [if_pos e, if_pos e]
        have hb : (a.n == s) = false := by rw [← e]; simpa using this
        rw [hb]
      · rw [if_neg e, if_neg e]
theorem fGet_del (s t : List UInt8) (l : List Fi) : fGet s (fDel t l) = if s = t then none else fGet s l := by
  by_cases e : s = t
  · rw [if_pos e]
    unfold fGet
    rw [List.find?_eq_none]
    intro f hf
    have := (mem_fDel.1 hf).2
    rw [e]; simpa using this
  · rw [if_neg e]
    unfold fGet fDel
    induction l with
    | nil => rfl
    | cons a r ih =>
      rw [List.filter_cons]
      by_cases ha : a.n = t
      · have h1 : (a.n == s) = false := by rw [ha]; simpa using fun h => e h.symm
        simp only [ha, beq_self_eq_true, Bool.not_true, Bool.false_eq_true, if_false]
        rw [ih, List.find?_cons, h1]
      · have hb : (a.n == t) = false := by simpa using ha
        simp only [hb, Bool.not_false, if_true]
        rw [List.find?_cons, List.find?_cons, ih]
theorem fGet_put (f : Fi) (s : List UInt8) (l : List Fi) : fGet s (fPut f l) = if f.n = s then some f else fGet s l := by
  unfold fPut
  rw [fGet_ins f s fun g hg => (mem_fDel.1 hg).2, fGet_del]
  by_cases e : f.n = s
  · rw [if_pos e, if_pos e]
  · rw [if_neg e, if_neg e, if_neg fun h => e h.symm]

/-- Two lists of files with rising names that tell the same of each name are the same. -/
theorem bytes_lt (a b : List UInt8) : bytesBefore a b = decide (a < b) := by
  induction a generalizing b with
  | nil => cases b <;> simp [bytesBefore]
  | cons x r ih =>
    cases b with
    | nil => simp [bytesBefore]
    | cons y t =>
      simp only [bytesBefore, ih]
      rw [Bool.eq_iff_iff]
      simp [List.cons_lt_cons_iff]
theorem sort_names {l : List Fi} (h : Rise l) {ss : List (List UInt8)} (hp : ss.Perm (l.map Fi.n)) : ss.mergeSort (fun x y => decide (x ≤ y)) = l.map Fi.n := by
  have h1 : (ss.mergeSort (fun x y => decide (x ≤ y))).Pairwise (fun a b => a ≤ b) := by
    have := List.pairwise_mergeSort (le := fun x y : List UInt8 => decide (x ≤ y)) (fun a b c => by simp only [decide_eq_true_eq]; exact List.le_trans) (fun a b => by simp only [Bool.or_eq_true, decide_eq_true_eq]; exact List.le_total a b) ss
    simpa using this
  have h2 : (l.map Fi.n).Pairwise (fun a b => a ≤ b) := by
    rw [List.pairwise_map]
    refine List.Pairwise.imp ?_ h
    intro a b hab
    rw [bytes_lt] at hab
    exact List.le_of_lt (of_decide_eq_true hab)
  exact List.Perm.eq_of_pairwise (fun a b _ _ h1 h2 => List.le_antisymm h1 h2) h1 h2 ((List.mergeSort_perm _ _).trans hp)

/-- A disk: its files, its room, how many calls are left. -/
structure Pd where
  l : List Fi
  room : Int
  left : Int
def Pd.dk (p : Pd) : Dk := ⟨mkD p.l, fSum p.l, p.room, p.left⟩
def okName (s : List UInt8) : Bool := decide (1 ≤ s.length ∧ s.length ≤ 32)
/-- What is true of a disk of at most n files. -/
structure Ok (p : Pd) (n : Nat) : Prop where
  rise : Rise p.l
  name : ∀ f ∈ p.l, okName f.n = true
  size : ∀ f ∈ p.l, f.x.length ≤ 1048576
  sync : ∀ f ∈ p.l, f.s ≤ f.x.length
  byts : ∀ f ∈ p.l, Byts f.x
  len : p.l.length ≤ n
  many : n ≤ 1000000
structure PdAt (w : World) (k b n : Nat) (p : Pd) : Prop where
  at_ : DiskAt w k b n p.dk
  ok : Ok p n
theorem PdAt.below {w w' : World} {k b n : Nat} {p : Pd} (h : PdAt w k b n p) (hb : Below w.heap.size w w') : PdAt w' k b n p := ⟨h.at_.below hb, h.ok⟩
theorem PdAt.mono {w : World} {k b n n' : Nat} {p : Pd} (h : PdAt w k b n p) (hn : n ≤ n') (h' : n' ≤ 1000000) : PdAt w k b n' p := ⟨h.at_.mono hn, { h.ok with len := Nat.le_trans h.ok.len hn, many := h' }⟩
theorem DiskAt.other {w w' : World} {k b n k' b' : Nat} {d : Dk} (h : DiskAt w k b n d) (ht : Turned k' b' w w') (h1 : k ≠ k') (h2 : k ≠ b') (h3 : b ≠ k') (h4 : b ≠ b') : DiskAt w' k b n d := by
  refine ⟨?_, ?_, h.used, h.room, h.left⟩
  · have e := h.box
    have hl := h.box.lt
    unfold BoxT at *
    rw [ht.block k hl h1 h2]; exact e
  · obtain ⟨es, clock, e1, e2⟩ := h.map
    exact ⟨es, clock, (ht.block b h.map.lt h3 h4).trans e1, e2⟩
theorem PdAt.other {w w' : World} {k b n k' b' : Nat} {p : Pd} (h : PdAt w k b n p) (ht : Turned k' b' w w') (h1 : k ≠ k') (h2 : k ≠ b') (h3 : b ≠ k') (h4 : b ≠ b') : PdAt w' k b n p := ⟨h.at_.other ht h1 h2 h3 h4, h.ok⟩
theorem Ok.used {p : Pd} {n : Nat} (h : Ok p n) : fSum p.l ≤ 1048576000000 := by
  have h1 := fSum_le h.size
  have h2 := h.len
  have h3 := h.many
  have : p.l.length * 1048576 ≤ 1000000 * 1048576 := Nat.mul_le_mul_right _ (by omega)
  omega
def Pd.done (p : Pd) : Pd := { p with left := if 0 < p.left then p.left - 1 else p.left }
theorem Pd.done_dk (p : Pd) : p.done.dk = p.dk.done := rfl
def pFind (p : Pd) (s : List UInt8) : Option Fi × Int :=
  if p.left = 0 then (none, 23) else match fGet s p.l with | some f => (some f, 0) | none => (none, 20)
def fData (o : Option Fi) : List Nat := match o with | some f => f.x | none => []
def fSync (o : Option Fi) : Nat := match o with | some f => f.s | none => 0
theorem strOf_nil : strOf [] = ByteArray.empty := rfl
theorem dFind_p (p : Pd) (s : ByteArray) : dFind p.dk s = (fd (strOf (fData (pFind p (nm s)).1)) (fSync (pFind p (nm s)).1), (pFind p (nm s)).2) := by
  unfold dFind pFind Pd.dk
  dsimp only
  rw [key_nm, mkD_has, mkD_atKey]
  by_cases h : p.left = 0
  · rw [if_pos h, if_pos h]; rfl
  · rw [if_neg h, if_neg h]
    cases fGet (nm s) p.l <;> rfl
theorem isNm_ok (s : ByteArray) : isNm s = okName (nm s) := by
  unfold isNm okName
  rw [nm_length]
theorem okName_dot {s : ByteArray} (h : okName (nm s) = true) : s.size ≤ maxLen := by
  unfold okName at h
  rw [nm_length] at h
  simp at h
  unfold maxLen; omega
end Go.Proofs.YtbfhcbihgleddaaGreatDoor
/-
  Walks over package disk: strings.Clone, names, List.
-/
namespace Go.Proofs
open Go.RowKit Go.Maps Go.Sort Go.Shelf
theorem Tryz.sorts54 (m : Nat) : AnyZ.SortsIn Tryz.prog Tryz.sorted54_ren Fence.wide m :=
  ⟨fun blk off cap ss W hH hblk hsz => callsIn_wide.2 (AnyM.slices_Sort_string Tryz.sort58 blk off cap ss W hH hblk hsz),
   fun p cap W => callsIn_wide.2 (AnyM.slices_Sort_string_none Tryz.sort58 p cap W)⟩
theorem Tryz.keys_made (mb : Option Nat) (W : World) : CallsIn Fence.wide 5 Tryz.prog 77 #[.map mb] W fun e w' => e = .returned (.func (.func 108) #[] #[.pointer (some ⟨W.heap.size, 0, none⟩)]) ∧ w' = W.alloc (.cells #[.map mb] 76) :=
  AnyZ.keys_in Tryz.keys55 Fence.wide 5 trivial rfl mb W
set_option maxHeartbeats 1000000 in
theorem Tryz.keys_sorted {H : Type} (b nn : Nat) (D0 : DataW H) (R : Value → Option (DataW H × List MemPlace)) (w : World) (hown : w.ownsMap Tryz.prog 9 R b nn D0) (hmax : Maps.size D0 ≤ maxLen) (hbytes : Maps.size D0 * 16 ≤ 140737488355328) :
    CallsIn Fence.wide 5 Tryz.prog 76 #[.func (.func 108) #[] #[.pointer (some ⟨w.heap.size, 0, none⟩)]] (w.alloc (.cells #[.map (some b)] 76)) fun e w' => ∃ (v : Value) (ss : List (List UInt8)), e = .returned v ∧ ss.Perm (strKeys D0) ∧
      w'.ownsRow (w.alloc (.cells #[.map (some b)] 76)).heap.size 9 1 v ss.length ((ss.mergeSort (fun x y => decide (x ≤ y))).map encStr) ∧ Below (w.alloc (.cells #[.map (some b)] 76)).heap.size (w.alloc (.cells #[.map (some b)] 76)) w' := by
  have hbl := hown.lt
  have hseq : SeqGives Fence.wide 2 Tryz.prog 108 #[.pointer (some ⟨w.heap.size, 0, none⟩)] encStr (fun ss => ss.Perm (strKeys D0)) (Maps.size D0) (w.alloc (.cells #[.map (some b)] 76)) :=
    AnyZ.keys_gives (ρ := Tryz.keys55_ren) { Tryz.keys55 with } Fence.wide _ trivial rfl (by omega) w.heap.size b nn D0 _ (by simp) (by simp) (by
      obtain ⟨es, clock, hb, Ft, hs, hD⟩ := hown
      exact ⟨es, clock, (Below.heap_alloc _ _ b hbl).trans hb, Ft, hs, hD⟩)
  refine (AnyZ.sorted_in Tryz.sorted54 Fence.wide 5 trivial trivial trivial trivial rfl (by omega) (Tryz.sorts54 _) (enters_of Tryz.func107 (by kernel_rfl) rfl) 108 #[.pointer (some ⟨w.heap.size, 0, none⟩)] trivial (enters_of Tryz.func108 (by kernel_rfl) rfl) _ _ hmax hbytes _ hseq).mono ?_
  rintro e w' ⟨v, ss, h1, h2, h3, _, h4⟩
  exact ⟨v, ss, h1, h2, h3, h4⟩
end Go.Proofs
namespace Go.Proofs.YtbfhcbihgleddaaGreatDoor
open Go.RowKit Go.Maps Go.Shelf

set_option maxHeartbeats 1000000 in
theorem clone_ok : CloneOk := by
  intro s w hs
  have hc : Calls Tryz.prog 109 #[.string s] w fun e w' => e = .returned (.string s) ∧ Below w.heap.size w w' := Any.stringslite_Clone Tryz.laysM316 s w hs
  go_enter Tryz.func78, Tryz.ntmps78
  go_wp2_with fail
  refine hc.mono ?_
  rintro e w' ⟨rfl, hb⟩
  go_wp2
  go_ret
  exact ⟨rfl, hb⟩

/-- A slice of names. -/
def NSeg (B : Nat) (w : World) (v : Value) (l : List (List UInt8)) : Prop := LSeg 1 (fun s : List UInt8 => [Value.string ⟨s.toArray⟩]) B w v l
theorem NSeg.of_row {base : Nat} {w : World} {v : Value} {ss : List (List UInt8)} (h : w.ownsRow base 9 1 v ss.length (ss.map fun l => Value.string ⟨l.toArray⟩)) (hl : ss.length ≤ 140737488355328) : NSeg w.heap.size w v ss := by
  rcases h.2 with ⟨rfl, h0⟩ | ⟨g, cap, cur, rfl, h2, h3, h4, h5, h6, h7⟩
  · have : ss = [] := List.length_eq_zero_iff.1 h0
    subst this
    exact ⟨none, 0, rfl, by simp, .inl rfl⟩
  · refine ⟨_, cap, rfl, hl, .inr ⟨g, 0, rfl, (Array.getElem?_eq_some_iff.1 h3).1, fun i x hx j u hu => ?_⟩⟩
    have hj : j = 0 := by
      cases j with
      | zero => rfl
      | succ j => simp at hu
    subst hj
    simp at hu
    subst hu
    have hi : i < ss.length := (List.getElem?_eq_some_iff.1 hx).1
    have := World.ownsRow.cellAt h i (by omega)
    simp only [Nat.zero_add, Nat.mul_one, Nat.add_zero]
    rw [this, List.getElem?_map, hx]
    rfl
/-- A slice whose array is not below base. -/
def NewSl (base : Nat) (v : Value) : Prop := ∀ a n c, v = .slice (some a) n c → base ≤ a.block
theorem NewSl.of_row {base e sz n : Nat} {w : World} {v : Value} {xs : List Value} (h : w.ownsRow base e sz v n xs) : NewSl base v := by
  rintro a m c rfl
  rcases h.2 with ⟨h1, _⟩ | ⟨g, cap, cur, h1, h2, _⟩
  · cases h1
  · cases h1; exact h2
theorem LSeg.turned {α : Type} {sz : Nat} {cs : α → List Value} {w w' : World} {v : Value} {xs : List α} {base k b : Nat} (h : LSeg sz cs w.heap.size w v xs) (hn : NewSl base v) (hk : k < base) (hb : b < base) (ht : Turned k b w w') : LSeg sz cs w'.heap.size w' v xs := by
  obtain ⟨ao, cap, h1, h2, h4⟩ := h
  refine ⟨ao, cap, h1, h2, ?_⟩
  rcases h4 with h4 | ⟨g, off, h5, h6, h7⟩
  · exact .inl h4
  · subst h5
    have := hn _ _ _ h1
    dsimp only at this
    exact .inr ⟨g, off, rfl, Nat.lt_of_lt_of_le h6 ht.size, fun i x hi j u hu => (World.cell?_of_block (ht.block g h6 (by omega) (by omega))).trans (h7 i x hi j u hu)⟩
theorem tight {w : World} {b n : Nat} {D : DataW Unit} (h : w.ownsMap Tryz.prog 9 fileR b n D) : w.ownsMap Tryz.prog 9 fileR b (Maps.size D) D := by
  obtain ⟨es, clock, h1, h2, h3, rfl⟩ := h
  refine ⟨es, clock, h1, h2, ?_, rfl⟩
  rw [size_eq, length_sorted]
  simp

set_option maxHeartbeats 1000000 in
set_option maxRecDepth 100000 in
theorem names_any {w : World} {k b n : Nat} {d : Dk} {l : List Fi} (h : DiskAt w k b n d) (hD : d.D = mkD l) (hr : Rise l) (hl : l.length ≤ 1000000) :
    Calls Tryz.prog 46 #[.pointer (some ⟨k, 0, none⟩)] w fun e w' => ∃ v, e = .returned v ∧ NSeg w'.heap.size w' v (l.map Fi.n) ∧ NewSl w.heap.size v ∧ Below w.heap.size w w' := by
  obtain ⟨c0, c1, c2, c3⟩ := h.box.cells4
  have hown := h.map
  rw [hD] at hown
  have hs := mkD_size l
  refine (callsIn_wide (n := 6)).1 ?_
  have hfK : Fence.wide.fn 77 := trivial
  have hfS : Fence.wide.fn 76 := trivial
  refine callsIn_of_wp Tryz.func46 rfl trivial ?_ rfl
  simp only [Tryz.ntmps46, List.size_toArray, List.length_cons, List.length_nil, Nat.reduceAdd, Nat.reduceSub, Array.replicate_succ, Array.replicate_zero, List.push_toArray, List.append_toArray, List.nil_append, List.cons_append]
  gi_wp2_with (first
    | (gi_at_call 77; refine (Tryz.keys_made _ _).mono ?_; rintro e w' ⟨rfl, rfl⟩)
    | (gi_at_call 76; refine (Tryz.keys_sorted b n (mkD l) fileR w hown (by rw [hs]; unfold maxLen; omega) (by rw [hs]; omega)).mono ?_; rintro e w' ⟨v, ss, rfl, hS, hrow, hb⟩))
  go_ret
  rw [mkD_keys] at hS
  rw [sort_names hr hS] at hrow
  have hlen : ss.length = (l.map Fi.n).length := hS.length_eq
  rw [hlen] at hrow
  exact ⟨v, rfl, NSeg.of_row hrow (by rw [List.length_map]; omega), NewSl.of_row (ownsRow_base_a hrow (by simp)), ((Below.refl _ w).alloc (Nat.le_refl _) _).trans (hb.mono (by simp))⟩

/-- What List tells. -/
def pList (p : Pd) : List (List UInt8) := if p.left = 0 then [] else p.l.map Fi.n
set_option maxHeartbeats 1000000 in
set_option maxRecDepth 100000 in
theorem List_any {w : World} {k b n : Nat} {p : Pd} (h : PdAt w k b n p) :
    Calls Tryz.prog 27 #[.pointer (some ⟨k, 0, none⟩)] w fun e w' => ∃ v, e = .returned v ∧ NSeg w'.heap.size w' v (pList p) ∧ NewSl w.heap.size v ∧ Below w.heap.size w w' := by
  have hd := Dead_any h.at_
  have hn := names_any h.at_ (l := p.l) rfl h.ok.rise (Nat.le_trans h.ok.len h.ok.many)
  unfold pList
  by_cases h0 : p.left = 0
  · rw [if_pos h0]
    have e2 : (p.dk.left == 0) = true := by simp [h0, Pd.dk]
    rw [e2] at hd
    go_enter Tryz.func27, Tryz.ntmps27
    go_wp2_with fail
    refine hd.mono ?_
    rintro e w1 ⟨rfl, rfl⟩
    go_wp2
    go_ret
    exact ⟨_, rfl, ⟨none, 0, rfl, by simp, .inl rfl⟩, (by intro a n c e; cases e), Below.refl _ _⟩
  · rw [if_neg h0]
    have e2 : (p.dk.left == 0) = false := by simp [h0, Pd.dk]
    rw [e2] at hd
    go_enter Tryz.func27, Tryz.ntmps27
    go_wp2_with fail
    refine hd.mono ?_
    rintro e w1 ⟨rfl, rfl⟩
    go_wp2_with fail
    refine hn.mono ?_
    rintro e w2 ⟨v, rfl, h1, h2, h3⟩
    go_wp2
    go_ret
    exact ⟨_, rfl, h1, h2, h3⟩
end Go.Proofs.YtbfhcbihgleddaaGreatDoor
/-
  What each call does to the disk as a list of files.
-/
namespace Go.Proofs.YtbfhcbihgleddaaGreatDoor
open Go.RowKit Go.Maps

def pWrite (p : Pd) (s : List UInt8) (x : List Nat) : Pd × Int :=
  if p.left = 0 then (p, 23) else if okName s = false then (p, 21) else
  if 1048576 < x.length ∨ p.room < (fSum p.l : Int) - (fWas s p.l : Int) + (x.length : Int) then (p, 22) else
  (({ p with l := fPut ⟨s, x, 0⟩ p.l } : Pd).done, 0)
def pDelete (p : Pd) (s : List UInt8) : Pd × Int :=
  match (pFind p s).1 with
  | some _ => (({ p with l := fDel s p.l } : Pd).done, 0)
  | none => (p, (pFind p s).2)
def pSync (p : Pd) (s : List UInt8) : Pd × Int :=
  match (pFind p s).1 with
  | some f => (({ p with l := fPut ⟨s, f.x, f.x.length⟩ p.l } : Pd).done, 0)
  | none => (p, (pFind p s).2)
def pRename (p : Pd) (s t : List UInt8) : Pd × Int :=
  match (pFind p s).1 with
  | some f => if okName t = false then (p, 21) else (({ p with l := fPut ⟨t, f.x, f.s⟩ (fDel s p.l) } : Pd).done, 0)
  | none => (p, (pFind p s).2)

theorem pFind_some {p : Pd} {s : List UInt8} {f : Fi} (h : (pFind p s).1 = some f) : (pFind p s).2 = 0 ∧ p.left ≠ 0 ∧ fGet s p.l = some f := by
  unfold pFind at *
  by_cases h0 : p.left = 0
  · rw [if_pos h0] at h; cases h
  · rw [if_neg h0] at *
    cases e : fGet s p.l with
    | none => rw [e] at h; cases h
    | some g => rw [e] at h; simp at h; subst h; exact ⟨rfl, h0, rfl⟩
theorem pFind_none {p : Pd} {s : List UInt8} (h : (pFind p s).1 = none) : (pFind p s).2 ≠ 0 := by
  unfold pFind at *
  by_cases h0 : p.left = 0
  · rw [if_pos h0]; simp
  · rw [if_neg h0] at *
    cases e : fGet s p.l with
    | none => simp
    | some g => rw [e] at h; cases h
theorem sb_strOf {x : List Nat} (h : Byts x) : sb (strOf x) = x := by
  unfold sb strOf
  simp only [List.map_map]
  conv => rhs; rw [← List.map_id x]
  apply List.map_congr_left
  intro a ha
  obtain ⟨i, hi, rfl⟩ := List.getElem_of_mem ha
  have := h i _ (List.getElem?_eq_getElem hi)
  simp [Function.comp]
  omega
theorem strOf_inj {x y : List Nat} (hx : Byts x) (hy : Byts y) (h : strOf x = strOf y) : x = y := by rw [← sb_strOf hx, ← sb_strOf hy, h]
theorem Ok.data {p : Pd} {n : Nat} (h : Ok p n) (s : List UInt8) : (fData (pFind p s).1).length ≤ 1048576 ∧ Byts (fData (pFind p s).1) := by
  cases e : (pFind p s).1 with
  | none => exact ⟨by simp [fData], Byts.nil⟩
  | some f =>
    have := (fGet_mem (pFind_some e).2.2).1
    exact ⟨h.size f this, h.byts f this⟩
theorem Ok.put {p : Pd} {n : Nat} (h : Ok p n) (f : Fi) (h1 : okName f.n = true) (h2 : f.x.length ≤ 1048576) (h3 : f.s ≤ f.x.length) (h4 : Byts f.x) (hn : n + 1 ≤ 1000000) : Ok { p with l := fPut f p.l } (n + 1) where
  rise := h.rise.put f
  name := fun g hg => by rcases mem_fPut.1 hg with rfl | hg; exact h1; exact h.name g hg.1
  size := fun g hg => by rcases mem_fPut.1 hg with rfl | hg; exact h2; exact h.size g hg.1
  sync := fun g hg => by rcases mem_fPut.1 hg with rfl | hg; exact h3; exact h.sync g hg.1
  byts := fun g hg => by rcases mem_fPut.1 hg with rfl | hg; exact h4; exact h.byts g hg.1
  len := by
    show (fPut f p.l).length ≤ n + 1
    unfold fPut
    rw [len_ins]
    have := len_del f.n p.l
    have := h.len
    omega
  many := hn
theorem Ok.del {p : Pd} {n : Nat} (h : Ok p n) (s : List UInt8) : Ok { p with l := fDel s p.l } n where
  rise := h.rise.del s
  name := fun g hg => h.name g (mem_fDel.1 hg).1
  size := fun g hg => h.size g (mem_fDel.1 hg).1
  sync := fun g hg => h.sync g (mem_fDel.1 hg).1
  byts := fun g hg => h.byts g (mem_fDel.1 hg).1
  len := Nat.le_trans (len_del s p.l) h.len
  many := h.many
theorem Ok.done {p : Pd} {n : Nat} (h : Ok p n) : Ok p.done n := ⟨h.rise, h.name, h.size, h.sync, h.byts, h.len, h.many⟩
theorem Ok.more {p : Pd} {n : Nat} (h : Ok p n) (hn : n + 1 ≤ 1000000) : Ok p (n + 1) := { h with len := Nat.le_succ_of_le h.len, many := hn }
theorem fSum_put {l : List Fi} (h : Rise l) (f : Fi) : fSum (fPut f l) + fWas f.n l = fSum l + f.x.length := by
  unfold fPut
  rw [fSum_ins]
  have := fSum_del h f.n
  omega
theorem fWas_data (p : Pd) (s : List UInt8) (f : Fi) (h : fGet s p.l = some f) : fWas s p.l = f.x.length := by unfold fWas; rw [h]
theorem atKey_p (p : Pd) (s : ByteArray) : ∃ x : List Nat, ∃ m : Nat, p.dk.D.atKey (key s) nofile = fd (strOf x) m ∧ x.length = fWas (nm s) p.l := by
  unfold Pd.dk
  dsimp only
  rw [key_nm, mkD_atKey]
  unfold fWas
  cases fGet (nm s) p.l with
  | none => exact ⟨[], 0, rfl, rfl⟩
  | some f => exact ⟨f.x, f.s, rfl, rfl⟩

theorem write_p {p : Pd} {n : Nat} (h : Ok p n) (s : ByteArray) (l : List Nat) (hl : Byts l) (hn : n + 1 ≤ 1000000) (x : ByteArray) (hx : x.size = fWas (nm s) p.l) :
    dWrite p.dk s l x = ((pWrite p (nm s) l).1.dk, (pWrite p (nm s) l).2) ∧ Ok (pWrite p (nm s) l).1 (n + 1) := by
  unfold dWrite pWrite
  rw [isNm_ok, hx]
  show (if p.left = 0 then _ else _) = _ ∧ _
  by_cases h0 : p.left = 0
  · simp only [if_pos h0]; exact ⟨trivial, h.more hn⟩
  · simp only [if_neg h0]
    by_cases h1 : okName (nm s) = false
    · simp only [if_pos h1]; exact ⟨trivial, h.more hn⟩
    · simp only [if_neg h1]
      show (if 1048576 < l.length ∨ p.room < (fSum p.l : Int) - (fWas (nm s) p.l : Int) + (l.length : Int) then _ else _) = _ ∧ _
      by_cases h2 : 1048576 < l.length ∨ p.room < (fSum p.l : Int) - (fWas (nm s) p.l : Int) + (l.length : Int)
      · simp only [if_pos h2]; exact ⟨trivial, h.more hn⟩
      · simp only [if_neg h2]
        refine ⟨?_, (h.put ⟨nm s, l, 0⟩ (by simpa using h1) (by show l.length ≤ _; omega) (Nat.zero_le _) hl hn).done⟩
        rw [Pd.done_dk]
        have e1 : (mkD p.l).put (key s) (fd (strOf l) 0) = mkD (fPut ⟨nm s, l, 0⟩ p.l) := mkD_put ⟨nm s, l, 0⟩ p.l
        have e2 : (fSum p.l : Int) - (fWas (nm s) p.l : Int) + (l.length : Int) = fSum (fPut ⟨nm s, l, 0⟩ p.l) := by
          have := fSum_put h.rise ⟨nm s, l, 0⟩
          dsimp only at this
          omega
        have e3 : ({ p.dk with D := p.dk.D.put (key s) (fd (strOf l) 0), used := p.dk.used - (fWas (nm s) p.l : Nat) + (l.length : Nat) } : Dk) = ({ p with l := fPut ⟨nm s, l, 0⟩ p.l } : Pd).dk := by
          unfold Pd.dk
          dsimp only
          rw [e1, e2]
        rw [e3]
theorem Write_p {w : World} {k b n : Nat} {p : Pd} (h : PdAt w k b n p) (hn : n + 1 ≤ 1000000) (s : ByteArray) (hs : s.size ≤ maxLen) (vb : Value) (l : List Nat) (hsg : Seg w vb l) (hl : Byts l) :
    Calls Tryz.prog 30 #[.pointer (some ⟨k, 0, none⟩), .string s, vb] w fun e w' => e = .returned (.int .i64 (pWrite p (nm s) l).2) ∧ PdAt w' k b (n + 1) (pWrite p (nm s) l).1 ∧ Turned k b w w' := by
  obtain ⟨x, m, hxm, hx⟩ := atKey_p p s
  have hx2 : (strOf x).size = fWas (nm s) p.l := by rw [strOf_size]; exact hx
  have hu := h.ok.used
  obtain ⟨e1, e2⟩ := write_p h.ok s l hl hn (strOf x) hx2
  have := Write_any h.at_ s hs vb l hsg (strOf x) m hxm (by rw [hx2]; exact fWas_le h.ok.size) (by show 0 ≤ (fSum p.l : Int) ∧ (fSum p.l : Int) ≤ _; omega) (by have := h.ok.many; unfold maxLen; omega)
  rw [e1] at this
  refine this.mono ?_
  rintro e w' ⟨h1, h2, h3⟩
  exact ⟨h1, ⟨h2, e2⟩, h3⟩

theorem Read_p {w : World} {k b n : Nat} {p : Pd} (h : PdAt w k b n p) (s : ByteArray) (hs : s.size ≤ maxLen) :
    Calls Tryz.prog 28 #[.pointer (some ⟨k, 0, none⟩), .string s] w (RdPost w (pFind p (nm s)).2 (fData (pFind p (nm s)).1)) := by
  have hdf := dFind_p p s
  obtain ⟨h1, h2⟩ := h.ok.data (nm s)
  have := Read_any h.at_ s hs (strOf (fData (pFind p (nm s)).1)) (fSync (pFind p (nm s)).1) (by rw [hdf]; rfl) (by rw [strOf_size]; exact h1)
  rw [hdf] at this
  dsimp only at this
  rw [sb_strOf h2] at this
  have e : (if (pFind p (nm s)).2 = 0 then fData (pFind p (nm s)).1 else []) = fData (pFind p (nm s)).1 := by
    cases e : (pFind p (nm s)).1 with
    | some f => rw [if_pos (pFind_some e).1]
    | none => rw [if_neg (pFind_none e)]; rfl
  rw [e] at this
  exact this

theorem Delete_p {w : World} {k b n : Nat} {p : Pd} (h : PdAt w k b n p) (s : ByteArray) (hs : s.size ≤ maxLen) :
    Calls Tryz.prog 29 #[.pointer (some ⟨k, 0, none⟩), .string s] w fun e w' => e = .returned (.int .i64 (pDelete p (nm s)).2) ∧ PdAt w' k b n (pDelete p (nm s)).1 ∧ Turned k b w w' := by
  have hdf := dFind_p p s
  obtain ⟨h1, h2⟩ := h.ok.data (nm s)
  have hu := h.ok.used
  have := Delete_any h.at_ s hs (strOf (fData (pFind p (nm s)).1)) (fSync (pFind p (nm s)).1) (by rw [hdf]; rfl) (by rw [strOf_size]; exact h1) (by show 0 ≤ (fSum p.l : Int) ∧ (fSum p.l : Int) ≤ _; omega)
  have e : dDelete p.dk s (strOf (fData (pFind p (nm s)).1)) = ((pDelete p (nm s)).1.dk, (pDelete p (nm s)).2) ∧ Ok (pDelete p (nm s)).1 n := by
    unfold dDelete pDelete
    rw [hdf]
    dsimp only
    cases e : (pFind p (nm s)).1 with
    | none =>
      rw [if_neg (pFind_none e)]
      exact ⟨rfl, h.ok⟩
    | some f =>
      obtain ⟨e1, e2, e3⟩ := pFind_some e
      rw [if_pos e1]
      refine ⟨?_, (h.ok.del _).done⟩
      dsimp only
      rw [Pd.done_dk]
      have e4 : ({ p.dk with D := p.dk.D.del (key s), used := p.dk.used - ((strOf (fData (some f))).size : Nat) } : Dk) = ({ p with l := fDel (nm s) p.l } : Pd).dk := by
        unfold Pd.dk
        dsimp only
        rw [key_nm, mkD_del, strOf_size]
        have := fSum_del h.ok.rise (nm s)
        rw [fWas_data p (nm s) f e3] at this
        have e5 : (fSum p.l : Int) - ((fData (some f)).length : Nat) = fSum (fDel (nm s) p.l) := by show (fSum p.l : Int) - (f.x.length : Nat) = _; omega
        rw [e5]
      rw [e4]
  rw [e.1] at this
  refine this.mono ?_
  rintro e' w' ⟨h1, h2, h3⟩
  exact ⟨h1, ⟨h2, e.2⟩, h3⟩

theorem Sync_p {w : World} {k b n : Nat} {p : Pd} (h : PdAt w k b n p) (hn : n + 1 ≤ 1000000) (s : ByteArray) (hs : s.size ≤ maxLen) :
    Calls Tryz.prog 102 #[.pointer (some ⟨k, 0, none⟩), .string s] w fun e w' => e = .returned (.int .i64 (pSync p (nm s)).2) ∧ PdAt w' k b (n + 1) (pSync p (nm s)).1 ∧ Turned k b w w' := by
  have hdf := dFind_p p s
  obtain ⟨h1, h2⟩ := h.ok.data (nm s)
  have := Sync_any h.at_ (by have := h.ok.many; unfold maxLen; omega) s hs (strOf (fData (pFind p (nm s)).1)) (fSync (pFind p (nm s)).1) (by rw [hdf]; rfl) (by rw [strOf_size]; exact h1)
  have e : dSync p.dk s (strOf (fData (pFind p (nm s)).1)) = ((pSync p (nm s)).1.dk, (pSync p (nm s)).2) ∧ Ok (pSync p (nm s)).1 (n + 1) := by
    unfold dSync pSync
    rw [hdf]
    dsimp only
    cases e : (pFind p (nm s)).1 with
    | none =>
      rw [if_neg (pFind_none e)]
      exact ⟨rfl, h.ok.more hn⟩
    | some f =>
      obtain ⟨e1, e2, e3⟩ := pFind_some e
      obtain ⟨m1, m2⟩ := fGet_mem e3
      rw [if_pos e1]
      refine ⟨?_, (h.ok.put ⟨nm s, f.x, f.x.length⟩ (by show okName (nm s) = true; rw [← m2]; exact h.ok.name f m1) (h.ok.size f m1) (Nat.le_refl _) (h.ok.byts f m1) hn).done⟩
      dsimp only
      rw [Pd.done_dk]
      have e4 : ({ p.dk with D := p.dk.D.put (key s) (fd (strOf (fData (some f))) (strOf (fData (some f))).size) } : Dk) = ({ p with l := fPut ⟨nm s, f.x, f.x.length⟩ p.l } : Pd).dk := by
        unfold Pd.dk
        dsimp only
        rw [strOf_size]
        have e6 : (mkD p.l).put (key s) (fd (strOf (fData (some f))) ((fData (some f)).length : Nat)) = mkD (fPut ⟨nm s, f.x, f.x.length⟩ p.l) := mkD_put ⟨nm s, f.x, f.x.length⟩ p.l
        rw [e6]
        have := fSum_put h.ok.rise ⟨nm s, f.x, f.x.length⟩
        dsimp only at this
        rw [fWas_data p (nm s) f e3] at this
        have e5 : fSum p.l = fSum (fPut ⟨nm s, f.x, f.x.length⟩ p.l) := by omega
        rw [← e5]
      rw [e4]
  rw [e.1] at this
  refine this.mono ?_
  rintro e' w' ⟨h1, h2, h3⟩
  exact ⟨h1, ⟨h2, e.2⟩, h3⟩

theorem Rename_p {w : World} {k b n : Nat} {p : Pd} (h : PdAt w k b n p) (hn : n + 1 ≤ 1000000) (s t : ByteArray) (hs : s.size ≤ maxLen) (ht : t.size ≤ maxLen) :
    Calls Tryz.prog 70 #[.pointer (some ⟨k, 0, none⟩), .string s, .string t] w fun e w' => e = .returned (.int .i64 (pRename p (nm s) (nm t)).2) ∧ PdAt w' k b (n + 1) (pRename p (nm s) (nm t)).1 ∧ Turned k b w w' := by
  have hdf := dFind_p p s
  obtain ⟨h1, h2⟩ := h.ok.data (nm s)
  have hu := h.ok.used
  have hok2 := h.ok.del (nm s)
  obtain ⟨y, my, hym, hy⟩ := atKey_p ({ p with l := fDel (nm s) p.l } : Pd) t
  have hym2 : (p.dk.D.del (key s)).atKey (key t) nofile = fd (strOf y) my := by
    have : p.dk.D.del (key s) = ({ p with l := fDel (nm s) p.l } : Pd).dk.D := mkD_del (nm s) p.l
    rw [this]; exact hym
  have hmw : (fSync (pFind p (nm s)).1) ≤ 1048576 := by
    cases e : (pFind p (nm s)).1 with
    | none => simp [fSync]
    | some f =>
      have m1 := (fGet_mem (pFind_some e).2.2).1
      exact Nat.le_trans (h.ok.sync f m1) (h.ok.size f m1)
  have := Rename_any h.at_ (by have := h.ok.many; unfold maxLen; omega) s t hs ht (strOf (fData (pFind p (nm s)).1)) (fSync (pFind p (nm s)).1) (by rw [hdf]; rfl) (by rw [strOf_size]; exact h1) (wf_in (by omega)) (strOf y) my hym2 (by rw [strOf_size, hy]; exact fWas_le hok2.size) (by show 0 ≤ (fSum p.l : Int) ∧ (fSum p.l : Int) ≤ _; omega)
  have e : dRename p.dk s t (strOf (fData (pFind p (nm s)).1)) (fSync (pFind p (nm s)).1) (strOf y) = ((pRename p (nm s) (nm t)).1.dk, (pRename p (nm s) (nm t)).2) ∧ Ok (pRename p (nm s) (nm t)).1 (n + 1) := by
    unfold dRename pRename
    rw [hdf]
    dsimp only
    cases e : (pFind p (nm s)).1 with
    | none =>
      rw [if_neg (pFind_none e)]
      exact ⟨rfl, h.ok.more hn⟩
    | some f =>
      obtain ⟨e1, e2, e3⟩ := pFind_some e
      obtain ⟨m1, m2⟩ := fGet_mem e3
      rw [if_pos e1, isNm_ok]
      dsimp only
      by_cases hnm : okName (nm t) = false
      · rw [if_pos hnm, if_pos hnm]
        exact ⟨rfl, h.ok.more hn⟩
      · rw [if_neg hnm, if_neg hnm]
        have hk := hok2.put ⟨nm t, f.x, f.s⟩ (by simpa using hnm) (h.ok.size f m1) (h.ok.sync f m1) (h.ok.byts f m1) hn
        refine ⟨?_, hk.done⟩
        dsimp only
        rw [Pd.done_dk]
        have e4 : ({ p.dk with D := (p.dk.D.del (key s)).put (key t) (fd (strOf (fData (some f))) (fSync (some f))), used := p.dk.used - ((strOf y).size : Nat) } : Dk) = ({ p with l := fPut ⟨nm t, f.x, f.s⟩ (fDel (nm s) p.l) } : Pd).dk := by
          unfold Pd.dk
          dsimp only
          rw [strOf_size, key_nm, mkD_del]
          have e6 : (mkD (fDel (nm s) p.l)).put (key t) (fd (strOf (fData (some f))) (fSync (some f))) = mkD (fPut ⟨nm t, f.x, f.s⟩ (fDel (nm s) p.l)) := mkD_put ⟨nm t, f.x, f.s⟩ (fDel (nm s) p.l)
          rw [e6]
          have e7 := fSum_put hok2.rise ⟨nm t, f.x, f.s⟩
          have e8 := fSum_del h.ok.rise (nm s)
          rw [fWas_data p (nm s) f e3] at e8
          dsimp only at e7 hy
          have e5 : (fSum p.l : Int) - (y.length : Nat) = fSum (fPut ⟨nm t, f.x, f.s⟩ (fDel (nm s) p.l)) := by omega
          rw [e5]
        rw [e4]
  rw [e.1] at this
  refine this.mono ?_
  rintro e' w' ⟨h1, h2, h3⟩
  exact ⟨h1, ⟨h2, e.2⟩, h3⟩

theorem New_p (w : World) (x : Int) (hx : (Lit.int .i64 x).wf = true) :
    Calls Tryz.prog 11 #[.int .i64 x] w fun e w' => e = .returned (.pointer (some ⟨w.heap.size + 1, 0, none⟩)) ∧ PdAt w' (w.heap.size + 1) w.heap.size 0 ⟨[], max x 0, -1⟩ ∧ Below w.heap.size w w' := by
  refine (New_any w x hx).mono ?_
  rintro e w' ⟨h1, h2, h3⟩
  exact ⟨h1, ⟨h2, ⟨List.Pairwise.nil, by simp, by simp, by simp, by simp, by simp, by omega⟩⟩, h3⟩
theorem Dead_p {w : World} {k b n : Nat} {p : Pd} (h : PdAt w k b n p) :
    Calls Tryz.prog 22 #[.pointer (some ⟨k, 0, none⟩)] w fun e w' => e = .returned (.bool (p.left == 0)) ∧ w' = w := Dead_any h.at_
theorem Used_p {w : World} {k b n : Nat} {p : Pd} (h : PdAt w k b n p) :
    Calls Tryz.prog 16 #[.pointer (some ⟨k, 0, none⟩)] w fun e w' => e = .returned (.int .i64 (fSum p.l : Nat)) ∧ w' = w := Used_any h.at_
theorem Room_p {w : World} {k b n : Nat} {p : Pd} (h : PdAt w k b n p) (x : Int) (hx : (Lit.int .i64 x).wf = true) :
    Calls Tryz.prog 19 #[.pointer (some ⟨k, 0, none⟩), .int .i64 x] w fun e w' => e = .returned (.tuple #[]) ∧ PdAt w' k b n { p with room := max x 0 } ∧ Turned k b w w' := by
  refine (Room_any h.at_ x hx).mono ?_
  rintro e w' ⟨h1, h2, h3⟩
  exact ⟨h1, ⟨h2, ⟨h.ok.rise, h.ok.name, h.ok.size, h.ok.sync, h.ok.byts, h.ok.len, h.ok.many⟩⟩, h3⟩
theorem Cut_p {w : World} {k b n : Nat} {p : Pd} (h : PdAt w k b n p) (x : Int) (hx : (Lit.int .i64 x).wf = true) :
    Calls Tryz.prog 21 #[.pointer (some ⟨k, 0, none⟩), .int .i64 x] w fun e w' => e = .returned (.tuple #[]) ∧ PdAt w' k b n { p with left := if p.left = 0 then 0 else max x (-1) } ∧ Turned k b w w' := by
  refine (Cut_any h.at_ x hx).mono ?_
  rintro e w' ⟨h1, h2, h3⟩
  exact ⟨h1, ⟨h2, ⟨h.ok.rise, h.ok.name, h.ok.size, h.ok.sync, h.ok.byts, h.ok.len, h.ok.many⟩⟩, h3⟩
end Go.Proofs.YtbfhcbihgleddaaGreatDoor
/-
  Walks over package disk: Crash.
-/
namespace Go.Proofs.YtbfhcbihgleddaaGreatDoor
open Go.RowKit Go.Maps

/-- How many bytes a crash leaves of a file. -/
def Fi.left (f : Fi) (kept : Int) : Nat := f.s + (min (max kept 0) ((f.x.length : Int) - (f.s : Int))).toNat
/-- What a crash leaves of a file. -/
def Fi.torn (f : Fi) (kept : Int) : Fi := ⟨f.n, f.x.take (f.left kept), f.left kept⟩
def crashL (keep : List Int) (l : List Fi) : List Fi := l.mapIdx fun i f => f.torn (keep.getD i 0)
def pCrash (p : Pd) (keep : List Int) : Pd := ⟨crashL keep p.l, p.room, -1⟩
theorem crashL_length (keep : List Int) (l : List Fi) : (crashL keep l).length = l.length := by simp [crashL]
theorem crashL_get (keep : List Int) (l : List Fi) (i : Nat) : (crashL keep l)[i]? = l[i]?.map fun f => f.torn (keep.getD i 0) := by simp [crashL]
theorem Fi.left_le (f : Fi) (kept : Int) (h : f.s ≤ f.x.length) : f.left kept ≤ f.x.length := by unfold Fi.left; omega
theorem Fi.torn_n (f : Fi) (kept : Int) : (f.torn kept).n = f.n := rfl
theorem Fi.torn_len (f : Fi) (kept : Int) (h : f.s ≤ f.x.length) : (f.torn kept).x.length = f.left kept := by
  show (f.x.take (f.left kept)).length = _
  rw [List.length_take]
  have := f.left_le kept h
  omega
/-- The files when i of them have been gone over. -/
def half (keep : List Int) (l : List Fi) (i : Nat) : List Fi := (crashL keep l).take i ++ l.drop i
theorem half_zero (keep : List Int) (l : List Fi) : half keep l 0 = l := by simp [half]
theorem half_all (keep : List Int) (l : List Fi) : half keep l l.length = crashL keep l := by
  unfold half
  rw [List.drop_length, List.append_nil, ← crashL_length keep l, List.take_length]
theorem half_get (keep : List Int) (l : List Fi) (i j : Nat) : (half keep l i)[j]? = if j < i then (crashL keep l)[j]? else l[j]? := by
  unfold half
  by_cases hi : i ≤ l.length
  · rw [List.getElem?_append]
    have hl : ((crashL keep l).take i).length = i := by rw [List.length_take, crashL_length]; omega
    rw [hl]
    by_cases h : j < i
    · rw [if_pos h, if_pos h, List.getElem?_take, if_pos h]
    · rw [if_neg h, if_neg h, List.getElem?_drop]
      congr 1; omega
  · rw [List.drop_eq_nil_of_le (by omega), List.append_nil, List.take_of_length_le (by rw [crashL_length]; omega)]
    by_cases h : j < i
    · rw [if_pos h]
    · rw [if_neg h, List.getElem?_eq_none (by rw [crashL_length]; omega), List.getElem?_eq_none (by omega)]
theorem half_names (keep : List Int) (l : List Fi) (i : Nat) : (half keep l i).map Fi.n = l.map Fi.n := by
  apply List.ext_getElem?
  intro j
  rw [List.getElem?_map, List.getElem?_map, half_get]
  split
  · rw [crashL_get]
    cases l[j]? <;> rfl
  · rfl
theorem rise_of_names {l m : List Fi} (h : Rise l) (e : m.map Fi.n = l.map Fi.n) : Rise m := by
  have h1 : (l.map Fi.n).Pairwise fun a b => bytesBefore a b = true := List.pairwise_map.2 h
  rw [← e] at h1
  exact List.pairwise_map.1 h1
theorem half_rise (keep : List Int) {l : List Fi} (h : Rise l) (i : Nat) : Rise (half keep l i) := rise_of_names h (half_names keep l i)
theorem ext_get {l m : List Fi} (hl : Rise l) (hm : Rise m) (h : ∀ s, fGet s l = fGet s m) : l = m := by
  have key : ∀ f, f ∈ l ↔ f ∈ m := by
    intro f
    constructor
    · intro hf
      have := fGet_of_mem hl hf
      rw [h] at this
      exact (fGet_mem this).1
    · intro hf
      have := fGet_of_mem hm hf
      rw [← h] at this
      exact (fGet_mem this).1
  have nd : ∀ {l : List Fi}, Rise l → l.Nodup := by
    intro l hl
    refine List.Pairwise.imp ?_ hl
    intro a b hab e
    rw [e, WideAt.bytes_irrefl] at hab
    cases hab
  have hp : l.Perm m := (List.perm_ext_iff_of_nodup (nd hl) (nd hm)).2 key
  refine List.Perm.eq_of_pairwise (le := fun a b : Fi => bytesBefore a.n b.n = true) (fun a b _ _ h1 h2 => ?_) hl hm hp
  have := WideShapes.bytes_trans _ _ _ h1 h2
  rw [WideAt.bytes_irrefl] at this
  cases this
theorem get_at {l : List Fi} (h : Rise l) {i : Nat} {f : Fi} (hf : l[i]? = some f) : fGet f.n l = some f := fGet_of_mem h (List.mem_of_getElem? hf)
theorem names_at {l : List Fi} (h : Rise l) {i j : Nat} {f g : Fi} (hf : l[i]? = some f) (hg : l[j]? = some g) (e : f.n = g.n) : i = j := by
  obtain ⟨hi, rfl⟩ := List.getElem?_eq_some_iff.1 hf
  obtain ⟨hj, rfl⟩ := List.getElem?_eq_some_iff.1 hg
  have hp := List.pairwise_iff_getElem.1 h
  rcases Nat.lt_trichotomy i j with h1 | h1 | h1
  · have := hp i j hi hj h1
    rw [e, WideAt.bytes_irrefl] at this; cases this
  · exact h1
  · have := hp j i hj hi h1
    rw [e, WideAt.bytes_irrefl] at this; cases this
theorem half_put (keep : List Int) {l : List Fi} (h : Rise l) {i : Nat} {f : Fi} (hf : l[i]? = some f) : fPut (f.torn (keep.getD i 0)) (half keep l i) = half keep l (i + 1) := by
  have h1 := half_rise keep h i
  have h2 := half_rise keep h (i + 1)
  have hnext : (half keep l (i + 1))[i]? = some (f.torn (keep.getD i 0)) := by
    rw [half_get, if_pos (Nat.lt_succ_self i), crashL_get, hf]; rfl
  refine ext_get (h1.put _) h2 fun s => ?_
  rw [fGet_put]
  by_cases e : (f.torn (keep.getD i 0)).n = s
  · rw [if_pos e]
    have := get_at h2 hnext
    rw [e] at this
    exact this.symm
  · rw [if_neg e]
    have e' : f.n ≠ s := e
    have key : ∀ a b : Nat, a = i ∧ b = i + 1 ∨ a = i + 1 ∧ b = i → ∀ g, fGet s (half keep l a) = some g → fGet s (half keep l b) = some g := by
      intro a b hab g hg
      obtain ⟨g1, g2⟩ := fGet_mem hg
      obtain ⟨j, hj, hgj⟩ := List.getElem_of_mem g1
      have hgj' : (half keep l a)[j]? = some g := by rw [List.getElem?_eq_getElem hj, hgj]
      have hji : j ≠ i := by
        rintro rfl
        have hn : (half keep l a)[j]?.map Fi.n = l[j]?.map Fi.n := by
          have := congrArg (fun z : List (List UInt8) => z[j]?) (half_names keep l a)
          simpa using this
        rw [hgj', hf] at hn
        simp at hn
        rw [g2] at hn
        exact e' hn.symm
      have hb : (half keep l b)[j]? = some g := by
        rw [half_get] at hgj' ⊢
        rcases hab with ⟨rfl, rfl⟩ | ⟨rfl, rfl⟩
        · by_cases hlt : j < a
          · rw [if_pos hlt] at hgj'; rw [if_pos (by omega)]; exact hgj'
          · rw [if_neg hlt] at hgj'; rw [if_neg (by omega)]; exact hgj'
        · by_cases hlt : j < b
          · rw [if_pos (by omega)] at hgj'; rw [if_pos hlt]; exact hgj'
          · rw [if_neg (by omega)] at hgj'; rw [if_neg hlt]; exact hgj'
      have := get_at (half_rise keep h b) hb
      rw [g2] at this
      exact this
    cases ha : fGet s (half keep l i) with
    | some g => exact (key i (i + 1) (.inl ⟨rfl, rfl⟩) g ha).symm
    | none =>
      cases hb : fGet s (half keep l (i + 1)) with
      | none => rfl
      | some g => have := key (i + 1) i (.inr ⟨rfl, rfl⟩) g hb; rw [ha] at this; cases this
theorem sum_next (keep : List Int) {l : List Fi} {i : Nat} {f : Fi} (hf : l[i]? = some f) (hs : f.s ≤ f.x.length) : fSum ((crashL keep l).take (i + 1)) = fSum ((crashL keep l).take i) + f.left (keep.getD i 0) := by
  have hi : i < (crashL keep l).length := by rw [crashL_length]; exact (List.getElem?_eq_some_iff.1 hf).1
  rw [List.take_succ_eq_append_getElem hi]
  unfold fSum
  rw [List.map_append, List.sum_append]
  have : (crashL keep l)[i] = f.torn (keep.getD i 0) := by
    have := crashL_get keep l i
    rw [List.getElem?_eq_getElem hi, hf] at this
    simpa using this
  simp [this, Fi.torn_len f _ hs]
theorem Ok.crash {p : Pd} {n : Nat} (h : Ok p n) (keep : List Int) : Ok (pCrash p keep) n := by
  have key : ∀ g ∈ crashL keep p.l, ∃ f ∈ p.l, ∃ c, g = f.torn c := by
    intro g hg
    obtain ⟨j, hj, rfl⟩ := List.getElem_of_mem hg
    have := crashL_get keep p.l j
    rw [List.getElem?_eq_getElem hj] at this
    obtain ⟨f, hf, e⟩ := Option.map_eq_some_iff.1 this.symm
    exact ⟨f, List.mem_of_getElem? hf, _, e.symm⟩
  refine ⟨rise_of_names h.rise ?_, ?_, ?_, ?_, ?_, ?_, h.many⟩
  · have := half_names keep p.l p.l.length
    rw [half_all] at this
    exact this
  · intro g hg; obtain ⟨f, hf, c, rfl⟩ := key g hg; exact h.name f hf
  · intro g hg; obtain ⟨f, hf, c, rfl⟩ := key g hg; rw [Fi.torn_len f c (h.sync f hf)]; exact Nat.le_trans (f.left_le c (h.sync f hf)) (h.size f hf)
  · intro g hg; obtain ⟨f, hf, c, rfl⟩ := key g hg; rw [Fi.torn_len f c (h.sync f hf)]; exact Nat.le_refl _
  · intro g hg; obtain ⟨f, hf, c, rfl⟩ := key g hg; exact (h.byts f hf).take _
  · show (crashL keep p.l).length ≤ n
    rw [crashL_length]; exact h.len
theorem strOf_take (x : List Nat) (n : Nat) : (strOf x).extract 0 n = strOf (x.take n) := by
  apply ByteArray.ext
  rw [ByteArray.data_extract]
  unfold strOf
  simp [List.map_take]
theorem tornN_left (f : Fi) (kept : Int) (h : f.s ≤ f.x.length) : tornN (strOf f.x) f.s kept = (f.left kept : Nat) := by
  unfold tornN Fi.left
  rw [strOf_size]
  omega
/-- A slice of numbers. -/
def ISeg (w : World) (v : Value) (l : List Int) : Prop := LSeg 1 (fun x : Int => [Value.int .i64 x]) w.heap.size w v l
end Go.Proofs.YtbfhcbihgleddaaGreatDoor
/-
  Walks over package disk: Crash, the walk.
-/
namespace Go.Proofs.YtbfhcbihgleddaaGreatDoor
open Go.RowKit Go.Maps

/-- The disk in the midst of a crash: i files are gone over. -/
structure MidC (w0 : World) (k b : Nat) (p : Pd) (keep : List Int) (vn : Value) (i : Nat) (w : World) : Prop where
  at_ : DiskAt w k b p.l.length ⟨mkD (half keep p.l i), fSum ((crashL keep p.l).take i), p.room, p.left⟩
  turned : Turned k b w0 w
  names : NSeg w.heap.size w vn (p.l.map Fi.n)

set_option maxHeartbeats 4000000 in
set_option maxRecDepth 100000 in
theorem Crash_p {w : World} {k b n : Nat} {p : Pd} (h : PdAt w k b n p) (vk : Value) (kl : List Int) (hk : Hid (∀ w', Turned k b w w' → ISeg w' vk kl)) :
    Calls Tryz.prog 23 #[.pointer (some ⟨k, 0, none⟩), vk] w fun e w' => e = .returned (.tuple #[]) ∧ PdAt w' k b n (pCrash p kl) ∧ Turned k b w w' := by
  have hlen : p.l.length ≤ 1000000 := Nat.le_trans h.ok.len h.ok.many
  have hkl := h.at_.box.lt
  have hbl := h.at_.map.lt
  obtain ⟨c0, c1, c2, c3⟩ := h.at_.box.cells4
  have fr := h.at_.box.free
  have h1 := h.at_.used' 0 (wf_in (by omega))
  have ht1 := Turned.set k b w 1 (.int .i64 0)
  have hn := names_any h1 (l := p.l) rfl h.ok.rise hlen
  obtain ⟨ka, kc, rfl, hk2, _⟩ := hk.out w (Turned.refl _ _ _)
  have H1 : Hid _ := And.intro h1 ht1
  have HH : Hid (PdAt w k b n p) := h
  clear h1 ht1 h
  go_enter Tryz.func23, Tryz.ntmps23
  go_wp2_with fail
  refine hn.mono ?_
  rintro e w1 ⟨vn, rfl, hns, hnew, hb1⟩
  obtain ⟨h1, ht1⟩ := H1.out
  have HM : Hid (MidC w k b p kl vn 0 w1) := by
    refine ⟨?_, ht1.trans (Turned.below hb1), hns⟩
    rw [half_zero]
    have := h1.below hb1
    have hm := tight this.map
    have hsz : Maps.size (mkD p.l) = p.l.length := mkD_size p.l
    rw [← hsz]
    exact ⟨this.box, hm, this.used, this.room, this.left⟩
  have HNW : Hid (NewSl w.heap.size vn) := by
    have := hnew
    rw [World.size_setCell] at this
    exact this
  obtain ⟨na, nc, rfl, hn2, -⟩ := hns
  rw [List.length_map] at *
  clear hnew hb1 h1 ht1 H1 hn c0 c1 c2 c3 fr
  go_wp2_with fail
  go_loopw [14] (fun iv wr => ∃ i : Nat, i ≤ p.l.length ∧ iv = .int .i64 i ∧ Hid (MidC w k b p kl (.slice na p.l.length nc) i wr)) (fun iv _ => p.l.length - (intOf iv).toNat)
  case atStart => exact ⟨0, Nat.zero_le _, rfl, HM⟩
  case round =>
    obtain ⟨i, hi, rfl, HI⟩ := hrel
    by_cases hlt : i < p.l.length
    · obtain ⟨f, hf⟩ : ∃ f, p.l[i]? = some f := ⟨_, List.getElem?_eq_getElem hlt⟩
      have hfm : f ∈ p.l := List.mem_of_getElem? hf
      have hfs := HH.out.ok.sync f hfm
      have hfx := HH.out.ok.size f hfm
      have hfn : f.n.length ≤ 32 := by have := HH.out.ok.name f hfm; unfold okName at this; simp at this; omega
      obtain ⟨hD, hT, hN⟩ := HI.out
      have hsum := sum_next kl hf hfs
      have hput := half_put kl HH.out.ok.rise hf
      have hused := hD.used
      dsimp only at hused
      have hleft := f.left_le (kl.getD i 0) hfs
      have hsumle : fSum ((crashL kl p.l).take i) ≤ 1048576000000 := by
        have e1 : fSum ((crashL kl p.l).take i) ≤ ((crashL kl p.l).take i).length * 1048576 := fSum_le fun g hg => (HH.out.ok.crash kl).size g (List.mem_of_mem_take hg)
        have e2 : ((crashL kl p.l).take i).length ≤ 1000000 := by rw [List.length_take, crashL_length]; omega
        have : ((crashL kl p.l).take i).length * 1048576 ≤ 1000000 * 1048576 := Nat.mul_le_mul_right _ e2
        omega
      obtain ⟨na', nc', en, _, hcells⟩ := hN
      simp only [Value.slice.injEq] at en
      obtain ⟨rfl, -, rfl⟩ := en
      rcases hcells with h0 | ⟨g, off, rfl, hg, hcells⟩
      · rw [List.map_eq_nil_iff] at h0; rw [h0] at hlt; simp at hlt
      have hnm := hcells i f.n (by rw [List.getElem?_map, hf]; rfl) 0 _ rfl
      rw [Nat.mul_one, Nat.add_zero] at hnm
      have hsz : (⟨f.n.toArray⟩ : ByteArray).size ≤ maxLen := by
        show f.n.toArray.size ≤ maxLen
        unfold maxLen; simp; omega
      have hat : (mkD (half kl p.l i)).atKey (key ⟨f.n.toArray⟩) nofile = fd (strOf f.x) f.s := by
        rw [key_nm, nm_ba, mkD_atKey]
        have : (half kl p.l i)[i]? = some f := by rw [half_get, if_neg (Nat.lt_irrefl i), hf]
        rw [get_at (half_rise kl HH.out.ok.rise i) this]
      have hlk : (Instr.lookup 76 (.map (some b)) (.string ⟨f.n.toArray⟩) false).run Tryz.prog wr = .ok (.agg #[.string (strOf f.x), .int .i64 f.s]) wr := look hD hsz hat 0
      have htn : ∀ W, Calls Tryz.prog 47 #[.agg #[.string (strOf f.x), .int .i64 f.s], .int .i64 (kl.getD i 0)] W fun e w' => e = .returned (.agg #[.string (strOf (f.x.take (f.left (kl.getD i 0)))), .int .i64 (f.left (kl.getD i 0) : Nat)]) ∧ Below W.heap.size W w' := by
        intro W
        have := torn_any clone_ok W (strOf f.x) f.s (kl.getD i 0) (by rw [strOf_size]; exact hfx) (by omega) (by rw [strOf_size]; omega)
        rw [tornN_left f _ hfs, Int.toNat_natCast, strOf_take] at this
        exact this
      have HTN : Hid _ := htn
      clear htn
      obtain ⟨c0, c1, c2, c3⟩ := hD.box.cells4
      dsimp only at c0 c1 c2 c3
      have HF : Hid (p.l[i]? = some f) := hf
      have HS : Hid _ := And.intro hsum hput
      have HD : Hid _ := And.intro hD hT
      clear hD hT hsum hput hcells hat hf
      have hput2 : fPut ⟨f.n, f.x.take (f.left (kl.getD i 0)), f.left (kl.getD i 0)⟩ (half kl p.l i) = half kl p.l (i + 1) := HS.out.2
      have hbyt := (HH.out.ok.byts f hfm).take (f.left (kl.getD i 0))
      have hsum2 := HS.out.1
      have hlx : (f.x.take (f.left (kl.getD i 0))).length = f.left (kl.getD i 0) := by rw [List.length_take]; omega
      generalize f.left (kl.getD i 0) = m at *
      have HP2 : Hid _ := hput2
      have HSM : Hid _ := hsum2
      have HBY : Hid _ := hbyt
      have HLX : Hid _ := hlx
      clear HS hput2 hsum2 hbyt hlx
      generalize fSum ((crashL kl p.l).take i) = u at *
      generalize hu' : fSum ((crashL kl p.l).take (i + 1)) = u' at *
      have HU : Hid _ := hu'
      clear hu'
      by_cases hik : i < kl.length
      case' pos =>
        have hks := hk.out wr HD.out.2
        obtain ⟨ka', kc', ek, _, hkc⟩ := hks
        simp only [Value.slice.injEq] at ek
        obtain ⟨rfl, -, rfl⟩ := ek
        rcases hkc with h0 | ⟨gk, offk, rfl, hgk, hkc⟩
        · rw [h0] at hik; simp at hik
        obtain ⟨x, hx⟩ : ∃ x, kl[i]? = some x := ⟨_, List.getElem?_eq_getElem hik⟩
        have hkx := hkc i x hx 0 _ rfl
        rw [Nat.mul_one, Nat.add_zero] at hkx
        have hgx : kl.getD i 0 = x := by rw [List.getD_eq_getElem?_getD, hx]; rfl
        rw [hgx] at HTN
        clear hkc hx
        go_wp2_with fail
      case' neg =>
        have hgx : kl.getD i 0 = 0 := by rw [List.getD_eq_getElem?_getD, List.getElem?_eq_none (by omega)]; rfl
        rw [hgx] at HTN
        go_wp2_with fail
      all_goals
        refine (HTN.out _).mono ?_
        rintro e w2 ⟨rfl, hb2⟩
        have HB2 : Hid _ := hb2
        clear hb2 hlk hnm HTN c0 c1 c2 c3
        go_wp2_with fail
        have hb3 := HB2.out.trans (((Below.refl w2.heap.size w2).alloc (Nat.le_refl _) (.cells #[.string (strOf (f.x.take m)), .int .i64 (m : Nat)] 99)).mono HB2.out.size)
        have hbP : BoxT 99 _ _ #[.string (strOf (f.x.take m)), .int .i64 (m : Nat)] := BoxT.new 99 w2 #[.string (strOf (f.x.take m)), .int .i64 (m : Nat)]
        generalize w2.alloc (.cells #[.string (strOf (f.x.take m)), .int .i64 (m : Nat)] 99) = W at *
        have hq : w2.heap.size = w2.heap.size := rfl
        generalize w2.heap.size = q at *
        obtain ⟨hD, hT⟩ := HD.out
        have h1 := hD.below hb3
        have hT1 : Turned k b wr W := Turned.below hb3
        have hmd : W.drew.ownsMap Tryz.prog 9 fileR b p.l.length (mkD (half kl p.l i)) := h1.map
        obtain ⟨w3, hst, hown3, hturn⟩ := hmd.store (string_keyed Tryz.underlying9) Tryz.underlying76 (by unfold maxLen; omega) (keyOf_name hsz) (fileR_mk (s := strOf (f.x.take m)) (n := (m : Nat)) (by rw [strOf_size, HLX.out]; unfold maxLen; omega) (wf_in (by omega)))
        have hqk : q ≠ k := by
          rintro rfl
          have e1 := hbP
          have e2 := h1.box
          unfold BoxT at e1 e2
          rw [e1] at e2
          simp at e2
        have hqb : q ≠ b := hbP.notMap h1.map
        have hbx3 := box_turned (h1.below ((Below.refl _ _).drew)) hturn
        have hbP3 : BoxT 99 w3 q #[.string (strOf (f.x.take m)), .int .i64 (m : Nat)] := (hbP.drew).grown hturn.grown hqb
        dsimp only at hbx3
        have hDput : (mkD (half kl p.l i)).put (key ⟨f.n.toArray⟩) (fd (strOf (f.x.take m)) (m : Nat)) = mkD (half kl p.l (i + 1)) := by
          rw [← HP2.out, key_nm, nm_ba]
          exact mkD_put ⟨f.n, f.x.take m, m⟩ (half kl p.l i)
        rw [hDput] at hown3
        have hsz3 : Maps.size (mkD (half kl p.l (i + 1))) = p.l.length := by
          rw [mkD_size]
          have := congrArg List.length (half_names kl p.l (i + 1))
          simpa using this
        have hown3' := tight hown3
        rw [hsz3] at hown3'
        have h3 : DiskAt w3 k b p.l.length ⟨mkD (half kl p.l (i + 1)), (u : Nat), p.room, p.left⟩ := ⟨hbx3, hown3', h1.used, h1.room, h1.left⟩
        have hT3 : Turned k b wr w3 := hT1.trans ((Turned.below ((Below.refl _ _).drew)).trans (Turned.map hturn))
        have h4 := (h3.used' (u' : Nat) (wf_in (by have := HSM.out; omega))).below ((Below.refl _ _).drew)
        have hT4 : Turned k b wr (w3.setCell ⟨k, 1, none⟩ (.int .i64 (u' : Nat))).drew := (hT3.trans (Turned.set k b w3 1 _)).trans (Turned.below ((Below.refl _ _).drew))
        have H4 : Hid _ := And.intro h4 hT4
        have hw1 : wrap64 ((u : Int) + (m : Int)) = (u' : Nat) := by have := HSM.out; unfold wrap64; omega
        have hw2 : IntKind.i64.wrap ((u : Int) + (m : Int)) = (u' : Nat) := by have := HSM.out; rw [IntKind.wrap_i64]; omega
        have hss : (strOf (f.x.take m)).size = m := by rw [strOf_size]; exact HLX.out
        obtain ⟨c0, c1, c2, c3⟩ := h1.box.cells4
        obtain ⟨p0, p1⟩ := hbP.cells2
        obtain ⟨g0, g1, g2, g3⟩ := h3.box.cells4
        obtain ⟨q0, q1⟩ := hbP3.cells2
        have fr3 := h3.box.free
        dsimp only at c0 c1 c2 c3 g0 g1 g2 g3
        clear hb3 hbP h1 hmd hown3 hown3' hturn hbx3 hbP3 h3 hT3 h4 hT4 hD hT hT1 hDput hsz3
        go_region
        all_goals
          go_wp2_with fail
          go_region
          all_goals
            go_wp2
            go_roundw
            case rel =>
              obtain ⟨h4, hT4⟩ := H4.out
              exact ⟨i + 1, by omega, by go_num, ⟨by rw [HU.out]; exact h4, HD.out.2.trans hT4, LSeg.turned HI.out.names HNW.out hkl hbl hT4⟩⟩
            case measure => simp [intOf]; omega
    · obtain rfl : i = p.l.length := by omega
      obtain ⟨hD, hT, hN⟩ := HI.out
      rw [half_all] at hD
      have hcl : (crashL kl p.l).take p.l.length = crashL kl p.l := by rw [← crashL_length kl p.l, List.take_length]
      rw [hcl] at hD
      obtain ⟨c0, c1, c2, c3⟩ := hD.box.cells4
      have fr := hD.box.free
      have h2 := hD.left' (-1) (wf_in (by omega))
      have HP : Hid _ := And.intro h2 (hT.trans (Turned.set k b wr 3 (.int .i64 (-1))))
      clear h2 hT hN hD HI HM
      go_wp2
      go_end0
      obtain ⟨h2, h3⟩ := HP.out
      exact ⟨rfl, ⟨h2.mono HH.out.ok.len, HH.out.ok.crash kl⟩, h3⟩
end Go.Proofs.YtbfhcbihgleddaaGreatDoor
/-
  Walks over the statements' own example: known.
-/
namespace Go.Proofs.YtbfhcbihgleddaaGreatDoor
open Go.RowKit Go.Maps

theorem lit_seg (w : World) (l : List Nat) (mk : Nat × Nat) (hl : l.length ≤ 1000) : Seg (w.alloc (.cells (bs l).toArray 5 mk)) (.slice (some ⟨w.heap.size, 0, none⟩) l.length l.length) l := by
  refine ⟨_, _, rfl, Nat.le_refl _, by omega, by omega, .inr ⟨_, 0, rfl, by simp, fun i x hx => ?_⟩⟩
  have hb := heap_alloc_new w (.cells (bs l).toArray 5 mk)
  unfold World.cell?
  dsimp only
  rw [hb]
  simp [bs, hx]
theorem lit_iseg (w : World) (l : List Int) (hl : l.length ≤ 1000) : ISeg (w.alloc (.cells (l.map (Value.int .i64)).toArray 3)) (.slice (some ⟨w.heap.size, 0, none⟩) l.length l.length) l := by
  refine ⟨_, _, rfl, by omega, .inr ⟨_, 0, rfl, by simp, fun i x hx j u hu => ?_⟩⟩
  cases j with
  | succ j => simp at hu
  | zero =>
    simp at hu
    subst hu
    have hb := heap_alloc_new w (.cells (l.map (Value.int .i64)).toArray 3)
    unfold World.cell?
    dsimp only
    rw [hb]
    simp [hx]
/-- What follows on a disk that was made here. -/
structure Since (w0 : World) (w : World) (k b : Nat) : Prop where
  lk : w0.heap.size ≤ k
  lb : w0.heap.size ≤ b
  below : Below w0.heap.size w0 w
theorem Since.step {w0 w w' : World} {k b : Nat} (h : Since w0 w k b) (ht : Turned k b w w') : Since w0 w' k b := by
  refine ⟨h.lk, h.lb, ⟨ht.os.trans h.below.os, ht.tape.trans h.below.tape, ht.output.trans h.below.output, Nat.le_trans h.below.size ht.size, fun i hi => ?_⟩⟩
  have h1 := h.lk
  have h2 := h.lb
  rw [ht.block i (Nat.lt_of_lt_of_le hi h.below.size) (by omega) (by omega)]
  exact h.below.block i hi
theorem Byts.lit {l : List Nat} (h : l.all (fun x => decide (x < 256)) = true) : Byts l := fun i x hx => by
  have := List.all_eq_true.1 h x (List.mem_of_getElem? hx)
  simpa using this

def q1 : Pd := ⟨[⟨[97], [120, 121, 122], 0⟩], 100, -1⟩
def q2 : Pd := ⟨[⟨[97], [120, 121, 122], 3⟩], 100, -1⟩
def q3 : Pd := ⟨[⟨[97], [112, 113, 114, 115], 0⟩], 100, -1⟩
def q4 : Pd := ⟨[⟨[97], [112, 113, 114, 115], 0⟩, ⟨[98], [113], 0⟩], 100, -1⟩
def q5 : Pd := ⟨[⟨[97], [112, 113], 2⟩, ⟨[98], [], 0⟩], 100, -1⟩
def q6 : Pd := ⟨[⟨[98], [112, 113], 2⟩], 100, -1⟩
theorem k1 : pWrite ⟨[], 100, -1⟩ [97] [120, 121, 122] = (q1, 0) := rfl
theorem k2 : pSync q1 [97] = (q2, 0) := rfl
theorem k3 : pWrite q2 [97] [112, 113, 114, 115] = (q3, 0) := rfl
theorem k4 : pWrite q3 [98] [113] = (q4, 0) := rfl
theorem k5 : pCrash q4 [2] = q5 := rfl
theorem k6 : pFind q5 [97] = (some ⟨[97], [112, 113], 2⟩, 0) := rfl
theorem k7 : pFind q5 [98] = (some ⟨[98], [], 0⟩, 0) := rfl
theorem k8 : pWrite q5 [99] (List.replicate 99 0) = (q5, 22) := by
  unfold pWrite
  rw [if_neg (by decide), if_neg (by decide), if_pos (by rw [List.length_replicate]; decide)]
theorem k9 : pRename q5 [97] [98] = (q6, 0) := rfl
theorem k10 : pList q6 = [[98]] := rfl
theorem k11 : pFind q6 [97] = (none, 20) := rfl

/-- Bytes that lie somewhere lie outside the disk. -/
theorem Seg.turned {w w' : World} {k b n : Nat} {d : Dk} {v : Value} {l : List Nat} (h : Seg w v l) (hd : DiskAt w k b n d) (ht : Turned k b w w') : Seg w' v l := by
  obtain ⟨ao, cap, h1, h2, h3, h3', h4⟩ := h
  refine ⟨ao, cap, h1, h2, h3, h3', ?_⟩
  rcases h4 with h4 | ⟨g, off, h5, h6, h7⟩
  · exact .inl h4
  · by_cases h0 : l = []
    · exact .inl h0
    obtain ⟨x, hx⟩ : ∃ x, l[0]? = some x := ⟨_, List.getElem?_eq_getElem (by have := List.length_pos_iff.2 h0; omega)⟩
    have hc := h7 0 x hx
    have hgk : g ≠ k := by
      rintro rfl
      have hb := hd.box
      unfold BoxT at hb
      rw [World.cell?] at hc
      dsimp only at hc
      rw [hb] at hc
      match off + 0, hc with
      | 0, hc => simp at hc
      | 1, hc => simp at hc
      | 2, hc => simp at hc
      | 3, hc => simp at hc
      | _ + 4, hc => simp at hc
    have hgb : g ≠ b := by
      rintro rfl
      obtain ⟨es, clock, hb, _⟩ := hd.map
      rw [World.cell?] at hc
      dsimp only at hc
      rw [hb] at hc
      cases hc
    exact .inr ⟨g, off, h5, Nat.lt_of_lt_of_le h6 ht.size, fun i x hi => (World.cell?_of_block (ht.block g h6 hgk hgb)).trans (h7 i x hi)⟩
/-- A disk that was made behind w0. -/
structure St (w0 w : World) (k b n : Nat) (p : Pd) : Prop where
  d : PdAt w k b n p
  s : Since w0 w k b
theorem St.below {w0 w w' : World} {k b n : Nat} {p : Pd} (h : St w0 w k b n p) (hb : Below w.heap.size w w') : St w0 w' k b n p := ⟨h.d.below hb, h.s.step (Turned.below hb)⟩
theorem kWrite {w0 w : World} {k b n : Nat} {p : Pd} (h : St w0 w k b n p) (hn : n + 1 ≤ 1000000) (s : ByteArray) (hs : s.size ≤ maxLen) (vb : Value) (l : List Nat) (hsg : Seg w vb l) (hl : Byts l) (p' : Pd) (er : Int) (hp : pWrite p (nm s) l = (p', er)) :
    Calls Tryz.prog 30 #[.pointer (some ⟨k, 0, none⟩), .string s, vb] w fun e w' => e = .returned (.int .i64 er) ∧ St w0 w' k b (n + 1) p' ∧ Turned k b w w' := by
  have := Write_p h.d hn s hs vb l hsg hl
  rw [hp] at this
  exact this.mono fun e w' ⟨h1, h2, h3⟩ => ⟨h1, ⟨h2, h.s.step h3⟩, h3⟩
theorem kSync {w0 w : World} {k b n : Nat} {p : Pd} (h : St w0 w k b n p) (hn : n + 1 ≤ 1000000) (s : ByteArray) (hs : s.size ≤ maxLen) (p' : Pd) (er : Int) (hp : pSync p (nm s) = (p', er)) :
    Calls Tryz.prog 102 #[.pointer (some ⟨k, 0, none⟩), .string s] w fun e w' => e = .returned (.int .i64 er) ∧ St w0 w' k b (n + 1) p' ∧ Turned k b w w' := by
  have := Sync_p h.d hn s hs
  rw [hp] at this
  exact this.mono fun e w' ⟨h1, h2, h3⟩ => ⟨h1, ⟨h2, h.s.step h3⟩, h3⟩
theorem kRename {w0 w : World} {k b n : Nat} {p : Pd} (h : St w0 w k b n p) (hn : n + 1 ≤ 1000000) (s t : ByteArray) (hs : s.size ≤ maxLen) (ht : t.size ≤ maxLen) (p' : Pd) (er : Int) (hp : pRename p (nm s) (nm t) = (p', er)) :
    Calls Tryz.prog 70 #[.pointer (some ⟨k, 0, none⟩), .string s, .string t] w fun e w' => e = .returned (.int .i64 er) ∧ St w0 w' k b (n + 1) p' ∧ Turned k b w w' := by
  have := Rename_p h.d hn s t hs ht
  rw [hp] at this
  exact this.mono fun e w' ⟨h1, h2, h3⟩ => ⟨h1, ⟨h2, h.s.step h3⟩, h3⟩
theorem kRead {w0 w : World} {k b n : Nat} {p : Pd} (h : St w0 w k b n p) (s : ByteArray) (hs : s.size ≤ maxLen) (o : Option Fi) (er : Int) (hp : pFind p (nm s) = (o, er)) :
    Calls Tryz.prog 28 #[.pointer (some ⟨k, 0, none⟩), .string s] w fun e w' => ∃ v, e = .returned (.tuple #[v, .int .i64 er]) ∧ Seg w' v (fData o) ∧ St w0 w' k b n p ∧ Below w.heap.size w w' := by
  have := Read_p h.d s hs
  rw [hp] at this
  exact this.mono fun e w' ⟨v, h1, h2, h3⟩ => ⟨v, h1, h2, h.below h3, h3⟩
theorem kList {w0 w : World} {k b n : Nat} {p : Pd} (h : St w0 w k b n p) (l : List (List UInt8)) (hp : pList p = l) :
    Calls Tryz.prog 27 #[.pointer (some ⟨k, 0, none⟩)] w fun e w' => ∃ v, e = .returned v ∧ NSeg w'.heap.size w' v l ∧ NewSl w.heap.size v ∧ St w0 w' k b n p ∧ Below w.heap.size w w' := by
  have := List_any h.d
  rw [hp] at this
  exact this.mono fun e w' ⟨v, h1, h2, h3, h4⟩ => ⟨v, h1, h2, h3, h.below h4, h4⟩
theorem kCrash {w0 w : World} {k b n : Nat} {p : Pd} (h : St w0 w k b n p) (vk : Value) (kl : List Int) (hk : Hid (∀ w', Turned k b w w' → ISeg w' vk kl)) (p' : Pd) (hp : pCrash p kl = p') :
    Calls Tryz.prog 23 #[.pointer (some ⟨k, 0, none⟩), vk] w fun e w' => e = .returned (.tuple #[]) ∧ St w0 w' k b n p' ∧ Turned k b w w' := by
  have := Crash_p h.d vk kl hk
  rw [hp] at this
  exact this.mono fun e w' ⟨h1, h2, h3⟩ => ⟨h1, ⟨h2, h.s.step h3⟩, h3⟩
theorem lit_seg2 {w : World} {l : List Nat} {mk : Nat × Nat} (cs : Array Value) (hcs : cs = (bs l).toArray) (n : Nat) (hn : n = l.length) (hl : l.length ≤ 1000) : Seg (w.alloc (.cells cs 5 mk)) (.slice (some ⟨w.heap.size, 0, none⟩) n n) l := by
  subst hcs; subst hn; exact lit_seg w l mk hl
theorem St.alloc {w0 w : World} {k b n : Nat} {p : Pd} (h : St w0 w k b n p) (o : Obj) : St w0 (w.alloc o) k b n p := h.below ((Below.refl _ _).alloc (Nat.le_refl _) o)
theorem made_zeros (n : Nat) : madeCells (Value.int .u8 0).cells n = (bs (List.replicate n 0)).toArray := by
  apply Array.ext
  · simp [size_madeCells, bs]
  · intro i h1 h2
    simp [madeCells, bs, Value.cells, Nat.mod_one]
theorem make_zeros (w : World) (n : Nat) (hn : n ≤ 1000000) : (Instr.makeSlice 22 (.int .i64 (n : Int)) (.int .i64 (n : Int))).run Tryz.prog w = .ok (.slice (some ⟨w.heap.size, 0, none⟩) n n) (w.alloc (.cells (bs (List.replicate n 0)).toArray 5)) := by
  obtain ⟨i0, hi, hz0, hz1, hz2⟩ := info_parts Tryz.info5
  have := run_make (P := Tryz.prog) w 22 5 i0 (.int .u8 0) Tryz.underlying22 hi hz0 .i64 .i64 (n : Int) (n : Int) (by omega) (Int.le_refl _) (by rw [hz2]; omega) (by omega)
  rw [hz1, Nat.mul_one, Int.toNat_natCast, made_zeros] at this
  exact this

end Go.Proofs.YtbfhcbihgleddaaGreatDoor
/-
  Steps of scripts, as the statements read them.
-/
namespace Go.Proofs.YtbfhcbihgleddaaGreatDoor
open Go.RowKit Go.Maps

/-- What is true of a step that came in. -/
structure StpOk (B : Nat) (w : World) (p : Stp) : Prop where
  b : SegB B w (.slice p.ba p.bl.length p.bc) p.bl
  byts : Byts p.bl
  k : LSeg 1 (fun x : Int => [Value.int .i64 x]) B w (.slice p.ka p.kl.length p.kc) p.kl
  nm : p.nm.size ≤ 140737488355328
  to : p.to.size ≤ 140737488355328
  n : (Lit.int .i64 p.n).wf = true
theorem StpOk.below {B : Nat} {w w' : World} {p : Stp} (h : StpOk B w p) (hb : Below B w w') : StpOk B w' p := ⟨h.b.below hb, h.byts, h.k.below hb, h.nm, h.to, h.n⟩
/-- A script that came in. -/
structure Scr (w : World) (v : Value) (xs : List Stp) : Prop where
  s : LSeg 6 Stp.cs w.heap.size w v xs
  o : ∀ p ∈ xs, StpOk w.heap.size w p
  wt : ∀ p ∈ xs, p.wt ≤ 1125899906842624
theorem tot_mem {xs : List Stp} {p : Stp} (h : p ∈ xs) : p.wt ≤ tot xs := by
  induction xs with
  | nil => cases h
  | cons a r ih =>
    have e : tot (a :: r) = a.wt + tot r := by simp [tot]
    rw [e]
    rcases List.mem_cons.1 h with rfl | h
    · omega
    · have := ih h; omega
theorem mem_wt {xs : List Stp} {p : Stp} (h : p ∈ xs) (ht : tot xs ≤ 50000) : p.bl.length ≤ 50000 ∧ p.nm.size ≤ 50000 ∧ p.to.size ≤ 50000 ∧ p.kl.length ≤ 50000 := by
  have := tot_mem h
  unfold Stp.wt at this
  omega
theorem St.since {w0 w : World} {k b n : Nat} {p : Pd} (h : St w0 w k b n p) : Below w0.heap.size w0 w := h.s.below
theorem St.drewN {w0 w : World} {k b n : Nat} {p : Pd} (h : St w0 w k b n p) (q : Nat) : St w0 (w.drewN q) k b n p := h.below (below_drewN' (Below.refl _ _) q)
theorem kUsed {w0 w : World} {k b n : Nat} {p : Pd} (h : St w0 w k b n p) : Calls Tryz.prog 16 #[.pointer (some ⟨k, 0, none⟩)] w fun e w' => e = .returned (.int .i64 (fSum p.l : Nat)) ∧ w' = w := Used_p h.d
theorem kDelete {w0 w : World} {k b n : Nat} {p : Pd} (h : St w0 w k b n p) (s : ByteArray) (hs : s.size ≤ maxLen) (p' : Pd) (er : Int) (hp : pDelete p (nm s) = (p', er)) :
    Calls Tryz.prog 29 #[.pointer (some ⟨k, 0, none⟩), .string s] w fun e w' => e = .returned (.int .i64 er) ∧ St w0 w' k b n p' ∧ Turned k b w w' := by
  have := Delete_p h.d s hs
  rw [hp] at this
  exact this.mono fun e w' ⟨h1, h2, h3⟩ => ⟨h1, ⟨h2, h.s.step h3⟩, h3⟩
theorem kNew (w0 w : World) (h : Below w0.heap.size w0 w) (x : Int) (hx : (Lit.int .i64 x).wf = true) :
    Calls Tryz.prog 11 #[.int .i64 x] w fun e w' => ∃ k b, e = .returned (.pointer (some ⟨k, 0, none⟩)) ∧ St w0 w' k b 0 ⟨[], max x 0, -1⟩ ∧ w.heap.size ≤ k ∧ w.heap.size ≤ b ∧ Below w.heap.size w w' := by
  refine (New_p w x hx).mono ?_
  rintro e w' ⟨h1, h2, h3⟩
  have := h.size
  exact ⟨_, _, h1, ⟨h2, ⟨by omega, by omega, h.trans (h3.mono h.size)⟩⟩, by omega, by omega, h3⟩
end Go.Proofs.YtbfhcbihgleddaaGreatDoor
/-
  A number in the base 36 (strconv.FormatUint), and the names of the vault's files.
-/
namespace Go.Proofs.YtbfhcbihgleddaaGreatDoor
open Go.RowKit

theorem pow2_36 (w : World) : Calls Tryz.prog 172 #[.int .i64 36] w fun e w' => e = .returned (.bool false) ∧ w' = w := by
  go_enter Tryz.func172, Tryz.ntmps172
  go_wp2
  go_ret
  exact ⟨rfl, rfl⟩
theorem BoxT.cellAt {t : TypeId} {w : World} {k : Nat} {cs : Array Value} (h : BoxT t w k cs) (j : Nat) : w.cell? ⟨k, j, none⟩ = cs[j]? := by
  unfold BoxT at h
  simp [World.cell?, h]
/-- The digits' letters. -/
def ch36 (d : Nat) : Nat := if d < 10 then 48 + d else 87 + d
/-- A number in the base 36. -/
def d36f : Nat → Nat → List Nat
  | 0, u => [ch36 u]
  | f + 1, u => if u < 36 then [ch36 u] else d36f f (u / 36) ++ [ch36 (u % 36)]
theorem d36f_more (f : Nat) : ∀ g u, u ≤ f → u ≤ g → d36f f u = d36f g u := by
  induction f with
  | zero =>
    intro g u h _
    obtain rfl : u = 0 := by omega
    cases g <;> rfl
  | succ f ih =>
    intro g u h1 h2
    cases g with
    | zero =>
      obtain rfl : u = 0 := by omega
      rfl
    | succ g =>
      unfold d36f
      split
      · rfl
      · rw [ih g (u / 36) (by omega) (by omega)]
def d36 (u : Nat) : List Nat := d36f u u

theorem d36_small {u : Nat} (h : u < 36) : d36 u = [ch36 u] := by
  unfold d36
  cases u with
  | zero => rfl
  | succ u => unfold d36f; rw [if_pos h]
theorem d36_step {u : Nat} (h : 36 ≤ u) : d36 u = d36 (u / 36) ++ [ch36 (u % 36)] := by
  obtain ⟨v, rfl⟩ : ∃ v, u = v + 1 := ⟨u - 1, by omega⟩
  have e : d36 (v + 1) = if v + 1 < 36 then [ch36 (v + 1)] else d36f v ((v + 1) / 36) ++ [ch36 ((v + 1) % 36)] := rfl
  rw [e, if_neg (by omega), d36f_more v ((v + 1) / 36) ((v + 1) / 36) (by omega) (Nat.le_refl _)]
  rfl
/-- The letters as they stand in the library's table. -/
abbrev tab36 : ByteArray := ⟨#[48, 49, 50, 51, 52, 53, 54, 55, 56, 57, 97, 98, 99, 100, 101, 102, 103, 104, 105, 106, 107, 108, 109, 110, 111, 112, 113, 114, 115, 116, 117, 118, 119, 120, 121, 122]⟩
theorem tab36_at : ∀ d, d < 36 → (tab36.data[d]?.map (·.toNat)) = some (ch36 d) := by decide
theorem few36 {u' u n : Nat} (hu : u < 18446744073709551616) (h1 : u' * 36 ^ n ≤ u) (h2 : n = 0 ∨ 1 ≤ u') : n ≤ 12 := by
  rcases h2 with rfl | h2
  · omega
  · by_cases hn : n ≤ 12
    · exact hn
    · have h3 : 36 ^ 13 ≤ 36 ^ n := Nat.pow_le_pow_right (by omega) (by omega)
      have h4 : 36 ^ n ≤ u' * 36 ^ n := Nat.le_mul_of_pos_left _ h2
      have h5 : (36 : Nat) ^ 13 = 170581728179578208256 := by decide
      omega
def Bits36 (w wr : World) (u u' i : Nat) (s : List Nat) : Prop :=
  ∃ cs : Array Value, i + s.length = 65 ∧ u' * 36 ^ s.length ≤ u ∧ (s.length = 0 ∨ 1 ≤ u') ∧ d36 u = d36 u' ++ s ∧ BoxT 238 wr w.heap.size cs ∧ cs.size = 65 ∧ (∀ (j x : Nat), s[j]? = some x → cs[i + j]? = some (.int .u8 (x : Int))) ∧ Below w.heap.size w wr
theorem Bits36.step {w wr : World} {u u' i' : Nat} {s : List Nat} (h : Bits36 w wr u u' (i' + 1) s) (hge : 36 ≤ u') : Bits36 w (wr.setCell ⟨w.heap.size, i', none⟩ (.int .u8 (ch36 (u' % 36) : Nat))) u (u' / 36) i' (ch36 (u' % 36) :: s) := by
  obtain ⟨cs, h1, h2, h3, h4, h5, h6, h7, h8⟩ := h
  refine ⟨cs.setIfInBounds i' (.int .u8 (ch36 (u' % 36) : Nat)), by simp; omega, ?_, .inr (by omega), ?_, h5.set _ _, by simpa using h6, ?_, h8.setCell (Nat.le_refl _) _⟩
  · rw [List.length_cons, Nat.pow_succ]
    have : u' / 36 * (36 ^ s.length * 36) = (u' / 36 * 36) * 36 ^ s.length := by rw [Nat.mul_assoc, Nat.mul_comm 36]
    rw [this]
    exact Nat.le_trans (Nat.mul_le_mul_right _ (Nat.div_mul_le_self _ _)) h2
  · rw [h4, d36_step hge]; simp
  · intro j x hx
    cases j with
    | zero =>
      simp only [List.getElem?_cons_zero, Option.some.injEq] at hx
      subst hx
      simp [Array.getElem?_setIfInBounds]; omega
    | succ j =>
      simp only [List.getElem?_cons_succ] at hx
      rw [Array.getElem?_setIfInBounds_ne (by omega)]
      have := h7 j x hx
      rw [show i' + (j + 1) = i' + 1 + j by omega]; exact this

theorem wu64 {n : Int} (h0 : 0 ≤ n) (h1 : n ≤ 18446744073709551615) : IntKind.u64.wrap n = n := by
  simp [IntKind.wrap, IntKind.bits, IntKind.signed]; omega
theorem tab36_get (d d' : Nat) (h : d < tab36.size) (e : d = d') (h' : d' < 36) : (tab36[d]'h).toNat = ch36 d' := by
  subst e
  have := tab36_at d h'
  have h2 : tab36.data[d]? = some (tab36.data[d]'h) := Array.getElem?_eq_getElem _
  rw [h2] at this
  exact Option.some.inj this
set_option maxHeartbeats 1000000 in
set_option maxRecDepth 100000 in
theorem bits36 (u : Nat) (hu : u < 18446744073709551616) (w : World) : Calls Tryz.prog 163 #[.slice none 0 0, .int .u64 u, .int .i64 36, .bool false, .bool false] w fun e w' => e = .returned (.tuple #[.slice none 0 0, .string (strOf (d36 u))]) ∧ Below w.heap.size w w' := by
  go_enter Tryz.func163, Tryz.ntmps163
  go_wp2_with (go_at_call 172; refine (pow2_36 _).mono ?_; rintro e w' ⟨rfl, rfl⟩)
  go_loopw [1, 13] (fun uv iv wr => ∃ (u' : Nat) (i : Nat) (s : List Nat), uv = .int .u64 u' ∧ iv = .int .i64 i ∧ Hid (Bits36 w wr u u' i s)) (fun uv _ _ => (intOf uv).toNat)
  case atStart => exact ⟨u, 65, [], rfl, rfl, Tryz.zeroCells238, rfl, by simp, .inl rfl, by simp, BoxT.new _ _ _, by kernel_rfl, fun j x h => by simp at h, (Below.refl _ _).alloc (Nat.le_refl _) _⟩
  case round =>
    obtain ⟨u', i, s, rfl, rfl, HI⟩ := hrel
    obtain ⟨cs, h1, h2, h3, g4, g5, h6, g7, g8⟩ := HI.out
    have hs12 := few36 hu h2 h3
    have hu' : u' ≤ u := Nat.le_trans (Nat.le_mul_of_pos_right _ (Nat.pow_pos (by omega))) h2
    obtain ⟨i', rfl⟩ : ∃ i', i = i' + 1 := ⟨i - 1, by omega⟩
    obtain ⟨c0, hc0⟩ : ∃ c, wr.cell? ⟨w.heap.size, i', none⟩ = some c := by
      rw [g5.cellAt]
      exact ⟨cs[i']'(by omega), Array.getElem?_eq_getElem (by omega)⟩
    have hfr := g5.free i'
    have hi : i' < 65 := by omega
    have e1 : ((i' + 1 : Nat) : Int) - 1 = (i' : Int) := by omega
    by_cases hge : 36 ≤ u'
    · have wq : IntKind.u64.wrap ((u' : Int) / 36) = ((u' / 36 : Nat) : Int) := by
        rw [wu64 (by omega) (by omega)]; omega
      have wm : IntKind.u64.wrap (((u' / 36 : Nat) : Int) * 36) = ((u' / 36 * 36 : Nat) : Int) := by
        rw [wu64 (by omega) (by omega)]; omega
      have ws : IntKind.u64.wrap ((u' : Int) - ((u' / 36 * 36 : Nat) : Int)) = ((u' % 36 : Nat) : Int) := by
        rw [wu64 (by omega) (by omega)]; omega
      have hd : ((u' % 36 : Nat) : Int) < 36 := by omega
      have key := HI.out.step hge
      rw [← tab36_get (u' - u' / 36 * 36) (u' % 36) (by show _ < 36; omega) (by omega) (by omega)] at key
      have HK := hide key
      clear key g4 g5 g7 g8 h1 h2 h3 h6
      go_wp2
      refine ⟨⟨u' / 36, i', _, by simp, rfl, HK⟩, ?_⟩
      simp [intOf]; omega
    · have hlt : u' < 36 := by omega
      have key : BoxT 238 (wr.setCell ⟨w.heap.size, i', none⟩ (.int .u8 ((tab36[u']'hlt).toNat : Nat))) w.heap.size (cs.setIfInBounds i' (.int .u8 ((tab36[u']'hlt).toNat : Nat))) ∧ Below w.heap.size w (wr.setCell ⟨w.heap.size, i', none⟩ (.int .u8 ((tab36[u']'hlt).toNat : Nat))) := ⟨g5.set _ _, g8.setCell (Nat.le_refl _) _⟩
      have eu : d36 u = (tab36[u']'hlt).toNat :: s := by rw [g4, d36_small hlt, tab36_get u' u' hlt rfl hlt]; rfl
      have hl : (d36 u).length = 65 - i' := by rw [eu, List.length_cons]; omega
      have hcl : ∀ (j x : Nat), (d36 u)[j]? = some x → (wr.setCell ⟨w.heap.size, i', none⟩ (.int .u8 ((tab36[u']'hlt).toNat : Nat))).cell? ⟨w.heap.size, i' + j, none⟩ = some (.int .u8 (x : Int)) := by
        intro j x hx
        rw [key.1.cellAt]
        rw [eu] at hx
        cases j with
        | zero =>
          simp only [List.getElem?_cons_zero, Option.some.injEq] at hx
          subst hx
          simp [Array.getElem?_setIfInBounds]; omega
        | succ j =>
          simp only [List.getElem?_cons_succ] at hx
          rw [Array.getElem?_setIfInBounds_ne (by omega), show i' + (j + 1) = i' + 1 + j by omega]
          exact g7 j x hx
      have hsl : ∀ W : World, (Instr.sliceAt 238 (.pointer (some ⟨w.heap.size, 0, none⟩)) (some (.int .i64 (i' : Int))) none none).run Tryz.prog W = .ok (.slice (some ⟨w.heap.size, i', none⟩) (65 - i') (65 - i')) W := by
        intro W
        have hal : Tryz.prog.arrayLen 238 = 65 := by kernel_rfl
        have hel : Tryz.prog.elem 238 = 5 := by kernel_rfl
        rw [run_sliceAt_array_l W 238 _ (by rw [hal, hel]; exact Tryz.underlying238) .i64 i' (by omega) (by rw [hal]; omega), hel, Tryz.sizeOf5, hal]
        show Result.ok (slicedAt ⟨w.heap.size, 0, none⟩ ((i' : Int)).toNat 65 65 1) W = _
        rw [Int.toNat_natCast, slicedAt, if_neg (by omega)]
        simp [Addr.add]; omega
      have hcv := seg_convert (w := wr.setCell ⟨w.heap.size, i', none⟩ (.int .u8 ((tab36[u']'hlt).toNat : Nat))) (v := .slice (some ⟨w.heap.size, i', none⟩) (65 - i') (65 - i')) (l := d36 u) ⟨_, 65 - i', by rw [hl], by omega, by omega, by omega, .inr ⟨_, i', rfl, key.1.lt, hcl⟩⟩
      have HB := hide key.2
      clear key hcl eu hl g4 g5 g7 g8 h1 h2 h3 h6
      go_wp2
      go_ret2
      exact ⟨rfl, HB.out⟩
/-- A number's letters, as a string. -/
def n36 (u : Nat) : ByteArray := strOf (d36 u)
theorem fmtU_any (u : Nat) (hu : u < 18446744073709551616) (w : World) : Calls Tryz.prog 145 #[.int .u64 u, .int .i64 36] w fun e w' => e = .returned (.string (n36 u)) ∧ Below w.heap.size w w' := by
  go_enter Tryz.func145, Tryz.ntmps145
  go_wp2_with fail
  refine (bits36 u hu w).mono ?_
  rintro e w' ⟨rfl, hb⟩
  go_wp2
  go_ret
  exact ⟨rfl, hb⟩
theorem fmtUint_any (u : Nat) (hu : u < 18446744073709551616) (w : World) : Calls Tryz.prog 118 #[.int .u64 u, .int .i64 36] w fun e w' => e = .returned (.string (n36 u)) ∧ Below w.heap.size w w' := by
  go_enter Tryz.func118, Tryz.ntmps118
  go_wp2_with fail
  refine (fmtU_any u hu w).mono ?_
  rintro e w' ⟨rfl, hb⟩
  go_wp2
  go_ret
  exact ⟨rfl, hb⟩
theorem num36_any (u : Nat) (hu : u < 18446744073709551616) (w : World) : Calls Tryz.prog 83 #[.int .u64 u] w fun e w' => e = .returned (.string (n36 u)) ∧ Below w.heap.size w w' := by
  go_enter Tryz.func83, Tryz.ntmps83
  go_wp2_with fail
  refine (fmtUint_any u hu w).mono ?_
  rintro e w' ⟨rfl, hb⟩
  go_wp2
  go_ret
  exact ⟨rfl, hb⟩
def wholeN (n : Nat) : ByteArray := ⟨#[119, 104, 111, 108, 101, 46]⟩ ++ n36 n
def freshN (n : Nat) : ByteArray := ⟨#[110, 101, 119, 46]⟩ ++ n36 n
theorem d36_len : ∀ (n u : Nat), u < 36 ^ (n + 1) → (d36 u).length ≤ n + 1 := by
  intro n
  induction n with
  | zero => intro u h; rw [d36_small (by simpa using h)]; simp
  | succ n ih =>
    intro u h
    by_cases hu : u < 36
    · rw [d36_small hu]; simp
    · rw [d36_step (by omega), List.length_append]
      have := ih (u / 36) (by rw [Nat.div_lt_iff_lt_mul (by omega)]; rw [Nat.pow_succ] at h; exact h)
      simp only [List.length_cons, List.length_nil]; omega
theorem n36_size {u : Nat} (hu : u < 18446744073709551616) : (n36 u).size ≤ 13 := by
  have := d36_len 12 u (Nat.lt_of_lt_of_le hu (by decide))
  show ((d36 u).map UInt8.ofNat).toArray.size ≤ 13
  simpa using this
theorem wholeName_any (u : Nat) (hu : u < 18446744073709551616) (w : World) : Calls Tryz.prog 71 #[.int .u64 u] w fun e w' => e = .returned (.string (wholeN u)) ∧ Below w.heap.size w w' := by
  go_enter Tryz.func71, Tryz.ntmps71
  go_wp2_with fail
  refine (num36_any u hu w).mono ?_
  rintro e w' ⟨rfl, hb⟩
  have hz := n36_size hu
  go_wp2
  go_ret
  exact ⟨rfl, hb⟩
theorem freshName_any (u : Nat) (hu : u < 18446744073709551616) (w : World) : Calls Tryz.prog 69 #[.int .u64 u] w fun e w' => e = .returned (.string (freshN u)) ∧ Below w.heap.size w w' := by
  go_enter Tryz.func69, Tryz.ntmps69
  go_wp2_with fail
  refine (num36_any u hu w).mono ?_
  rintro e w' ⟨rfl, hb⟩
  have hz := n36_size hu
  go_wp2
  go_ret
  exact ⟨rfl, hb⟩
end Go.Proofs.YtbfhcbihgleddaaGreatDoor
/-
  What the vault reads from a disk: a file that is one seal, a manifest.
-/
namespace Go.Proofs.YtbfhcbihgleddaaGreatDoor
open Go.RowKit

/-- Does a name begin so? -/
def pre (p s : List UInt8) : Bool := s.take p.length == p
theorem extract_nm (s : ByteArray) (k : Nat) : nm (s.extract 0 k) = (nm s).take k := by
  simp [nm, ByteArray.data_extract]
theorem pre_eq (s p : ByteArray) : (decide (p.size ≤ s.size) && ((s.extract 0 p.size).toList == p.toList)) = pre (nm p) (nm s) := by
  rw [ByteArray.toList_eq, ByteArray.toList_eq]
  show (decide (p.size ≤ s.size) && (nm (s.extract 0 p.size) == nm p)) = _
  rw [extract_nm, pre, nm_length]
  by_cases h : p.size ≤ s.size
  · simp [h]
  · have : ((nm s).take p.size == nm p) = false := by
      simp only [beq_eq_false_iff_ne, ne_eq]
      intro e
      have := congrArg List.length e
      rw [List.length_take, nm_length, nm_length] at this
      omega
    rw [this]; simp
set_option maxRecDepth 100000 in
theorem pre_core (s p : ByteArray) (_hs : s.size ≤ maxLen) (_hp : p.size ≤ 1000) (w : World) : Calls Tryz.prog 115 #[.string s, .string p] w fun e w' => e = .returned (.bool (pre (nm p) (nm s))) ∧ w' = w := by
  have he := pre_eq s p
  by_cases h : p.size ≤ s.size
  · rw [decide_eq_true h, Bool.true_and] at he
    rw [← he]
    clear he
    go_enter Tryz.func115, Tryz.ntmps115
    go_wp2
    go_ret
    exact ⟨rfl, rfl⟩
  · rw [decide_eq_false h, Bool.false_and] at he
    rw [← he]
    clear he
    go_enter Tryz.func115, Tryz.ntmps115
    go_wp2
    go_ret
    exact ⟨rfl, rfl⟩
theorem prefix_any (s p : ByteArray) (hs : s.size ≤ maxLen) (hp : p.size ≤ 1000) (w : World) : Calls Tryz.prog 81 #[.string s, .string p] w fun e w' => e = .returned (.bool (pre (nm p) (nm s))) ∧ w' = w := by
  have hc := pre_core s p hs hp w
  go_enter Tryz.func81, Tryz.ntmps81
  go_wp2_with fail
  refine hc.mono ?_
  rintro e w' ⟨rfl, rfl⟩
  go_wp2
  go_ret
  exact ⟨rfl, rfl⟩
def hPart : List UInt8 := [112, 97, 114, 116, 46]
def hWhole : List UInt8 := [119, 104, 111, 108, 101, 46]
def hNew : List UInt8 := [110, 101, 119, 46]
/-- Is it a name that the vault gives? -/
def ownN (s : List UInt8) : Bool := pre hPart s || (pre hWhole s || pre hNew s)
set_option maxRecDepth 100000 in
theorem own_any (s : ByteArray) (hs : s.size ≤ maxLen) (w : World) : Calls Tryz.prog 64 #[.string s] w fun e w' => e = .returned (.bool (ownN (nm s))) ∧ w' = w := by
  have h1 := prefix_any s ⟨#[112, 97, 114, 116, 46]⟩ hs (by decide) w
  have h2 := prefix_any s ⟨#[119, 104, 111, 108, 101, 46]⟩ hs (by decide) w
  have h3 := prefix_any s ⟨#[110, 101, 119, 46]⟩ hs (by decide) w
  have e1 : nm ⟨#[112, 97, 114, 116, 46]⟩ = hPart := rfl
  have e2 : nm ⟨#[119, 104, 111, 108, 101, 46]⟩ = hWhole := rfl
  have e3 : nm ⟨#[110, 101, 119, 46]⟩ = hNew := rfl
  rw [e1] at h1
  rw [e2] at h2
  rw [e3] at h3
  unfold ownN
  clear e1 e2 e3
  generalize pre hPart (nm s) = a at *
  generalize pre hWhole (nm s) = b at *
  generalize pre hNew (nm s) = c at *
  go_enter Tryz.func64, Tryz.ntmps64
  go_wp2_with fail
  refine h1.mono ?_
  rintro e w' ⟨rfl, rfl⟩
  cases a
  · go_wp2_with fail
    refine h2.mono ?_
    rintro e w' ⟨rfl, rfl⟩
    cases b
    · go_wp2_with fail
      refine h3.mono ?_
      rintro e w' ⟨rfl, rfl⟩
      go_wp2
      go_ret
      exact ⟨rfl, rfl⟩
    · go_wp2
      go_ret
      exact ⟨rfl, rfl⟩
  · go_wp2
    go_ret
    exact ⟨rfl, rfl⟩
/-- The name of a chunk. -/
def partN (n i c : Nat) : ByteArray := ⟨#[112, 97, 114, 116, 46]⟩ ++ n36 n ++ ⟨#[46]⟩ ++ n36 i ++ ⟨#[46]⟩ ++ n36 c
theorem size_append (a b : ByteArray) : (a ++ b).size = a.size + b.size := by simp
set_option maxRecDepth 100000 in
theorem partName_any (n i : Nat) (hn : n < 18446744073709551616) (hi : i ≤ 140737488355328) (v : Value) (l : List Nat) (w : World) (h : Seg w v l) (hb : Byts l) (hg : Glob w) :
    Calls Tryz.prog 57 #[.int .u64 n, .int .i64 i, v] w fun e w' => e = .returned (.string (partN n i (crc l))) ∧ Below w.heap.size w w' := by
  have hc : crc l < 4294967296 := crc_lt l hb
  have z1 := n36_size hn
  have z2 := n36_size (u := i) (by omega)
  have z3 := n36_size (u := crc l) (by omega)
  have hi' : IntKind.u64.wrap (i : Int) = (i : Int) := wu64 (by omega) (by omega)
  have s0 : (⟨#[46]⟩ : ByteArray).size = 1 := rfl
  have s1 : (⟨#[112, 97, 114, 116, 46]⟩ ++ n36 n : ByteArray).size ≤ 18 := by rw [size_append]; show 5 + _ ≤ _; omega
  have s2 : (⟨#[112, 97, 114, 116, 46]⟩ ++ n36 n ++ ⟨#[46]⟩ : ByteArray).size ≤ 19 := by rw [size_append]; omega
  have s3 : (⟨#[112, 97, 114, 116, 46]⟩ ++ n36 n ++ ⟨#[46]⟩ ++ n36 i : ByteArray).size ≤ 32 := by rw [size_append]; omega
  have s4 : (⟨#[112, 97, 114, 116, 46]⟩ ++ n36 n ++ ⟨#[46]⟩ ++ n36 i ++ ⟨#[46]⟩ : ByteArray).size ≤ 33 := by rw [size_append]; omega
  have HG := hide hg
  have HS := hide h
  clear h hg
  go_enter Tryz.func57, Tryz.ntmps57
  go_wp2_with fail
  refine (num36_any n hn w).mono ?_
  rintro e w1 ⟨rfl, b1⟩
  have B1 := hide b1
  clear b1
  go_wp2_with fail
  refine (num36_any i (by omega) w1).mono ?_
  rintro e w2 ⟨rfl, b2⟩
  have B2 := hide (B1.out.trans (b2.mono B1.out.size))
  clear b2 B1
  go_wp2_with fail
  refine (Sum_any v l w2 (HS.out.below B2.out) hb (HG.out.below B2.out HG.out.1)).mono ?_
  rintro e w3 ⟨rfl, rfl⟩
  have hcw : IntKind.u64.wrap (crc l : Int) = (crc l : Int) := wu64 (by omega) (by omega)
  go_wp2_with fail
  refine (num36_any (crc l) (by omega) w3).mono ?_
  rintro e w4 ⟨rfl, b4⟩
  have B4 := hide (B2.out.trans (b4.mono B2.out.size))
  clear b4 B2
  go_wp2
  go_ret
  exact ⟨rfl, B4.out⟩
/-- What a file was written with, if it is one seal. -/
def opn1 (l : List Nat) : Option (List Nat) := match rOpen l with | some x => if 8 + x.length = l.length then some x else none | none => none
def rdF (p : Pd) (s : List UInt8) : Option (List Nat) := match (pFind p s).1 with | some f => opn1 f.x | none => none
theorem num_byts {k : Nat} {s : List Nat × Bool} (h : Byts s.1) : Byts (num k s).2.1 := by
  by_cases hk : k ≤ s.1.length
  · rw [num_yes hk]; exact h.drop k
  · rw [num_no hk]; exact h
theorem rOpen_byts {l x : List Nat} (h : Byts l) (hr : rOpen l = some x) : Byts x := by
  unfold rOpen at hr
  split at hr
  · cases hr
    exact (num_byts (num_byts h)).take _
  · cases hr
theorem rdF_byts {p : Pd} {n : Nat} (ho : Ok p n) {s : List UInt8} {l : List Nat} (h : rdF p s = some l) : Byts l ∧ l.length ≤ 1048576 := by
  unfold rdF at h
  cases hf : (pFind p s).1 with
  | none => rw [hf] at h; cases h
  | some f =>
    rw [hf] at h
    have hm := (fGet_mem (pFind_some hf).2.2).1
    dsimp only at h
    unfold opn1 at h
    cases hr : rOpen f.x with
    | none => rw [hr] at h; cases h
    | some x =>
      rw [hr] at h
      dsimp only at h
      split at h
      · cases h
        have := ho.size f hm
        exact ⟨rOpen_byts (ho.byts f hm) hr, by omega⟩
      · cases h
/-- What readFile leaves. -/
def RFPost (w : World) (r : Option (List Nat)) (e : Ending) (w' : World) : Prop :=
  (∃ l v, r = some l ∧ e = .returned (.tuple #[v, .bool true]) ∧ Own w.heap.size w' v l ∧ Below w.heap.size w w') ∨ (r = none ∧ e = .returned (.tuple #[.slice none 0 0, .bool false]) ∧ Below w.heap.size w w')
set_option maxRecDepth 100000 in
theorem readFile_any {w0 w : World} {k b n : Nat} {p : Pd} (h : St w0 w k b n p) (hg : Glob w) (s : ByteArray) (hs : s.size ≤ maxLen) (r : Option (List Nat)) (hr : rdF p (nm s) = r) :
    Calls Tryz.prog 56 #[.pointer (some ⟨k, 0, none⟩), .string s] w (RFPost w r) := by
  obtain ⟨o, er, hp⟩ : ∃ o er, pFind p (nm s) = (o, er) := ⟨_, _, rfl⟩
  unfold rdF at hr
  rw [hp] at hr
  have hc := kRead h s hs o er hp
  have HO : Hid (∀ f, o = some f → Byts f.x ∧ f.x.length ≤ 1048576 ∧ er = 0) := fun f hf => by
    have h1 : (pFind p (nm s)).1 = some f := by rw [hp]; exact hf
    have h2 := pFind_some h1
    have hm := (fGet_mem h2.2.2).1
    rw [hp] at h2
    exact ⟨h.d.ok.byts f hm, h.d.ok.size f hm, h2.1⟩
  have HE : Hid (o = none → er = 23 ∨ er = 20) := fun ho => by
    subst ho
    unfold pFind at hp
    split at hp
    · cases hp; decide
    · split at hp
      · cases hp
      · cases hp; decide
  have HG := hide hg
  clear h hg hp
  go_enter Tryz.func56, Tryz.ntmps56
  go_wp2_with fail
  refine hc.mono ?_
  rintro e w1 ⟨v1, rfl, s1, h1, b1⟩
  cases o with
  | none =>
    have he := HE.out rfl
    have HR := hide (Eq.symm hr)
    obtain ⟨ao, cap, rfl, _, _, _, _⟩ := id s1
    have B1 := hide b1
    clear hc HO HE s1 h1 hr b1
    have hfd : (fData none).length = 0 := rfl
    rw [hfd]
    rcases he with rfl | rfl
    all_goals
      go_wp2
      go_ret2
      exact .inr ⟨HR.out, rfl, B1.out⟩
  | some f =>
    obtain ⟨hby, hlen, rfl⟩ := HO.out f rfl
    have ho := Open_any v1 f.x w1 s1 hby (HG.out.below b1 HG.out.1)
    have hr' : opn1 f.x = r := hr
    obtain ⟨ao, cap, rfl, _, _, _, _⟩ := id s1
    have hfd : (fData (some f)).length = f.x.length := rfl
    rw [hfd]
    have B1 := hide b1
    clear hc HO HE s1 h1 hr b1
    generalize hro : rOpen f.x = ro at *
    unfold opn1 at hr'
    rw [hro] at hr'
    go_wp2_with fail
    refine ho.mono ?_
    intro e w2 hq
    rcases hq with ⟨l, v', rfl, rfl, ow, b2⟩ | ⟨rfl, rfl, b2⟩
    · have B2 := hide (B1.out.trans (b2.mono B1.out.size))
      have OW := hide (ow.mono B1.out.size)
      dsimp only at hr'
      by_cases hl : 8 + l.length = f.x.length
      · rw [if_pos hl] at hr'
        have hl' : (8 : Int) + (l.length : Int) = (f.x.length : Int) := by omega
        clear ow b2 ho hro
        go_wp2
        go_ret2
        exact .inl ⟨l, _, hr'.symm, rfl, OW.out, B2.out⟩
      · rw [if_neg hl] at hr'
        have hl' : ¬ (8 : Int) + (l.length : Int) = (f.x.length : Int) := by omega
        clear ow b2 ho hro
        go_wp2
        go_ret2
        exact .inr ⟨hr'.symm, rfl, B2.out⟩
    · have B2 := hide (B1.out.trans (b2.mono B1.out.size))
      clear b2 ho hro
      go_wp2
      go_ret2
      exact .inr ⟨hr'.symm, rfl, B2.out⟩
end Go.Proofs.YtbfhcbihgleddaaGreatDoor
/-
  The vault's readManifest.
-/
namespace Go.Proofs.YtbfhcbihgleddaaGreatDoor
open Go.RowKit

/-- The manifest that lies under a name, if it is one, and the name is its own. -/
def rdM (p : Pd) (s : List UInt8) : Option Man :=
  if pre hWhole s then
    match rdF p s with
    | some l => if done (rMan (l, false)).2 = true ∧ (rMan (l, false)).1.n ≠ 0 ∧ s = nm (wholeN (rMan (l, false)).1.n) then some (rMan (l, false)).1 else none
    | none => none
  else none
def RMPost (w : World) (r : Option Man) (e : Ending) (w' : World) : Prop :=
  (∃ m v, r = some m ∧ e = .returned (.tuple #[.agg #[.int .u64 m.n, .int .u64 m.ep, v], .bool true]) ∧ OwnS w.heap.size w' v m.ss ∧ Below w.heap.size w w') ∨ (r = none ∧ e = .returned (.tuple #[.agg #[.int .u64 0, .int .u64 0, .slice none 0 0], .bool false]) ∧ Below w.heap.size w w')
theorem man_lt {l : List Nat} (hb : Byts l) : (rMan (l, false)).1.n < 18446744073709551616 ∧ (rMan (l, false)).1.ep < 18446744073709551616 := by
  have h1 := num_lt (k := 8) (s := (l, false)) hb
  have h2 := num_lt (k := 8) (s := (num 8 (l, false)).2) (num_byts hb)
  exact ⟨h1, h2⟩
theorem beq_string (s t : ByteArray) : (s.toList == t.toList) = decide (s = t) := by
  rw [ByteArray.toList_eq, ByteArray.toList_eq]
  by_cases h : s = t
  · subst h; simp
  · rw [decide_eq_false h]
    simp only [beq_eq_false_iff_ne, ne_eq]
    intro e; exact h (nm_inj e)

set_option maxHeartbeats 1000000 in
set_option maxRecDepth 100000 in
theorem readMan_any {w0 w : World} {k b n : Nat} {p : Pd} (h : St w0 w k b n p) (hg : Glob w) (s : ByteArray) (hs : s.size ≤ maxLen) (r : Option Man) (hr : rdM p (nm s) = r) :
    Calls Tryz.prog 55 #[.pointer (some ⟨k, 0, none⟩), .string s] w (RMPost w r) := by
  have hp := prefix_any s ⟨#[119, 104, 111, 108, 101, 46]⟩ hs (by decide)
  have e2 : nm ⟨#[119, 104, 111, 108, 101, 46]⟩ = hWhole := rfl
  rw [e2] at hp
  have bA := BoxT.new 110 w #[.int .u64 0, .int .u64 0, .slice none 0 0]
  have hb0 : Below w.heap.size w (w.alloc (.cells #[.int .u64 0, .int .u64 0, .slice none 0 0] 110)) := (Below.refl _ _).alloc (Nat.le_refl _) _
  have HS := hide (h.below hb0)
  have HG := hide (hg.below hb0 hg.1)
  have HOK := hide h.d.ok
  clear h hg e2
  unfold rdM at hr
  generalize hpw : pre hWhole (nm s) = pw at *
  obtain ⟨d0, d1, d2⟩ := bA.cells3
  have fa := bA.free
  go_enter Tryz.func55, Tryz.ntmps55
  go_wp2_with fail
  refine (hp _).mono ?_
  rintro e w1 ⟨rfl, rfl⟩
  cases pw
  · have HR := hide (Eq.symm hr)
    clear hr hp
    go_wp2
    exact bodyPost_ret (v := .tuple #[.agg #[.int .u64 0, .int .u64 0, .slice none 0 0], .bool false]) (by simp [results, Tryz.results55, go_sem, d0, d1, d2]) rfl (.inr ⟨HR.out, rfl, hb0⟩)
  · generalize hrf : rdF p (nm s) = rf at *
    have HRF := hide hrf
    have hf := readFile_any HS.out HG.out s hs rf hrf
    rw [if_pos rfl] at hr
    have HR := hide hr
    have HB0 := hide hb0
    clear hr hp hrf hb0
    go_wp2_with fail
    refine hf.mono ?_
    intro e w2 hq
    rcases hq with ⟨l, v2, rfl, rfl, ow, b2⟩ | ⟨rfl, rfl, b2⟩
    · have hl := rdF_byts HOK.out HRF.out
      obtain ⟨ao, cap, hv2, _⟩ := ow.seg (by omega)
      rw [hv2] at ow ⊢
      have hom := OpenManifest_any _ l w2 (ow.seg (by omega)) hl.1
      have hlt := man_lt hl.1
      have HR1 : Hid ((if done (rMan (l, false)).2 = true ∧ (rMan (l, false)).1.n ≠ 0 ∧ nm s = nm (wholeN (rMan (l, false)).1.n) then some (rMan (l, false)).1 else none) = r) := HR
      have B2 := hide (HB0.out.trans (b2.mono (by simp)))
      have bA2 := bA.kept (base := 0) (Kept.of_below b2) (by decide)
      clear HR HRF hf ow b2 bA d0 d1 d2 fa HB0
      generalize done (rMan (l, false)).2 = ok at *
      generalize (rMan (l, false)).1 = m at *
      go_wp2_with fail
      refine hom.mono ?_
      intro e w3 hq
      unfold OMPost at hq
      obtain ⟨v3, rfl, ow3, b3⟩ := hq
      have B3 := hide (B2.out.trans (b3.mono B2.out.size))
      have bA3 := bA2.kept (base := 0) (Kept.of_below b3) (by decide)
      have OW3 := hide (ow3.mono B2.out.size)
      have hw3 : w.heap.size < w3.heap.size := Nat.lt_of_lt_of_le bA2.lt b3.size
      obtain ⟨ao3, cap3, hv3⟩ := ow3.shape
      rw [hv3] at OW3 ⊢
      clear hom ow3 b3 bA2 B2 hv3
      cases ok
      · have HR2 := hide (Eq.symm HR1.out)
        rw [if_neg (by simp)] at HR2
        clear HR1
        obtain ⟨c0, c1, c2⟩ := bA3.cells3
        have fa4 := bA3.free
        go_wp2
        obtain ⟨hW, hx, hown⟩ := fin3 bA3 (.int .u64 0) (.int .u64 0) (.slice none 0 0) _ rfl
        obtain ⟨x0, x1, x2⟩ := (hx.alloc (.cells #[.int .u64 0, .int .u64 0, .slice ao3 0 cap3] 110)).cells3
        exact bodyPost_ret (v := .tuple #[.agg #[.int .u64 0, .int .u64 0, .slice none 0 0], .bool false]) (by simp [results, Tryz.results55, go_sem, x0, x1, x2]) rfl (.inr ⟨HR2.out, rfl, (B3.out.trans hW).alloc (Nat.le_of_lt (Nat.lt_of_lt_of_le hw3 hW.size)) _⟩)
      · obtain ⟨mn, mep, mss⟩ := m
        have hss : (if true = true then mss else []) = mss := rfl
        obtain ⟨c0, c1, c2⟩ := bA3.cells3
        have fa4 := bA3.free
        by_cases hn0 : mn = 0
        · subst hn0
          have HR2 := hide (Eq.symm HR1.out)
          rw [if_neg (by simp)] at HR2
          clear HR1
          go_wp2
          obtain ⟨hW, hx, hown⟩ := fin3 bA3 (.int .u64 0) (.int .u64 0) (.slice none 0 0) _ rfl
          obtain ⟨x0, x1, x2⟩ := (hx.alloc (.cells #[.int .u64 0, .int .u64 mep, .slice ao3 mss.length cap3] 110)).cells3
          exact bodyPost_ret (v := .tuple #[.agg #[.int .u64 0, .int .u64 0, .slice none 0 0], .bool false]) (by simp [results, Tryz.results55, go_sem, x0, x1, x2]) rfl (.inr ⟨HR2.out, rfl, (B3.out.trans hW).alloc (Nat.le_of_lt (Nat.lt_of_lt_of_le hw3 hW.size)) _⟩)
        · have hn1 : ¬ ((mn : Int) = 0) := by omega
          have bM := BoxT.new 110 w3 #[.int .u64 mn, .int .u64 mep, .slice ao3 mss.length cap3]
          have bA4 := bA3.alloc (.cells #[.int .u64 mn, .int .u64 mep, .slice ao3 mss.length cap3] 110)
          have OW4 := hide (OW3.out.alloc (.cells #[.int .u64 mn, .int .u64 mep, .slice ao3 mss.length cap3] 110))
          have B4 := hide (B3.out.alloc (Nat.le_of_lt hw3) (.cells #[.int .u64 mn, .int .u64 mep, .slice ao3 mss.length cap3] 110))
          have hwn := wholeName_any mn hlt.1
          clear OW3 B3 bA3
          go_wp2_with fail
          refine (hwn _).mono ?_
          rintro e w5 ⟨rfl, b5⟩
          have bM5 := bM.kept (base := 0) (Kept.of_below b5) (by decide)
          have bA5 := bA4.kept (base := 0) (Kept.of_below b5) (by decide)
          have OW5 := hide (OW4.out.below b5)
          have B5 := hide (B4.out.trans (b5.mono B4.out.size))
          have hbs := beq_string s (wholeN mn)
          obtain ⟨g0, g1, g2⟩ := bA5.cells3
          obtain ⟨m0, m1, m2⟩ := bM5.cells3
          have fa5 := bA5.free
          clear hwn b5 bM bA4 OW4 B4 c0 c1 c2 fa4
          by_cases he : s = wholeN mn
          · have HR2 := hide (Eq.symm HR1.out)
            rw [if_pos ⟨by simp, hn0, congrArg nm he⟩] at HR2
            rw [decide_eq_true he] at hbs
            clear HR1 he
            go_wp2
            obtain ⟨hW, hx, hown⟩ := fin3 bA5 (.int .u64 mn) (.int .u64 mep) (.slice ao3 mss.length cap3) _ rfl
            obtain ⟨x0, x1, x2⟩ := hx.cells3
            exact bodyPost_ret (v := .tuple #[.agg #[.int .u64 mn, .int .u64 mep, .slice ao3 mss.length cap3], .bool true]) (by simp [results, Tryz.results55, go_sem, x0, x1, x2]) rfl (.inl ⟨_, _, HR2.out, rfl, hown _ _ _ OW5.out, B5.out.trans hW⟩)
          · have HR2 := hide (Eq.symm HR1.out)
            rw [if_neg (fun hh => he (nm_inj hh.2.2))] at HR2
            rw [decide_eq_false he] at hbs
            clear HR1 he
            go_wp2
            obtain ⟨hW, hx, hown⟩ := fin3 bA5 (.int .u64 0) (.int .u64 0) (.slice none 0 0) _ rfl
            obtain ⟨x0, x1, x2⟩ := hx.cells3
            exact bodyPost_ret (v := .tuple #[.agg #[.int .u64 0, .int .u64 0, .slice none 0 0], .bool false]) (by simp [results, Tryz.results55, go_sem, x0, x1, x2]) rfl (.inr ⟨HR2.out, rfl, B5.out.trans hW⟩)
    · have bA2 := bA.kept (base := 0) (Kept.of_below b2) (by decide)
      obtain ⟨c0, c1, c2⟩ := bA2.cells3
      have fa2 := bA2.free
      have HR1 := hide (Eq.symm HR.out)
      have B2 := hide (HB0.out.trans (b2.mono (by simp)))
      clear HR hf b2 d0 d1 d2 fa
      go_wp2
      obtain ⟨hW, hx, hown⟩ := fin3 bA2 (.int .u64 0) (.int .u64 0) (.slice none 0 0) _ rfl
      obtain ⟨x0, x1, x2⟩ := hx.cells3
      exact bodyPost_ret (v := .tuple #[.agg #[.int .u64 0, .int .u64 0, .slice none 0 0], .bool false]) (by simp [results, Tryz.results55, go_sem, x0, x1, x2]) rfl (.inr ⟨HR1.out, rfl, B2.out.trans hW⟩)
end Go.Proofs.YtbfhcbihgleddaaGreatDoor
