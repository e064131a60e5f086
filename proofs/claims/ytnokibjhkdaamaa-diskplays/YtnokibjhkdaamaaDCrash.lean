/-
  Walks over package disk: Crash.
-/
import Derived.Test.YtnokibjhkdaamaaDLevel
namespace Go.Proofs.Ytnokibjhkdaamaa
open Go.RowKit Go.Maps

/-- How many bytes a crash leaves of a file. -/
def Fi.left (f : Fi) (kept : Int) : Nat := f.s + (min (max kept 0) ((f.x.length : Int) - (f.s : Int))).toNat
/-- What a crash leaves of a file. -/
def Fi.torn (f : Fi) (kept : Int) : Fi := ⟨f.n, f.x.take (f.left kept), f.left kept⟩
def crashL (keep : List Int) (l : List Fi) : List Fi := l.mapIdx fun i f => f.torn (keep.getD i 0)
def pCrash (p : Pd) (keep : List Int) : Pd := ⟨crashL keep p.l, p.room, -1⟩
theorem crashL_length (keep : List Int) (l : List Fi) : (crashL keep l).length = l.length := by simp [crashL]
theorem crashL_get (keep : List Int) (l : List Fi) (i : Nat) : (crashL keep l)[i]? = l[i]?.map fun f => f.torn (keep.getD i 0) := by simp [crashL]
theorem Fi.left_le (f : Fi) (kept : Int) (h : f.s ≤ f.x.length) : f.left kept ≤ f.x.length := by unfold Fi.left; omega
theorem Fi.torn_n (f : Fi) (kept : Int) : (f.torn kept).n = f.n := rfl
theorem Fi.torn_len (f : Fi) (kept : Int) (h : f.s ≤ f.x.length) : (f.torn kept).x.length = f.left kept := by
  show (f.x.take (f.left kept)).length = _
  rw [List.length_take]
  have := f.left_le kept h
  omega
/-- The files when i of them have been gone over. -/
def half (keep : List Int) (l : List Fi) (i : Nat) : List Fi := (crashL keep l).take i ++ l.drop i
theorem half_zero (keep : List Int) (l : List Fi) : half keep l 0 = l := by simp [half]
theorem half_all (keep : List Int) (l : List Fi) : half keep l l.length = crashL keep l := by
  unfold half
  rw [List.drop_length, List.append_nil, ← crashL_length keep l, List.take_length]
theorem half_get (keep : List Int) (l : List Fi) (i j : Nat) : (half keep l i)[j]? = if j < i then (crashL keep l)[j]? else l[j]? := by
  unfold half
  by_cases hi : i ≤ l.length
  · rw [List.getElem?_append]
    have hl : ((crashL keep l).take i).length = i := by rw [List.length_take, crashL_length]; omega
    rw [hl]
    by_cases h : j < i
    · rw [if_pos h, if_pos h, List.getElem?_take, if_pos h]
    · rw [if_neg h, if_neg h, List.getElem?_drop]
      congr 1; omega
  · rw [List.drop_eq_nil_of_le (by omega), List.append_nil, List.take_of_length_le (by rw [crashL_length]; omega)]
    by_cases h : j < i
    · rw [if_pos h]
    · rw [if_neg h, List.getElem?_eq_none (by rw [crashL_length]; omega), List.getElem?_eq_none (by omega)]
theorem half_names (keep : List Int) (l : List Fi) (i : Nat) : (half keep l i).map Fi.n = l.map Fi.n := by
  apply List.ext_getElem?
  intro j
  rw [List.getElem?_map, List.getElem?_map, half_get]
  split
  · rw [crashL_get]
    cases l[j]? <;> rfl
  · rfl
theorem rise_of_names {l m : List Fi} (h : Rise l) (e : m.map Fi.n = l.map Fi.n) : Rise m := by
  have h1 : (l.map Fi.n).Pairwise fun a b => bytesBefore a b = true := List.pairwise_map.2 h
  rw [← e] at h1
  exact List.pairwise_map.1 h1
theorem half_rise (keep : List Int) {l : List Fi} (h : Rise l) (i : Nat) : Rise (half keep l i) := rise_of_names h (half_names keep l i)
theorem ext_get {l m : List Fi} (hl : Rise l) (hm : Rise m) (h : ∀ s, fGet s l = fGet s m) : l = m := by
  have key : ∀ f, f ∈ l ↔ f ∈ m := by
    intro f
    constructor
    · intro hf
      have := fGet_of_mem hl hf
      rw [h] at this
      exact (fGet_mem this).1
    · intro hf
      have := fGet_of_mem hm hf
      rw [← h] at this
      exact (fGet_mem this).1
  have nd : ∀ {l : List Fi}, Rise l → l.Nodup := by
    intro l hl
    refine List.Pairwise.imp ?_ hl
    intro a b hab e
    rw [e, WideAt.bytes_irrefl] at hab
    cases hab
  have hp : l.Perm m := (List.perm_ext_iff_of_nodup (nd hl) (nd hm)).2 key
  refine List.Perm.eq_of_pairwise (le := fun a b : Fi => bytesBefore a.n b.n = true) (fun a b _ _ h1 h2 => ?_) hl hm hp
  have := WideShapes.bytes_trans _ _ _ h1 h2
  rw [WideAt.bytes_irrefl] at this
  cases this
theorem get_at {l : List Fi} (h : Rise l) {i : Nat} {f : Fi} (hf : l[i]? = some f) : fGet f.n l = some f := fGet_of_mem h (List.mem_of_getElem? hf)
theorem names_at {l : List Fi} (h : Rise l) {i j : Nat} {f g : Fi} (hf : l[i]? = some f) (hg : l[j]? = some g) (e : f.n = g.n) : i = j := by
  obtain ⟨hi, rfl⟩ := List.getElem?_eq_some_iff.1 hf
  obtain ⟨hj, rfl⟩ := List.getElem?_eq_some_iff.1 hg
  have hp := List.pairwise_iff_getElem.1 h
  rcases Nat.lt_trichotomy i j with h1 | h1 | h1
  · have := hp i j hi hj h1
    rw [e, WideAt.bytes_irrefl] at this; cases this
  · exact h1
  · have := hp j i hj hi h1
    rw [e, WideAt.bytes_irrefl] at this; cases this
theorem half_put (keep : List Int) {l : List Fi} (h : Rise l) {i : Nat} {f : Fi} (hf : l[i]? = some f) : fPut (f.torn (keep.getD i 0)) (half keep l i) = half keep l (i + 1) := by
  have h1 := half_rise keep h i
  have h2 := half_rise keep h (i + 1)
  have hnext : (half keep l (i + 1))[i]? = some (f.torn (keep.getD i 0)) := by
    rw [half_get, if_pos (Nat.lt_succ_self i), crashL_get, hf]; rfl
  refine ext_get (h1.put _) h2 fun s => ?_
  rw [fGet_put]
  by_cases e : (f.torn (keep.getD i 0)).n = s
  · rw [if_pos e]
    have := get_at h2 hnext
    rw [e] at this
    exact this.symm
  · rw [if_neg e]
    have e' : f.n ≠ s := e
    have key : ∀ a b : Nat, a = i ∧ b = i + 1 ∨ a = i + 1 ∧ b = i → ∀ g, fGet s (half keep l a) = some g → fGet s (half keep l b) = some g := by
      intro a b hab g hg
      obtain ⟨g1, g2⟩ := fGet_mem hg
      obtain ⟨j, hj, hgj⟩ := List.getElem_of_mem g1
      have hgj' : (half keep l a)[j]? = some g := by rw [List.getElem?_eq_getElem hj, hgj]
      have hji : j ≠ i := by
        rintro rfl
        have hn : (half keep l a)[j]?.map Fi.n = l[j]?.map Fi.n := by
          have := congrArg (fun z : List (List UInt8) => z[j]?) (half_names keep l a)
          simpa using this
        rw [hgj', hf] at hn
        simp at hn
        rw [g2] at hn
        exact e' hn.symm
      have hb : (half keep l b)[j]? = some g := by
        rw [half_get] at hgj' ⊢
        rcases hab with ⟨rfl, rfl⟩ | ⟨rfl, rfl⟩
        · by_cases hlt : j < a
          · rw [if_pos hlt] at hgj'; rw [if_pos (by omega)]; exact hgj'
          · rw [if_neg hlt] at hgj'; rw [if_neg (by omega)]; exact hgj'
        · by_cases hlt : j < b
          · rw [if_pos (by omega)] at hgj'; rw [if_pos hlt]; exact hgj'
          · rw [if_neg (by omega)] at hgj'; rw [if_neg hlt]; exact hgj'
      have := get_at (half_rise keep h b) hb
      rw [g2] at this
      exact this
    cases ha : fGet s (half keep l i) with
    | some g => exact (key i (i + 1) (.inl ⟨rfl, rfl⟩) g ha).symm
    | none =>
      cases hb : fGet s (half keep l (i + 1)) with
      | none => rfl
      | some g => have := key (i + 1) i (.inr ⟨rfl, rfl⟩) g hb; rw [ha] at this; cases this
theorem sum_next (keep : List Int) {l : List Fi} {i : Nat} {f : Fi} (hf : l[i]? = some f) (hs : f.s ≤ f.x.length) : fSum ((crashL keep l).take (i + 1)) = fSum ((crashL keep l).take i) + f.left (keep.getD i 0) := by
  have hi : i < (crashL keep l).length := by rw [crashL_length]; exact (List.getElem?_eq_some_iff.1 hf).1
  rw [List.take_succ_eq_append_getElem hi]
  unfold fSum
  rw [List.map_append, List.sum_append]
  have : (crashL keep l)[i] = f.torn (keep.getD i 0) := by
    have := crashL_get keep l i
    rw [List.getElem?_eq_getElem hi, hf] at this
    simpa using this
  simp [this, Fi.torn_len f _ hs]
theorem Ok.crash {p : Pd} {n : Nat} (h : Ok p n) (keep : List Int) : Ok (pCrash p keep) n := by
  have key : ∀ g ∈ crashL keep p.l, ∃ f ∈ p.l, ∃ c, g = f.torn c := by
    intro g hg
    obtain ⟨j, hj, rfl⟩ := List.getElem_of_mem hg
    have := crashL_get keep p.l j
    rw [List.getElem?_eq_getElem hj] at this
    obtain ⟨f, hf, e⟩ := Option.map_eq_some_iff.1 this.symm
    exact ⟨f, List.mem_of_getElem? hf, _, e.symm⟩
  refine ⟨rise_of_names h.rise ?_, ?_, ?_, ?_, ?_, ?_, h.many⟩
  · have := half_names keep p.l p.l.length
    rw [half_all] at this
    exact this
  · intro g hg; obtain ⟨f, hf, c, rfl⟩ := key g hg; exact h.name f hf
  · intro g hg; obtain ⟨f, hf, c, rfl⟩ := key g hg; rw [Fi.torn_len f c (h.sync f hf)]; exact Nat.le_trans (f.left_le c (h.sync f hf)) (h.size f hf)
  · intro g hg; obtain ⟨f, hf, c, rfl⟩ := key g hg; rw [Fi.torn_len f c (h.sync f hf)]; exact Nat.le_refl _
  · intro g hg; obtain ⟨f, hf, c, rfl⟩ := key g hg; exact (h.byts f hf).take _
  · show (crashL keep p.l).length ≤ n
    rw [crashL_length]; exact h.len
theorem strOf_take (x : List Nat) (n : Nat) : (strOf x).extract 0 n = strOf (x.take n) := by
  apply ByteArray.ext
  rw [ByteArray.data_extract]
  unfold strOf
  simp [List.map_take]
theorem tornN_left (f : Fi) (kept : Int) (h : f.s ≤ f.x.length) : tornN (strOf f.x) f.s kept = (f.left kept : Nat) := by
  unfold tornN Fi.left
  rw [strOf_size]
  omega
/-- A slice of numbers. -/
def ISeg (w : World) (v : Value) (l : List Int) : Prop := LSeg 1 (fun x : Int => [Value.int .i64 x]) w.heap.size w v l
end Go.Proofs.Ytnokibjhkdaamaa
