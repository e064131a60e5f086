/-
  What the statement DiskKeeps leans on: no walk.
-/
import Derived.Test.YtnokibjhkdaamaaDCuts
import Derived.Test.YtnokibjhkdaamaaDQuiet
import Derived.Deep.LoopGhost
namespace Go.Proofs.Ytnokibjhkdaamaa
open Go.RowKit Go.Maps

/-- The disk while the script's writes are done. -/
structure KeepI (w0 wr : World) (k b n : Nat) (xs : List Stp) (i : Nat) (p : Pd) : Prop where
  st : St w0 wr k b n p
  ni : n ≤ i
  room : p.room = 1048576
  left : p.left = -1
  sum : fSum p.l ≤ tot (xs.take i)
  from_ : ∀ f ∈ p.l, ∃ t ∈ xs, t.wh < 3 ∧ nm t.nm = f.n ∧ t.bl = f.x
theorem KeepI.skip {w0 wr : World} {k b n : Nat} {xs : List Stp} {i : Nat} {p : Pd} {t : Stp} (h : KeepI w0 wr k b n xs i p) (ht : xs[i]? = some t) : KeepI w0 wr k b n xs (i + 1) p :=
  ⟨h.st, Nat.le_succ_of_le h.ni, h.room, h.left, by have := tot_succ ht; have := h.sum; omega, h.from_⟩
theorem keep_write {p : Pd} (hr : p.room = 1048576) (hl : p.left = -1) (s : List UInt8) (x : List Nat) (hx : fSum p.l + x.length ≤ 1048576) :
    pWrite p s x = if okName s then (⟨fPut ⟨s, x, 0⟩ p.l, 1048576, -1⟩, 0) else (p, 21) := by
  unfold pWrite
  rw [if_neg (by omega)]
  by_cases h1 : okName s = false
  · rw [if_pos h1, h1]; rfl
  · have h1' : okName s = true := by simpa using h1
    rw [if_neg h1, h1', if_neg (by rw [hr]; omega)]
    unfold Pd.done
    rw [hl, hr]
    rfl
theorem KeepI.write {w0 wr wr' : World} {k b n : Nat} {xs : List Stp} {i : Nat} {p p' : Pd} {t : Stp} {er : Int} (h : KeepI w0 wr k b n xs i p) (ht : xs[i]? = some t) (hw : t.wh < 3) (htot : tot xs ≤ 50000) (hp : pWrite p (nm t.nm) t.bl = (p', er)) (hs : St w0 wr' k b (n + 1) p') : KeepI w0 wr' k b (n + 1) xs (i + 1) p' := by
  have h1 := tot_succ ht
  have h2 := h.sum
  have h3 := tot_take xs (i + 1)
  have h4 : t.bl.length ≤ t.wt := by unfold Stp.wt; omega
  rw [keep_write h.room h.left (nm t.nm) t.bl (by omega)] at hp
  have hni := h.ni
  by_cases ho : okName (nm t.nm) = true
  · rw [ho, if_pos rfl] at hp
    cases hp
    refine ⟨hs, by omega, rfl, rfl, ?_, fun f hf => ?_⟩
    · have := fSum_put h.st.d.ok.rise ⟨nm t.nm, t.bl, 0⟩
      dsimp only at this ⊢
      omega
    · rcases mem_fPut.1 hf with rfl | ⟨hf, _⟩
      · exact ⟨t, List.mem_of_getElem? ht, hw, rfl, rfl⟩
      · exact h.from_ f hf
  · rw [if_neg ho] at hp
    cases hp
    exact ⟨hs, by omega, h.room, h.left, by omega, h.from_⟩

/-- What is there behind the crash. -/
structure KeptP (p : Pd) (xs : List Stp) (at_ : List UInt8) (x : List Nat) : Prop where
  left : p.left = -1
  it : ∃ s, fGet at_ p.l = some ⟨at_, x, s⟩
  from_ : ∀ f ∈ p.l, f.n = at_ ∨ ∃ t ∈ xs, t.wh < 3 ∧ nm t.nm = f.n ∧ f.x.length ≤ t.bl.length ∧ f.x = t.bl.take f.x.length
theorem torn_all (f : Fi) (c : Int) (h : f.s = f.x.length) : f.torn c = f := by
  obtain ⟨n, x, s⟩ := f
  dsimp only at h
  subst h
  unfold Fi.torn Fi.left
  have : x.length + (min (max c 0) ((x.length : Int) - (x.length : Int))).toNat = x.length := by omega
  rw [this, List.take_length]
theorem crash_mem {keep : List Int} {l : List Fi} {g : Fi} (h : g ∈ crashL keep l) : ∃ f ∈ l, ∃ c, g = f.torn c := by
  obtain ⟨j, hj, rfl⟩ := List.getElem_of_mem h
  have := crashL_get keep l j
  rw [List.getElem?_eq_getElem hj] at this
  obtain ⟨f, hf, e⟩ := Option.map_eq_some_iff.1 this.symm
  exact ⟨f, List.mem_of_getElem? hf, _, e.symm⟩
theorem crash_get {keep : List Int} {l : List Fi} (hr : Rise l) {s : List UInt8} {f : Fi} (h : fGet s l = some f) : ∃ c, fGet s (crashL keep l) = some (f.torn c) := by
  obtain ⟨h1, h2⟩ := fGet_mem h
  obtain ⟨j, hj, hf⟩ := List.getElem_of_mem h1
  have hg := crashL_get keep l j
  rw [List.getElem?_eq_getElem hj, hf] at hg
  have hrc : Rise (crashL keep l) := by
    have := half_rise keep hr l.length
    rw [half_all] at this
    exact this
  have := get_at hrc hg
  exact ⟨_, by rw [← h2]; exact this⟩
/-- What was synced outlasts the crash; all else is a beginning of what was written. -/
theorem kept_crash {p : Pd} {n : Nat} {xs : List Stp} {at_ : List UInt8} {x : List Nat} (hok : Ok p n) (hit : fGet at_ p.l = some ⟨at_, x, x.length⟩) (hfrom : ∀ f ∈ p.l, f.n = at_ ∨ ∃ t ∈ xs, t.wh < 3 ∧ nm t.nm = f.n ∧ t.bl = f.x) (keep : List Int) : KeptP (pCrash p keep) xs at_ x := by
  refine ⟨rfl, ?_, fun g hg => ?_⟩
  · obtain ⟨c, hc⟩ := crash_get (keep := keep) hok.rise hit
    rw [torn_all _ _ rfl] at hc
    exact ⟨_, hc⟩
  · obtain ⟨f, hf, c, rfl⟩ := crash_mem hg
    rcases hfrom f hf with h | ⟨t, ht, h1, h2, h3⟩
    · exact .inl h
    · refine .inr ⟨t, ht, h1, h2, ?_⟩
      have hl := Fi.torn_len f c (hok.sync f hf)
      have hle := f.left_le c (hok.sync f hf)
      rw [hl, h3]
      exact ⟨hle, rfl⟩
theorem KeepI.named {w0 wr : World} {k b n : Nat} {xs : List Stp} {i : Nat} {p : Pd} (h : KeepI w0 wr k b n xs i p) (htot : tot xs ≤ 50000) (s : List UInt8) (hs : okName s = true) (x : List Nat) (hx : x.length ≤ 2000) :
    pWrite p s x = (⟨fPut ⟨s, x, 0⟩ p.l, 1048576, -1⟩, 0) ∧ pSync ⟨fPut ⟨s, x, 0⟩ p.l, 1048576, -1⟩ s = (⟨fPut ⟨s, x, x.length⟩ (fPut ⟨s, x, 0⟩ p.l), 1048576, -1⟩, 0) := by
  have h1 := h.sum
  have h2 := tot_take xs i
  constructor
  · rw [keep_write h.room h.left s x (by omega), hs]; rfl
  · unfold pSync pFind
    rw [if_neg (by show ¬ (-1 : Int) = 0; decide), fGet_put, if_pos rfl]
    rfl
theorem rename_named {l : List Fi} {s t : List UInt8} {x : List Nat} (h : fGet s l = some ⟨s, x, x.length⟩) (ht : okName t = true) : pRename ⟨l, 1048576, -1⟩ s t = (⟨fPut ⟨t, x, x.length⟩ (fDel s l), 1048576, -1⟩, 0) := by
  unfold pRename pFind
  rw [if_neg (by show ¬ (-1 : Int) = 0; decide)]
  dsimp only
  rw [h]
  dsimp only
  rw [if_neg (by rw [ht]; decide)]
  rfl
theorem from_put {p : List Fi} {xs : List Stp} {s : List UInt8} {x : List Nat} {m : Nat} (h : ∀ f ∈ p, f.n = s ∨ ∃ t ∈ xs, t.wh < 3 ∧ nm t.nm = f.n ∧ t.bl = f.x) : ∀ f ∈ fPut ⟨s, x, m⟩ p, f.n = s ∨ ∃ t ∈ xs, t.wh < 3 ∧ nm t.nm = f.n ∧ t.bl = f.x := by
  intro f hf
  rcases mem_fPut.1 hf with rfl | ⟨hf, _⟩
  · exact .inl rfl
  · exact h f hf
/-- Is the step one that wrote such bytes under such a name? -/
def cnd (s : List UInt8) (y : List Nat) (t : Stp) : Bool := decide (t.wh < 3 ∧ nm t.nm = s ∧ y.length ≤ t.bl.length ∧ y = t.bl.take y.length)
theorem any_succ {xs : List Stp} {i : Nat} {t : Stp} (h : xs[i]? = some t) (f : Stp → Bool) : (xs.take (i + 1)).any f = ((xs.take i).any f || f t) := by
  obtain ⟨hi, rfl⟩ := List.getElem?_eq_some_iff.1 h
  rw [List.take_succ_eq_append_getElem hi, List.any_append]
  simp
end Go.Proofs.Ytnokibjhkdaamaa
