/-
  Channels as queues: what a Try lies as.
-/
import Derived.Test.YtaoejpgjdoikiaaRBase
namespace Go.Proofs.Ytaoejpgjdoikiaa
open Go.RowKit Go.Conc

theorem BoxT.cells1 {t : TypeId} {w : World} {k : Nat} {c0 : Value} (h : BoxT t w k #[c0]) : w.cell? ⟨k, 0, none⟩ = some c0 := by
  unfold BoxT at h
  simp [World.cell?, h]
def ptrs (gs : List Nat) : Array Value := (gs.map fun g => Value.pointer (some ⟨g, 0, none⟩)).toArray
theorem ptrs_size (gs : List Nat) : (ptrs gs).size = gs.length := by simp [ptrs]
theorem ptrs_push (gs : List Nat) (g : Nat) : (ptrs gs).push (.pointer (some ⟨g, 0, none⟩)) = ptrs (gs ++ [g]) := by simp [ptrs]
theorem ptrs_tail (g : Nat) (gs : List Nat) : (ptrs (g :: gs)).extract 1 (ptrs (g :: gs)).size = ptrs gs := by
  have h : (gs.map fun g => Value.pointer (some ⟨g, 0, none⟩)).take gs.length = gs.map fun g => Value.pointer (some ⟨g, 0, none⟩) := List.take_of_length_le (by simp)
  simp [ptrs, h]
theorem ptrs_head (g : Nat) (gs : List Nat) : (ptrs (g :: gs)).getD 0 undef = .pointer (some ⟨g, 0, none⟩) := by simp [ptrs]
/-- A Try in box k, its channel is block c; it has the things q, each in a box of its own (gs); its most is mo. -/
structure Ty {α : Type} (T e : Nat) (f : α → Value) (w : World) (k c mo : Nat) (gs : List Nat) (q : List α) (s r : Nat) : Prop where
  box : BoxT T w k #[.chan (some c)]
  ch : w.heap[c]? = some (.chan mo (ptrs gs) false s r false)
  len : gs.length = q.length
  each : ∀ (i g : Nat) (x : α), gs[i]? = some g → q[i]? = some x → BoxT e w g #[f x]
section
variable {α : Type} {T e : Nat} {f : α → Value} {w w' : World} {k c mo s r : Nat} {gs : List Nat} {q : List α}
theorem Ty.lt (H : Ty T e f w k c mo gs q s r) : c < w.heap.size := (Array.getElem?_eq_some_iff.1 H.ch).1
theorem Ty.ltg (H : Ty T e f w k c mo gs q s r) {g : Nat} (hg : g ∈ gs) : g < w.heap.size := by
  obtain ⟨i, hi⟩ := List.getElem?_of_mem hg
  have hl := (List.getElem?_eq_some_iff.1 hi).1
  exact (H.each i g _ hi (List.getElem?_eq_getElem (by rw [← H.len]; exact hl))).lt
theorem Ty.ne (H : Ty T e f w k c mo gs q s r) : k ≠ c := fun e => by
  have h1 := H.box
  have h2 := H.ch
  unfold BoxT at h1
  rw [e, h2] at h1
  simp at h1
theorem Ty.back (H : Ty T e f w k c mo gs q s r) (hk : w'.heap[k]? = w.heap[k]?) (hc : w'.heap[c]? = w.heap[c]?) (hg : ∀ g ∈ gs, w'.heap[g]? = w.heap[g]?) : Ty T e f w' k c mo gs q s r :=
  ⟨by have := H.box; unfold BoxT at *; rw [hk]; exact this, by rw [hc]; exact H.ch, H.len, fun i g x h1 h2 => by have := H.each i g x h1 h2; unfold BoxT at *; rw [hg g (List.mem_of_getElem? h1)]; exact this⟩
theorem Ty.below (H : Ty T e f w k c mo gs q s r) (hb : Below w.heap.size w w') : Ty T e f w' k c mo gs q s r :=
  H.back (hb.block k H.box.lt) (hb.block c H.lt) (fun _ hg => hb.block _ (H.ltg hg))
theorem Ty.neg (H : Ty T e f w k c mo gs q s r) {g : Nat} (hg : g ∈ gs) : g ≠ c := fun e2 => by
  obtain ⟨i, hi⟩ := List.getElem?_of_mem hg
  have hl := (List.getElem?_eq_some_iff.1 hi).1
  have h1 := H.each i g _ hi (List.getElem?_eq_getElem (by rw [← H.len]; exact hl))
  have h2 := H.ch
  unfold BoxT at h1
  rw [e2, h2] at h1
  simp at h1
theorem setChan_heap (w : World) (c cap : Nat) (buf : Array Value) (cl : Bool) (s r : Nat) (tm : Bool) (i : Nat) (h : i ≠ c) : (w.setChan c cap buf cl s r tm).heap[i]? = w.heap[i]? := by
  simp only [World.setChan]
  rw [Array.getElem?_setIfInBounds_ne (fun e => h e.symm)]
theorem Turned.chan (k c : Nat) (w : World) (cap : Nat) (buf : Array Value) (cl : Bool) (s r : Nat) (tm : Bool) : Turned k c w (w.setChan c cap buf cl s r tm) :=
  ⟨rfl, rfl, rfl, by simp [World.setChan], fun i _ _ hc => setChan_heap w c cap buf cl s r tm i hc⟩
theorem Ty.sent (H : Ty T e f w k c mo gs q s r) (x : α) : Ty T e f ((w.alloc (.cells #[f x] e)).setChan c mo ((ptrs gs).push (.pointer (some ⟨w.heap.size, 0, none⟩))) false (s + 1) r false) k c mo (gs ++ [w.heap.size]) (q ++ [x]) (s + 1) r := by
  have H1 := H.below ((Below.refl _ _).alloc (Nat.le_refl _) (.cells #[f x] e))
  have hcl := H.lt
  refine ⟨?_, ?_, by simp [H.len], fun i g y h1 h2 => ?_⟩
  · have := H1.box
    unfold BoxT at *
    rw [setChan_heap _ _ _ _ _ _ _ _ _ H.ne]; exact this
  · rw [ptrs_push]
    exact heap_setChan _ _ _ _ _ _ _ _ (by simp; omega)
  · by_cases hi : i < gs.length
    · rw [List.getElem?_append_left hi] at h1
      rw [List.getElem?_append_left (by rw [← H.len]; exact hi)] at h2
      have := H1.each i g y h1 h2
      unfold BoxT at *
      rw [setChan_heap _ _ _ _ _ _ _ _ _ (H.neg (List.mem_of_getElem? h1))]; exact this
    · have hi2 : i = gs.length := by have := (List.getElem?_eq_some_iff.1 h1).1; simp at this; omega
      subst hi2
      rw [List.getElem?_append_right (Nat.le_refl _)] at h1
      rw [List.getElem?_append_right (by rw [H.len]; exact Nat.le_refl _), H.len] at h2
      simp at h1 h2
      subst h1 h2
      unfold BoxT
      rw [setChan_heap _ _ _ _ _ _ _ _ _ (by omega)]
      exact BoxT.new _ _ _
theorem Ty.got {x : α} {g : Nat} (H : Ty T e f w k c mo (g :: gs) (x :: q) s r) : Ty T e f (w.setChan c mo (ptrs gs) false s (r + 1) false) k c mo gs q s (r + 1) := by
  have hcl := H.lt
  refine ⟨?_, heap_setChan _ _ _ _ _ _ _ _ hcl, by have := H.len; simpa using this, fun i g' y h1 h2 => ?_⟩
  · have := H.box
    unfold BoxT at *
    rw [setChan_heap _ _ _ _ _ _ _ _ _ H.ne]; exact this
  · have := H.each (i + 1) g' y (by simpa using h1) (by simpa using h2)
    unfold BoxT at *
    rw [setChan_heap _ _ _ _ _ _ _ _ _ (H.neg (List.mem_cons_of_mem _ (List.mem_of_getElem? h1)))]; exact this
end
end Go.Proofs.Ytaoejpgjdoikiaa
