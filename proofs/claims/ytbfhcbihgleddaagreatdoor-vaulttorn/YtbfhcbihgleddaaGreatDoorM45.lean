/-
  Texts of the vault, in build order: VTn2.
-/
import Derived.Test.YtbfhcbihgleddaaGreatDoorM42
/-
  One file of a vault's disk torn, turned or gone: what is found then (pure side of VaultTorn).
-/
namespace Go.Proofs.YtbfhcbihgleddaaGreatDoor
open Go.RowKit

theorem FX_sealed {xs : List Sp} {f : Fi} (ho : ∀ x ∈ xs, One x) (hf : f ∈ FX xs) : ∃ l, f.x = sealed l ∧ Byts l ∧ l.length ≤ 1048576 ∧ (sealed l).length ≤ 1048576 := by
  obtain ⟨x, hx, hfx⟩ := List.mem_flatMap.1 hf
  have h1 := ho x hx
  rcases List.mem_cons.1 hfx with rfl | hp
  · have hm1 := h1.man
    have hmb : Byts (mOut (x.n : Int) x.ep x.parts) := by rw [mOut, if_pos h1.fits]; exact manb_byts _ _ _ h1.fits
    have hml : (mOut (x.n : Int) x.ep x.parts).length ≤ 1048576 := by rw [sealed_len] at hm1; omega
    exact ⟨_, rfl, hmb, hml, by omega⟩
  · obtain ⟨c, hc, rfl⟩ := List.mem_map.1 hp
    obtain ⟨h2, h3⟩ := h1.ck c hc
    refine ⟨c, rfl, h2, ?_, h3⟩
    rw [sealed_len] at h3
    omega
/-- What is found behind it. -/
structure After (p q : Pd) (xs : List Sp) (s : List UInt8) : Prop where
  left : q.left = -1
  room : q.room = p.room
  names : ∃ l, (l ++ q.l.map Fi.n).Perm ((FX xs).map Fi.n)
  found : (foundS q ((q.l.map Fi.n).map mkS)).Perm (xs.filter fun x => !hasF x s)
section
variable {p : Pd} {xs : List Sp} {f : Fi}
theorem after_delete (h : Has p (FX xs)) (ho : ∀ x ∈ xs, One x) (hu : ∀ x ∈ xs, ∀ c ∈ x.chunks, upOk c = true) (hf : f ∈ FX xs) : ∃ q, pDelete p f.n = (q, 0) ∧ After p q xs f.n := by
  obtain ⟨q, h1, h2, h3, h4, h5⟩ := torn_delete h hf
  exact ⟨q, h1, h4, h5, ⟨[f.n], by simpa using h3⟩, found_torn h h2 ho hu (.inr h3)⟩
theorem after_write (h : Has p (FX xs)) (ho : ∀ x ∈ xs, One x) (hu : ∀ x ∈ xs, ∀ c ∈ x.chunks, upOk c = true) (hf : f ∈ FX xs) (hr : (fSum (FX xs) : Int) ≤ p.room) {y : List Nat} (hl : y.length ≤ f.x.length) (hy : opn1 y = none) : ∃ q, pWrite p f.n y = (q, 0) ∧ After p q xs f.n := by
  obtain ⟨l, e, _, _, hm⟩ := FX_sealed ho hf
  obtain ⟨q, h1, h2, h3, h4, h5⟩ := torn_write h hf (FX_name ho f.n (List.mem_map.2 ⟨f, hf, rfl⟩)).2 hl (by rw [e]; exact hm) hr hy
  exact ⟨q, h1, h4, h5, ⟨[], by simpa using h3⟩, found_torn h h2 ho hu (.inl h3)⟩
theorem after_cut (h : Has p (FX xs)) (ho : ∀ x ∈ xs, One x) (hu : ∀ x ∈ xs, ∀ c ∈ x.chunks, upOk c = true) (hf : f ∈ FX xs) (hr : (fSum (FX xs) : Int) ≤ p.room) {k : Nat} (hk : k < f.x.length) : ∃ q, pWrite p f.n (f.x.take k) = (q, 0) ∧ After p q xs f.n := by
  obtain ⟨l, e, hb, hl, hm⟩ := FX_sealed ho hf
  refine after_write h ho hu hf hr (by simp; omega) ?_
  rw [e]
  exact opn1_cut hb hl (by rw [← e]; exact hk)
theorem after_turned (h : Has p (FX xs)) (ho : ∀ x ∈ xs, One x) (hu : ∀ x ∈ xs, ∀ c ∈ x.chunks, upOk c = true) (hf : f ∈ FX xs) (hr : (fSum (FX xs) : Int) ≤ p.room) {k y x : Nat} (hx : f.x[k]? = some x) (hy : y < 256) (hne : y ≠ x) : ∃ q, pWrite p f.n (f.x.set k y) = (q, 0) ∧ After p q xs f.n := by
  obtain ⟨l, e, hb, hl, hm⟩ := FX_sealed ho hf
  refine after_write h ho hu hf hr (by simp) ?_
  rw [e] at hx ⊢
  exact opn1_turned hb hl hx hy hne
end
end Go.Proofs.YtbfhcbihgleddaaGreatDoor
