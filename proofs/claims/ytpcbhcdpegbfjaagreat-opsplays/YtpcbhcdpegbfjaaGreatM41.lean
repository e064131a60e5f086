/-
  Texts in build order: ZJSet.
-/
import Derived.Test.YtpcbhcdpegbfjaaGreatM27
/-
 A node's inputs are turned.
-/
namespace Go.Proofs.YtpcbhcdpegbfjaaGreat.J
open Go.RowKit
theorem OwnL.mkA {α : Type} {t sz : Nat} {cs : α → List Value} (hcs : ∀ x, (cs x).length = sz) (hsz : 0 < sz) {base : Nat} {w : World} {g cap : Nat} {cur : Array Value} {xs : List α} (hg : base ≤ g) (hb : BoxT t w g cur) (hc : xs.length ≤ cap) (hm : cap ≤ maxLen) (hs : cur.size = cap * sz)
  (hat : ∀ (i : Nat) (x : α) (j : Nat) (u : Value), xs[i]? = some x → (cs x)[j]? = some u → cur[i * sz + j]? = some u) : OwnL t sz cs base w (.slice (some ⟨g, 0, none⟩) xs.length cap) xs := by
 refine ⟨flat_size hcs xs, .inr ⟨g, cap, cur, rfl, hg, hb, hc, hm, hs, ?_⟩⟩
 have hle : xs.length * sz ≤ cap * sz := Nat.mul_le_mul_right _ hc
 apply List.ext_getElem?
 intro p
 by_cases hp : p < xs.length * sz
 ·rw [List.getElem?_take_of_lt hp]
  have h1 : p / sz < xs.length := (Nat.div_lt_iff_lt_mul hsz).2 hp
  have h2 : p % sz < sz := Nat.mod_lt _ hsz
  have h3 : p / sz * sz + p % sz = p := by rw [Nat.mul_comm]; exact Nat.div_add_mod p sz
  obtain ⟨x, hx⟩ := get_of_lt h1
  obtain ⟨u, hu⟩ := get_of_lt (l := cs x) (i := p % sz) (by rw [hcs]; exact h2)
  have a1 := hat _ x _ u hx hu
  have a2 := flat_get hcs xs _ _ x u hx hu
  rw [h3] at a1 a2
  rw [a2]
  simpa using a1
 ·rw [List.getElem?_eq_none (by simp; omega), List.getElem?_eq_none (by rw [flat_size hcs]; omega)]
theorem OwnL.read {α : Type} {t sz : Nat} {cs : α → List Value} (hcs : ∀ x, (cs x).length = sz) {base : Nat} {w : World} {v : Value} {xs : List α} (h : OwnL t sz cs base w v xs) (hn : xs ≠ []) :
  ∃ (g cap : Nat) (cur : Array Value), v = .slice (some ⟨g, 0, none⟩) xs.length cap ∧ base ≤ g ∧ BoxT t w g cur ∧ xs.length ≤ cap ∧ cap ≤ maxLen ∧ cur.size = cap * sz ∧ ∀ (i : Nat) (x : α) (j : Nat) (u : Value), xs[i]? = some x → (cs x)[j]? = some u → cur[i * sz + j]? = some u := by
 rcases h.2 with ⟨_, h0⟩ | ⟨g, cap, cur, h1, h2, h3, h4, h5, h6, h7⟩
 ·exact absurd (List.length_eq_zero_iff.1 h0) hn
 ·refine ⟨g, cap, cur, h1, h2, h3, h4, h5, h6, fun i x j u hx hu => ?_⟩
  have a2 := flat_get hcs xs i j x u hx hu
  rw [← h7, List.getElem?_take] at a2
  split at a2
  ·simpa using a2
  ·cases a2
end Go.Proofs.YtpcbhcdpegbfjaaGreat.J
