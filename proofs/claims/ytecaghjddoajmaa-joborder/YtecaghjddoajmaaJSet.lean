/-
  A node's inputs are turned.
-/
import Derived.Test.YtecaghjddoajmaaJBuild
namespace Go.Proofs.Ytecaghjddoajmaa
open Go.RowKit

theorem OwnL.mkA {α : Type} {t sz : Nat} {cs : α → List Value} (hcs : ∀ x, (cs x).length = sz) (hsz : 0 < sz) {base : Nat} {w : World} {g cap : Nat} {cur : Array Value} {xs : List α} (hg : base ≤ g) (hb : BoxT t w g cur) (hc : xs.length ≤ cap) (hm : cap ≤ maxLen) (hs : cur.size = cap * sz)
    (hat : ∀ (i : Nat) (x : α) (j : Nat) (u : Value), xs[i]? = some x → (cs x)[j]? = some u → cur[i * sz + j]? = some u) : OwnL t sz cs base w (.slice (some ⟨g, 0, none⟩) xs.length cap) xs := by
  refine ⟨flat_size hcs xs, .inr ⟨g, cap, cur, rfl, hg, hb, hc, hm, hs, ?_⟩⟩
  have hle : xs.length * sz ≤ cap * sz := Nat.mul_le_mul_right _ hc
  apply List.ext_getElem?
  intro p
  by_cases hp : p < xs.length * sz
  · rw [List.getElem?_take_of_lt hp]
    have h1 : p / sz < xs.length := (Nat.div_lt_iff_lt_mul hsz).2 hp
    have h2 : p % sz < sz := Nat.mod_lt _ hsz
    have h3 : p / sz * sz + p % sz = p := by rw [Nat.mul_comm]; exact Nat.div_add_mod p sz
    obtain ⟨x, hx⟩ := get_of_lt h1
    obtain ⟨u, hu⟩ := get_of_lt (l := cs x) (i := p % sz) (by rw [hcs]; exact h2)
    have a1 := hat _ x _ u hx hu
    have a2 := flat_get hcs xs _ _ x u hx hu
    rw [h3] at a1 a2
    rw [a2]
    simpa using a1
  · rw [List.getElem?_eq_none (by simp; omega), List.getElem?_eq_none (by rw [flat_size hcs]; omega)]
theorem OwnL.read {α : Type} {t sz : Nat} {cs : α → List Value} (hcs : ∀ x, (cs x).length = sz) {base : Nat} {w : World} {v : Value} {xs : List α} (h : OwnL t sz cs base w v xs) (hn : xs ≠ []) :
    ∃ (g cap : Nat) (cur : Array Value), v = .slice (some ⟨g, 0, none⟩) xs.length cap ∧ base ≤ g ∧ BoxT t w g cur ∧ xs.length ≤ cap ∧ cap ≤ maxLen ∧ cur.size = cap * sz ∧ ∀ (i : Nat) (x : α) (j : Nat) (u : Value), xs[i]? = some x → (cs x)[j]? = some u → cur[i * sz + j]? = some u := by
  rcases h.2 with ⟨_, h0⟩ | ⟨g, cap, cur, h1, h2, h3, h4, h5, h6, h7⟩
  · exact absurd (List.length_eq_zero_iff.1 h0) hn
  · refine ⟨g, cap, cur, h1, h2, h3, h4, h5, h6, fun i x j u hx hu => ?_⟩
    have a2 := flat_get hcs xs i j x u hx hu
    rw [← h7, List.getElem?_take] at a2
    split at a2
    · simpa using a2
    · cases a2
theorem JB.setIn {base : Nat} {w : World} {K : Nat} {v : Value} {ns : List Nd} (h : JB base w K v ns) {i : Nat} {n : Nd} (hn : ns[i]? = some n) :
    ∃ g cap, v = .slice (some ⟨g, 0, none⟩) ns.length cap ∧ base ≤ g ∧ w.cell? ⟨g, i * 10 + 1, none⟩ = some (.slice n.ia n.ins.length n.ic) ∧ w.frozen? ⟨g, i * 10 + 1, none⟩ = false ∧
      ∀ (a : Option Addr) (c : Nat) (l : List Int), OwnL 3 1 ic base w (.slice a l.length c) l → JB base (w.setCell ⟨g, i * 10 + 1, none⟩ (.slice a l.length c)) K v (ns.set i { n with ia := a, ic := c, ins := l }) := by
  have hl := lt_of_get hn
  obtain ⟨g, cap, cur, rfl, h2, h3, h4, h5, h6, h7⟩ := h.row.read Nd.cs_len (by intro e; rw [e] at hn; simp at hn)
  refine ⟨g, cap, rfl, h2, ?_, h3.free _, fun a c l ho => ?_⟩
  · rw [h3.cellAt]
    exact h7 i n 1 _ hn rfl
  · have k3 : ∀ {u : Value} {q : List Int}, OwnL 3 1 ic base w u q → OwnL 3 1 ic base (w.setCell ⟨g, i * 10 + 1, none⟩ (.slice a l.length c)) u q := fun hu => hu.back (fun b e => Below.heap_setCell w ⟨g, i * 10 + 1, none⟩ _ b (by
      obtain ⟨cur', hc'⟩ := hu.has b e
      exact BoxT.ne (t := 3) hc' h3 (by decide)))
    refine ⟨h.box.other _ _ (h.box.ne h3 (by decide)), ?_, fun m hm => ?_, h.kK⟩
    · have := OwnL.mkA (base := base) (cs := Nd.cs) (cap := cap) (xs := ns.set i { n with ia := a, ic := c, ins := l }) Nd.cs_len (by decide) h2 (h3.set (i * 10 + 1) (.slice a l.length c)) (by rw [List.length_set]; exact h4) h5 (by simpa using h6) (fun k x j u hx hu => by
        have hj : j < 10 := by have := lt_of_get hu; rw [Nd.cs_len] at this; exact this
        rw [get_set hl] at hx
        by_cases hk : k = i
        · subst hk
          rw [if_pos rfl] at hx
          cases hx
          by_cases hj1 : j = 1
          · subst hj1
            have hu' : u = .slice a l.length c := by simpa [Nd.cs] using hu.symm
            subst hu'
            rw [Array.getElem?_setIfInBounds_self_of_lt (by omega)]
          · rw [Array.getElem?_setIfInBounds_ne (by omega)]
            refine h7 k n j u hn ?_
            match j, hj1, hj, hu with
            | 0, _, _, hu | 2, _, _, hu | 3, _, _, hu | 4, _, _, hu | 5, _, _, hu | 6, _, _, hu | 7, _, _, hu | 8, _, _, hu | 9, _, _, hu => simpa [Nd.cs] using hu
        · rw [if_neg hk] at hx
          rw [Array.getElem?_setIfInBounds_ne (by omega)]
          exact h7 k x j u hx hu)
      rw [List.length_set] at this
      exact this
    · rcases List.mem_or_eq_of_mem_set hm with hm | rfl
      · exact k3 (h.ins m hm)
      · exact k3 ho
end Go.Proofs.Ytecaghjddoajmaa
