/-
  CoordNumbers: what stays so.
-/
import Derived.Test.YtgjjacljjlhnhaaCBegP
namespace Go.Proofs.Ytgjjacljjlhnhaa
open Go.RowKit

/-- What stays so in CoordNumbers, i steps done. -/
structure Nv (s : Cd) (last e i : Nat) : Prop where
  t : s.T.length ≤ 1
  l : last ≤ s.gr
  d : s.du ≤ s.gr
  u : s.un ≤ s.gr
  g : s.gr ≤ i
  ti : s.ti ≤ i
  be : s.be ≤ s.ti
  pa : s.pa ≤ 1048576
  to_ : s.to_ ≤ 1048576
  e : e ≤ i
theorem Nv.up {s : Cd} {last e i j : Nat} (h : Nv s last e i) (hj : i ≤ j) : Nv s last e j := ⟨h.t, h.l, h.d, h.u, Nat.le_trans h.g hj, Nat.le_trans h.ti hj, h.be, h.pa, h.to_, Nat.le_trans h.e hj⟩
theorem Nv.stored {s : Cd} {last e i : Nat} (h : Nv s last e i) (n : Nat) (ok : Bool) : Nv (cStoS s n ok) last e (i + 1) := by
  obtain ⟨h0, h1, h2, h3, h4, h5, h6, h7, h8, h9⟩ := h
  unfold cStoS
  split
  · exact ⟨h0, h1, h2, h3, by omega, by omega, h6, h7, h8, by omega⟩
  · rename_i hc
    have hn : n = s.un := by
      rcases Nat.decEq n s.un with e | e
      · exact absurd (.inr e) hc
      · exact e
    split
    · exact ⟨h0, h1, h2, Nat.zero_le _, Nat.le_succ_of_le h4, Nat.le_succ_of_le h5, h6, h7, h8, by omega⟩
    · exact ⟨h0, h1, by show n ≤ s.gr; omega, Nat.zero_le _, Nat.le_succ_of_le h4, Nat.le_succ_of_le h5, h6, h8, h8, by omega⟩
theorem Nv.begin {s : Cd} {last e i : Nat} (h : Nv s last e i) : Nv (cBegS s (e + 1) s.du last) last (e + 1) (i + 1) := by
  obtain ⟨h0, h1, h2, h3, h4, h5, h6, h7, h8, h9⟩ := h
  unfold cBegS
  split
  · exact ⟨h0, h1, h2, h3, by omega, by omega, h6, h7, h8, by omega⟩
  · exact ⟨h0, by show last ≤ max (max s.gr s.du) last; omega, by show s.du ≤ max (max s.gr s.du) last; omega, Nat.zero_le _, by show max (max s.gr s.du) last ≤ i + 1; omega, Nat.zero_le _, Nat.le_refl _, h8, h8, by omega⟩
theorem Nv.take {s : Cd} {last e i : Nat} (h : Nv s last e i) (m : Ct) : Nv (cTakeS s m) last e (i + 1) := by
  obtain ⟨h0, h1, h2, h3, h4, h5, h6, h7, h8, h9⟩ := h
  unfold cTakeS
  repeat' split
  all_goals exact ⟨h0, h1, h2, h3, Nat.le_succ_of_le h4, Nat.le_succ_of_le h5, h6, h7, h8, by omega⟩
/-- What a tick does to the numbers. -/
theorem move_num (s : Cd) : ((cMove s).gr = s.gr ∧ ((cMove s).un = s.un ∨ (cMove s).un = 0) ∧ (cMove s).be = s.be ∨ (cMove s).gr = s.gr + 1 ∧ (cMove s).un = s.gr + 1 ∧ (cMove s).be = s.ti) ∧ (cMove s).T = s.T ∧ (cMove s).du = s.du ∧ (cMove s).ti = s.ti ∧ (cMove s).to_ = s.to_ ∧ (s.pa ≤ 1048576 → (cMove s).pa ≤ 1048576) := by
  have hg : (cGive s).gr = s.gr ∧ ((cGive s).un = s.un ∨ (cGive s).un = 0) ∧ (cGive s).be = s.be ∧ (cGive s).T = s.T ∧ (cGive s).du = s.du ∧ (cGive s).ti = s.ti ∧ (cGive s).to_ = s.to_ ∧ (s.pa ≤ 1048576 → (cGive s).pa ≤ 1048576) := by
    unfold cGive
    split
    · exact ⟨rfl, .inr rfl, rfl, rfl, rfl, rfl, rfl, fun _ => Nat.min_le_right _ _⟩
    · exact ⟨rfl, .inl rfl, rfl, rfl, rfl, rfl, rfl, fun h => h⟩
  obtain ⟨g1, g2, g3, g4, g5, g6, g7, g8⟩ := hg
  unfold cMove
  split
  · refine ⟨.inr ⟨?_, ?_, ?_⟩, g4, g5, g6, g7, g8⟩
    · show (cGive s).gr + 1 = s.gr + 1; rw [g1]
    · show (cGive s).gr + 1 = s.gr + 1; rw [g1]
    · exact g6
  · exact ⟨.inl ⟨g1, g2, g3⟩, g4, g5, g6, g7, g8⟩
theorem Nv.tick {s : Cd} {last e i : Nat} (h : Nv s last e i) : Nv (cTickS s) last e (i + 1) := by
  obtain ⟨h0, h1, h2, h3, h4, h5, h6, h7, h8, h9⟩ := h
  unfold cTickS
  split
  · exact ⟨h0, h1, h2, h3, by omega, by omega, h6, h7, h8, by omega⟩
  · split
    · exact ⟨h0, h1, h2, h3, by omega, by omega, h6, h7, h8, by omega⟩
    · obtain ⟨k1, k2, k3, k4, k5, k6⟩ := move_num { s with ti := s.ti + 1 }
      simp only at k1 k2 k3 k4 k5 k6
      have k7 := k6 h7
      rcases k1 with ⟨a, b, c⟩ | ⟨a, b, c⟩
      · refine ⟨by rw [k2]; exact h0, by omega, by omega, ?_, by omega, by omega, by omega, k7, by omega, by omega⟩
        rcases b with b | b <;> omega
      · exact ⟨by rw [k2]; exact h0, by omega, by omega, by omega, by omega, by omega, by omega, k7, by omega, by omega⟩
theorem Nv.ok {s : Cd} {last e i : Nat} (h : Nv s last e i) (hi : i ≤ 1000) : s.ti < 999999999 ∧ s.be ≤ s.ti ∧ s.gr < 4611686018427387904 ∧ s.pa ≤ 1048576 := ⟨by have := h.ti; omega, h.be, by have := h.g; omega, h.pa⟩
theorem tell_mem {k : Int} {e n : Nat} {l : List Int} {i : Nat} {m : Ct} (h : (tellL k e n l)[i]? = some m) : m.kind = k ∧ m.n = n ∧ m.ep = e ∧ i < l.length := by
  unfold tellL at h
  rw [List.getElem?_map] at h
  cases hl : l[i]? with
  | none => rw [hl] at h; cases h
  | some t =>
    rw [hl] at h
    obtain rfl := Option.some.inj h
    exact ⟨rfl, rfl, rfl, lt_of_get hl⟩
theorem tick_out {s : Cd} (hT : s.T.length ≤ 1) {k : Nat} {m : Ct} (h : (cTickO s)[k]? = some m) (hk : m.kind = 1) : m.n = (cTickS s).un ∧ k + 1 = (cTickO s).length ∧ ((cTickS s).un ≠ s.un → (cTickS s).un = s.gr + 1 ∧ (cTickS s).gr = s.gr + 1) := by
  unfold cTickO at h ⊢
  by_cases he : s.ep = 0
  · rw [if_pos he] at h; simp at h
  · rw [if_neg he] at h ⊢
    by_cases hf : s.rd.length ≠ s.T.length
    · rw [if_pos hf] at h
      have := (tell_mem h).1
      omega
    · rw [if_neg hf] at h ⊢
      have hs : cTickS s = cMove { s with ti := s.ti + 1 } := by unfold cTickS; rw [if_neg he, if_neg hf]
      obtain ⟨k1, k2, -⟩ := move_num { s with ti := s.ti + 1 }
      rw [← hs] at k1 k2
      simp only at k1 k2
      have hun : (cTickS s).un ≠ 0 → ((cTickS s).un ≠ s.un → (cTickS s).un = s.gr + 1 ∧ (cTickS s).gr = s.gr + 1) := fun h0 hne => by
        rcases k1 with ⟨a, b, c⟩ | ⟨a, b, c⟩
        · rcases b with b | b
          · exact absurd b hne
          · exact absurd b h0
        · exact ⟨b, a⟩
      by_cases hc : k < (cComm (cTickS s)).length
      · rw [List.getElem?_append_left hc] at h
        unfold cComm at h
        split at h
        · simp at h
        · have := (tell_mem h).1
          omega
      · rw [List.getElem?_append_right (by omega)] at h
        have hl := cTrig_len (cTickS s)
        rw [k2] at hl
        have hlt := lt_of_get h
        rw [List.length_append]
        unfold cTrig at h
        split at h
        · simp at h
        · rename_i h0
          exact ⟨(tell_mem h).2.1, by omega, hun h0⟩

end Go.Proofs.Ytgjjacljjlhnhaa
