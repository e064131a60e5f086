/-
  CoordComes: a tick.
-/
import Derived.Test.YtgjjacljjlhnhaaCComP
import Derived.Test.YtgjjacljjlhnhaaCNumP
namespace Go.Proofs.Ytgjjacljjlhnhaa
open Go.RowKit

theorem tickO_len2 (s : Cd) : (cTickO s).length ≤ s.T.length + ((cTickS s).S.length + (cTickS s).T.length) := by
  unfold cTickO
  split
  · simp
  · split
    · unfold cRest
      rw [tellL_len]
      have := miss_len s.T s.rd
      omega
    · rw [List.length_append]
      have := cComm_len (cTickS s)
      have := cTrig_len (cTickS s)
      omega
theorem move_rest (s : Cd) (h : s.be ≤ s.ti) : (cMove s).S = s.S ∧ (cMove s).rd = s.rd ∧ (cMove s).dn = s.dn ∧ (cMove s).ep = s.ep ∧ (cMove s).be ≤ (cMove s).ti := by
  have hg : (cGive s).S = s.S ∧ (cGive s).rd = s.rd ∧ (cGive s).dn = s.dn ∧ (cGive s).ep = s.ep ∧ (cGive s).be ≤ (cGive s).ti := by
    unfold cGive
    split
    · exact ⟨rfl, rfl, rfl, rfl, h⟩
    · exact ⟨rfl, rfl, rfl, rfl, h⟩
  unfold cMove
  split
  · exact ⟨hg.1, hg.2.1, hg.2.2.1, hg.2.2.2.1, Nat.le_refl _⟩
  · exact hg
section
variable {N I T L i : Nat} {s : Cd}
theorem tick_rest {A : List Int} (h : A.length < N) : cTickS (sP N I T A) = sP N I T A ∧ cTickO (sP N I T A) = tellL 5 1 0 (miss (rl N) A) := by
  have h1 : (sP N I T A).rd.length ≠ (sP N I T A).T.length := by
    show A.length ≠ (rl N).length
    rw [rl_len]; omega
  constructor
  · unfold cTickS
    rw [if_neg (by show ¬ (1 = 0); decide), if_pos h1]
  · unfold cTickO
    rw [if_neg (by show ¬ (1 = 0); decide), if_pos h1]
    rfl
theorem tick_none {s' : Cd} (he : s.ep = 1) (hf : s.rd.length = s.T.length) (hs : cMove { s with ti := s.ti + 1 } = s') (hd : s'.du = 0) : cTickS s = s' ∧ cTickO s = cTrig s' := by
  have e1 : cTickS s = s' := by rw [tickS_full (by omega) hf, hs]
  refine ⟨e1, ?_⟩
  rw [tickO_full (by omega) hf, e1]
  unfold cComm
  rw [if_pos hd]; rfl
theorem sU_trig {pa gr ti be : Nat} {R AK : List Int} (h : 1 ≤ gr) : cTrig (sU N I T pa gr ti be R AK) = tellL 1 1 gr (miss (rl N) AK) := by
  unfold cTrig
  rw [if_neg (by show ¬ (gr = 0); omega)]
  rfl
theorem Q2.start (hN : 1 ≤ N ∧ N ≤ 8) (hI : 1 ≤ I ∧ I ≤ 20) (hL : 1 ≤ L ∧ L ≤ 5) (hT : 1 ≤ T ∧ T ≤ 20) (h : Q2 N I T L i s) :
    (s.ti < 999999999 ∧ s.be ≤ s.ti ∧ s.gr < 4611686018427387904 ∧ s.pa ≤ 1048576) ∧ Q3 N I T L i (cTickO s) 0 (cTickS s) ∧ i ≤ 250 ∧ s.T = rl N := by
  rcases h with ⟨A, rfl, h1, h2, h3⟩ | ⟨r, ti, be, R, AK, rfl, h1, h2, h3, h4, h5, h6⟩ | ⟨r, a, ti, be, R, AK, rfl, h1, h2, h3, h4, h5, h6, h7, h8, h9, h10⟩ | ⟨d, h1, h2, h3⟩
  · obtain ⟨e1, e2⟩ := tick_rest (I := I) (T := T) h2
    rw [e1, e2]
    have hi : i < L := by
      rcases Nat.lt_or_ge i L with h | h
      · exact h
      · have := full_of hL.1 h1 h3 (by omega : 0 + L ≤ i)
        omega
    refine ⟨⟨by show 0 < 999999999; decide, Nat.le_refl _, by show 0 < 4611686018427387904; decide, by show T ≤ 1048576; omega⟩, .inl ⟨A, A, rfl, rfl, h1, fun x hx => hx, h3, by omega, fun k' t hk => by omega⟩, by omega, rfl⟩
  · have hp : 2 ^ r ≤ 2 ^ 3 := Nat.pow_le_pow_right (by decide) h5
    have hp2 : T * 2 ^ r ≤ 20 * 2 ^ 3 := Nat.mul_le_mul hT.2 hp
    have hp1 : 0 < T * 2 ^ r := Nat.mul_pos (by omega) (Nat.pow_pos (by decide))
    have hf : (sW N I T (T * 2 ^ r) r ti be R AK).rd.length = (sW N I T (T * 2 ^ r) r ti be R AK).T.length := by
      show R.length = (rl N).length
      rw [rl_len]; exact h1
    refine ⟨⟨by show ti < 999999999; omega, h2, by show r < 4611686018427387904; omega, by show T * 2 ^ r ≤ 1048576; omega⟩, ?_, by omega, rfl⟩
    by_cases hn : be + I ≤ ti + 1
    · obtain ⟨e1, e2⟩ := tick_none (s' := sU N I T (T * 2 ^ r) (r + 1) (ti + 1) (ti + 1) R []) rfl hf (move_next rfl hn) rfl
      rw [e1, e2, sU_trig (by omega)]
      refine .inr (.inr (.inl ⟨r, i, ti + 1, ti + 1, R, [], [], rfl, rfl, gset_nil N, by simp; omega, h1, fun x hx => hx, fun t j _ hj1 hj2 _ => by omega, Nat.le_refl _, by omega, by omega, by omega, h5, by omega, fun k' t hk => by omega⟩))
    · obtain ⟨e1, e2⟩ := tick_none (s' := sW N I T (T * 2 ^ r) r (ti + 1) be R AK) rfl hf (move_wait rfl (by show ti + 1 < be + I; omega)) rfl
      rw [e1, e2]
      exact .inr (.inl ⟨rfl, ⟨r, ti + 1, be, R, AK, rfl, h1, by omega, by omega, by omega, h5, by omega⟩⟩)
  · have hp : 2 ^ r ≤ 2 ^ 3 := Nat.pow_le_pow_right (by decide) h9
    have hp2 : T * 2 ^ r ≤ 20 * 2 ^ 3 := Nat.mul_le_mul hT.2 hp
    have hi : i < a + L := by
      rcases Nat.lt_or_ge i (a + L) with h | h
      · exact h
      · have := full_of hL.1 h1 h4 h
        omega
    have hf : (sU N I T (T * 2 ^ r) (r + 1) ti be R AK).rd.length = (sU N I T (T * 2 ^ r) (r + 1) ti be R AK).T.length := by
      show R.length = (rl N).length
      rw [rl_len]; exact h3
    refine ⟨⟨by show ti < 999999999; omega, by show be ≤ ti; omega, by show r + 1 < 4611686018427387904; omega, by show T * 2 ^ r ≤ 1048576; omega⟩, ?_, by omega, rfl⟩
    by_cases hg : be + T * 2 ^ r ≤ ti + 1
    · have hr2 : r ≤ 2 := by
        rcases Nat.lt_or_ge r 3 with h | h
        · omega
        · have hp3 : 2 ^ 3 ≤ 2 ^ r := Nat.pow_le_pow_right (by decide) h
          have hp4 : 1 * 2 ^ 3 ≤ T * 2 ^ r := Nat.mul_le_mul hT.1 hp3
          omega
      have e00 : T * 2 ^ (r + 1) = 2 * (T * 2 ^ r) := by rw [Nat.pow_succ, ← Nat.mul_assoc, Nat.mul_comm]
      have e0 : min (2 * (T * 2 ^ r)) 1048576 = T * 2 ^ (r + 1) := by rw [e00]; omega
      have hm : cMove (sU N I T (T * 2 ^ r) (r + 1) (ti + 1) be R AK) = if be + I ≤ ti + 1 then cNext (sW N I T (min (2 * (T * 2 ^ r)) 1048576) (r + 1) (ti + 1) be R AK) else sW N I T (min (2 * (T * 2 ^ r)) 1048576) (r + 1) (ti + 1) be R AK := move_give (s := sU N I T (T * 2 ^ r) (r + 1) (ti + 1) be R AK) (Nat.succ_pos _) rfl hg
      rw [e0] at hm
      have hp5 : 0 < T * 2 ^ (r + 1) := Nat.mul_pos (by omega) (Nat.pow_pos (by decide))
      by_cases hn : be + I ≤ ti + 1
      · have hm2 : cMove { sU N I T (T * 2 ^ r) (r + 1) ti be R AK with ti := ti + 1 } = sU N I T (T * 2 ^ (r + 1)) (r + 1 + 1) (ti + 1) (ti + 1) R [] := by
          show cMove (sU N I T (T * 2 ^ r) (r + 1) (ti + 1) be R AK) = _
          rw [hm, if_pos hn]; rfl
        obtain ⟨e1, e2⟩ := tick_none rfl hf hm2 rfl
        rw [e1, e2, sU_trig (by omega)]
        refine .inr (.inr (.inl ⟨r + 1, i, ti + 1, ti + 1, R, [], [], rfl, rfl, gset_nil N, by simp; omega, h3, fun x hx => hx, fun t j _ hj1 hj2 _ => by omega, Nat.le_refl _, by omega, by omega, by omega, by omega, by omega, fun k' t hk => by omega⟩))
      · have hm2 : cMove { sU N I T (T * 2 ^ r) (r + 1) ti be R AK with ti := ti + 1 } = sW N I T (T * 2 ^ (r + 1)) (r + 1) (ti + 1) be R AK := by
          show cMove (sU N I T (T * 2 ^ r) (r + 1) (ti + 1) be R AK) = _
          rw [hm, if_neg hn]
        obtain ⟨e1, e2⟩ := tick_none rfl hf hm2 rfl
        rw [e1, e2]
        exact .inr (.inl ⟨rfl, ⟨r + 1, ti + 1, be, R, AK, rfl, h3, by omega, by omega, by omega, by omega, by omega⟩⟩)
    · obtain ⟨e1, e2⟩ := tick_none (s' := sU N I T (T * 2 ^ r) (r + 1) (ti + 1) be R AK) rfl hf (move_stay (Nat.succ_pos _) (.inr (by show ti + 1 < be + T * 2 ^ r; omega))) rfl
      rw [e1, e2, sU_trig (by omega)]
      exact .inr (.inr (.inl ⟨r, a, ti + 1, be, R, AK, AK, rfl, rfl, h1, h2, h3, fun x hx => hx, h4, by omega, by omega, h7, by omega, h9, by omega, fun k' t hk => by omega⟩))
  · have hi : i < d + L := by
      rcases Nat.lt_or_ge i (d + L) with h | h
      · exact h
      · obtain ⟨j, j1, j2, j3⟩ := hears_in hL.1 d 0
        exact absurd j3 (h3 j j1 (by omega))
    have hf : s.rd.length = s.T.length := by rw [h1.t, rl_len]; exact h1.rd
    have e1 : cTickS s = cMove { s with ti := s.ti + 1 } := tickS_full (by rw [h1.ep]; decide) hf
    have e2 := tickO_full (s := s) (by rw [h1.ep]; decide) hf
    obtain ⟨k1, k2, k3, k4, k5, k6⟩ := move_num { s with ti := s.ti + 1 }
    obtain ⟨q1, q2, q3, q4, q5⟩ := move_rest { s with ti := s.ti + 1 } (by show s.be ≤ s.ti + 1; have := h1.be; omega)
    simp only at k1 k2 k3 k4 k5 k6 q1 q2 q3 q4
    have g1 := h1.gr
    have g2 := h1.ti
    have g3 := h1.be
    have g4 := h1.pa
    have g5 := h1.to_
    have g6 := h1.du
    refine ⟨⟨by omega, g3, by omega, g4⟩, ?_, by omega, h1.t⟩
    rw [e2, e1]
    generalize cMove { s with ti := s.ti + 1 } = s1 at *
    have hD : Dp N s1 (i + 1) := ⟨by rw [q4]; exact h1.ep, by rw [k2]; exact h1.t, by rw [q1]; exact h1.ss, by rw [q2]; exact h1.rd, by rw [k3]; exact h1.du, by rw [q3]; exact h1.dn, by omega, q5, by rcases k1 with ⟨x, _⟩ | ⟨x, _⟩ <;> omega, k6 g4, by omega⟩
    have hc : cComm s1 = [⟨3, 1, s1.du, 0⟩] := by
      unfold cComm
      rw [if_neg (by have := hD.du; omega), hD.ss, hD.dn, hD.ep]; rfl
    rw [hc]
    refine .inr (.inr (.inr ⟨d, hD, h2, h3, fun _ => ⟨by simp, fun m hm => ?_⟩, fun _ h => by omega, fun k' m _ hm => ?_⟩))
    · have : (⟨3, 1, s1.du, 0⟩ : Ct) = m := by simpa using hm
      subst this
      exact ⟨rfl, rfl⟩
    · match k', hm with
      | 0, hm =>
        have : (⟨3, 1, s1.du, 0⟩ : Ct) = m := by simpa using hm
        subst this
        exact ⟨rfl, ⟨0, by omega, rfl⟩, .inr ⟨rfl, rfl, rfl, rfl⟩⟩
      | k' + 1, hm =>
        have hm2 : (cTrig s1)[k']? = some m := by simpa using hm
        unfold cTrig at hm2
        split at hm2
        · simp at hm2
        · obtain ⟨x, g2, rfl⟩ := tell_get2 hm2
          rw [hD.t] at g2
          exact ⟨hD.ep, miss_get g2, .inl rfl⟩
end

end Go.Proofs.Ytgjjacljjlhnhaa
