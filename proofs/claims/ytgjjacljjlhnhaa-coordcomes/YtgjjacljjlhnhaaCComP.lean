/-
  CoordComes: what stays so.
-/
import Derived.Test.YtgjjacljjlhnhaaCBegP
namespace Go.Proofs.Ytgjjacljjlhnhaa
open Go.RowKit

theorem nodup_le : ∀ {l m : List Int}, l.Nodup → (∀ x ∈ l, x ∈ m) → l.length ≤ m.length
  | [], m, _, _ => Nat.zero_le _
  | x :: l, m, hn, hs => by
    obtain ⟨h1, h2⟩ := List.nodup_cons.1 hn
    obtain ⟨u, v, rfl⟩ := List.append_of_mem (hs x (List.mem_cons_self ..))
    have := nodup_le (l := l) (m := u ++ v) h2 (fun y hy => by
      have h3 := hs y (List.mem_cons_of_mem _ hy)
      rcases List.mem_append.1 h3 with h3 | h3
      · exact List.mem_append_left _ h3
      · rcases List.mem_cons.1 h3 with rfl | h3
        · exact absurd hy h1
        · exact List.mem_append_right _ h3)
    simp only [List.length_append, List.length_cons] at *
    omega
/-- A set of tasks. -/
def gset (N : Nat) (A : List Int) : Prop := A.Nodup ∧ ∀ x ∈ A, x ∈ rl N
/-- Who heard at one of the ticks a .. i - 1 is in the set. -/
def hrd (N L a i : Nat) (A : List Int) : Prop := ∀ t j : Nat, t < N → a ≤ j → j < i → (j + t) % L = 0 → (t : Int) ∈ A
theorem gset_nil (N : Nat) : gset N [] := ⟨List.nodup_nil, fun x hx => by cases hx⟩
theorem gset_le {N : Nat} {A : List Int} (h : gset N A) : A.length ≤ N := by
  have := nodup_le h.1 h.2
  rwa [rl_len] at this
theorem hears_in {L : Nat} (hL : 1 ≤ L) (a t : Nat) : ∃ j, a ≤ j ∧ j < a + L ∧ (j + t) % L = 0 := by
  have h1 := Nat.div_add_mod (a + t) L
  have h2 := Nat.mod_lt (a + t) (show L > 0 by omega)
  by_cases h0 : (a + t) % L = 0
  · exact ⟨a, Nat.le_refl _, by omega, h0⟩
  · refine ⟨a + (L - (a + t) % L), by omega, by omega, ?_⟩
    have e : a + (L - (a + t) % L) + t = L * ((a + t) / L + 1) := by
      rw [Nat.mul_add, Nat.mul_one]
      omega
    rw [e, Nat.mul_mod_right]
theorem full_of {N L a i : Nat} {A : List Int} (hL : 1 ≤ L) (hg : gset N A) (hh : hrd N L a i A) (hi : a + L ≤ i) : A.length = N := by
  have h1 : (rl N).length ≤ A.length := nodup_le (rl_nodup N) (fun x hx => by
    have hx2 := rl_mem.1 hx
    obtain ⟨j, j1, j2, j3⟩ := hears_in hL a x.toNat
    have := hh x.toNat j (by omega) j1 (by omega) j3
    rwa [Int.toNat_of_nonneg hx2.1] at this)
  rw [rl_len] at h1
  have := gset_le hg
  omega
theorem ans_set {N t : Nat} {A : List Int} (hg : gset N A) (ht : t < N) (hl : A.length < N) : gset N (ansL (rl N) A (t : Int)) ∧ (∀ x ∈ A, x ∈ ansL (rl N) A (t : Int)) ∧ (t : Int) ∈ ansL (rl N) A (t : Int) ∧ (ansB (rl N) A (t : Int) = true → (ansL (rl N) A (t : Int)).length = N) ∧ (ansB (rl N) A (t : Int) = false → (ansL (rl N) A (t : Int)).length < N) := by
  have hm : (t : Int) ∈ rl N := rl_mem.2 ⟨by omega, by omega⟩
  have hc : (rl N).contains (t : Int) = true := by simpa using hm
  by_cases hA : (t : Int) ∈ A
  · have e : fresh (rl N) A (t : Int) = false := by unfold fresh; rw [hc]; simpa using hA
    unfold ansL ansB
    rw [e]
    simp only [Bool.false_and, Bool.false_eq_true, if_false]
    exact ⟨hg, fun x hx => hx, hA, fun h => h.elim, fun _ => hl⟩
  · have e : fresh (rl N) A (t : Int) = true := by unfold fresh; rw [hc]; simpa using hA
    unfold ansL ansB
    rw [e]
    simp only [if_true, Bool.true_and, List.length_cons, rl_len]
    refine ⟨⟨List.nodup_cons.2 ⟨hA, hg.1⟩, fun x hx => ?_⟩, fun x hx => List.mem_cons_of_mem _ hx, List.mem_cons_self .., fun h => by simpa using h, fun h => ?_⟩
    · rcases List.mem_cons.1 hx with rfl | hx
      · exact hm
      · exact hg.2 x hx
    · have : A.length + 1 ≠ N := by simpa using h
      omega
theorem ans_any {N t : Nat} {A : List Int} (hg : gset N A) (ht : t < N) : gset N (ansL (rl N) A (t : Int)) ∧ (∀ x ∈ A, x ∈ ansL (rl N) A (t : Int)) ∧ (t : Int) ∈ ansL (rl N) A (t : Int) := by
  have hm : (t : Int) ∈ rl N := rl_mem.2 ⟨by omega, by omega⟩
  have hc : (rl N).contains (t : Int) = true := by simpa using hm
  by_cases hA : (t : Int) ∈ A
  · have e : fresh (rl N) A (t : Int) = false := by unfold fresh; rw [hc]; simpa using hA
    unfold ansL
    rw [e]
    exact ⟨hg, fun x hx => hx, hA⟩
  · have e : fresh (rl N) A (t : Int) = true := by unfold fresh; rw [hc]; simpa using hA
    unfold ansL
    rw [e]
    refine ⟨⟨List.nodup_cons.2 ⟨hA, hg.1⟩, fun x hx => ?_⟩, fun x hx => List.mem_cons_of_mem _ hx, List.mem_cons_self ..⟩
    rcases List.mem_cons.1 hx with rfl | hx
    · exact hm
    · exact hg.2 x hx
/-- The coordinator of CoordComes: restored, idle, with one under way. -/
def sP (N I T : Nat) (A : List Int) : Cd := ⟨I, T, T, 1, 0, 0, false, 0, 0, 0, rl N, [0], A, [], []⟩
def sW (N I T pa gr ti be : Nat) (R AK : List Int) : Cd := ⟨I, T, pa, 1, 0, 0, false, gr, ti, be, rl N, [0], R, AK, []⟩
def sU (N I T pa gr ti be : Nat) (R AK : List Int) : Cd := ⟨I, T, pa, 1, 0, gr, false, gr, ti, be, rl N, [0], R, AK, []⟩
structure Dp (N : Nat) (s : Cd) (i : Nat) : Prop where
  ep : s.ep = 1
  t : s.T = rl N
  ss : s.S = [0]
  rd : s.rd.length = N
  du : 0 < s.du
  dn : s.dn = []
  ti : s.ti ≤ i
  be : s.be ≤ s.ti
  gr : s.gr ≤ i + 10
  pa : s.pa ≤ 1048576
  to_ : s.to_ ≤ 1048576
theorem Dp.up {N : Nat} {s : Cd} {i j : Nat} (h : Dp N s i) (hj : i ≤ j) : Dp N s j := ⟨h.ep, h.t, h.ss, h.rd, h.du, h.dn, Nat.le_trans h.ti hj, h.be, Nat.le_trans h.gr (by omega), h.pa, h.to_⟩
structure Wp (N I T : Nat) (i : Nat) (s : Cd) : Prop where
  h : ∃ r ti be R AK, s = sW N I T (T * 2 ^ r) r ti be R AK ∧ R.length = N ∧ be ≤ ti ∧ ti < be + I ∧ i ≤ 6 + 50 * r + (ti - be) ∧ r ≤ 3 ∧ ti ≤ i
/-- What stands at the head of tick i. -/
def Q2 (N I T L i : Nat) (s : Cd) : Prop :=
  (∃ A, s = sP N I T A ∧ gset N A ∧ A.length < N ∧ hrd N L 0 i A) ∨ Wp N I T i s ∨
  (∃ r a ti be R AK, s = sU N I T (T * 2 ^ r) (r + 1) ti be R AK ∧ gset N AK ∧ AK.length < N ∧ R.length = N ∧ hrd N L a i AK ∧ a < i ∧ be + (i - 1 - a) = ti ∧ a ≤ 26 + 50 * r ∧ i - 1 - a < T * 2 ^ r ∧ r ≤ 3 ∧ ti ≤ i) ∨
  (∃ d, Dp N s i ∧ d ≤ 200 ∧ ∀ j, d ≤ j → j < i → j % L ≠ 0)
/-- Within tick i: o was told, k of it are heard or lost. -/
def Q3 (N I T L i : Nat) (o : List Ct) (k : Nat) (s : Cd) : Prop :=
  (∃ A0 A, o = tellL 5 1 0 (miss (rl N) A0) ∧ s = sP N I T A ∧ gset N A ∧ (∀ x ∈ A0, x ∈ A) ∧ hrd N L 0 i A0 ∧ i ≤ 4 ∧ ∀ (k' t : Nat), k' < k → (miss (rl N) A0)[k']? = some (t : Int) → (i + t) % L = 0 → (t : Int) ∈ A) ∨
  (o = [] ∧ Wp N I T (i + 1) s) ∨
  (∃ r a ti be R A0 AK, o = tellL 1 1 (r + 1) (miss (rl N) A0) ∧ s = sU N I T (T * 2 ^ r) (r + 1) ti be R AK ∧ gset N AK ∧ AK.length < N ∧ R.length = N ∧ (∀ x ∈ A0, x ∈ AK) ∧ hrd N L a i A0 ∧ a ≤ i ∧ be + (i - a) = ti ∧ a ≤ 26 + 50 * r ∧ i - a < T * 2 ^ r ∧ r ≤ 3 ∧ ti ≤ i + 1 ∧ ∀ (k' t : Nat), k' < k → (miss (rl N) A0)[k']? = some (t : Int) → (i + t) % L = 0 → (t : Int) ∈ AK) ∨
  (∃ d, Dp N s (i + 1) ∧ d ≤ 200 ∧ (∀ j, d ≤ j → j < i → j % L ≠ 0) ∧ (d ≤ i → 1 ≤ o.length ∧ ∀ m, o[0]? = some m → m.task = 0 ∧ m.kind = 3) ∧ (d ≤ i → 1 ≤ k → i % L ≠ 0) ∧ ∀ k' m, k ≤ k' → o[k']? = some m → m.ep = 1 ∧ (∃ t : Nat, t < N ∧ m.task = (t : Int)) ∧ (m.kind = 1 ∨ (k' = 0 ∧ m.kind = 3 ∧ m.n = s.du ∧ m.task = 0)))
theorem miss_get {N : Nat} {A0 : List Int} {k : Nat} {x : Int} (h : (miss (rl N) A0)[k]? = some x) : ∃ t : Nat, t < N ∧ x = (t : Int) := by
  have h1 := List.mem_of_getElem? h
  have h2 := rl_mem.1 (List.mem_filter.1 h1).1
  exact ⟨x.toNat, by omega, by omega⟩
theorem tell_get2 {kd : Int} {e n : Nat} {l : List Int} {k : Nat} {m : Ct} (h : (tellL kd e n l)[k]? = some m) : ∃ x, l[k]? = some x ∧ m = ⟨kd, e, n, x⟩ := by
  unfold tellL at h
  rw [List.getElem?_map] at h
  cases hl : l[k]? with
  | none => rw [hl] at h; cases h
  | some x =>
    rw [hl] at h
    exact ⟨x, rfl, (Option.some.inj h).symm⟩
section
variable {N I T L i : Nat} {o : List Ct} {k : Nat} {s : Cd}
theorem Q3.msg (h : Q3 N I T L i o k s) {m : Ct} (hm : o[k]? = some m) : m.ep = 1 ∧ (∃ t : Nat, t < N ∧ m.task = (t : Int)) := by
  rcases h with ⟨A0, A, rfl, _⟩ | ⟨rfl, _⟩ | ⟨r, a, ti, be, R, A0, AK, rfl, _⟩ | ⟨d, _, _, _, _, _, h6⟩
  · obtain ⟨x, h1, rfl⟩ := tell_get2 hm
    exact ⟨rfl, miss_get h1⟩
  · simp at hm
  · obtain ⟨x, h1, rfl⟩ := tell_get2 hm
    exact ⟨rfl, miss_get h1⟩
  · have := h6 k m (Nat.le_refl _) hm
    exact ⟨this.1, this.2.1⟩
theorem Q3.comm (h : Q3 N I T L i o k s) {m : Ct} (hm : o[k]? = some m) (h5 : m.kind ≠ 5) (h1 : m.kind ≠ 1) : m.kind = 3 ∧ m.n = s.du ∧ m.task = 0 := by
  rcases h with ⟨A0, A, rfl, _⟩ | ⟨rfl, _⟩ | ⟨r, a, ti, be, R, A0, AK, rfl, _⟩ | ⟨d, _, _, _, _, _, h6⟩
  · obtain ⟨x, _, rfl⟩ := tell_get2 hm
    exact absurd rfl h5
  · simp at hm
  · obtain ⟨x, _, rfl⟩ := tell_get2 hm
    exact absurd rfl h1
  · rcases (h6 k m (Nat.le_refl _) hm).2.2 with h | h
    · exact absurd h h1
    · exact h.2
theorem Q3.skip (h : Q3 N I T L i o k s) {m : Ct} (hm : o[k]? = some m) {t : Nat} (ht : m.task = (t : Int)) (hn : (i + t) % L ≠ 0) : Q3 N I T L i o (k + 1) s := by
  rcases h with ⟨A0, A, rfl, h2, h3, h4, h5, h6, h7⟩ | ⟨rfl, _⟩ | ⟨r, a, ti, be, R, A0, AK, rfl, h2, h3, h4, h5, h6, h7, h8, h9, h10, h11, h12, h13, h14⟩ | ⟨d, h1, h2, h3, h4, h5, h6⟩
  · refine .inl ⟨A0, A, rfl, h2, h3, h4, h5, h6, fun k' t' hk h8 h9 => ?_⟩
    rcases Nat.lt_or_ge k' k with hk2 | hk2
    · exact h7 k' t' hk2 h8 h9
    · obtain rfl : k' = k := by omega
      obtain ⟨x, g1, rfl⟩ := tell_get2 hm
      rw [h8] at g1
      have e : (t' : Int) = (t : Int) := (Option.some.inj g1).trans ht
      have : t' = t := by omega
      subst this
      exact absurd h9 hn
  · simp at hm
  · refine .inr (.inr (.inl ⟨r, a, ti, be, R, A0, AK, rfl, h2, h3, h4, h5, h6, h7, h8, h9, h10, h11, h12, h13, fun k' t' hk g8 g9 => ?_⟩))
    rcases Nat.lt_or_ge k' k with hk2 | hk2
    · exact h14 k' t' hk2 g8 g9
    · obtain rfl : k' = k := by omega
      obtain ⟨x, g1, rfl⟩ := tell_get2 hm
      rw [g8] at g1
      have e : (t' : Int) = (t : Int) := (Option.some.inj g1).trans ht
      have : t' = t := by omega
      subst this
      exact absurd g9 hn
  · refine .inr (.inr (.inr ⟨d, h1, h2, h3, h4, fun hd _ => ?_, fun k' m' hk hm' => h6 k' m' (by omega) hm'⟩))
    rcases Nat.eq_zero_or_pos k with hk | hk
    · subst hk
      have := ((h4 hd).2 m hm).1
      have h0 : t = 0 := by omega
      subst h0
      exact hn
    · exact h5 hd hk
theorem Q3.rest (h : Q3 N I T L i o k s) {m : Ct} (hm : o[k]? = some m) (hk5 : m.kind = 5) {t : Nat} (htN : t < N) (ht : m.task = (t : Int)) : Q3 N I T L i o (k + 1) (cTakeS s ⟨6, m.ep, m.n, m.task⟩) ∧ cTakeN s ⟨6, m.ep, m.n, m.task⟩ = 0 := by
  rcases h with ⟨A0, A, rfl, rfl, h3, h4, h5, h6, h7⟩ | ⟨rfl, _⟩ | ⟨r, a, ti, be, R, A0, AK, rfl, _⟩ | ⟨d, h1, h2, h3, h4, h5, h6⟩
  · obtain ⟨x, g1, rfl⟩ := tell_get2 hm
    obtain rfl : x = (t : Int) := ht
    obtain ⟨k1, k2, k3⟩ := ans_any h3 htN
    refine ⟨.inl ⟨A0, ansL (rl N) A (t : Int), rfl, rfl, k1, fun x hx => k2 x (h4 x hx), h5, h6, fun k' t' hk h8 h9 => ?_⟩, rfl⟩
    rcases Nat.lt_or_ge k' k with hk2 | hk2
    · exact k2 _ (h7 k' t' hk2 h8 h9)
    · obtain rfl : k' = k := by omega
      rw [h8] at g1
      rw [Option.some.inj g1]
      exact k3
  · simp at hm
  · obtain ⟨x, g1, rfl⟩ := tell_get2 hm
    simp at hk5
  · rcases (h6 k m (Nat.le_refl _) hm).2.2 with h | h <;> omega
theorem Dp.take (h : Dp N s i) (m : Ct) (hk : m.kind = 2) : Dp N (cTakeS s m) i ∧ (cTakeN s m ≠ 0 → (cTakeS s m).st = true ∧ cTakeN s m = (cTakeS s m).un) := by
  by_cases he : m.ep = s.ep
  · have n0 : ¬ (m.ep ≠ s.ep) := fun h => h he
    have n6 : ¬ (m.kind = 6 ∧ m.n = s.du) := fun h3 => by omega
    have n4 : ¬ (m.kind = 4 ∧ m.n = s.du) := fun h3 => by omega
    by_cases h2 : m.kind = 2 ∧ m.n = s.un ∧ 0 < s.un
    · have e1 : cTakeS s m = { s with ak := ansL s.T s.ak m.task, st := s.st || ansB s.T s.ak m.task } := by unfold cTakeS; rw [if_neg n0, if_neg n6, if_neg n4, if_pos h2]
      have e2 : cTakeN s m = if m.kind = 2 ∧ m.n = s.un ∧ 0 < s.un ∧ ansB s.T s.ak m.task = true then s.un else 0 := by unfold cTakeN; rw [if_neg n0, if_neg n6, if_neg n4]
      rw [e1, e2]
      refine ⟨⟨h.ep, h.t, h.ss, h.rd, h.du, h.dn, h.ti, h.be, h.gr, h.pa, h.to_⟩, fun h3 => ?_⟩
      by_cases h4 : m.kind = 2 ∧ m.n = s.un ∧ 0 < s.un ∧ ansB s.T s.ak m.task = true
      · rw [if_pos h4, h4.2.2.2, Bool.or_true]
        exact ⟨rfl, rfl⟩
      · rw [if_neg h4] at h3
        exact absurd rfl h3
    · have e1 : cTakeS s m = s := by unfold cTakeS; rw [if_neg n0, if_neg n6, if_neg n4, if_neg h2]
      have e2 : cTakeN s m = 0 := by unfold cTakeN; rw [if_neg n0, if_neg n6, if_neg n4, if_neg (fun h => h2 ⟨h.1, h.2.1, h.2.2.1⟩)]
      rw [e1, e2]
      exact ⟨h, fun h => absurd rfl h⟩
  · have e1 : cTakeS s m = s := if_pos he
    have e2 : cTakeN s m = 0 := if_pos he
    rw [e1, e2]
    exact ⟨h, fun h => absurd rfl h⟩
theorem Dp.sto (h : Dp N s i) (hs : s.st = true) (hu : 0 < s.un) : Dp N (cStoS s s.un true) i := by
  have e1 : cStoS s s.un true = { s with un := 0, st := false, du := s.un, pa := s.to_, dn := [] } := by
    unfold cStoS
    rw [if_neg (fun h => by rcases h with h | h; rw [hs] at h; cases h; exact h rfl), if_neg (by simp)]
  rw [e1]
  exact ⟨h.ep, h.t, h.ss, h.rd, hu, rfl, h.ti, h.be, h.gr, h.to_, h.to_⟩
theorem Q3.trig (hL : 1 ≤ L ∧ L ≤ 5) (hT : T ≤ 20) (h : Q3 N I T L i o k s) {m : Ct} (hm : o[k]? = some m) (hk1 : m.kind = 1) {t : Nat} (htN : t < N) (ht : m.task = (t : Int)) :
    (cTakeN s ⟨2, m.ep, m.n, m.task⟩ = 0 ∧ Q3 N I T L i o (k + 1) (cTakeS s ⟨2, m.ep, m.n, m.task⟩)) ∨ (cTakeN s ⟨2, m.ep, m.n, m.task⟩ ≠ 0 ∧ Q3 N I T L i o (k + 1) (cStoS (cTakeS s ⟨2, m.ep, m.n, m.task⟩) (cTakeN s ⟨2, m.ep, m.n, m.task⟩) true)) := by
  rcases h with ⟨A0, A, rfl, _⟩ | ⟨rfl, _⟩ | ⟨r, a, ti, be, R, A0, AK, rfl, rfl, h3, h4, h5, h6, h7, h8, h9, h10, h11, h12, h13, h14⟩ | ⟨d, h1, h2, h3, h4, h5, h6⟩
  · obtain ⟨x, g1, rfl⟩ := tell_get2 hm
    simp at hk1
  · simp at hm
  · obtain ⟨x, g1, rfl⟩ := tell_get2 hm
    obtain rfl : x = (t : Int) := ht
    obtain ⟨k1, k2, k3, k4, k5⟩ := ans_set h3 htN h4
    have e1 : cTakeS (sU N I T (T * 2 ^ r) (r + 1) ti be R AK) ⟨2, 1, r + 1, (t : Int)⟩ = { sU N I T (T * 2 ^ r) (r + 1) ti be R AK with ak := ansL (rl N) AK (t : Int), st := ansB (rl N) AK (t : Int) } := by
      unfold cTakeS sU
      simp
    have e2 : cTakeN (sU N I T (T * 2 ^ r) (r + 1) ti be R AK) ⟨2, 1, r + 1, (t : Int)⟩ = if ansB (rl N) AK (t : Int) = true then r + 1 else 0 := by
      unfold cTakeN sU
      simp
    simp only
    rw [e1, e2]
    have hi : i < a + L := by
      rcases Nat.lt_or_ge i (a + L) with h | h
      · exact h
      · have := full_of hL.1 h3 (fun t j h1 h2 h3 h4 => h6 _ (h7 t j h1 h2 h3 h4)) h
        omega
    cases hb : ansB (rl N) AK (t : Int) with
    | false =>
      rw [if_neg (by simp)]
      refine .inl ⟨rfl, .inr (.inr (.inl ⟨r, a, ti, be, R, A0, ansL (rl N) AK (t : Int), rfl, rfl, k1, k5 hb, h5, fun x hx => k2 x (h6 x hx), h7, h8, h9, h10, h11, h12, h13, fun k' t' hk g8 g9 => ?_⟩))⟩
      rcases Nat.lt_or_ge k' k with hk2 | hk2
      · exact k2 _ (h14 k' t' hk2 g8 g9)
      · obtain rfl : k' = k := by omega
        rw [g8] at g1
        rw [Option.some.inj g1]
        exact k3
    | true =>
      rw [if_pos rfl]
      refine .inr ⟨by omega, .inr (.inr (.inr ⟨i + 1, ?_, by omega, fun j h1 h2 => by omega, fun h => by omega, fun h => by omega, fun k' m' hk hm' => ?_⟩))⟩
      · have e3 : cStoS { sU N I T (T * 2 ^ r) (r + 1) ti be R AK with ak := ansL (rl N) AK (t : Int), st := true } (r + 1) true = ⟨I, T, T, 1, r + 1, 0, false, r + 1, ti, be, rl N, [0], R, ansL (rl N) AK (t : Int), []⟩ := by
          unfold cStoS sU
          simp
        rw [e3]
        exact ⟨rfl, rfl, rfl, h5, Nat.succ_pos _, rfl, by show ti ≤ i + 1; omega, by show be ≤ ti; omega, by show r + 1 ≤ i + 1 + 10; omega, by show T ≤ 1048576; omega, by show T ≤ 1048576; omega⟩
      · obtain ⟨x, g2, rfl⟩ := tell_get2 hm'
        exact ⟨rfl, miss_get g2, .inl rfl⟩
  · have hd := h1.take ⟨2, m.ep, m.n, m.task⟩ rfl
    have hnext : ∀ s', Dp N s' (i + 1) → Q3 N I T L i o (k + 1) s' := fun s' hs' => .inr (.inr (.inr ⟨d, hs', h2, h3, h4, fun hd _ => by
      rcases Nat.eq_zero_or_pos k with hk | hk
      · subst hk
        have := ((h4 hd).2 m hm).2
        omega
      · exact h5 hd hk, fun k' m' hk hm' => by
      obtain ⟨a1, a2, a3⟩ := h6 k' m' (by omega) hm'
      refine ⟨a1, a2, ?_⟩
      rcases a3 with a3 | a3
      · exact .inl a3
      · omega⟩))
    by_cases hz : cTakeN s ⟨2, m.ep, m.n, m.task⟩ = 0
    · exact .inl ⟨hz, hnext _ hd.1⟩
    · obtain ⟨q1, q2⟩ := hd.2 hz
      refine .inr ⟨hz, hnext _ ?_⟩
      rw [q2]
      exact hd.1.sto q1 (by omega)
theorem Q3.done (hI : 1 ≤ I) (h : Q3 N I T L i o o.length s) : Q2 N I T L (i + 1) s := by
  rcases h with ⟨A0, A, rfl, rfl, h3, h4, h5, h6, h7⟩ | ⟨rfl, hw⟩ | ⟨r, a, ti, be, R, A0, AK, rfl, rfl, h3, h4, h5, h6, h7, h8, h9, h10, h11, h12, h13, h14⟩ | ⟨d, h1, h2, h3, h4, h5, h6⟩
  · have hh : hrd N L 0 (i + 1) A := fun t j ht hj0 hj hh => by
      rcases Nat.lt_or_ge j i with h | h
      · exact h4 _ (h5 t j ht hj0 h hh)
      · obtain rfl : j = i := by omega
        by_cases hA : (t : Int) ∈ A0
        · exact h4 _ hA
        · have hm : (t : Int) ∈ miss (rl N) A0 := List.mem_filter.2 ⟨rl_mem.2 ⟨by omega, by omega⟩, by simpa using hA⟩
          obtain ⟨k', hk', e⟩ := List.getElem_of_mem hm
          exact h7 k' t (by rw [tellL_len]; exact hk') (by rw [List.getElem?_eq_getElem hk', e]) hh
    rcases Nat.lt_or_ge A.length N with hl | hl
    · exact .inl ⟨A, rfl, h3, hl, hh⟩
    · have := gset_le h3
      refine .inr (.inl ⟨0, 0, 0, A, [], ?_, by omega, Nat.le_refl _, by omega, by omega, by omega, by omega⟩)
      simp [sP, sW]
  · exact .inr (.inl hw)
  · have hh : hrd N L a (i + 1) AK := fun t j ht hj0 hj hh => by
      rcases Nat.lt_or_ge j i with h | h
      · exact h6 _ (h7 t j ht hj0 h hh)
      · obtain rfl : j = i := by omega
        by_cases hA : (t : Int) ∈ A0
        · exact h6 _ hA
        · have hm : (t : Int) ∈ miss (rl N) A0 := List.mem_filter.2 ⟨rl_mem.2 ⟨by omega, by omega⟩, by simpa using hA⟩
          obtain ⟨k', hk', e⟩ := List.getElem_of_mem hm
          exact h14 k' t (by rw [tellL_len]; exact hk') (by rw [List.getElem?_eq_getElem hk', e]) hh
    exact .inr (.inr (.inl ⟨r, a, ti, be, R, AK, rfl, h3, h4, h5, hh, by omega, by omega, h10, by omega, h12, h13⟩))
  · refine .inr (.inr (.inr ⟨d, h1, h2, fun j hj0 hj => ?_⟩))
    rcases Nat.lt_or_ge j i with h | h
    · exact h3 j hj0 h
    · obtain rfl : j = i := by omega
      exact h5 hj0 (h4 hj0).1
end

end Go.Proofs.Ytgjjacljjlhnhaa
