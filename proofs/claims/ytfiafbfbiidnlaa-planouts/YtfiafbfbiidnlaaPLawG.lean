/-
  PlanGroups, walked.
-/
import Derived.Test.YtfiafbfbiidnlaaPKnown
namespace Go.Proofs.Ytfiafbfbiidnlaa
open Go.RowKit

/-- The part ahead of group t. -/
def lst (par : Int) (t : Nat) : Int := if t = 0 then -1 else prt ((t : Int) - 1) par
theorem lst_succ (par : Int) (t : Nat) : lst par (t + 1) = prt (t : Int) par := by
  unfold lst
  rw [if_neg (by omega)]
  congr 1
  omega
theorem lst_all : (List.range 16).all (fun t => [1, 2, 3, 4].all fun p : Int => (prt (t : Int) p == lst p t || prt (t : Int) p == lst p t + 1) && decide (-1 ≤ lst p t ∧ lst p t ≤ 4)) = true := by decide +kernel
theorem lst_end : [1, 2, 3, 4].all (fun p : Int => lst p 16 == p - 1 && prt 0 p == 0) = true := by decide +kernel
theorem par_cases {par : Int} (h1 : 1 ≤ par) (h4 : par ≤ 4) : par ∈ ([1, 2, 3, 4] : List Int) := by
  have : par = 1 ∨ par = 2 ∨ par = 3 ∨ par = 4 := by omega
  simpa using this
theorem lst_step {par : Int} (h1 : 1 ≤ par) (h4 : par ≤ 4) {t : Nat} (ht : t < 16) : (prt (t : Int) par = lst par t ∨ prt (t : Int) par = lst par t + 1) ∧ -1 ≤ lst par t ∧ lst par t ≤ 4 := by
  have h := List.all_eq_true.1 lst_all t (List.mem_range.2 ht)
  have h2 := List.all_eq_true.1 h par (par_cases h1 h4)
  simpa using h2
theorem lst_fin {par : Int} (h1 : 1 ≤ par) (h4 : par ≤ 4) : lst par 16 = par - 1 ∧ prt 0 par = 0 := by
  have h := List.all_eq_true.1 lst_end par (par_cases h1 h4)
  simpa using h
theorem prt_none {g par : Int} (h : par < 1 ∨ 4 < par) : prt g par = 0 := if_pos (by omega)

set_option maxHeartbeats 4000000 in
set_option maxRecDepth 100000 in
theorem PlanGroups_walk (key par : Int) (w : World) : Calls Try.prog 5 #[.int .i64 key, .int .i64 par] w fun e w' => e = .returned (.bool true) ∧ Below w.heap.size w w' := by
  have HK := hide (known_any w)
  have HG := hide (fun w => Group_any w key)
  have HRG := hide (fun w => RGroup_any w key)
  have hg := grp_lt key
  generalize grp key = g at *
  have b0 : ¬ (g : Int) < 0 := by omega
  have b16 : ¬ (16 : Int) ≤ (g : Int) := by omega
  have HPG := hide (fun w => Part_any w (g : Int) par)
  have HRP := hide (fun w => RPart_any w (g : Int) par)
  by_cases h1 : par < 1
  · rw [prt_none (.inl h1)] at HPG HRP
    as_aux_lemma =>
    go_enter Try.func5, Try.ntmps5
    go_wp2_with (first
      | (go_at_call 8; refine HK.out.mono ?_; rintro e w1 ⟨rfl, b1⟩)
      | (go_at_call 22; refine (HG.out _).mono ?_; rintro e w2 ⟨rfl, rfl⟩)
      | (go_at_call 23; refine (HRG.out _).mono ?_; rintro e w3 ⟨rfl, rfl⟩)
      | (go_at_call 24; refine (HPG.out _).mono ?_; rintro e w4 ⟨rfl, rfl⟩)
      | (go_at_call 25; refine (HRP.out _).mono ?_; rintro e w5 ⟨rfl, rfl⟩))
    go_ret
    exact ⟨rfl, b1⟩
  by_cases h4 : (4 : Int) < par
  · rw [prt_none (.inr h4)] at HPG HRP
    as_aux_lemma =>
    go_enter Try.func5, Try.ntmps5
    go_wp2_with (first
      | (go_at_call 8; refine HK.out.mono ?_; rintro e w1 ⟨rfl, b1⟩)
      | (go_at_call 22; refine (HG.out _).mono ?_; rintro e w2 ⟨rfl, rfl⟩)
      | (go_at_call 23; refine (HRG.out _).mono ?_; rintro e w3 ⟨rfl, rfl⟩)
      | (go_at_call 24; refine (HPG.out _).mono ?_; rintro e w4 ⟨rfl, rfl⟩)
      | (go_at_call 25; refine (HRP.out _).mono ?_; rintro e w5 ⟨rfl, rfl⟩))
    go_ret
    exact ⟨rfl, b1⟩
  have HS : Hid (∀ t : Nat, t < 16 → (prt (t : Int) par = lst par t ∨ prt (t : Int) par = lst par t + 1) ∧ -1 ≤ lst par t ∧ lst par t ≤ 4) := fun t ht => lst_step (by omega) (by omega) ht
  have HE := hide (lst_fin (par := par) (by omega) (by omega))
  generalize prt (g : Int) par = pg at *
  as_aux_lemma =>
  go_enter Try.func5, Try.ntmps5
  go_wp2_with (first
    | (go_at_call 8; refine HK.out.mono ?_; rintro e w1 ⟨rfl, b1⟩; have B1 := hide b1; clear b1)
    | (go_at_call 22; refine (HG.out _).mono ?_; rintro e w2 ⟨rfl, rfl⟩)
    | (go_at_call 23; refine (HRG.out _).mono ?_; rintro e w3 ⟨rfl, rfl⟩)
    | (go_at_call 24; refine (HPG.out _).mono ?_; rintro e w4 ⟨rfl, rfl⟩)
    | (go_at_call 25; refine (HRP.out _).mono ?_; rintro e w5 ⟨rfl, rfl⟩))
  go_loopg [6, 7] 17 (fun gh lv iv wr => ∃ t : Nat, iv = .int .i64 (t : Int) ∧ t ≤ 16 ∧ 17 ≤ gh + t ∧ lv = .int .i64 (lst par t) ∧ Hid (Below w.heap.size w wr))
  case atStart => exact ⟨0, rfl, by omega, by omega, rfl, B1⟩
  case round =>
    obtain ⟨t, rfl, ht, hgt, rfl, GB⟩ := hrel
    obtain ⟨go, rfl⟩ : ∃ go, gk = go + 1 := ⟨gk - 1, by omega⟩
    by_cases hlt : t < 16
    · have bt : (t : Int) < 16 := by omega
      obtain ⟨hs, hl0, hl4⟩ := HS.out t hlt
      have HN := hide (lst_succ par t)
      have HPT := hide (fun w => Part_any w (t : Int) par)
      generalize prt (t : Int) par = q at *
      generalize lst par t = l at *
      rcases hs with hs | hs
      · subst hs
        as_aux_lemma =>
        go_wp2_with (go_at_call 24; refine (HPT.out _).mono ?_; rintro e w4 ⟨rfl, rfl⟩)
        go_roundg go
        case rel => exact ⟨t + 1, by go_num, by omega, by omega, by rw [HN.out], GB⟩
        case measure => omega
      · subst hs
        as_aux_lemma =>
        go_wp2_with (go_at_call 24; refine (HPT.out _).mono ?_; rintro e w4 ⟨rfl, rfl⟩)
        go_roundg go
        case rel => exact ⟨t + 1, by go_num, by omega, by omega, by rw [HN.out], GB⟩
        case measure => omega
    · have bt : ¬ (t : Int) < 16 := by omega
      have hte : t = 16 := by omega
      have HL : Hid (lst par t = par - 1) := (show _ = _ by rw [hte]; exact HE.out.1)
      have HP0 := hide (fun w => Part_any w 0 par)
      rw [HE.out.2] at HP0
      rw [HL.out]
      clear hte
      as_aux_lemma =>
      go_wp2_with (go_at_call 24; refine (HP0.out _).mono ?_; rintro e w4 ⟨rfl, rfl⟩)
      go_ret
      exact ⟨rfl, GB.out⟩
end Go.Proofs.Ytfiafbfbiidnlaa
