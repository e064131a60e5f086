/-
  moveOn.
-/
import Derived.Test.YtgjjacljjlhnhaaCNext
namespace Go.Proofs.Ytgjjacljjlhnhaa
open Go.RowKit

theorem CX.drewN {w : World} {k : Nat} {P : Sh} {s : Cd} (h : CX w k P s) (n : Nat) : CX (w.drewN n) k P s := h.below (below_drewN (Below.refl _ _) n)
theorem CX.cpN {w : World} {k : Nat} {P : Sh} {s : Cd} (h : CX w k P s) (n : Nat) : CP w (w.drewN n) k P s := h.cp.below (below_drewN (Below.refl _ _) n)
set_option maxHeartbeats 4000000 in
set_option maxRecDepth 100000 in
theorem moveOn_idle {w : World} {k : Nat} {P : Sh} {s : Cd} (h : CX w k P s) (ht : s.ti < 1000000000) (hb : s.be ≤ s.ti) (hu : 0 < s.un) (hc : s.st = true ∨ s.ti < s.be + s.pa) :
    Calls Try.prog 32 #[.pointer (some ⟨k, 0, none⟩)] w fun e w' => e = .returned (.tuple #[]) ∧ CP w w' k P s := by
  have z0 := h.c0
  have z2 := h.c2
  have z5 := h.c5
  have z6 := h.c6
  have z8 := h.c8
  have z9 := h.c9
  have zf := h.wfree
  have H := hide h
  obtain ⟨d, hd⟩ : ∃ d : Int, (s.ti : Int) - (s.be : Int) = d := ⟨_, rfl⟩
  have hu0 : (s.un : Int) > 0 := by omega
  have hu1 : ¬ (s.un : Int) = 0 := by omega
  clear h
  by_cases hs : s.st = true
  · rw [hs] at z6
    clear hc hu
    go_enter Try.func32, Try.ntmps32
    go_wp2_with fail
    go_quiet (fail)
    go_wp2_with fail
    go_end0
    exact ⟨rfl, H.out.cpN _⟩
  · have hs' : s.st = false := by simpa using hs
    rw [hs'] at z6
    have hp : ¬ (d ≥ (s.pa : Int)) := by rcases hc with hc | hc; exact absurd hc hs; omega
    clear hc hu hs
    go_enter Try.func32, Try.ntmps32
    go_wp2_with fail
    go_quiet (fail)
    go_wp2_with fail
    go_end0
    exact ⟨rfl, H.out.cpN _⟩
set_option maxHeartbeats 4000000 in
set_option maxRecDepth 100000 in
theorem moveOn_free {w : World} {k : Nat} {P : Sh} {s : Cd} (h : CX w k P s) (ht : s.ti < 1000000000) (hb : s.be ≤ s.ti) (hg : s.gr < 4611686018427387904) (hu : s.un = 0) :
    Calls Try.prog 32 #[.pointer (some ⟨k, 0, none⟩)] w fun e w' => e = .returned (.tuple #[]) ∧ CP w w' k P (if s.be + s.iv ≤ s.ti then cNext s else s) := by
  have z0 := h.c0
  have z2 := h.c2
  have z5 := h.c5
  have z6 := h.c6
  have z8 := h.c8
  have z9 := h.c9
  have zf := h.wfree
  have H := hide h
  obtain ⟨d, hd⟩ : ∃ d : Int, (s.ti : Int) - (s.be : Int) = d := ⟨_, rfl⟩
  rw [hu] at z5
  clear h
  by_cases hs : s.be + s.iv ≤ s.ti
  · rw [if_pos hs]
    have hp : d ≥ (s.iv : Int) := by omega
    clear hs hu
    go_enter Try.func32, Try.ntmps32
    go_wp2_with fail
    go_quiet (fail)
    go_wp2_with (first | (go_at_call 40; refine (beginNext_any (H.out.drewN _) hg).mono ?_; rintro e w5 ⟨rfl, c5⟩; have C5 := hide c5; clear c5) | fail)
    go_end0
    exact ⟨rfl, (H.out.cpN _).trans C5.out⟩
  · rw [if_neg hs]
    have hp : ¬ d ≥ (s.iv : Int) := by omega
    clear hs hu
    go_enter Try.func32, Try.ntmps32
    go_wp2_with fail
    go_quiet (fail)
    go_wp2_with fail
    go_end0
    exact ⟨rfl, H.out.cpN _⟩
set_option maxHeartbeats 4000000 in
set_option maxRecDepth 100000 in
theorem moveOn_give {w : World} {k : Nat} {P : Sh} {s : Cd} (h : CX w k P s) (ht : s.ti < 1000000000) (hb : s.be ≤ s.ti) (hg : s.gr < 4611686018427387904) (hpa : s.pa ≤ 1048576) (hu : 0 < s.un) (hst : s.st = false) (hq : s.be + s.pa ≤ s.ti) :
    Calls Try.prog 32 #[.pointer (some ⟨k, 0, none⟩)] w fun e w' => e = .returned (.tuple #[]) ∧ CP w w' k P (if s.be + s.iv ≤ s.ti then cNext { s with un := 0, pa := min (2 * s.pa) 1048576 } else { s with un := 0, pa := min (2 * s.pa) 1048576 }) := by
  have z0 := h.c0
  have z2 := h.c2
  have z5 := h.c5
  have z6 := h.c6
  have z8 := h.c8
  have z9 := h.c9
  have zf := h.wfree
  have H := hide h
  obtain ⟨d, hd⟩ : ∃ d : Int, (s.ti : Int) - (s.be : Int) = d := ⟨_, rfl⟩
  have hu0 : (s.un : Int) > 0 := by omega
  have hp : d ≥ (s.pa : Int) := by omega
  rw [hst] at z6
  clear h
  have HC : Hid (∀ n x, x = ((min (2 * s.pa) 1048576 : Nat) : Int) → CP w (((w.drewN n).setCell ⟨k, 5, none⟩ (.int .u64 0)).setCell ⟨k, 2, none⟩ (.int .i64 x)) k P { s with un := 0, pa := min (2 * s.pa) 1048576 }) := hide (fun n x hx => by
    subst hx
    exact ((H.out.cpN n).set { s with un := 0 } 5 (.int .u64 0) rfl rfl rfl rfl rfl rfl).set { s with un := 0, pa := min (2 * s.pa) 1048576 } 2 _ rfl rfl rfl rfl rfl rfl)
  by_cases hs : s.be + s.iv ≤ s.ti
  · rw [if_pos hs]
    have hi : d ≥ (s.iv : Int) := by omega
    clear hs hu hst
    by_cases hm : 2 * s.pa ≤ 1048576
    · have hm1 : 2 * (s.pa : Int) ≤ 1048576 := by omega
      go_enter Try.func32, Try.ntmps32
      go_wp2_with fail
      go_quiet (fail)
      go_wp2_with (first | (go_at_call 40; refine (beginNext_any (HC.out _ _ (by omega)).x hg).mono ?_; rintro e w5 ⟨rfl, c5⟩; have C5 := hide c5; clear c5) | fail)
      go_end0
      exact ⟨rfl, (HC.out _ _ (by omega)).trans C5.out⟩
    · have hm1 : ¬ 2 * (s.pa : Int) ≤ 1048576 := by omega
      go_enter Try.func32, Try.ntmps32
      go_wp2_with fail
      go_quiet (fail)
      go_wp2_with (first | (go_at_call 40; refine (beginNext_any (HC.out _ _ (by omega)).x hg).mono ?_; rintro e w5 ⟨rfl, c5⟩; have C5 := hide c5; clear c5) | fail)
      go_end0
      exact ⟨rfl, (HC.out _ _ (by omega)).trans C5.out⟩
  · rw [if_neg hs]
    have hi : ¬ d ≥ (s.iv : Int) := by omega
    clear hs hu hst
    by_cases hm : 2 * s.pa ≤ 1048576
    · have hm1 : 2 * (s.pa : Int) ≤ 1048576 := by omega
      go_enter Try.func32, Try.ntmps32
      go_wp2_with fail
      go_quiet (fail)
      go_wp2_with fail
      go_end0
      exact ⟨rfl, HC.out _ _ (by omega)⟩
    · have hm1 : ¬ 2 * (s.pa : Int) ≤ 1048576 := by omega
      go_enter Try.func32, Try.ntmps32
      go_wp2_with fail
      go_quiet (fail)
      go_wp2_with fail
      go_end0
      exact ⟨rfl, HC.out _ _ (by omega)⟩
theorem moveOn_any {w : World} {k : Nat} {P : Sh} {s : Cd} (h : CX w k P s) (ht : s.ti < 1000000000) (hb : s.be ≤ s.ti) (hg : s.gr < 4611686018427387904) (hpa : s.pa ≤ 1048576) :
    Calls Try.prog 32 #[.pointer (some ⟨k, 0, none⟩)] w fun e w' => e = .returned (.tuple #[]) ∧ CP w w' k P (cMove s) := by
  by_cases hu : s.un = 0
  · have e : cMove s = if s.be + s.iv ≤ s.ti then cNext s else s := by
      unfold cMove cGive
      simp [hu]
    rw [e]
    exact moveOn_free h ht hb hg hu
  · by_cases hc : s.st = false ∧ s.be + s.pa ≤ s.ti
    · have e : cMove s = if s.be + s.iv ≤ s.ti then cNext { s with un := 0, pa := min (2 * s.pa) 1048576 } else { s with un := 0, pa := min (2 * s.pa) 1048576 } := by
        have e1 : cGive s = { s with un := 0, pa := min (2 * s.pa) 1048576 } := if_pos ⟨by omega, hc.1, hc.2⟩
        unfold cMove
        rw [e1]
        simp
      rw [e]
      exact moveOn_give h ht hb hg hpa (by omega) hc.1 hc.2
    · have e : cMove s = s := by
        have e1 : cGive s = s := by
          unfold cGive
          rw [if_neg (fun h1 => hc ⟨h1.2.1, h1.2.2⟩)]
        unfold cMove
        rw [e1, if_neg (fun h1 => hu h1.1)]
      rw [e]
      refine moveOn_idle h ht hb (by omega) ?_
      by_cases h1 : s.st = true
      · exact .inl h1
      · exact .inr (by
          rcases Nat.lt_or_ge s.ti (s.be + s.pa) with h2 | h2
          · exact h2
          · exact absurd ⟨by simpa using h1, h2⟩ hc)

end Go.Proofs.Ytgjjacljjlhnhaa
