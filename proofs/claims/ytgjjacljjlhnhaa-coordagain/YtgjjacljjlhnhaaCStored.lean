/-
  Stored.
-/
import Derived.Test.YtgjjacljjlhnhaaCTick
namespace Go.Proofs.Ytgjjacljjlhnhaa
open Go.RowKit

set_option maxHeartbeats 4000000 in
set_option maxRecDepth 100000 in
theorem Stored_no {w : World} {k : Nat} {P : Sh} {s : Cd} (h : CX w k P s) (n : Nat) (ok : Bool) (hc : s.st = false ∨ n ≠ s.un) :
    Calls Try.prog 18 #[.pointer (some ⟨k, 0, none⟩), .int .u64 (n : Int), .bool ok] w fun r w' => r = .returned (.slice none 0 0) ∧ w = w' := by
  have z5 := h.c5
  have z6 := h.c6
  clear h
  by_cases hs : s.st = false
  · rw [hs] at z6
    clear hc
    go_enter Try.func18, Try.ntmps18
    go_wp2_with fail
    go_ret
    exact ⟨rfl, rfl⟩
  · have hs' : s.st = true := by simpa using hs
    have bq : ¬ ((n : Int) = (s.un : Int)) := by rcases hc with hc | hc; exact absurd hc hs; omega
    rw [hs'] at z6
    clear hc
    go_enter Try.func18, Try.ntmps18
    go_wp2_with fail
    go_ret
    exact ⟨rfl, rfl⟩
set_option maxHeartbeats 4000000 in
set_option maxRecDepth 100000 in
theorem Stored_bad {w : World} {k : Nat} {P : Sh} {s : Cd} (h : CX w k P s) (hs : s.st = true) :
    Calls Try.prog 18 #[.pointer (some ⟨k, 0, none⟩), .int .u64 (s.un : Int), .bool false] w fun r w' => r = .returned (.slice none 0 0) ∧ CP w w' k P { s with un := 0, st := false } := by
  have z5 := h.c5
  have z6 := h.c6
  have zf := h.wfree
  rw [hs] at z6
  have HC := hide ((h.cp.set { s with un := 0 } 5 (.int .u64 0) rfl rfl rfl rfl rfl rfl).set { s with un := 0, st := false } 6 (.bool false) rfl rfl rfl rfl rfl rfl)
  clear h
  go_enter Try.func18, Try.ntmps18
  go_wp2_with fail
  go_ret
  exact ⟨rfl, HC.out⟩
set_option maxHeartbeats 4000000 in
set_option maxRecDepth 100000 in
theorem Stored_ok {w : World} {k : Nat} {P : Sh} {s : Cd} (h : CX w k P s) (hs : s.st = true) :
    Calls Try.prog 18 #[.pointer (some ⟨k, 0, none⟩), .int .u64 (s.un : Int), .bool true] w fun r w' => ∃ u, r = .returned u ∧ OwnL 32 4 Ct.cs w.heap.size w' u (cComm { s with un := 0, st := false, du := s.un, pa := s.to_, dn := [] }) ∧ CP w w' k P { s with un := 0, st := false, du := s.un, pa := s.to_, dn := [] } := by
  have z1 := h.c1
  have z2 := h.c2
  have z4 := h.c4
  have z5 := h.c5
  have z6 := h.c6
  have z16 := h.c16
  have z17 := h.c17
  have z18 := h.c18
  have zf := h.wfree
  rw [hs] at z6
  have HC := hide ((((h.cp.set { s with un := 0 } 5 (.int .u64 0) rfl rfl rfl rfl rfl rfl).set { s with un := 0, st := false } 6 (.bool false) rfl rfl rfl rfl rfl rfl).set { s with un := 0, st := false, du := s.un } 4 (.int .u64 (s.un : Int)) rfl rfl rfl rfl rfl rfl).set { s with un := 0, st := false, du := s.un, pa := s.to_ } 2 (.int .i64 (s.to_ : Int)) rfl rfl rfl rfl rfl rfl)
  clear h
  go_enter Try.func18, Try.ntmps18
  go_wp2_with (first | (go_at_call 29; refine (askAgain_any HC.out.x.q3 P.v2 (.map (some P.o3))).mono ?_; rintro r w5 ⟨rfl, s5, g5⟩; have C5 := hide (HC.out.trans ⟨HC.out.x.turn3 s5 g5, FT.of_grown g5 (.inr (.inr (.inr rfl)))⟩); clear s5 g5 z1 z2 z4 z5 z6 z16 z17 z18) | (go_at_call 33; refine (commits_any C5.out.x).mono ?_; rintro r w6 ⟨u, rfl, o6, b6⟩; have O6 := hide (o6.mono C5.out.f.size); have C6 := hide (C5.out.below b6); clear o6 b6) | fail)
  go_ret
  exact ⟨_, rfl, O6.out, C6.out⟩
theorem Stored_any {w : World} {k : Nat} {P : Sh} {s : Cd} (h : CX w k P s) (n : Nat) (ok : Bool) :
    Calls Try.prog 18 #[.pointer (some ⟨k, 0, none⟩), .int .u64 (n : Int), .bool ok] w fun r w' => ∃ u, r = .returned u ∧ OwnL 32 4 Ct.cs w.heap.size w' u (cStoO s n ok) ∧ CP w w' k P (cStoS s n ok) := by
  by_cases hc : s.st = false ∨ n ≠ s.un
  · have e1 : cStoS s n ok = s := if_pos hc
    have e2 : cStoO s n ok = [] := if_pos hc
    rw [e1, e2]
    refine (Stored_no h n ok hc).mono ?_
    rintro r w' ⟨rfl, rfl⟩
    exact ⟨_, rfl, OwnL.nil _ _ _ _ _, h.cp⟩
  · have hs : s.st = true := by
      cases hq : s.st with
      | true => rfl
      | false => exact absurd (.inl hq) hc
    have hn : n = s.un := by
      rcases Nat.decEq n s.un with e | e
      · exact absurd (.inr e) hc
      · exact e
    cases ok with
    | false =>
      have e1 : cStoS s n false = { s with un := 0, st := false } := by unfold cStoS; rw [if_neg hc, if_pos rfl]
      have e2 : cStoO s n false = [] := by unfold cStoO; rw [if_neg hc, if_pos rfl]
      rw [e1, e2, hn]
      refine (Stored_bad h hs).mono ?_
      rintro r w' ⟨rfl, c⟩
      exact ⟨_, rfl, OwnL.nil _ _ _ _ _, c⟩
    | true =>
      have e1 : cStoS s n true = { s with un := 0, st := false, du := s.un, pa := s.to_, dn := [] } := by unfold cStoS; rw [if_neg hc, if_neg (by simp), hn]
      have e2 : cStoO s n true = cComm (cStoS s n true) := by unfold cStoO; rw [if_neg hc, if_neg (by simp)]
      rw [e2, e1, hn]
      exact Stored_ok h hs

end Go.Proofs.Ytgjjacljjlhnhaa
