/-
  Begin.
-/
import Derived.Test.YtgjjacljjlhnhaaCMove
namespace Go.Proofs.Ytgjjacljjlhnhaa
open Go.RowKit

theorem max2u (a b : Nat) (w : World) : (Builtin.max2 (.int .u64 (a : Int)) (.int .u64 (b : Int))).run Try.prog w = .ok (.int .u64 ((max a b : Nat) : Int)) w := by
  unfold Builtin.max2
  simp
  split <;> omega
theorem max3u (a b c : Nat) (w : World) (ats : Array TypeId) (ty : TypeId) : (Builtin.max_ ats ty #[.int .u64 (a : Int), .int .u64 (b : Int), .int .u64 (c : Int)]).run Try.prog w = .ok (.int .u64 ((max (max a b) c : Nat) : Int)) w := by
  unfold Builtin.max_
  simp [List.foldlM, max2u, Result.andThen]
set_option maxHeartbeats 4000000 in
set_option maxRecDepth 100000 in
theorem Begin_old {w : World} {k : Nat} {P : Sh} {s : Cd} (h : CX w k P s) (e f l : Nat) (he : e ≤ s.ep) :
    Calls Try.prog 14 #[.pointer (some ⟨k, 0, none⟩), .int .u64 (e : Int), .int .u64 (f : Int), .int .u64 (l : Int)] w fun r w' => r = .returned (.slice none 0 0) ∧ w = w' := by
  have z3 := h.c3
  have hp : (e : Int) ≤ (s.ep : Int) := by omega
  clear h he
  go_enter Try.func14, Try.ntmps14
  go_wp2_with fail
  go_ret
  exact ⟨rfl, rfl⟩
set_option maxHeartbeats 4000000 in
set_option maxRecDepth 100000 in
theorem Begin_new {w : World} {k : Nat} {P : Sh} {s : Cd} (h : CX w k P s) (e f l : Nat) (he : ¬ e ≤ s.ep) :
    Calls Try.prog 14 #[.pointer (some ⟨k, 0, none⟩), .int .u64 (e : Int), .int .u64 (f : Int), .int .u64 (l : Int)] w fun r w' => ∃ u, r = .returned u ∧ OwnL 32 4 Ct.cs w.heap.size w' u (cRest (cBegS s e f l)) ∧ CP w w' k P (cBegS s e f l) := by
  have e1 : cBegS s e f l = { s with ep := e, du := f, gr := max (max s.gr f) l, un := 0, st := false, pa := s.to_, ti := 0, be := 0, rd := [], dn := [] } := if_neg he
  rw [e1]
  have z1 := h.c1
  have z2 := h.c2
  have z3 := h.c3
  have z4 := h.c4
  have z5 := h.c5
  have z6 := h.c6
  have z7 := h.c7
  have z8 := h.c8
  have z9 := h.c9
  have z10 := h.c10
  have z11 := h.c11
  have z12 := h.c12
  have zf := h.wfree
  have hp : ¬ (e : Int) ≤ (s.ep : Int) := by omega
  have HC : Hid (∀ x, x = ((max (max s.gr f) l : Nat) : Int) → CP w (((((((((w.setCell ⟨k, 3, none⟩ (.int .u64 (e : Int))).setCell ⟨k, 4, none⟩ (.int .u64 (f : Int))).setCell ⟨k, 7, none⟩ (.int .u64 x)).setCell ⟨k, 5, none⟩ (.int .u64 0)).setCell ⟨k, 6, none⟩ (.bool false)).setCell ⟨k, 2, none⟩ (.int .i64 (s.to_ : Int))).setCell ⟨k, 8, none⟩ (.int .i64 0)).setCell ⟨k, 9, none⟩ (.int .i64 0))) k P { s with ep := e, du := f, gr := max (max s.gr f) l, un := 0, st := false, pa := s.to_, ti := 0, be := 0 }) := hide (fun x hx => by
    subst hx
    exact (((((((h.cp.set { s with ep := e } 3 (.int .u64 (e : Int)) rfl rfl rfl rfl rfl rfl).set { s with ep := e, du := f } 4 (.int .u64 (f : Int)) rfl rfl rfl rfl rfl rfl).set { s with ep := e, du := f, gr := max (max s.gr f) l } 7 _ rfl rfl rfl rfl rfl rfl).set { s with ep := e, du := f, gr := max (max s.gr f) l, un := 0 } 5 (.int .u64 0) rfl rfl rfl rfl rfl rfl).set { s with ep := e, du := f, gr := max (max s.gr f) l, un := 0, st := false } 6 (.bool false) rfl rfl rfl rfl rfl rfl).set { s with ep := e, du := f, gr := max (max s.gr f) l, un := 0, st := false, pa := s.to_ } 2 (.int .i64 (s.to_ : Int)) rfl rfl rfl rfl rfl rfl).set { s with ep := e, du := f, gr := max (max s.gr f) l, un := 0, st := false, pa := s.to_, ti := 0 } 8 (.int .i64 0) rfl rfl rfl rfl rfl rfl).set { s with ep := e, du := f, gr := max (max s.gr f) l, un := 0, st := false, pa := s.to_, ti := 0, be := 0 } 9 (.int .i64 0) rfl rfl rfl rfl rfl rfl)
  clear h he e1
  have hmax := max3u s.gr f l
  generalize max (max s.gr f) l = M at *
  go_enter Try.func14, Try.ntmps14
  go_wp2_with (first | ((have chk := z12); clear chk; go_at_call 29; refine (askAgain_any (HC.out _ rfl).x.q1 P.v1 (.map (some P.o1))).mono ?_; rintro r w5 ⟨rfl, s5, g5⟩; have C5 := hide ((HC.out _ rfl).trans ⟨(HC.out _ rfl).x.turn1 s5 g5, FT.of_grown g5 (.inr (.inl rfl))⟩); clear s5 g5 z1 z2 z3 z4 z5 z6 z7 z8 z9 z10 z11 z12; have y16 := C5.out.x.c16; have y17 := C5.out.x.c17; have y18 := C5.out.x.c18) | ((have chk := y18); clear chk; go_at_call 29; refine (askAgain_any C5.out.x.q3 P.v2 (.map (some P.o3))).mono ?_; rintro r w6 ⟨rfl, s5, g5⟩; have C6 := hide (C5.out.trans ⟨C5.out.x.turn3 s5 g5, FT.of_grown g5 (.inr (.inr (.inr rfl)))⟩); clear s5 g5) | (go_at_call 30; refine (restores_any C6.out.x).mono ?_; rintro r w7 ⟨u, rfl, o7, b7⟩; have O7 := hide o7; have C7 := hide (C6.out.below b7); clear o7 b7) | fail)
  go_ret
  exact ⟨_, rfl, O7.out.mono C6.out.f.size, C7.out⟩
theorem Begin_any {w : World} {k : Nat} {P : Sh} {s : Cd} (h : CX w k P s) (e f l : Nat) :
    Calls Try.prog 14 #[.pointer (some ⟨k, 0, none⟩), .int .u64 (e : Int), .int .u64 (f : Int), .int .u64 (l : Int)] w fun r w' => ∃ u, r = .returned u ∧ OwnL 32 4 Ct.cs w.heap.size w' u (cBegO s e f l) ∧ CP w w' k P (cBegS s e f l) := by
  by_cases he : e ≤ s.ep
  · have e1 : cBegS s e f l = s := if_pos he
    have e2 : cBegO s e f l = [] := if_pos he
    rw [e1, e2]
    refine (Begin_old h e f l he).mono ?_
    rintro r w' ⟨rfl, rfl⟩
    exact ⟨_, rfl, OwnL.nil _ _ _ _ _, h.cp⟩
  · have e2 : cBegO s e f l = cRest (cBegS s e f l) := if_neg he
    rw [e2]
    exact Begin_new h e f l he

end Go.Proofs.Ytgjjacljjlhnhaa
