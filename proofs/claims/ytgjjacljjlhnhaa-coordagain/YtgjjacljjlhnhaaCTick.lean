/-
  Tick, and what is asked.
-/
import Derived.Test.YtgjjacljjlhnhaaCBegin
namespace Go.Proofs.Ytgjjacljjlhnhaa
open Go.RowKit

section
variable {w : World} {k : Nat} {P : Sh} {s : Cd}
theorem full1 (h : CX w k P s) : Calls Try.prog 31 #[.agg #[P.v1, .map (some P.o1), .map (some P.a1)]] w fun e w' => e = .returned (.bool (s.rd.length == s.T.length)) ∧ Below w.heap.size w w' := by
  obtain ⟨ao, cap, e⟩ := h.shape1
  rw [e]
  exact full_any h.q1 ao _ cap _
theorem full3 (h : CX w k P s) : Calls Try.prog 31 #[.agg #[P.v2, .map (some P.o3), .map (some P.a3)]] w fun e w' => e = .returned (.bool (s.dn.length == s.S.length)) ∧ Below w.heap.size w w' := by
  obtain ⟨ao, cap, e⟩ := h.shape2
  rw [e]
  exact full_any h.q3 ao _ cap _
theorem ans1 (h : CX w k P s) {x : Int} (hx : In64 x) : Calls Try.prog 35 #[.agg #[P.v1, .map (some P.o1), .map (some P.a1)], .int .i64 x] w fun e w' => e = .returned (.bool (ansB s.T s.rd x)) ∧ CP w w' k P { s with rd := ansL s.T s.rd x } := by
  obtain ⟨ao, cap, e⟩ := h.shape1
  rw [e]
  refine (answer_any h.p1 (fun _ => List.mem_reverse) h.q1 ao cap hx).mono ?_
  rintro r w' ⟨rfl, s1, g1⟩
  exact ⟨rfl, h.turn1 s1 g1, FT.of_grown g1 (.inr (.inl rfl))⟩
theorem ans2 (h : CX w k P s) {x : Int} (hx : In64 x) : Calls Try.prog 35 #[.agg #[P.v1, .map (some P.o2), .map (some P.a2)], .int .i64 x] w fun e w' => e = .returned (.bool (ansB s.T s.ak x)) ∧ CP w w' k P { s with ak := ansL s.T s.ak x } := by
  obtain ⟨ao, cap, e⟩ := h.shape1
  rw [e]
  refine (answer_any h.p2 (fun _ => List.mem_reverse) h.q2 ao cap hx).mono ?_
  rintro r w' ⟨rfl, s1, g1⟩
  exact ⟨rfl, h.turn2 s1 g1, FT.of_grown g1 (.inr (.inr (.inl rfl)))⟩
theorem ans3 (h : CX w k P s) {x : Int} (hx : In64 x) : Calls Try.prog 35 #[.agg #[P.v2, .map (some P.o3), .map (some P.a3)], .int .i64 x] w fun e w' => e = .returned (.bool (ansB s.S s.dn x)) ∧ CP w w' k P { s with dn := ansL s.S s.dn x } := by
  obtain ⟨ao, cap, e⟩ := h.shape2
  rw [e]
  refine (answer_any h.p3 (fun _ => List.mem_reverse) h.q3 ao cap hx).mono ?_
  rintro r w' ⟨rfl, s1, g1⟩
  exact ⟨rfl, h.turn3 s1 g1, FT.of_grown g1 (.inr (.inr (.inr rfl)))⟩
end
theorem tellL_len (k : Int) (e n : Nat) (l : List Int) : (tellL k e n l).length = l.length := List.length_map ..
theorem cComm_len (s : Cd) : (cComm s).length ≤ s.S.length := by
  unfold cComm
  split
  · simp
  · rw [tellL_len]; exact miss_len _ _
theorem cTrig_len (s : Cd) : (cTrig s).length ≤ s.T.length := by
  unfold cTrig
  split
  · simp
  · rw [tellL_len]; exact miss_len _ _
set_option maxHeartbeats 4000000 in
set_option maxRecDepth 100000 in
theorem Under_any {w : World} {k : Nat} {P : Sh} {s : Cd} (h : CX w k P s) :
    Calls Try.prog 17 #[.pointer (some ⟨k, 0, none⟩)] w fun e w' => e = .returned (.int .u64 (s.un : Int)) ∧ w = w' := by
  have z := h.c5
  clear h
  go_enter Try.func17, Try.ntmps17
  go_wp2_with fail
  go_ret
  exact ⟨rfl, rfl⟩
set_option maxHeartbeats 4000000 in
set_option maxRecDepth 100000 in
theorem Epoch_any {w : World} {k : Nat} {P : Sh} {s : Cd} (h : CX w k P s) :
    Calls Try.prog 20 #[.pointer (some ⟨k, 0, none⟩)] w fun e w' => e = .returned (.int .u64 (s.ep : Int)) ∧ w = w' := by
  have z := h.c3
  clear h
  go_enter Try.func20, Try.ntmps20
  go_wp2_with fail
  go_ret
  exact ⟨rfl, rfl⟩
set_option maxHeartbeats 4000000 in
set_option maxRecDepth 100000 in
theorem Durable_any {w : World} {k : Nat} {P : Sh} {s : Cd} (h : CX w k P s) :
    Calls Try.prog 21 #[.pointer (some ⟨k, 0, none⟩)] w fun e w' => e = .returned (.int .u64 (s.du : Int)) ∧ w = w' := by
  have z := h.c4
  clear h
  go_enter Try.func21, Try.ntmps21
  go_wp2_with fail
  go_ret
  exact ⟨rfl, rfl⟩
set_option maxHeartbeats 4000000 in
set_option maxRecDepth 100000 in
theorem Timeout_any {w : World} {k : Nat} {P : Sh} {s : Cd} (h : CX w k P s) :
    Calls Try.prog 23 #[.pointer (some ⟨k, 0, none⟩)] w fun e w' => e = .returned (.int .i64 (s.pa : Int)) ∧ w = w' := by
  have z := h.c2
  clear h
  go_enter Try.func23, Try.ntmps23
  go_wp2_with fail
  go_ret
  exact ⟨rfl, rfl⟩
set_option maxHeartbeats 4000000 in
set_option maxRecDepth 100000 in
theorem Tick_idle {w : World} {k : Nat} {P : Sh} {s : Cd} (h : CX w k P s) (he : s.ep = 0) :
    Calls Try.prog 15 #[.pointer (some ⟨k, 0, none⟩)] w fun r w' => r = .returned (.slice none 0 0) ∧ w = w' := by
  have z3 := h.c3
  rw [he] at z3
  clear h he
  go_enter Try.func15, Try.ntmps15
  go_wp2_with fail
  go_ret
  exact ⟨rfl, rfl⟩
set_option maxHeartbeats 4000000 in
set_option maxRecDepth 100000 in
theorem Tick_not {w : World} {k : Nat} {P : Sh} {s : Cd} (h : CX w k P s) (he : ¬ s.ep = 0) (hf : ¬ s.rd.length = s.T.length) :
    Calls Try.prog 15 #[.pointer (some ⟨k, 0, none⟩)] w fun r w' => ∃ u, r = .returned u ∧ OwnL 32 4 Ct.cs w.heap.size w' u (cRest s) ∧ Below w.heap.size w w' := by
  have z3 := h.c3
  have z10 := h.c10
  have z11 := h.c11
  have z12 := h.c12
  have bq : ¬ ((s.ep : Nat) : Int) = 0 := by omega
  have hf1 : (s.rd.length == s.T.length) = false := by simpa using hf
  have HF := hide (full1 h)
  rw [hf1] at HF
  have H := hide h
  clear h he hf hf1
  go_enter Try.func15, Try.ntmps15
  go_wp2_with (first | (go_at_call 31; refine HF.out.mono ?_; rintro r w1 ⟨rfl, b1⟩; have B1 := hide b1; clear b1) | (go_at_call 30; refine (restores_any (H.out.below B1.out)).mono ?_; rintro r w2 ⟨u, rfl, o2, b2⟩; have O2 := hide (o2.mono B1.out.size); have B2 := hide (B1.out.trans (b2.mono B1.out.size)); clear o2 b2) | fail)
  go_ret
  exact ⟨_, rfl, O2.out, B2.out⟩
set_option maxHeartbeats 4000000 in
set_option maxRecDepth 100000 in
theorem Tick_full {w : World} {k : Nat} {P : Sh} {s : Cd} (h : CX w k P s) (ht : s.ti < 999999999) (hb : s.be ≤ s.ti) (hg : s.gr < 4611686018427387904) (hpa : s.pa ≤ 1048576) (he : ¬ s.ep = 0) (hf : s.rd.length = s.T.length) :
    Calls Try.prog 15 #[.pointer (some ⟨k, 0, none⟩)] w fun r w' => ∃ u, r = .returned u ∧ OwnL 32 4 Ct.cs w.heap.size w' u (cComm (cMove { s with ti := s.ti + 1 }) ++ cTrig (cMove { s with ti := s.ti + 1 })) ∧ CP w w' k P (cMove { s with ti := s.ti + 1 }) := by
  have z3 := h.c3
  have z8 := h.c8
  have z10 := h.c10
  have z11 := h.c11
  have z12 := h.c12
  have bq : ¬ ((s.ep : Nat) : Int) = 0 := by omega
  have hf1 : (s.rd.length == s.T.length) = true := by simpa using hf
  have HF := hide (full1 h)
  rw [hf1] at HF
  have H := hide h
  have HC : Hid (∀ w1, Below w.heap.size w w1 → CP w (w1.setCell ⟨k, 8, none⟩ (.int .i64 ((s.ti : Int) + 1))) k P { s with ti := s.ti + 1 }) := hide (fun w1 b1 => (h.cp.below b1).set { s with ti := s.ti + 1 } 8 (.int .i64 ((s.ti : Int) + 1)) rfl rfl rfl rfl rfl rfl)
  have HM : Hid (∀ w1, CX w1 k P { s with ti := s.ti + 1 } → Calls Try.prog 32 #[.pointer (some ⟨k, 0, none⟩)] w1 fun e w' => e = .returned (.tuple #[]) ∧ CP w1 w' k P (cMove { s with ti := s.ti + 1 })) := hide (fun w1 h1 => moveOn_any h1 (show s.ti + 1 < 1000000000 by omega) (show s.be ≤ s.ti + 1 by omega) hg hpa)
  clear h he hf hf1 hg hpa
  generalize cMove { s with ti := s.ti + 1 } = s1 at *
  go_enter Try.func15, Try.ntmps15
  go_wp2_with (first | (go_at_call 31; refine HF.out.mono ?_; rintro r w1 ⟨rfl, b1⟩; have B1 := hide b1; clear b1 z3 z8 z10 z11 z12; have z8 := (H.out.below B1.out).c8; have zf := (H.out.below B1.out).wfree) | (go_at_call 32; refine (HM.out _ (HC.out _ B1.out).x).mono ?_; rintro r w2 ⟨rfl, c2⟩; have C2 := hide ((HC.out _ B1.out).trans c2); clear c2 z8 zf) | (go_at_call 33; refine (commits_any C2.out.x).mono ?_; rintro r w3 ⟨u3, rfl, o3, b3⟩; have O3 := hide o3; have B3 := hide b3; clear o3 b3) | (go_at_call 34; refine (triggers_any (C2.out.x.below B3.out)).mono ?_; rintro r w4 ⟨u4, rfl, o4, b4⟩; have O4 := hide (o4.seg Ct.cs_len (by have := cTrig_len s1; have := C2.out.x.ts.tl; omega)); have B4 := hide b4; have O3b := hide (O3.out.below b4); have HLN : Hid ((cComm s1).length + (cTrig s1).length ≤ 1000000) := hide (by have := cTrig_len s1; have := cComm_len s1; have := C2.out.x.ts.tl4; have := C2.out.x.ts.sl4; omega); have HSZ : Hid (w2.heap.size ≤ w4.heap.size) := hide (Nat.le_trans B3.out.size B4.out.size); clear o4 b4) | (at_builtin; refine app_segL Try.infoC Try.underlying29 rfl (by decide) (by decide) Ct.cs_len Ct.cs_one rfl _ _ rfl w2.heap.size _ _ rfl O3b.out _ _ _ rfl O4.out HLN.out HSZ.out ?_; intro v5 w5 h5 g5 k5; have H5 := hide (h5.mono C2.out.f.size); have B5 := hide ((B3.out.trans (B4.out.mono B3.out.size)).grown g5 HSZ.out (fun g e => O3b.out.at g e)); clear h5 g5 k5) | fail)
  go_ret
  exact ⟨_, rfl, H5.out, C2.out.below B5.out⟩
theorem Tick_any {w : World} {k : Nat} {P : Sh} {s : Cd} (h : CX w k P s) (ht : s.ti < 999999999) (hb : s.be ≤ s.ti) (hg : s.gr < 4611686018427387904) (hpa : s.pa ≤ 1048576) :
    Calls Try.prog 15 #[.pointer (some ⟨k, 0, none⟩)] w fun r w' => ∃ u, r = .returned u ∧ OwnL 32 4 Ct.cs w.heap.size w' u (cTickO s) ∧ CP w w' k P (cTickS s) := by
  by_cases he : s.ep = 0
  · have e1 : cTickS s = s := if_pos he
    have e2 : cTickO s = [] := if_pos he
    rw [e1, e2]
    refine (Tick_idle h he).mono ?_
    rintro r w' ⟨rfl, rfl⟩
    exact ⟨_, rfl, OwnL.nil _ _ _ _ _, h.cp⟩
  · by_cases hf : s.rd.length = s.T.length
    · have e1 : cTickS s = cMove { s with ti := s.ti + 1 } := by
        unfold cTickS
        rw [if_neg he, if_neg (by simpa using hf)]
      have e2 : cTickO s = cComm (cTickS s) ++ cTrig (cTickS s) := by
        unfold cTickO
        rw [if_neg he, if_neg (by simpa using hf)]
      rw [e2, e1]
      exact Tick_full h ht hb hg hpa he hf
    · have e1 : cTickS s = s := by
        unfold cTickS
        rw [if_neg he, if_pos hf]
      have e2 : cTickO s = cRest s := by
        unfold cTickO
        rw [if_neg he, if_pos hf]
      rw [e2, e1]
      refine (Tick_not h he hf).mono ?_
      rintro r w' ⟨u, rfl, o1, b1⟩
      exact ⟨_, rfl, o1, h.cp.below b1⟩

end Go.Proofs.Ytgjjacljjlhnhaa
