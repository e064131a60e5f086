/-
  checkNode; weight.
-/
import Derived.Test.YtfiafbfbiidnlaaJChk
namespace Go.Proofs.Ytfiafbfbiidnlaa
open Go.RowKit

theorem ret_int {k : IntKind} {a b : Int} (h : a = b) : Ending.returned (.int k a) = .returned (.int k b) := by rw [h]
/-- What checkNode tells of a node; c: what Check tells of its expression. -/
def ckN (ks : List Int) (n : Nd) (c : Int) : Int :=
  if n.kind < 1 ∨ 8 < n.kind then 81 else if inB ks n.kind n.ins = false then 82 else if n.par < 1 ∨ 4 < n.par then 84 else if exB n.kind n.e.op n.e.n n.e.l.length c = false then 85 else if aggB n.kind n.agg = false then 86 else if winB n.kind n.wk n.ws n.wl = false then 87 else 0
theorem BoxT.cells10 {t : TypeId} {w : World} {k : Nat} {c0 c1 c2 c3 c4 c5 c6 c7 c8 c9 : Value} (h : BoxT t w k #[c0, c1, c2, c3, c4, c5, c6, c7, c8, c9]) :
    w.cell? ⟨k, 0, none⟩ = some c0 ∧ w.cell? ⟨k, 1, none⟩ = some c1 ∧ w.cell? ⟨k, 2, none⟩ = some c2 ∧ w.cell? ⟨k, 3, none⟩ = some c3 ∧ w.cell? ⟨k, 4, none⟩ = some c4 ∧ w.cell? ⟨k, 5, none⟩ = some c5 ∧ w.cell? ⟨k, 6, none⟩ = some c6 ∧ w.cell? ⟨k, 7, none⟩ = some c7 ∧ w.cell? ⟨k, 8, none⟩ = some c8 ∧ w.cell? ⟨k, 9, none⟩ = some c9 := by
  unfold BoxT at h
  simp [World.cell?, h]
theorem BoxT.below {t : TypeId} {w w' : World} {k : Nat} {cs : Array Value} (h : BoxT t w k cs) (hb : Below w.heap.size w w') : BoxT t w' k cs := by
  have := hb.block k h.lt
  unfold BoxT at *
  rw [this]; exact h

set_option maxHeartbeats 4000000 in
set_option maxRecDepth 100000 in
theorem checkNode_any {B : Nat} {w : World} {v : Value} {ns : List Nd} (n : Nd) (c : Int) (hj : JobIn B w v ns) (hi : LSeg 1 ic B w (.slice n.ia n.ins.length n.ic) n.ins) (hB : B ≤ w.heap.size)
    (hc : 2 ≤ n.kind ∧ n.kind ≤ 4 → ∀ w', Below w.heap.size w w' → Calls Try.prog 67 #[n.e.val] w' fun r w'' => r = .returned (.int .i64 c) ∧ Below w'.heap.size w' w'') :
    Calls Try.prog 51 #[n.val, v] w fun e w' => e = .returned (.int .i64 (ckN (ns.map Nd.kind) n c)) ∧ Below w.heap.size w w' := by
  obtain ⟨na, ncp, rfl⟩ := hj.shape
  have hb : Below w.heap.size w (w.alloc (.cells n.cs.toArray 54)) := (Below.refl _ _).alloc (Nat.le_refl _) _
  have HIF := hide (inputs_any n (hj.below (hb.mono hB)) (hi.below (hb.mono hB)) (Nat.le_trans hB hb.size))
  have HEX : Hid (∀ w1, Below w.heap.size w w1 → Calls Try.prog 59 #[n.val] w1 fun e w' => e = .returned (.bool (exB n.kind n.e.op n.e.n n.e.l.length c)) ∧ Below w1.heap.size w1 w') := fun w1 hb1 => ex_any n w1 c (fun hk w2 hb2 => hc hk w2 (hb1.trans (hb2.mono hb1.size)))
  have HAG : Hid (∀ w1, Calls Try.prog 60 #[n.val] w1 fun e w' => e = .returned (.bool (aggB n.kind n.agg)) ∧ Below w1.heap.size w1 w') := fun w1 => agg_any n w1
  have HWN : Hid (∀ w1, Calls Try.prog 61 #[n.val] w1 fun e w' => e = .returned (.bool (winB n.kind n.wk n.ws n.wl)) ∧ Below w1.heap.size w1 w') := fun w1 => win_any n w1
  have HB := hide hb
  have HBX := hide (BoxT.new 54 w n.cs.toArray)
  unfold ckN
  clear hb hj hi hc
  obtain ⟨kd, ia, icp, ins, par, ⟨eo, en, ea, ec, el⟩, ag, wk, ws, wl⟩ := n
  unfold Nd.val at *
  unfold Nd.cs at *
  simp only at *
  generalize inB (ns.map Nd.kind) kd ins = bi at *
  generalize exB kd eo en el.length c = be at *
  generalize aggB kd ag = ba at *
  generalize winB kd wk ws wl = bw at *
  by_cases h1 : kd < 1 ∨ 8 < kd
  · rw [if_pos h1]
    by_cases h2 : kd < 1
    · clear h1
      go_enter Try.func51, Try.ntmps51
      go_wp2_with fail
      go_ret
      exact ⟨rfl, HB.out⟩
    · have h3 : ¬ kd ≤ 8 := by omega
      clear h1
      go_enter Try.func51, Try.ntmps51
      go_wp2_with fail
      go_ret
      exact ⟨rfl, HB.out⟩
  · rw [if_neg h1]
    have k1 : ¬ kd < 1 := by omega
    have k2 : kd ≤ 8 := by omega
    clear h1
    cases bi with
    | false =>
      rw [if_pos rfl]
      go_enter Try.func51, Try.ntmps51
      go_wp2_with (go_at_call 58; refine HIF.out.mono ?_; rintro e w1 ⟨rfl, b1⟩)
      go_ret
      exact ⟨rfl, HB.out.trans (b1.mono HB.out.size)⟩
    | true =>
      rw [if_neg (by decide)]
      by_cases h2 : par < 1 ∨ 4 < par
      · rw [if_pos h2]
        by_cases h3 : par < 1
        · clear h2
          go_enter Try.func51, Try.ntmps51
          go_wp2_with (go_at_call 58; refine HIF.out.mono ?_; rintro e w1 ⟨rfl, b1⟩; obtain ⟨d0, d1, d2, d3, d4, d5, d6, d7, d8, d9⟩ := (HBX.out.below b1).cells10)
          go_ret
          exact ⟨rfl, HB.out.trans (b1.mono HB.out.size)⟩
        · have h4 : ¬ par ≤ 4 := by omega
          clear h2
          go_enter Try.func51, Try.ntmps51
          go_wp2_with (go_at_call 58; refine HIF.out.mono ?_; rintro e w1 ⟨rfl, b1⟩; obtain ⟨d0, d1, d2, d3, d4, d5, d6, d7, d8, d9⟩ := (HBX.out.below b1).cells10)
          go_ret
          exact ⟨rfl, HB.out.trans (b1.mono HB.out.size)⟩
      · rw [if_neg h2]
        have p1 : ¬ par < 1 := by omega
        have p2 : par ≤ 4 := by omega
        clear h2
        cases be with
        | false =>
          rw [if_pos rfl]
          go_enter Try.func51, Try.ntmps51
          go_wp2_with (first
            | (go_at_call 58; refine HIF.out.mono ?_; rintro e w1 ⟨rfl, b1⟩; obtain ⟨d0, d1, d2, d3, d4, d5, d6, d7, d8, d9⟩ := (HBX.out.below b1).cells10; have B1 := hide (HB.out.trans (b1.mono HB.out.size)); clear b1)
            | (go_at_call 59; refine (HEX.out _ B1.out).mono ?_; rintro e w2 ⟨rfl, b2⟩))
          go_ret
          exact ⟨rfl, B1.out.trans (b2.mono B1.out.size)⟩
        | true =>
          rw [if_neg (by decide)]
          cases ba with
          | false =>
            rw [if_pos rfl]
            go_enter Try.func51, Try.ntmps51
            go_wp2_with (first
              | (go_at_call 58; refine HIF.out.mono ?_; rintro e w1 ⟨rfl, b1⟩; have X1 := hide (HBX.out.below b1); obtain ⟨d0, d1, d2, d3, d4, d5, d6, d7, d8, d9⟩ := X1.out.cells10; have B1 := hide (HB.out.trans (b1.mono HB.out.size)); clear b1)
              | (go_at_call 59; refine (HEX.out _ B1.out).mono ?_; rintro e w2 ⟨rfl, b2⟩; clear d0 d1 d2 d3 d4 d5 d6 d7 d8 d9; obtain ⟨d0, d1, d2, d3, d4, d5, d6, d7, d8, d9⟩ := (X1.out.below b2).cells10; have B2 := hide (B1.out.trans (b2.mono B1.out.size)); clear b2)
              | (go_at_call 60; refine (HAG.out _).mono ?_; rintro e w3 ⟨rfl, b3⟩))
            go_ret
            exact ⟨rfl, B2.out.trans (b3.mono B2.out.size)⟩
          | true =>
            rw [if_neg (by decide)]
            cases bw with
            | false =>
              rw [if_pos rfl]
              go_enter Try.func51, Try.ntmps51
              go_wp2_with (first
                | (go_at_call 58; refine HIF.out.mono ?_; rintro e w1 ⟨rfl, b1⟩; have X1 := hide (HBX.out.below b1); obtain ⟨d0, d1, d2, d3, d4, d5, d6, d7, d8, d9⟩ := X1.out.cells10; have B1 := hide (HB.out.trans (b1.mono HB.out.size)); clear b1)
                | (go_at_call 59; refine (HEX.out _ B1.out).mono ?_; rintro e w2 ⟨rfl, b2⟩; clear d0 d1 d2 d3 d4 d5 d6 d7 d8 d9; have X2 := hide (X1.out.below b2); obtain ⟨d0, d1, d2, d3, d4, d5, d6, d7, d8, d9⟩ := X2.out.cells10; have B2 := hide (B1.out.trans (b2.mono B1.out.size)); clear b2)
                | (go_at_call 60; refine (HAG.out _).mono ?_; rintro e w3 ⟨rfl, b3⟩; clear d0 d1 d2 d3 d4 d5 d6 d7 d8 d9; obtain ⟨d0, d1, d2, d3, d4, d5, d6, d7, d8, d9⟩ := (X2.out.below b3).cells10; have B3 := hide (B2.out.trans (b3.mono B2.out.size)); clear b3)
                | (go_at_call 61; refine (HWN.out _).mono ?_; rintro e w4 ⟨rfl, b4⟩))
              go_ret
              exact ⟨rfl, B3.out.trans (b4.mono B3.out.size)⟩
            | true =>
              rw [if_neg (by decide)]
              go_enter Try.func51, Try.ntmps51
              go_wp2_with (first
                | (go_at_call 58; refine HIF.out.mono ?_; rintro e w1 ⟨rfl, b1⟩; have X1 := hide (HBX.out.below b1); obtain ⟨d0, d1, d2, d3, d4, d5, d6, d7, d8, d9⟩ := X1.out.cells10; have B1 := hide (HB.out.trans (b1.mono HB.out.size)); clear b1)
                | (go_at_call 59; refine (HEX.out _ B1.out).mono ?_; rintro e w2 ⟨rfl, b2⟩; clear d0 d1 d2 d3 d4 d5 d6 d7 d8 d9; have X2 := hide (X1.out.below b2); obtain ⟨d0, d1, d2, d3, d4, d5, d6, d7, d8, d9⟩ := X2.out.cells10; have B2 := hide (B1.out.trans (b2.mono B1.out.size)); clear b2)
                | (go_at_call 60; refine (HAG.out _).mono ?_; rintro e w3 ⟨rfl, b3⟩; clear d0 d1 d2 d3 d4 d5 d6 d7 d8 d9; obtain ⟨d0, d1, d2, d3, d4, d5, d6, d7, d8, d9⟩ := (X2.out.below b3).cells10; have B3 := hide (B2.out.trans (b3.mono B2.out.size)); clear b3)
                | (go_at_call 61; refine (HWN.out _).mono ?_; rintro e w4 ⟨rfl, b4⟩))
              go_ret
              exact ⟨rfl, B3.out.trans (b4.mono B3.out.size)⟩
end Go.Proofs.Ytfiafbfbiidnlaa
