/-
  Check where what it tells of an expression is left open.
-/
import Derived.Test.YtfiafbfbiidnlaaJCheck
namespace Go.Proofs.Ytfiafbfbiidnlaa
open Go.RowKit

/-- Check tells something of an expression. -/
def Some52 (w : World) (n : Nd) : Prop := 2 ≤ n.kind ∧ n.kind ≤ 4 → ∀ w', Below w.heap.size w w' → Calls Try.prog 67 #[n.e.val] w' fun r w'' => ∃ c : Int, r = .returned (.int .i64 c) ∧ Below w'.heap.size w' w''
set_option maxHeartbeats 1000000 in
set_option maxRecDepth 100000 in
theorem ex_open (n : Nd) (w : World) (hc : Some52 w n) : Calls Try.prog 59 #[n.val] w fun e w' => ∃ c : Int, e = .returned (.bool (exB n.kind n.e.op n.e.n n.e.l.length c)) ∧ Below w.heap.size w w' := by
  by_cases hk : 2 ≤ n.kind ∧ n.kind ≤ 4
  · unfold Some52 at hc
    have hc := hc hk
    obtain ⟨kd, ia, icp, ins, par, ⟨eo, en, ea, ec, el⟩, ag, wk, ws, wl⟩ := n
    unfold Nd.val
    unfold Ex.val at hc
    simp only at hc hk ⊢
    have hb : Below w.heap.size w (w.alloc (.cells #[.int .i64 kd, .slice ia ins.length icp, .int .i64 par, .int .i64 eo, .int .i64 en, .slice ea el.length ec, .int .i64 ag, .int .i64 wk, .int .i64 ws, .int .i64 wl] 54)) := (Below.refl _ _).alloc (Nat.le_refl _) _
    have HB := hide hb
    have HW : Hid (∀ c, exB kd eo en el.length c = (c == 0)) := fun c => by unfold exB; rw [if_pos hk]; rfl
    have HC := hide (hc _ HB.out)
    have hk3 : kd = 2 ∨ kd = 3 ∨ kd = 4 := by omega
    clear hb hc hk
    rcases hk3 with rfl | rfl | rfl
    all_goals
      go_enter Try.func59, Try.ntmps59
      go_wp2_with (go_at_call 67; refine HC.out.mono ?_; rintro e w1 ⟨c, rfl, b1⟩)
      go_ret
      exact ⟨c, ret_bool (HW.out c).symm, HB.out.trans (b1.mono HB.out.size)⟩
  · exact (ex_any n w 0 (fun h => absurd h hk)).mono fun e w' h => ⟨0, h⟩
set_option maxHeartbeats 4000000 in
set_option maxRecDepth 100000 in
theorem checkNode_open {B : Nat} {w : World} {v : Value} {ns : List Nd} (n : Nd) (hj : JobIn B w v ns) (hi : LSeg 1 ic B w (.slice n.ia n.ins.length n.ic) n.ins) (hB : B ≤ w.heap.size) (hc : Some52 w n) :
    Calls Try.prog 51 #[n.val, v] w fun e w' => ∃ c : Int, e = .returned (.int .i64 (ckN (ns.map Nd.kind) n c)) ∧ Below w.heap.size w w' := by
  by_cases hk : 2 ≤ n.kind ∧ n.kind ≤ 4
  · obtain ⟨na, ncp, rfl⟩ := hj.shape
    have hb : Below w.heap.size w (w.alloc (.cells n.cs.toArray 54)) := (Below.refl _ _).alloc (Nat.le_refl _) _
    have HIF := hide (inputs_any n (hj.below (hb.mono hB)) (hi.below (hb.mono hB)) (Nat.le_trans hB hb.size))
    have HEX : Hid (∀ w1, Below w.heap.size w w1 → Calls Try.prog 59 #[n.val] w1 fun e w' => ∃ c : Int, e = .returned (.bool (exB n.kind n.e.op n.e.n n.e.l.length c)) ∧ Below w1.heap.size w1 w') := fun w1 hb1 => ex_open n w1 (fun hk w2 hb2 => hc hk w2 (hb1.trans (hb2.mono hb1.size)))
    have HAG : Hid (∀ w1, Calls Try.prog 60 #[n.val] w1 fun e w' => e = .returned (.bool (aggB n.kind n.agg)) ∧ Below w1.heap.size w1 w') := fun w1 => agg_any n w1
    have HWN : Hid (∀ w1, Calls Try.prog 61 #[n.val] w1 fun e w' => e = .returned (.bool (winB n.kind n.wk n.ws n.wl)) ∧ Below w1.heap.size w1 w') := fun w1 => win_any n w1
    have HN : Hid (∀ c, ckN (ns.map Nd.kind) n c = if inB (ns.map Nd.kind) n.kind n.ins = false then 82 else if n.par < 1 ∨ 4 < n.par then 84 else if exB n.kind n.e.op n.e.n n.e.l.length c = false then 85 else if aggB n.kind n.agg = false then 86 else if winB n.kind n.wk n.ws n.wl = false then 87 else 0) := fun c => by unfold ckN; rw [if_neg (by omega)]
    have HB := hide hb
    have HBX := hide (BoxT.new 54 w n.cs.toArray)
    obtain ⟨CK, hCK⟩ : ∃ CK : Int → Int, ∀ c, ckN (ns.map Nd.kind) n c = CK c := ⟨_, fun _ => rfl⟩
    simp only [hCK] at HN ⊢
    clear hb hj hi hc hCK
    obtain ⟨kd, ia, icp, ins, par, ⟨eo, en, ea, ec, el⟩, ag, wk, ws, wl⟩ := n
    unfold Nd.val at *
    unfold Nd.cs at *
    simp only at *
    obtain ⟨XB, hXB⟩ : ∃ XB : Int → Bool, ∀ c, exB kd eo en el.length c = XB c := ⟨_, fun _ => rfl⟩
    simp only [hXB] at HN HEX
    clear hXB
    generalize inB (ns.map Nd.kind) kd ins = bi at *
    generalize aggB kd ag = ba at *
    generalize winB kd wk ws wl = bw at *
    have k1 : ¬ kd < 1 := by omega
    have k2 : kd ≤ 8 := by omega
    clear hk
    cases bi with
    | false =>
      go_enter Try.func51, Try.ntmps51
      go_wp2_with (go_at_call 58; refine HIF.out.mono ?_; rintro e w1 ⟨rfl, b1⟩; have X1 := hide (HBX.out.below b1); obtain ⟨d0, d1, d2, d3, d4, d5, d6, d7, d8, d9⟩ := X1.out.cells10; have B1 := hide (HB.out.trans (b1.mono HB.out.size)); clear b1)
      go_ret
      exact ⟨0, ret_int (by rw [HN.out]; simp), B1.out⟩
    | true =>
      by_cases h2 : par < 1 ∨ 4 < par
      · have HV : Hid (CK 0 = 84) := (show CK 0 = 84 by rw [HN.out, if_neg (by decide), if_pos h2])
        by_cases h3 : par < 1
        · clear h2
          go_enter Try.func51, Try.ntmps51
          go_wp2_with (go_at_call 58; refine HIF.out.mono ?_; rintro e w1 ⟨rfl, b1⟩; have X1 := hide (HBX.out.below b1); obtain ⟨d0, d1, d2, d3, d4, d5, d6, d7, d8, d9⟩ := X1.out.cells10; have B1 := hide (HB.out.trans (b1.mono HB.out.size)); clear b1)
          go_ret
          exact ⟨0, ret_int HV.out.symm, B1.out⟩
        · have h4 : ¬ par ≤ 4 := by omega
          clear h2
          go_enter Try.func51, Try.ntmps51
          go_wp2_with (go_at_call 58; refine HIF.out.mono ?_; rintro e w1 ⟨rfl, b1⟩; have X1 := hide (HBX.out.below b1); obtain ⟨d0, d1, d2, d3, d4, d5, d6, d7, d8, d9⟩ := X1.out.cells10; have B1 := hide (HB.out.trans (b1.mono HB.out.size)); clear b1)
          go_ret
          exact ⟨0, ret_int HV.out.symm, B1.out⟩
      · have HV : Hid (∀ c, CK c = if XB c = false then 85 else if ba = false then 86 else if bw = false then 87 else 0) := fun c => by rw [HN.out, if_neg (by decide), if_neg h2]
        have p1 : ¬ par < 1 := by omega
        have p2 : par ≤ 4 := by omega
        clear h2 HN
        go_enter Try.func51, Try.ntmps51
        go_wp2_with (go_at_call 58; refine HIF.out.mono ?_; rintro e w1 ⟨rfl, b1⟩; have X1 := hide (HBX.out.below b1); obtain ⟨d0, d1, d2, d3, d4, d5, d6, d7, d8, d9⟩ := X1.out.cells10; have B1 := hide (HB.out.trans (b1.mono HB.out.size)); clear b1)
        refine (HEX.out _ B1.out).mono ?_
        rintro e w2 ⟨c, rfl, b2⟩
        have X2 := hide (X1.out.below b2)
        have B2 := hide (B1.out.trans (b2.mono B1.out.size))
        clear d0 d1 d2 d3 d4 d5 d6 d7 d8 d9 b2
        obtain ⟨d0, d1, d2, d3, d4, d5, d6, d7, d8, d9⟩ := X2.out.cells10
        obtain ⟨be, hbe⟩ : ∃ be, XB c = be := ⟨_, rfl⟩
        have HVC := hide (HV.out c)
        rw [hbe] at HVC ⊢
        clear hbe HV
        cases be with
        | false =>
          go_wp2_with fail
          go_ret
          exact ⟨c, ret_int (by rw [HVC.out]; simp), B2.out⟩
        | true =>
          cases ba with
          | false =>
            go_wp2_with (go_at_call 60; refine (HAG.out _).mono ?_; rintro e w3 ⟨rfl, b3⟩; clear d0 d1 d2 d3 d4 d5 d6 d7 d8 d9; obtain ⟨d0, d1, d2, d3, d4, d5, d6, d7, d8, d9⟩ := (X2.out.below b3).cells10; have B3 := hide (B2.out.trans (b3.mono B2.out.size)); clear b3)
            go_ret
            exact ⟨c, ret_int (by rw [HVC.out]; simp), B3.out⟩
          | true =>
            cases bw with
            | false =>
              go_wp2_with (first
                | (go_at_call 60; refine (HAG.out _).mono ?_; rintro e w3 ⟨rfl, b3⟩; clear d0 d1 d2 d3 d4 d5 d6 d7 d8 d9; obtain ⟨d0, d1, d2, d3, d4, d5, d6, d7, d8, d9⟩ := (X2.out.below b3).cells10; have B3 := hide (B2.out.trans (b3.mono B2.out.size)); clear b3)
                | (go_at_call 61; refine (HWN.out _).mono ?_; rintro e w4 ⟨rfl, b4⟩))
              go_ret
              exact ⟨c, ret_int (by rw [HVC.out]; simp), B3.out.trans (b4.mono B3.out.size)⟩
            | true =>
              go_wp2_with (first
                | (go_at_call 60; refine (HAG.out _).mono ?_; rintro e w3 ⟨rfl, b3⟩; clear d0 d1 d2 d3 d4 d5 d6 d7 d8 d9; obtain ⟨d0, d1, d2, d3, d4, d5, d6, d7, d8, d9⟩ := (X2.out.below b3).cells10; have B3 := hide (B2.out.trans (b3.mono B2.out.size)); clear b3)
                | (go_at_call 61; refine (HWN.out _).mono ?_; rintro e w4 ⟨rfl, b4⟩))
              go_ret
              exact ⟨c, ret_int (by rw [HVC.out]; simp), B3.out.trans (b4.mono B3.out.size)⟩
  · exact (checkNode_any n 0 hj hi hB (fun h => absurd h hk)).mono fun e w' h => ⟨0, h⟩
theorem ck_fineC {ns : List Nd} {n : Nd} {c : Int} (h : ckN (ns.map Nd.kind) n c = 0) : Fine ns n := by
  unfold ckN at h
  by_cases h1 : n.kind < 1 ∨ 8 < n.kind
  · rw [if_pos h1] at h; cases h
  rw [if_neg h1] at h
  by_cases h2 : inB (ns.map Nd.kind) n.kind n.ins = false
  · rw [if_pos h2] at h; cases h
  rw [if_neg h2] at h
  by_cases h3 : n.par < 1 ∨ 4 < n.par
  · rw [if_pos h3] at h; cases h
  rw [if_neg h3] at h
  by_cases h4 : exB n.kind n.e.op n.e.n n.e.l.length c = false
  · rw [if_pos h4] at h; cases h
  rw [if_neg h4] at h
  by_cases h5 : aggB n.kind n.agg = false
  · rw [if_pos h5] at h; cases h
  rw [if_neg h5] at h
  by_cases h6 : winB n.kind n.wk n.ws n.wl = false
  · rw [if_pos h6] at h; cases h
  have i2 : inB (ns.map Nd.kind) n.kind n.ins = true := by simpa using h2
  unfold inB at i2
  rw [Bool.and_eq_true, List.all_eq_true] at i2
  refine ⟨?_, fun x hx => ?_, fun k7 k2 => ?_⟩
  · have := i2.1
    unfold cntOk at this
    by_cases a1 : n.kind = 1
    · rw [if_pos a1] at this; have := of_decide_eq_true this; omega
    · rw [if_neg a1] at this
      by_cases a5 : n.kind = 5
      · rw [if_pos a5] at this; have := of_decide_eq_true this; omega
      · rw [if_neg a5] at this; have := of_decide_eq_true this; omega
  · have := i2.2 x hx
    unfold okIn at this
    rw [Bool.and_eq_true, List.length_map] at this
    exact of_decide_eq_true this.1
  · have i6 : winB n.kind n.wk n.ws n.wl = true := by simpa using h6
    unfold winB at i6
    rw [if_pos k7, if_pos k2, Bool.and_eq_true] at i6
    unfold spanB at i6
    have a := of_decide_eq_true i6.1
    have b := of_decide_eq_true i6.2
    exact ⟨a.1, a.2, b.1, b.2⟩
end Go.Proofs.Ytfiafbfbiidnlaa
