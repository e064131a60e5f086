/-
  The document's readers: frames.
-/
import Derived.Test.YtaajjejgjnlbgaaDoorDRd
namespace Go.Proofs.YtaajjejgjnlbgaaDoor
open Go.RowKit

theorem RdSD.told {R : Nat} {w : World} {s : List Nat × Bool} (h : RdSD R w s) (b : Bool) : RdSD R (w.setCell ⟨R, 1, none⟩ (.bool b)) (s.1, b) := by
  obtain ⟨⟨v, hbx, hsg⟩, hb⟩ := h
  exact ⟨⟨v, hbx.set 1 (.bool b), hsg.grown (grownBy_set w R 1 _) (by have := hbx.lt; omega)⟩, hb⟩
theorem RFD.told {R : Nat} {w0 w : World} {kF : Nat} {cs : Array Value} {s : List Nat × Bool} (h : RFD R w0 w kF cs s) (b : Bool) : RFD R w0 (w.setCell ⟨R, 1, none⟩ (.bool b)) kF cs (s.1, b) :=
  h.call (h.rd.told b) (grownBy_set _ _ _ _)
def rFlagD (s : List Nat × Bool) : Bool × (List Nat × Bool) := (decide ((numD 1 s).1 = 1), ((numD 1 s).2.1, (numD 1 s).2.2 || decide (1 < (numD 1 s).1)))
/-- What the document's frame reads. -/
def rFrameD (s : List Nat × Bool) : Frm × (List Nat × Bool) :=
  if (numD 1 s).1 = 1 then (⟨1, i64of (numD 8 (numD 1 s).2).1, i64of (numD 8 (numD 8 (numD 1 s).2).2).1, i64of (numD 8 (numD 8 (numD 8 (numD 1 s).2).2).2).1, 0, 0, false⟩, (numD 8 (numD 8 (numD 8 (numD 1 s).2).2).2).2)
  else if (numD 1 s).1 = 2 then (⟨2, 0, 0, 0, i64of (numD 8 (numD 1 s).2).1, 0, false⟩, (numD 8 (numD 1 s).2).2)
  else if (numD 1 s).1 = 3 then (⟨3, 0, 0, 0, 0, (numD 8 (numD 1 s).2).1, (rFlagD (numD 8 (numD 1 s).2).2).1⟩, (rFlagD (numD 8 (numD 1 s).2).2).2)
  else (⟨(numD 1 s).1, 0, 0, 0, 0, 0, false⟩, ((numD 1 s).2.1, true))

set_option maxHeartbeats 4000000 in
set_option maxRecDepth 100000 in
theorem frameD_any {R : Nat} {w : World} {s : List Nat × Bool} (h : RdSD R w s) :
    Calls Tryd.prog 63 #[.pointer (some ⟨R, 0, none⟩)] w fun e w' => e = .returned (rFrameD s).1.val ∧ RdSD R w' (rFrameD s).2 ∧ w.grownBy w' (some R) := by
  have hR := h.lt
  have n0 := fun o => numD_any (sz := 1) (h.alloc o) (by omega) (by omega)
  rw [show (1 : Int).toNat = 1 from rfl] at n0
  unfold rFrameD
  have hb0 := numD_lt (k := 1) h.2
  generalize numD 1 s = p0 at *
  obtain ⟨kd, s0⟩ := p0
  simp only at *
  have N0 := n0
  clear n0
  by_cases h1 : kd = 1
  · subst h1
    simp only [if_true]
    generalize hp1 : numD 8 s0 = p1
    obtain ⟨x1, s1⟩ := p1
    have HP1 := hide hp1
    clear hp1
    dsimp only
    generalize hp2 : numD 8 s1 = p2
    obtain ⟨x2, s2⟩ := p2
    have HP2 := hide hp2
    clear hp2
    dsimp only
    generalize hp3 : numD 8 s2 = p3
    obtain ⟨x3, s3⟩ := p3
    have HP3 := hide hp3
    clear hp3
    dsimp only
    generalize hk1 : i64of x1 = k1
    generalize hk2 : i64of x2 = k2
    generalize hk3 : i64of x3 = k3
    have HK := hide (And.intro hk1 (And.intro hk2 hk3))
    have e1 : wrap64 (x1 : Int) = k1 := hk1
    have e2 : wrap64 (x2 : Int) = k2 := hk2
    have e3 : wrap64 (x3 : Int) = k3 := hk3
    clear hk1 hk2 hk3
    go_enter Tryd.func63, Tryd.ntmps63
    go_wp2_with fail
    refine (N0 _).mono ?_
    rintro e w1 ⟨rfl, hr1, hg1⟩
    have q := RFD.start (cs := #[.int .i64 1, .int .i64 0, .int .i64 0, .int .i64 0, .int .i64 0, .int .u64 0, .bool false]) ⟨_, _, _, _, _, _, _, rfl⟩ hR hr1 hg1
    clear N0 hg1 hr1
    have N1 := numD_any (sz := 8) q.rd (by omega) (by omega)
    rw [show (8 : Int).toNat = 8 from rfl, HP1.out] at N1
    go_wp2_with fail
    refine N1.mono ?_
    rintro e w2 ⟨rfl, hr, hg⟩
    have q := q.call hr hg
    clear hg hr N1
    have N2 := numD_any (sz := 8) q.rd (by omega) (by omega)
    rw [show (8 : Int).toNat = 8 from rfl, HP2.out] at N2
    go_wp2_with fail
    refine N2.mono ?_
    rintro e w3 ⟨rfl, hr, hg⟩
    have q := q.call hr hg
    clear hg hr N2
    have N3 := numD_any (sz := 8) q.rd (by omega) (by omega)
    rw [show (8 : Int).toNat = 8 from rfl, HP3.out] at N3
    go_wp2_with fail
    refine N3.mono ?_
    rintro e w4 ⟨rfl, hr, hg⟩
    have q := q.call hr hg
    clear hg hr N3
    obtain ⟨⟨c0, c1, c2, c3, c4, c5, c6⟩, fr⟩ := q.cells
    have q := ((q.set 1 (.int .i64 k1)).set 2 (.int .i64 k2)).set 3 (.int .i64 k3)
    obtain ⟨⟨e0, e1', e2', e3', e4, e5, e6⟩, fr'⟩ := q.cells
    obtain ⟨a0, a1, a2, a3, a4, a5, a6, bA⟩ := q.bA
    obtain ⟨d0, d1, d2, d3, d4, d5, d6⟩ := bA.cells7
    have fa := bA.free
    go_wp2
    obtain ⟨hrd, hgr, bx⟩ := q.fin (.int .i64 1) (.int .i64 k1) (.int .i64 k2) (.int .i64 k3) (.int .i64 0) (.int .u64 0) (.bool false) _ rfl
    obtain ⟨x0, x1, x2, x3, x4, x5, x6⟩ := bx.cells7
    exact bodyPost_ret (v := Frm.val ⟨1, k1, k2, k3, 0, 0, false⟩) (by simp [results, Tryd.results63, go_sem, x0, x1, x2, x3, x4, x5, x6, Frm.val, Frm.cs]) rfl ⟨rfl, hrd, hgr⟩
  by_cases h2 : kd = 2
  · subst h2
    simp only [if_true, show ¬ (2 : Nat) = 1 from by decide, if_false]
    generalize hp1 : numD 8 s0 = p1
    obtain ⟨x1, s1⟩ := p1
    have HP1 := hide hp1
    clear hp1
    dsimp only
    generalize hk1 : i64of x1 = k1
    have e1 : wrap64 (x1 : Int) = k1 := hk1
    clear hk1
    go_enter Tryd.func63, Tryd.ntmps63
    go_wp2_with fail
    refine (N0 _).mono ?_
    rintro e w1 ⟨rfl, hr1, hg1⟩
    have q := RFD.start (cs := #[.int .i64 2, .int .i64 0, .int .i64 0, .int .i64 0, .int .i64 0, .int .u64 0, .bool false]) ⟨_, _, _, _, _, _, _, rfl⟩ hR hr1 hg1
    clear N0 hg1 hr1
    have N1 := numD_any (sz := 8) q.rd (by omega) (by omega)
    rw [show (8 : Int).toNat = 8 from rfl, HP1.out] at N1
    go_wp2_with fail
    refine N1.mono ?_
    rintro e w2 ⟨rfl, hr, hg⟩
    have q := q.call hr hg
    clear hg hr N1
    obtain ⟨⟨c0, c1, c2, c3, c4, c5, c6⟩, fr⟩ := q.cells
    have q := q.set 4 (.int .i64 k1)
    clear c0 c1 c2 c3 c5 c6
    obtain ⟨⟨e0, e1', e2, e3, e4, e5, e6⟩, fr'⟩ := q.cells
    obtain ⟨a0, a1, a2, a3, a4, a5, a6, bA⟩ := q.bA
    obtain ⟨d0, d1, d2, d3, d4, d5, d6⟩ := bA.cells7
    have fa := bA.free
    go_wp2
    obtain ⟨hrd, hgr, bx⟩ := q.fin (.int .i64 2) (.int .i64 0) (.int .i64 0) (.int .i64 0) (.int .i64 k1) (.int .u64 0) (.bool false) _ rfl
    obtain ⟨x0, x1, x2, x3, x4, x5, x6⟩ := bx.cells7
    exact bodyPost_ret (v := Frm.val ⟨2, 0, 0, 0, k1, 0, false⟩) (by simp [results, Tryd.results63, go_sem, x0, x1, x2, x3, x4, x5, x6, Frm.val, Frm.cs]) rfl ⟨rfl, hrd, hgr⟩
  by_cases h3 : kd = 3
  · subst h3
    simp only [if_true, show ¬ (3 : Nat) = 1 from by decide, show ¬ (3 : Nat) = 2 from by decide, if_false]
    unfold rFlagD
    generalize hp1 : numD 8 s0 = p1
    obtain ⟨x1, s1⟩ := p1
    have HP1 := hide hp1
    clear hp1
    dsimp only
    generalize hp2 : numD 1 s1 = p2
    obtain ⟨x2, l2, bad2⟩ := p2
    have HP2 := hide hp2
    clear hp2
    dsimp only
    generalize hov : decide (x2 = 1) = ov
    have e1 : ((x2 : Int) == 1) = ov := by rw [← hov, Bool.eq_iff_iff]; simp; omega
    generalize hbg : (bad2 || decide (1 < x2)) = bg
    have HBG := hide hbg
    clear hov hbg
    go_enter Tryd.func63, Tryd.ntmps63
    go_wp2_with fail
    refine (N0 _).mono ?_
    rintro e w1 ⟨rfl, hr1, hg1⟩
    have q := RFD.start (cs := #[.int .i64 3, .int .i64 0, .int .i64 0, .int .i64 0, .int .i64 0, .int .u64 0, .bool false]) ⟨_, _, _, _, _, _, _, rfl⟩ hR hr1 hg1
    clear N0 hg1 hr1
    have N1 := numD_any (sz := 8) q.rd (by omega) (by omega)
    rw [show (8 : Int).toNat = 8 from rfl, HP1.out] at N1
    go_wp2_with fail
    refine N1.mono ?_
    rintro e w2 ⟨rfl, hr, hg⟩
    have q := q.call hr hg
    clear hg hr N1
    obtain ⟨⟨c0, c1, c2, c3, c4, c5, c6⟩, fr⟩ := q.cells
    have q := q.set 5 (.int .u64 x1)
    have N2 := numD_any (sz := 1) q.rd (by omega) (by omega)
    rw [show (1 : Int).toNat = 1 from rfl, HP2.out] at N2
    go_wp2_with fail
    refine N2.mono ?_
    rintro e w3 ⟨rfl, hr, hg⟩
    have q := q.call hr hg
    clear hg hr N2 c0 c1 c2 c3 c4 c5 c6 fr
    obtain ⟨⟨c0, c1, c2, c3, c4, c5, c6⟩, fr⟩ := q.cells
    have q := q.set 6 (.bool ov)
    obtain ⟨ao, cap, r0, r1, rf⟩ := q.rd.cells
    have q := q.told bg
    clear c0 c1 c2 c3 c4 c5
    obtain ⟨⟨e0, e1', e2, e3, e4, e5, e6⟩, fr'⟩ := q.cells
    obtain ⟨a0, a1, a2, a3, a4, a5, a6, bA⟩ := q.bA
    obtain ⟨d0, d1, d2, d3, d4, d5, d6⟩ := bA.cells7
    have fa := bA.free
    simp only at r0 r1
    cases bad2
    · have hx2 : decide ((1 : Int) < (x2 : Int)) = bg := by rw [← HBG.out, Bool.false_or, Bool.eq_iff_iff]; simp; omega
      clear r0
      cases bg
      · have hx3 : ¬ ((1 : Int) < (x2 : Int)) := of_decide_eq_false hx2
        go_wp2
        obtain ⟨hrd, hgr, bx⟩ := q.fin (.int .i64 3) (.int .i64 0) (.int .i64 0) (.int .i64 0) (.int .i64 0) (.int .u64 x1) (.bool ov) _ rfl
        obtain ⟨x0, x1, x2, x3, x4, x5, x6⟩ := bx.cells7
        exact bodyPost_ret (v := Frm.val ⟨3, 0, 0, 0, 0, _, ov⟩) (by simp [results, Tryd.results63, go_sem, x0, x1, x2, x3, x4, x5, x6, Frm.val, Frm.cs]) rfl ⟨rfl, hrd, hgr⟩
      · have hx3 : (1 : Int) < (x2 : Int) := of_decide_eq_true hx2
        go_wp2
        obtain ⟨hrd, hgr, bx⟩ := q.fin (.int .i64 3) (.int .i64 0) (.int .i64 0) (.int .i64 0) (.int .i64 0) (.int .u64 x1) (.bool ov) _ rfl
        obtain ⟨x0, x1, x2, x3, x4, x5, x6⟩ := bx.cells7
        exact bodyPost_ret (v := Frm.val ⟨3, 0, 0, 0, 0, _, ov⟩) (by simp [results, Tryd.results63, go_sem, x0, x1, x2, x3, x4, x5, x6, Frm.val, Frm.cs]) rfl ⟨rfl, hrd, hgr⟩
    · obtain rfl : bg = true := by rw [← HBG.out]; rfl
      clear r0
      go_wp2
      obtain ⟨hrd, hgr, bx⟩ := q.fin (.int .i64 3) (.int .i64 0) (.int .i64 0) (.int .i64 0) (.int .i64 0) (.int .u64 x1) (.bool ov) _ rfl
      obtain ⟨x0, x1, x2, x3, x4, x5, x6⟩ := bx.cells7
      exact bodyPost_ret (v := Frm.val ⟨3, 0, 0, 0, 0, _, ov⟩) (by simp [results, Tryd.results63, go_sem, x0, x1, x2, x3, x4, x5, x6, Frm.val, Frm.cs]) rfl ⟨rfl, hrd, hgr⟩
  · simp only [if_neg h1, if_neg h2, if_neg h3]
    have hw : wrap64 (kd : Int) = kd := by unfold wrap64; omega
    have i1 : ((kd : Int) == 1) = false := by simp; omega
    have i2 : ((kd : Int) == 2) = false := by simp; omega
    have i3 : ((kd : Int) == 3) = false := by simp; omega
    go_enter Tryd.func63, Tryd.ntmps63
    go_wp2_with fail
    refine (N0 _).mono ?_
    rintro e w1 ⟨rfl, hr1, hg1⟩
    have q := RFD.start (cs := #[.int .i64 kd, .int .i64 0, .int .i64 0, .int .i64 0, .int .i64 0, .int .u64 0, .bool false]) ⟨_, _, _, _, _, _, _, rfl⟩ hR hr1 hg1
    clear N0 hg1 hr1
    obtain ⟨ao, cap, r0, r1, rf⟩ := q.rd.cells
    have q := q.told true
    obtain ⟨⟨e0, e1', e2, e3, e4, e5, e6⟩, fr'⟩ := q.cells
    obtain ⟨a0, a1, a2, a3, a4, a5, a6, bA⟩ := q.bA
    obtain ⟨d0, d1, d2, d3, d4, d5, d6⟩ := bA.cells7
    have fa := bA.free
    clear r0
    go_wp2
    obtain ⟨hrd, hgr, bx⟩ := q.fin (.int .i64 kd) (.int .i64 0) (.int .i64 0) (.int .i64 0) (.int .i64 0) (.int .u64 0) (.bool false) _ rfl
    obtain ⟨x0, x1, x2, x3, x4, x5, x6⟩ := bx.cells7
    exact bodyPost_ret (v := Frm.val ⟨kd, 0, 0, 0, 0, 0, false⟩) (by simp [results, Tryd.results63, go_sem, x0, x1, x2, x3, x4, x5, x6, Frm.val, Frm.cs]) rfl ⟨rfl, hrd, hgr⟩
end Go.Proofs.YtaajjejgjnlbgaaDoor
