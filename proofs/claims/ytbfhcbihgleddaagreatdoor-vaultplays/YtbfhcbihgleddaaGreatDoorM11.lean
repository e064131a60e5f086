/-
  Texts of the vault, in build order: RdOut.
-/
import Derived.Test.YtbfhcbihgleddaaGreatDoorM10
/-
  Walks over package codec's readers of snapshots: captured frames.
-/
namespace Go.Proofs.YtbfhcbihgleddaaGreatDoor
open Go.RowKit

/-- What readOut reads. -/
def rOut (s : List Nat × Bool) : Ot × (List Nat × Bool) := (⟨((num 2 s).1 : Nat), (rFrame (num 2 s).2).1⟩, (rFrame (num 2 s).2).2)

set_option maxHeartbeats 2000000 in
set_option maxRecDepth 100000 in
theorem readOut_any {R : Nat} {w : World} {s : List Nat × Bool} (h : RdS R w s) :
    Calls Tryz.prog 142 #[.pointer (some ⟨R, 0, none⟩)] w fun e w' => e = .returned (.agg (rOut s).1.cs.toArray) ∧ RdS R w' (rOut s).2 ∧ w.grownBy w' (some R) := by
  have hR := h.lt
  have q := RB.start (t := 151) (n := 8) (ca := #[.int .i64 0, .int .i64 0, .int .i64 0, .int .i64 0, .int .i64 0, .int .i64 0, .int .u64 0, .bool false]) (cs := #[.int .i64 0, .int .i64 0, .int .i64 0, .int .i64 0, .int .i64 0, .int .i64 0, .int .u64 0, .bool false]) rfl h
  unfold rOut
  have hb0 := num_lt (k := 2) h.2
  have n0 := number_any (sz := 2) q.rd (by omega) (by omega)
  rw [show (2 : Int).toNat = 2 from rfl] at n0
  generalize num 2 s = p0 at *
  obtain ⟨ch, s0⟩ := p0
  simp only at *
  have hw : wrap64 (ch : Int) = ch := by unfold wrap64; omega
  have N0 := n0
  clear n0 hb0
  generalize hp : rFrame s0 = p1
  obtain ⟨⟨kd, ke, ti, va, ma, n, ov⟩, s1⟩ := p1
  have HP : Hid (rFrame s0 = (⟨kd, ke, ti, va, ma, n, ov⟩, s1)) := hp
  clear hp
  simp only
  go_enter Tryz.func142, Tryz.ntmps142
  go_wp2_with fail
  refine N0.mono ?_
  rintro e w1 ⟨rfl, hr, hg⟩
  have q := q.call hr hg
  obtain ⟨c0, c1, c2, c3, c4, c5, c6, c7⟩ := q.bF.cells8
  have fr := q.bF.free
  have q := q.set 0 (.int .i64 ch)
  clear hg hr N0
  go_wp2_with fail
  refine (readFrame_any q.rd).mono ?_
  rw [HP.out]
  rintro e w2 ⟨rfl, hr, hg⟩
  have q := q.call hr hg
  clear c0 c1 c2 c3 c4 c5 c6 c7 fr
  simp only [Frm.val, Frm.cs] at *
  obtain ⟨c0, c1, c2, c3, c4, c5, c6, c7⟩ := q.bF.cells8
  have fr := q.bF.free
  have q := ((((((q.set 1 (.int .i64 kd)).set 2 (.int .i64 ke)).set 3 (.int .i64 ti)).set 4 (.int .i64 va)).set 5 (.int .i64 ma)).set 6 (.int .u64 n)).set 7 (.bool ov)
  obtain ⟨e0, e1, e2, e3, e4, e5, e6, e7⟩ := q.bF.cells8
  obtain ⟨ca, hca, bA⟩ := q.bA
  obtain ⟨a0, a1, a2, a3, a4, a5, a6, a7, rfl⟩ := arr8 hca
  obtain ⟨d0, d1, d2, d3, d4, d5, d6, d7⟩ := bA.cells8
  have fa := bA.free
  clear hg hr
  go_wp2
  have bx := bA.setAll (j := 0) (Ot.mk ch ⟨kd, ke, ti, va, ma, n, ov⟩).cs
  have hrd := q.rd.setAll hR (j := 0) (Ot.mk ch ⟨kd, ke, ti, va, ma, n, ov⟩).cs
  have hgr := grown_setAll (Nat.le_refl _) (j := 0) (Ot.mk ch ⟨kd, ke, ti, va, ma, n, ov⟩).cs q.gr
  simp only [setAll, Ot.cs, Nat.reduceAdd] at bx hrd hgr
  obtain ⟨x0, x1, x2, x3, x4, x5, x6, x7⟩ := BoxT.cells8 bx
  exact bodyPost_ret (v := .agg (Ot.mk ch ⟨kd, ke, ti, va, ma, n, ov⟩).cs.toArray) (by simp [results, Tryz.results142, go_sem, x0, x1, x2, x3, x4, x5, x6, x7, Ot.cs]) rfl ⟨rfl, hrd, hgr⟩
end Go.Proofs.YtbfhcbihgleddaaGreatDoor
