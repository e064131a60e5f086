/-
  CoordWaits: its states.
-/
import Derived.Test.YtgjjacljjlhnhaaCBegP
namespace Go.Proofs.Ytgjjacljjlhnhaa
open Go.RowKit

/-- The coordinator of CoordWaits. -/
def wS (N I T pa un gr ti be : Nat) (AK : List Int) (st : Bool) : Cd := ⟨I, T, pa, 1, 0, un, st, gr, ti, be, rl N, [0], (rl N).reverse, AK, []⟩
section
variable {N I T pa un gr ti be : Nat} {AK : List Int}
theorem w_tick : cTickS (wS N I T pa un gr ti be AK false) = cMove (wS N I T pa un gr (ti + 1) be AK false) := tickS_full (by unfold wS; simp) (rev_full N)
theorem w_wait (h : ti + 1 < be + I) : cTickS (wS N I T pa 0 gr ti be AK false) = wS N I T pa 0 gr (ti + 1) be AK false := by
  rw [w_tick]
  exact move_wait rfl h
theorem w_next (h : be + I ≤ ti + 1) : cTickS (wS N I T pa 0 gr ti be AK false) = wS N I T pa (gr + 1) (gr + 1) (ti + 1) (ti + 1) [] false := by
  rw [w_tick]
  exact move_next rfl h
theorem w_stay (hu : 0 < un) (h : ti + 1 < be + pa) : cTickS (wS N I T pa un gr ti be AK false) = wS N I T pa un gr (ti + 1) be AK false := by
  rw [w_tick]
  exact move_stay hu (.inr h)
theorem w_give (hu : 0 < un) (h : be + pa ≤ ti + 1) (hp : pa ≤ 1000) : cTickS (wS N I T pa un gr ti be AK false) = if be + I ≤ ti + 1 then wS N I T (2 * pa) (gr + 1) (gr + 1) (ti + 1) (ti + 1) [] false else wS N I T (2 * pa) 0 gr (ti + 1) be AK false := by
  rw [w_tick, move_give hu rfl h]
  have e : min (2 * pa) 1048576 = 2 * pa := by omega
  show (if be + I ≤ ti + 1 then cNext (wS N I T (min (2 * pa) 1048576) 0 gr (ti + 1) be AK false) else wS N I T (min (2 * pa) 1048576) 0 gr (ti + 1) be AK false) = _
  rw [e]; rfl
theorem w_ok {st : Bool} (h1 : ti ≤ 100000) (h2 : be ≤ ti) (h3 : gr ≤ 100000) (h4 : pa ≤ 1000) : (wS N I T pa un gr ti be AK st).ti < 999999999 ∧ (wS N I T pa un gr ti be AK st).be ≤ (wS N I T pa un gr ti be AK st).ti ∧ (wS N I T pa un gr ti be AK st).gr < 4611686018427387904 ∧ (wS N I T pa un gr ti be AK st).pa ≤ 1048576 := by
  unfold wS
  simp only
  omega
theorem w_take {j : Nat} (hu : 0 < un) (hj : j < N) : cTakeS (wS N I T pa un gr ti be (rl j).reverse (decide (j = N))) ⟨2, 1, un, (j : Int)⟩ = wS N I T pa un gr ti be (rl (j + 1)).reverse (decide (j + 1 = N)) := by
  have e : cTakeS (wS N I T pa un gr ti be (rl j).reverse (decide (j = N))) ⟨2, 1, un, (j : Int)⟩ = wS N I T pa un gr ti be (ansL (rl N) (rl j).reverse (j : Int)) (decide (j = N) || ansB (rl N) (rl j).reverse (j : Int)) := by
    unfold cTakeS wS
    simp [hu]
  rw [e, ans_rl hj, ansB_rl hj]
  have : decide (j = N) = false := by simp; omega
  rw [this, Bool.false_or]
theorem w_old {n : Nat} {x : Int} {st : Bool} (hn : n ≠ un) : cTakeS (wS N I T pa un gr ti be AK st) ⟨2, 1, n, x⟩ = wS N I T pa un gr ti be AK st ∧ cTakeN (wS N I T pa un gr ti be AK st) ⟨2, 1, n, x⟩ = 0 := by
  unfold cTakeS cTakeN wS
  simp [hn]
/-- Behind its end. -/
def wD (N I T un gr ti be : Nat) (AK : List Int) : Cd := ⟨I, T, T, 1, un, 0, false, gr, ti, be, rl N, [0], (rl N).reverse, AK, []⟩
theorem w_sto : cStoS (wS N I T pa un gr ti be AK true) un true = wD N I T un gr ti be AK := by
  unfold cStoS wS wD
  simp
end
theorem bnd_id {n : Nat} (h1 : 1 ≤ n) (h2 : n ≤ 1000) : bnd (n : Int) = n := by unfold bnd; omega
/-- What stands at the head of a turn. -/
structure wH (I un gr ti be : Nat) (AK : List Int) (k : Nat) : Prop where
  b : be ≤ ti
  g : gr ≤ 2 * k + 1
  t : ti ≤ 200 * k
  c : (un = 0 ∧ ti < be + I) ∨ (un = gr ∧ 1 ≤ gr ∧ be = ti ∧ AK = [])

end Go.Proofs.Ytgjjacljjlhnhaa
