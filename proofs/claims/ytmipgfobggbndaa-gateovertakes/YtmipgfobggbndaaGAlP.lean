/-
  For GateAligns, plainly: the gate by the barriers that have come; the frames that are left.
-/
import Derived.Test.YtmipgfobggbndaaGLawN
namespace Go.Proofs.Ytmipgfobggbndaa
open Go.RowKit

/-- The gate of an aligned checkpoint 9, by the channels whose barrier has come. -/
def alS (n : Nat) (C : List Bool) : Gs :=
  if C.any id then { M := List.replicate n mn, la := 9, un := if C.all id then 0 else 9, ov := false, co := C, cp := [] } else Gs.new n
def rc (v : Int) : Fr := ⟨1, 0, 0, v, 0, 0, false⟩
def br (o : Bool) : Fr := ⟨3, 0, 0, 0, 0, 9, o⟩
/-- All lists of n truth values. -/
def bools : Nat → List (List Bool)
  | 0 => [[]]
  | n + 1 => (bools n).flatMap fun l => [true :: l, false :: l]
theorem mem_bools (l : List Bool) : l ∈ bools l.length := by
  induction l with
  | nil => simp [bools]
  | cons b l ih =>
    simp only [List.length_cons, bools, List.mem_flatMap]
    exact ⟨l, ih, by cases b <;> simp⟩
def gsEq (a b : Gs) : Bool := a.M == b.M && a.la == b.la && a.un == b.un && a.ov == b.ov && a.co == b.co && a.cp.length == 0 && b.cp.length == 0
theorem gsEq_eq {a b : Gs} (h : gsEq a b = true) : a = b := by
  unfold gsEq at h
  simp only [Bool.and_eq_true, beq_iff_eq] at h
  obtain ⟨⟨⟨⟨⟨⟨h1, h2⟩, h3⟩, h4⟩, h5⟩, h6⟩, h7⟩ := h
  obtain ⟨M, la, un, ov, co, cp⟩ := a
  obtain ⟨M', la', un', ov', co', cp'⟩ := b
  simp only at *
  rw [List.length_eq_zero_iff.1 h6, List.length_eq_zero_iff.1 h7, h1, h2, h3, h4, h5]
def chkC (n : Nat) (C : List Bool) (c : Nat) : Bool :=
  let s := alS n C
  s.bl (c : Int) == (C.getD c false && !C.all id) &&
  (s.bl (c : Int) || (s.tkE (c : Int) == 0 && [1, 2].all (fun v => gsEq (s.tk (c : Int) (rc v)) s && (s.tkS (c : Int) (rc v)).kd == 1 && (s.tkS (c : Int) (rc v)).va == v))) &&
  (C.getD c false || (gsEq (s.tk (c : Int) (br false)) (alS n (C.set c true)) && (s.tkS (c : Int) (br false)).kd == (if (C.set c true).all id then 3 else 0)))
def chkL : Bool := (List.range 7).all fun n => n == 0 || (bools n).all fun C => (List.range n).all (chkC n C)
set_option maxRecDepth 100000 in
theorem chkL_true : chkL = true := by decide +kernel
theorem bools_len {n : Nat} : ∀ {l : List Bool}, l ∈ bools n → l.length = n := by
  induction n with
  | zero => intro l h; simp [bools] at h; rw [h]; rfl
  | succ n ih =>
    intro l h
    simp only [bools, List.mem_flatMap] at h
    obtain ⟨m, hm, hl⟩ := h
    simp at hl
    rcases hl with rfl | rfl <;> simp [ih hm]
structure AF (n : Nat) (C : List Bool) (c : Nat) : Prop where
  bl : (alS n C).bl (c : Int) = (C.getD c false && !C.all id)
  er : (alS n C).bl (c : Int) = false → (alS n C).tkE (c : Int) = 0
  rc1 : (alS n C).bl (c : Int) = false → ∀ v, (v = 1 ∨ v = 2) → (alS n C).tk (c : Int) (rc v) = alS n C ∧ ((alS n C).tkS (c : Int) (rc v)).kd = 1 ∧ ((alS n C).tkS (c : Int) (rc v)).va = v
  br1 : C.getD c false = false → (alS n C).tk (c : Int) (br false) = alS n (C.set c true) ∧ ((alS n C).tkS (c : Int) (br false)).kd = (if (C.set c true).all id then 3 else 0)
theorem AF.of {n : Nat} {C : List Bool} {c : Nat} (h1 : 1 ≤ n) (h6 : n ≤ 6) (hC : C.length = n) (hc : c < n) : AF n C c := by
  have h := all_range chkL_true (show n < 7 by omega)
  simp only [show (n == 0) = false by simp; omega, Bool.false_or] at h
  have h := List.all_eq_true.1 h C (by rw [← hC]; exact mem_bools C)
  have h := all_range h hc
  unfold chkC at h
  simp only [Bool.and_eq_true, Bool.or_eq_true, beq_iff_eq] at h
  obtain ⟨⟨h1, h2⟩, h3⟩ := h
  refine ⟨h1, fun hb => ?_, fun hb v hv => ?_, fun hb => ?_⟩
  · rcases h2 with h2 | h2
    · rw [hb] at h2; cases h2
    · exact h2.1
  · rcases h2 with h2 | h2
    · rw [hb] at h2; cases h2
    · have := List.all_eq_true.1 h2.2 v (by rcases hv with rfl | rfl <;> simp)
      simp only [Bool.and_eq_true, beq_iff_eq] at this
      exact ⟨gsEq_eq this.1.1, this.1.2, this.2⟩
  · rcases h3 with h3 | h3
    · rw [hb] at h3; cases h3
    · exact ⟨gsEq_eq h3.1, h3.2⟩
/-- What is left of a channel: its barrier among it, or not. -/
def lf (p : Bool) (x y : Nat) : List Fr := if p then List.replicate y (rc 2) else List.replicate x (rc 1) ++ br false :: List.replicate y (rc 2)
end Go.Proofs.Ytmipgfobggbndaa
