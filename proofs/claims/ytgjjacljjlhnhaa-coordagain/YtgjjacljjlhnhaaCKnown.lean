/-
  known.
-/
import Derived.Test.YtgjjacljjlhnhaaCFace
namespace Go.Proofs.Ytgjjacljjlhnhaa
open Go.RowKit

def K0 : Cd := cNew [4, 5] [5] 3 9
def K1 : Cd := cBegS K0 1 0 0
def K2 : Cd := cTakeS K1 ⟨6, 1, 0, 4⟩
def K3 : Cd := cTickS K2
def K4 : Cd := cTakeS K3 ⟨6, 1, 0, 5⟩
def K5 : Cd := cTickS K4
def K6 : Cd := cTickS K5
def K7 : Cd := cTickS K6
def K8 : Cd := cTakeS K7 ⟨2, 1, 1, 4⟩
def K9 : Cd := cTakeS K8 ⟨2, 1, 1, 5⟩
def K10 : Cd := cStoS K9 1 true
def K11 : Cd := cTakeS K10 ⟨4, 1, 1, 5⟩
theorem k_a : cBegO K0 1 0 0 = [⟨5, 1, 0, 4⟩, ⟨5, 1, 0, 5⟩] := by kernel_rfl
theorem k_b : cTickO K2 = [⟨5, 1, 0, 5⟩] := by kernel_rfl
theorem k_d : cTickO K6 = [⟨1, 1, 1, 4⟩, ⟨1, 1, 1, 5⟩] := by kernel_rfl
theorem k_n : cTakeN K7 ⟨2, 1, 1, 4⟩ = 0 := by kernel_rfl
theorem k_m : cTakeN K8 ⟨2, 1, 1, 5⟩ = 1 := by kernel_rfl
theorem k_e : cStoO K9 1 true = [⟨3, 1, 1, 5⟩] := by kernel_rfl
theorem k_is : cSet K10 = false := by kernel_rfl
theorem k_set : cSet K11 = true := by kernel_rfl
theorem k_du : K11.du = 1 := by kernel_rfl
theorem k_un : K11.un = 0 := by kernel_rfl
theorem k_t2 : K2.ti < 999999999 ∧ K2.be ≤ K2.ti ∧ K2.gr < 4611686018427387904 ∧ K2.pa ≤ 1048576 := by decide +kernel
theorem k_t4 : K4.ti < 999999999 ∧ K4.be ≤ K4.ti ∧ K4.gr < 4611686018427387904 ∧ K4.pa ≤ 1048576 := by decide +kernel
theorem k_t5 : K5.ti < 999999999 ∧ K5.be ≤ K5.ti ∧ K5.gr < 4611686018427387904 ∧ K5.pa ≤ 1048576 := by decide +kernel
theorem k_t6 : K6.ti < 999999999 ∧ K6.be ≤ K6.ti ∧ K6.gr < 4611686018427387904 ∧ K6.pa ≤ 1048576 := by decide +kernel
theorem in4 : In64 4 := by unfold In64; omega
theorem in5 : In64 5 := by unfold In64; omega
theorem known_new (w : World) : Calls Try.prog 10 #[.slice (some ⟨w.heap.size, 0, none⟩) 2 2, .slice (some ⟨w.heap.size + 1, 0, none⟩) 1 1, .int .i64 3, .int .i64 9] ((w.alloc (.cells #[.int .i64 4, .int .i64 5] 3)).alloc (.cells #[.int .i64 5] 3)) fun e w' => ∃ l P, e = .returned (.pointer (some ⟨l, 0, none⟩)) ∧ KX w w' l P K0 [] := by
  have hb := below_box2 w (.cells #[.int .i64 4, .int .i64 5] 3) (.cells #[.int .i64 5] 3)
  have h1 : BoxT 3 ((w.alloc (.cells #[.int .i64 4, .int .i64 5] 3)).alloc (.cells #[.int .i64 5] 3)) w.heap.size #[.int .i64 4, .int .i64 5] := (BoxT.new 3 w _).alloc _
  have h2 : BoxT 3 ((w.alloc (.cells #[.int .i64 4, .int .i64 5] 3)).alloc (.cells #[.int .i64 5] 3)) (w.heap.size + 1) #[.int .i64 5] := BoxT.new_at (by simp)
  have s1 := seg_lit (c := 2) [4, 5] h1 (by simp)
  have s2 := seg_lit (c := 1) [5] h2 (by simp)
  generalize (w.alloc (.cells #[.int .i64 4, .int .i64 5] 3)).alloc (.cells #[.int .i64 5] 3) = W at *
  refine (KX.made (s' := K0) hb s1 (Nat.le_refl _) s2 (Nat.le_refl _) (by simp) (by simp) ?_ ?_ 3 9 rfl).mono ?_
  · intro x hx
    simp at hx
    rcases hx with rfl | rfl
    · exact in4
    · exact in5
  · intro x hx
    simp at hx
    subst hx
    exact in5
  · rintro e w9 ⟨l, P, rfl, k9, -, -⟩
    exact ⟨l, P, rfl, k9⟩
set_option maxHeartbeats 4000000 in
set_option maxRecDepth 100000 in
theorem known_any (w : World) : Calls Try.prog 8 #[] w fun e w' => e = .returned (.bool true) ∧ Below w.heap.size w w' := by
  go_enter Try.func8, Try.ntmps8
  go_wp2_with (first | (go_at_call 10; refine (known_new w).mono ?_; rintro e w9 ⟨l, P, rfl, k9⟩; have A0 := hide k9; clear k9) | (have chk := A0; clear chk; go_at_call 14; refine (A0.out.begin 1 0 0 (s' := K1) rfl k_a).mono ?_; rintro e w9 ⟨ua, rfl, k9⟩; have A1 := hide k9; clear k9 A0) | (have chk := A1; clear chk; go_at_call 16; refine (A1.out.take ⟨6, 1, 0, 4⟩ in4 (s' := K2) rfl rfl).mono ?_; rintro e w9 ⟨rfl, k9⟩; have A2 := hide k9; clear k9 A1) | (have chk := A2; clear chk; go_at_call 15; refine (A2.out.tick k_t2 (s' := K3) rfl k_b).mono ?_; rintro e w9 ⟨ub, rfl, k9⟩; have A3 := hide k9; clear k9 A2) | (have chk := A3; clear chk; go_at_call 16; refine (A3.out.take ⟨6, 1, 0, 5⟩ in5 (s' := K4) rfl rfl).mono ?_; rintro e w9 ⟨rfl, k9⟩; have A4 := hide k9; clear k9 A3) | (have chk := A4; clear chk; go_at_call 15; refine (A4.out.tick k_t4 (s' := K5) rfl rfl).mono ?_; rintro e w9 ⟨uz, rfl, k9⟩; have A5 := hide k9; clear k9 A4) | (have chk := A5; clear chk; go_at_call 15; refine (A5.out.tick k_t5 (s' := K6) rfl rfl).mono ?_; rintro e w9 ⟨uy, rfl, k9⟩; have A6 := hide k9; clear k9 A5) | (have chk := A6; clear chk; go_at_call 15; refine (A6.out.tick k_t6 (s' := K7) rfl k_d).mono ?_; rintro e w9 ⟨ud, rfl, k9⟩; have A7 := hide k9; clear k9 A6) | (have chk := A7; clear chk; go_at_call 16; refine (A7.out.take ⟨2, 1, 1, 4⟩ in4 (s' := K8) rfl k_n).mono ?_; rintro e w9 ⟨rfl, k9⟩; have A8 := hide k9; clear k9 A7) | (have chk := A8; clear chk; go_at_call 16; refine (A8.out.take ⟨2, 1, 1, 5⟩ in5 (s' := K9) rfl k_m).mono ?_; rintro e w9 ⟨rfl, k9⟩; have A9 := hide k9; clear k9 A8) | (have chk := A9; clear chk; go_at_call 18; refine (A9.out.stored 1 true (s' := K10) rfl k_e).mono ?_; rintro e w9 ⟨ue, rfl, k9⟩; have A10 := hide k9; clear k9 A9) | (have chk := A10; clear chk; go_at_call 22; refine (A10.out.settled k_is).mono ?_; rintro e w9 ⟨rfl, k9⟩; have A11 := hide k9; clear k9 A10) | (have chk := A11; clear chk; go_at_call 16; refine (A11.out.take ⟨4, 1, 1, 5⟩ in5 (s' := K11) rfl rfl).mono ?_; rintro e w9 ⟨rfl, k9⟩; have A12 := hide k9; clear k9 A11; obtain ⟨ga, ca, rfl, a0, a1, a2, a3⟩ := A12.out.read (show (ua, [⟨5, 1, 0, 4⟩, ⟨5, 1, 0, 5⟩]) ∈ _ by simp) (i := 0) rfl; obtain ⟨gb, cb, rfl, b0, b1, b2, b3⟩ := A12.out.read (show (ub, [⟨5, 1, 0, 5⟩]) ∈ _ by simp) (i := 0) rfl; obtain ⟨gd, cd, rfl, d0, d1, d2, d3⟩ := A12.out.read (show (ud, [⟨1, 1, 1, 4⟩, ⟨1, 1, 1, 5⟩]) ∈ _ by simp) (i := 1) rfl; obtain ⟨ge, ce, rfl, e0, e1, e2, e3⟩ := A12.out.read (show (ue, [⟨3, 1, 1, 5⟩]) ∈ _ by simp) (i := 0) rfl; simp only [Nat.zero_mul, Nat.zero_add, Nat.one_mul, Nat.reduceAdd, Int.cast_ofNat_Int] at a0 a1 a2 a3 b0 b1 b2 b3 d0 d1 d2 d3 e0 e1 e2 e3) | (have chk := A12; clear chk; go_at_call 22; refine (A12.out.settled k_set).mono ?_; rintro e w9 ⟨rfl, k9⟩; have A13 := hide k9; clear k9 A12) | (have chk := A13; clear chk; go_at_call 21; refine (Durable_any A13.out.x).mono ?_; rintro e w9 ⟨rfl, rfl⟩; rw [k_du]) | (have chk := A13; clear chk; go_at_call 17; refine (Under_any A13.out.x).mono ?_; rintro e w9 ⟨rfl, rfl⟩; rw [k_un]) | fail)
  go_ret
  exact ⟨rfl, A13.out.b⟩

end Go.Proofs.Ytgjjacljjlhnhaa
