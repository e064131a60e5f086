/-
  Texts in build order: ZPRNode.
-/
import Derived.Test.YtpcbhcdpegbfjaaGreatM30
import Derived.Test.YtpcbhcdpegbfjaaGreatM31
import Derived.Test.YtpcbhcdpegbfjaaGreatM32
/-
  The document's node, of any node: what it takes the program takes too.
-/
namespace Go.Proofs.YtpcbhcdpegbfjaaGreat.J
open Go.RowKit

set_option maxHeartbeats 1000000 in
set_option maxRecDepth 100000 in
theorem zeroE_any (op n : Int) (a : Option Addr) (m c : Nat) (w : World) : Calls Tryz.prog 53 #[.agg #[.int .i64 op, .int .i64 n, .slice a m c]] w fun e w' => e = .returned (.bool (decide (op = 0 ∧ n = 0 ∧ m = 0))) ∧ Below w.heap.size w w' := by
  have HB := hide (below_box w (.cells #[.int .i64 op, .int .i64 n, .slice a m c] 25))
  obtain ⟨R, hR⟩ : ∃ R, decide (op = 0 ∧ n = 0 ∧ m = 0) = R := ⟨_, rfl⟩
  rw [hR]
  by_cases h1 : op = 0
  · by_cases h2 : n = 0
    · have HE : Hid (((m : Int) == 0) = R) := (show _ = R by rw [← hR]; subst h1 h2; by_cases h : m = 0 <;> simp [h])
      subst h1 h2
      clear hR
      go_enter Tryz.func53, Tryz.ntmps53
      go_wp2_with fail
      go_ret
      exact ⟨ret_bool HE.out, HB.out⟩
    · have g2 : (n == 0) = false := by simp [h2]
      have hR' : false = R := by rw [← hR]; simp [h2]
      subst hR' h1
      clear hR h2
      go_enter Tryz.func53, Tryz.ntmps53
      go_wp2_with fail
      go_ret
      exact ⟨rfl, HB.out⟩
  · have g1 : (op == 0) = false := by simp [h1]
    have hR' : false = R := by rw [← hR]; simp [h1]
    subst hR'
    clear hR h1
    go_enter Tryz.func53, Tryz.ntmps53
    go_wp2_with fail
    go_ret
    exact ⟨rfl, HB.out⟩
def RN (w : World) (ns : List Nd) (n : Nd) (e : Ending) (w' : World) : Prop := ∃ c : Int, e = .returned (.int .i64 c) ∧ (c = 0 → ckE ns n = 0) ∧ Below w.heap.size w w'
theorem ckE_of {ns : List Nd} {n : Nd} (h0 : 1 ≤ n.kind ∧ n.kind ≤ 8) (h1 : cntOk n.kind n.ins.length = true) (h2 : ∀ x ∈ n.ins, okIn (ns.map Nd.kind) x = true) (h3 : 1 ≤ n.par ∧ n.par ≤ 4) (h4 : exB n.kind n.e.op n.e.n n.e.l.length (chk n.e) = true) (h5 : aggB n.kind n.agg = true) (h6 : winB n.kind n.wk n.ws n.wl = true) : ckE ns n = 0 := by
  unfold ckE ckN
  have hin : inB (ns.map Nd.kind) n.kind n.ins = true := by
    unfold inB
    rw [h1, Bool.true_and, List.all_eq_true]
    exact h2
  rw [if_neg (by omega), hin, h4, h5, h6, if_neg (by decide), if_neg (by omega), if_neg (by decide), if_neg (by decide), if_neg (by decide)]
theorem okIn_of {ns : List Nd} {f : Nat} {m : Nd} (hm : ns[f]? = some m) (h8 : ¬ m.kind = 8) : okIn (ns.map Nd.kind) (f : Int) = true := by
  have hf := lt_of_get hm
  unfold okIn
  have e : (ns.map Nd.kind).getD (f : Int).toNat 0 = m.kind := by simp [hm]
  rw [e, Bool.and_eq_true]
  refine ⟨decide_eq_true ?_, decide_eq_true h8⟩
  rw [List.length_map]
  omega
theorem ok_next {ns : List Nd} {ins : List Int} {t : Nat} {x : Int} (h : ∀ j < t, ∀ x, ins[j]? = some x → okIn (ns.map Nd.kind) x = true) (hx : ins[t]? = some x) (hk : okIn (ns.map Nd.kind) x = true) : ∀ j < t + 1, ∀ x, ins[j]? = some x → okIn (ns.map Nd.kind) x = true := by
  intro j hj y hy
  rcases Nat.lt_succ_iff_lt_or_eq.1 hj with h1 | h1
  · exact h j h1 y hy
  · subst h1
    rw [hx] at hy
    cases hy
    exact hk
end Go.Proofs.YtpcbhcdpegbfjaaGreat.J
