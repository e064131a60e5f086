/-
  Proved here: for every whole number and every three lists of bytes that can be read leatlaw15.GateOvertakes returns true and leaves its arguments as they were (the law of promise P15.3: of an unaligned checkpoint what is told between the step that keeps the state and its end, ahead of each channel's barrier, is just what was captured, in order, and no channel is ever blocked).
  Conditions: those that the row prints: the form's own reach alone.
-/
import Derived.Test.YtmipgfobggbndaaGOpen
import Derived.Test.YtmipgfobggbndaaGLawO
namespace Go.Proofs.Ytmipgfobggbndaa
open Go.ChangeShapes Go.WideShapes Go.ChangeAt Go.WideMaps Go.WideElems Go.RowKit

set_option maxRecDepth 100000 in
theorem gateOvertakes_lifted (os : Os) (started : os.Started) (H : Type) (enc : TypeId × Value → H) :
    ReturnsInHanded {} Try.checked os 5 .any (Rows.gateOvertakesSpec.pre6 enc Try.prog Try.f5 [] false) (Rows.gateOvertakesSpec.post enc Try.prog Try.f5 false true false false) := by
  refine returnsInHanded_of_change_sized (C := Try.checked) Try.own started (by kernel_rfl) Try.func5
    (ChangeSpec.witness6 (enc := enc) (C := Try.checked) false ⟨#[], #[.int .i64 0, .slice none 0 0, .slice none 0 0, .slice none 0 0], []⟩ 8 (by kernel_rfl) (by kernel_rfl) (by kernel_rfl) (by kernel_rfl)) ?_
  intro W base args ds gs before hval0 hW _ hsz0 _
  have hsz : (DataW.weightsEach Try.prog (Try.f5.params.toList ++ Rows.gateOvertakesSpec.plain.varTypes Try.prog) (ds ++ gs)).all (· ≤ reachBytes) = true := hsz0
  have hval : ∀ (j : Nat) t v, Try.f5.params[j]? = some t → args[j]? = some v → Value.okWide Try.prog W .any base t v := hval0
  have hW' := hW
  obtain ⟨p, q, hA0, hV, rfl, _, _⟩ := hW
  have hA : DataW.TrodAll enc Try.prog W 0 (fun _ => true) true Try.f5.params.toList args.toList ds p := hA0
  rw [Try.params5] at hA hval hsz
  obtain ⟨v0, v1, v2, v3, d0, d1, d2, d3, p0, p1, p2, p3, rfl, rfl, rfl, h0, h1, h2, h3⟩ := trodAll_four hA
  obtain ⟨rfl, rfl⟩ := trodVars_none hV
  obtain ⟨x0, rfl, rfl, rfl, wx0⟩ := open_int Try.underlying3 (hval 0 3 v0 rfl rfl) h0
  obtain ⟨ao1, cap1, xs1, rfl, hsc1, hb1⟩ := open_u8s (hval 1 57 v1 rfl rfl) h1 (fun k hk => by
    have := List.all_eq_true.1 hsz k (DataW.weights_mem_each (j := 1) (t := 57) (d := d1) rfl rfl k hk)
    simpa using this)
  obtain ⟨ao2, cap2, xs2, rfl, hsc2, hb2⟩ := open_u8s (hval 2 57 v2 rfl rfl) h2 (fun k hk => by
    have := List.all_eq_true.1 hsz k (DataW.weights_mem_each (j := 2) (t := 57) (d := d2) rfl rfl k hk)
    simpa using this)
  obtain ⟨ao3, cap3, xs3, rfl, hsc3, hb3⟩ := open_u8s (hval 3 57 v3 rfl rfl) h3 (fun k hk => by
    have := List.all_eq_true.1 hsz k (DataW.weights_mem_each (j := 3) (t := 57) (d := d3) rfl rfl k hk)
    simpa using this)
  clear hA0 hval0 hA hsz hsz0
  simp only [List.append_nil, List.nil_append] at hW'
  have hlt1 : ∀ z ∈ p1, z.block < W.heap.size := fun z hz => hW'.lt z (by simp [hz])
  have hlt2 : ∀ z ∈ p2, z.block < W.heap.size := fun z hz => hW'.lt z (by simp [hz])
  have hlt3 : ∀ z ∈ p3, z.block < W.heap.size := fun z hz => hW'.lt z (by simp [hz])
  refine (GateOvertakes_walk W x0 ao1 cap1 xs1 hsc1 hb1 ao2 cap2 xs2 hsc2 hb2 ao3 cap3 xs3 hsc3 hb3).mono fun e W' ⟨he, hbel⟩ => ?_
  subst he
  refine ⟨_, rfl, _, _, _, [], [] ++ (p1 ++ (p2 ++ p3)), [], hW', ?_, ?_, rfl, hbel.frame _, fun h => by cases h⟩
  · exact trodAll_mk1 (shut_bool Try.underlying4 _)
  · exact trodAll_mk4 (shut_int Try.underlying3 wx0) (Below.trod Try.laidOut (by kernel_rfl) (of_decide_eq_true (by kernel_rfl)) h1 hbel hlt1) (Below.trod Try.laidOut (by kernel_rfl) (of_decide_eq_true (by kernel_rfl)) h2 hbel hlt2) (Below.trod Try.laidOut (by kernel_rfl) (of_decide_eq_true (by kernel_rfl)) h3 hbel hlt3)

theorem gateOvertakes_holds : Rows.GateOvertakesSaid :=
  OpenClaim.holds_of_wide 5 Try.f5 rfl rfl rfl rfl rfl rfl rfl ⟨rfl, rfl, rfl, rfl, rfl⟩ rfl rfl rfl rfl rfl (by kernel_rfl) Try.func5 (by kernel_rfl)
    (of_decide_eq_true (by kernel_rfl)) (by unfold Func.isWrapper; first | (rw [if_pos (by decide +kernel)]; kernel_rfl) | (rw [if_neg (by decide +kernel)]; exact ⟨rfl, rfl⟩))
    (fun os started H enc _ => gateOvertakes_lifted os started H enc)
#print axioms gateOvertakes_holds
end Go.Proofs.Ytmipgfobggbndaa
