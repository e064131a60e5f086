/-
  Proved here: for every job that can be read leatlaw8.JobOrder returns true and leaves its argument as it was (the law of promise P8.2: the order of a job that Check takes has each node once, behind all its inputs).
  Conditions: those that the row prints: an argument that does not lead back into itself, and the form's own reach. Whatever the map of seen places is told of two pointers (the model may draw it), the law holds.
-/
import Derived.Test.YtecaghjddoajmaaJOpenT
import Derived.Test.YtecaghjddoajmaaJLawO
namespace Go.Proofs.Ytecaghjddoajmaa
open Go.ChangeShapes Go.WideShapes Go.ChangeAt Go.WideMaps Go.WideElems Go.RowKit

theorem JobOrder_walk {w : World} {v : Value} {ns : List Nd} (hj : JobIn w.heap.size w v ns) (hE : ExIn w ns) (hT : ∀ n ∈ ns, Thaw w n.e) :
    Calls Try.prog 5 #[.agg #[v]] w fun e w' => e = .returned (.bool true) ∧ Below w.heap.size w w' :=
  JobOrder_from hj hE (fun _ hok _ hb => Check_open ((hj.below hb).mono hb.size) (fun n hn => some52 ((hE n hn).below hb) ((hT n hn).below (hE n hn) hb) (hok n hn)))
theorem Try.ownO : ownKnob Try.prog.godebug = none := by kernel_rfl
set_option maxRecDepth 100000 in
theorem jobOrder_lifted (os : Os) (started : os.Started) (H : Type) (enc : TypeId × Value → H) :
    ReturnsInHanded {} Try.checked os 5 .any (Rows.jobOrderSpec.pre6 enc Try.prog Try.f5 [] false) (Rows.jobOrderSpec.post enc Try.prog Try.f5 false true false false) := by
  refine returnsInHanded_of_change_sized (C := Try.checked) Try.ownO started (by kernel_rfl) Try.func5
    (ChangeSpec.witness6 (enc := enc) (C := Try.checked) false ⟨#[], #[.agg #[.slice none 0 0]], []⟩ 8 (by kernel_rfl) (by kernel_rfl) (by kernel_rfl) (by kernel_rfl)) ?_
  intro W base args ds gs before hval0 hW _ hsz0 _
  have hsz : (DataW.weightsEach Try.prog (Try.f5.params.toList ++ Rows.jobOrderSpec.plain.varTypes Try.prog) (ds ++ gs)).all (· ≤ reachBytes) = true := hsz0
  have hval : ∀ (j : Nat) t v, Try.f5.params[j]? = some t → args[j]? = some v → Value.okWide Try.prog W .any base t v := hval0
  have hW' := hW
  obtain ⟨p, q, hA0, hV, rfl, hnf, _⟩ := hW
  have hA : DataW.TrodAll enc Try.prog W 0 (fun _ => true) true Try.f5.params.toList args.toList ds p := hA0
  rw [Try.params5] at hA hval hsz
  obtain ⟨v0, d0, rfl, rfl, h0⟩ := trodAll_one hA
  obtain ⟨rfl, rfl⟩ := trodVars_none hV
  simp only [List.append_nil] at hW' hnf
  obtain ⟨u, ns, rfl, hj, hE, hT⟩ := open_jobT (hval 0 24 v0 rfl rfl) h0 (fun k hk => by
    have := List.all_eq_true.1 hsz k (DataW.weights_mem_each (j := 0) (t := 24) (d := d0) rfl rfl k hk)
    simpa using this) hnf
  clear hA0 hval0 hA hsz hsz0
  have hlt0 : ∀ z ∈ p, z.block < W.heap.size := fun z hz => hW'.lt z (by simp [hz])
  refine (JobOrder_walk hj hE hT).mono fun e W' ⟨he, hbel⟩ => ?_
  subst he
  refine ⟨_, rfl, _, _, _, [], p, [], hW', ?_, ?_, rfl, hbel.frame _, fun h => by cases h⟩
  · exact trodAll_mk1 (shut_bool Try.underlying4 _)
  · exact trodAll_mk1 (Below.trod Try.laidOut (by kernel_rfl) (of_decide_eq_true (by kernel_rfl)) h0 hbel hlt0)

theorem jobOrder_holds : Rows.JobOrderSaid :=
  OpenClaim.holds_of_wide 5 Try.f5 rfl rfl rfl rfl rfl rfl rfl ⟨rfl, rfl, rfl, rfl, rfl⟩ rfl rfl rfl rfl rfl (by kernel_rfl) Try.func5 (by kernel_rfl)
    (of_decide_eq_true (by kernel_rfl)) (by unfold Func.isWrapper; first | (rw [if_pos (by decide +kernel)]; kernel_rfl) | (rw [if_neg (by decide +kernel)]; exact ⟨rfl, rfl⟩))
    (fun os started H enc _ => jobOrder_lifted os started H enc)
#print axioms jobOrder_holds
end Go.Proofs.Ytecaghjddoajmaa
