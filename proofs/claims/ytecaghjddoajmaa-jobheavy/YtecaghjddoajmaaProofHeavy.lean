/-
  Proved here: for every row of bytes leatlaw8.JobHeavy returns true and leaves it as it was (the law of promise P8.2: the weights of a job's nodes are those that the document counts, and the job is refused as too heavy exactly where one is above 64).
  Conditions: those that the row prints: an argument that does not lead back into itself, and the form's own reach.
-/
import Derived.Test.YtecaghjddoajmaaJOpen
import Derived.Test.YtecaghjddoajmaaJHeavy
namespace Go.Proofs.Ytecaghjddoajmaa
open Go.ChangeShapes Go.WideShapes Go.ChangeAt Go.WideMaps Go.WideElems Go.RowKit

theorem Try.ownH : ownKnob Try.prog.godebug = none := by kernel_rfl
theorem Try.cells5 : Try.prog.cellsOf 5 = 1 := by kernel_rfl
theorem Try.bytes5 : Try.prog.bytesOf 5 = 1 := by kernel_rfl
theorem wf_u8 {n : Int} (h : (Lit.int .u8 n).wf = true) : 0 ≤ n ∧ n ≤ 255 := by
  have h1 : IntKind.u8.min = 0 := rfl
  have h2 : IntKind.u8.max = 255 := rfl
  simp only [Lit.wf, Bool.and_eq_true, decide_eq_true_eq] at h
  omega
section
variable {H : Type} {enc : TypeId × Value → H} {W : World} {base b0 : Nat} {held : Bool}
set_option maxRecDepth 100000 in
theorem one_u8 {m : Nat} {ce : List Value} {y : DataW H × List MemPlace} (h : DataW.trod enc Try.prog W base (fun _ => true) held m 5 ce = some y) : ∃ x : Int, ce = u8c x ∧ (Lit.int .u8 x).wf = true := by
  obtain ⟨n, e, _, w⟩ := DataW.trod_int Try.underlying5 h
  exact ⟨n, e, w⟩
set_option maxRecDepth 100000 in
theorem open_u8s {v : Value} {d : DataW H} {p : List MemPlace} (hv : Value.okWide Try.prog W .any b0 52 v) (h : DataW.Trod enc Try.prog W base (fun _ => true) held 52 v d p)
    (hsz : ∀ n ∈ d.weights Try.prog 52, n ≤ reachBytes) : ∃ l : List Int, LSeg 1 u8c W.heap.size W v l ∧ ∀ x ∈ l, 0 ≤ x ∧ x ≤ 255 := by
  obtain ⟨a0, len, cap, rfl⟩ := okWide_slice Try.underlying52 hv
  obtain ⟨fuel, hf⟩ := h
  obtain ⟨ao, cap, xs, e, h1, h2, h3, h4, h5⟩ := open_lseg (0 : Int) (cs := u8c) (ok := fun x => (Lit.int .u8 x).wf = true) Try.underlying52 Try.cells5 (by decide) (by rw [Try.bytes5]; decide) (fun _ _ _ h _ => one_u8 h) hf hsz
  simp [Value.cells] at e
  obtain ⟨rfl, rfl, rfl⟩ := e
  exact ⟨xs, h1, fun x hx => wf_u8 (h2 x hx)⟩
end
set_option maxRecDepth 100000 in
theorem jobHeavy_lifted (os : Os) (started : os.Started) (H : Type) (enc : TypeId × Value → H) :
    ReturnsInHanded {} Try.checked os 7 .any (Rows.jobHeavySpec.pre6 enc Try.prog Try.f7 [] false) (Rows.jobHeavySpec.post enc Try.prog Try.f7 false true false false) := by
  refine returnsInHanded_of_change_sized (C := Try.checked) Try.ownH started (by kernel_rfl) Try.func7
    (ChangeSpec.witness6 (enc := enc) (C := Try.checked) false ⟨#[], #[.slice none 0 0], []⟩ 8 (by kernel_rfl) (by kernel_rfl) (by kernel_rfl) (by kernel_rfl)) ?_
  intro W base args ds gs before hval0 hW _ hsz0 _
  have hsz : (DataW.weightsEach Try.prog (Try.f7.params.toList ++ Rows.jobHeavySpec.plain.varTypes Try.prog) (ds ++ gs)).all (· ≤ reachBytes) = true := hsz0
  have hval : ∀ (j : Nat) t v, Try.f7.params[j]? = some t → args[j]? = some v → Value.okWide Try.prog W .any base t v := hval0
  have hW' := hW
  obtain ⟨p, q, hA0, hV, rfl, _, _⟩ := hW
  have hA : DataW.TrodAll enc Try.prog W 0 (fun _ => true) true Try.f7.params.toList args.toList ds p := hA0
  rw [Try.params7] at hA hval hsz
  obtain ⟨v0, d0, rfl, rfl, h0⟩ := trodAll_one hA
  obtain ⟨rfl, rfl⟩ := trodVars_none hV
  obtain ⟨xs, hl, hx⟩ := open_u8s (hval 0 52 v0 rfl rfl) h0 (fun k hk => by
    have := List.all_eq_true.1 hsz k (DataW.weights_mem_each (j := 0) (t := 52) (d := d0) rfl rfl k hk)
    simpa using this)
  clear hA0 hval0 hA hsz hsz0
  simp only [List.append_nil] at hW'
  have hlt0 : ∀ z ∈ p, z.block < W.heap.size := fun z hz => hW'.lt z (by simp [hz])
  refine (JobHeavy_walk hl hx).mono fun e W' ⟨he, hbel⟩ => ?_
  subst he
  refine ⟨_, rfl, _, _, _, [], p, [], hW', ?_, ?_, rfl, hbel.frame _, fun h => by cases h⟩
  · exact trodAll_mk1 (shut_bool Try.underlying4 _)
  · exact trodAll_mk1 (Below.trod Try.laidOut (by kernel_rfl) (of_decide_eq_true (by kernel_rfl)) h0 hbel hlt0)

theorem jobHeavy_holds : Rows.JobHeavySaid :=
  OpenClaim.holds_of_wide 7 Try.f7 rfl rfl rfl rfl rfl rfl rfl ⟨rfl, rfl, rfl, rfl, rfl⟩ rfl rfl rfl rfl rfl (by kernel_rfl) Try.func7 (by kernel_rfl)
    (of_decide_eq_true (by kernel_rfl)) (by unfold Func.isWrapper; first | (rw [if_pos (by decide +kernel)]; kernel_rfl) | (rw [if_neg (by decide +kernel)]; exact ⟨rfl, rfl⟩))
    (fun os started H enc _ => jobHeavy_lifted os started H enc)
#print axioms jobHeavy_holds
end Go.Proofs.Ytecaghjddoajmaa
