/-
  Proved here: for every two slices of bytes, every int and every uint8 that can be read, leatlaw1.CodecSeals returns true and leaves its arguments as they were (the law of promises P1.1 and P1.7: a seal opens to what was sealed, whatever stands behind it; one that is cut off, or changed in one bit behind its length, is refused; sums are the document's).
  Conditions: those that the row and its card print: the table leat/codec.nibbles reads as the program's own text lays it (the tie is the given one), and the form's own reach.
-/
import Derived.Test.YtaajjejgjnlbgaaDoorReads
import Derived.Test.YtaajjejgjnlbgaaDoorLawSeals
import Derived.Test.YtaajjejgjnlbgaaDoorTie
import Derived.Test.YtaajjejgjnlbgaaDoorCards
import Derived.SevenTiedAt
namespace Go.Proofs.YtaajjejgjnlbgaaDoor
open Go.ChangeShapes Go.WideShapes Go.ChangeAt Go.WideMaps Go.WideElems Go.RowKit

set_option maxRecDepth 100000 in
theorem codecSeals_lifted (os : Os) (started : os.Started) (H : Type) (enc : TypeId × Value → H) :
    ReturnsInHanded {} Tryd.checked os 7 .any (fun w args => (Rows.codecSealsSpec.pre enc Tryd.prog Tryd.f7 [] false w args ∧ laidMetH Tryd.prog laid1 w) ∧ sizedMet enc Tryd.prog Tryd.f7 (OpenSpec.ofChange Rows.codecSealsSpec) false w args)
      (Rows.codecSealsSpec.post enc Tryd.prog Tryd.f7 false true false false) := by
  refine returnsInHanded_of_change_and (C := Tryd.checked) (X := fun w _ => laidMetH Tryd.prog laid1 w) (fun _ _ _ hh h => h.of_heap hh) Tryd.own started (by kernel_rfl) Tryd.func7
    (ChangeSpec.witness_shaped (enc := enc) (C := Tryd.checked) (os := os) (X := fun w _ => laidMetH Tryd.prog laid1 w) false (World.doorLaid Tryd.prog 400 os) #[.slice none 0 0, .slice none 0 0, .int .i64 0, .int .u8 0] 8 rfl (World.shaped_of_RefB (by kernel_rfl) (by kernel_rfl)) (by kernel_rfl) (by kernel_rfl) (by kernel_rfl) (door_met os _)) ?_
  intro W base args ds gs before hval0 hW _ hsz0 hL _
  have hsz : (DataW.weightsEach Tryd.prog (Tryd.f7.params.toList ++ Rows.codecSealsSpec.plain.varTypes Tryd.prog) (ds ++ gs)).all (· ≤ reachBytes) = true := hsz0
  have hval : ∀ (j : Nat) t v, Tryd.f7.params[j]? = some t → args[j]? = some v → Value.okWide Tryd.prog W .any base t v := hval0
  have hW' := hW
  obtain ⟨p, q, hA0, hV, rfl, _, _⟩ := hW
  have hA : DataW.TrodAll enc Tryd.prog W 0 (fun _ => true) true Tryd.f7.params.toList args.toList ds p := hA0
  rw [Tryd.params7] at hA hval hsz
  obtain ⟨v0, v1, v2, v3, d0, d1, d2, d3, p0, p1, p2, p3, rfl, rfl, rfl, h0, h1, h2, h3⟩ := trodAll_four hA
  obtain ⟨rfl, rfl⟩ := trodVars_none hV
  obtain ⟨l0, s0, b0⟩ := open_bytes (hval 0 30 v0 rfl rfl) h0 (fun el sp hd => sized_slice hsz (j := 0) (t := 30) (e := 5) rfl (by rw [hd]; rfl) Tryd.underlying30)
  obtain ⟨l1, s1, b1⟩ := open_bytes (hval 1 30 v1 rfl rfl) h1 (fun el sp hd => sized_slice hsz (j := 1) (t := 30) (e := 5) rfl (by rw [hd]; rfl) Tryd.underlying30)
  have h2k := h2
  have h3k := h3
  obtain ⟨at_, rfl, rfl, rfl, wa⟩ := open_int Tryd.underlying3 (hval 2 3 v2 rfl rfl) h2
  obtain ⟨bit, rfl, rfl, rfl, wb⟩ := open_int Tryd.underlying5 (hval 3 5 v3 rfl rfl) h3
  have hbit : 0 ≤ bit ∧ bit < 256 := by
    have h1 : IntKind.u8.min = 0 := rfl
    have h2 : IntKind.u8.max = 255 := rfl
    simp only [Lit.wf, Bool.and_eq_true, decide_eq_true_eq] at wb
    omega
  obtain ⟨bn, rfl⟩ := Int.eq_ofNat_of_zero_le hbit.1
  have hg := glob_of_laid hL
  clear hA0 hval0 hA hsz hsz0
  simp only [List.append_nil] at hW'
  have hlt0 : ∀ x ∈ p0, x.block < W.heap.size := fun x hx => hW'.lt x (by simp [hx])
  have hlt1 : ∀ x ∈ p1, x.block < W.heap.size := fun x hx => hW'.lt x (by simp [hx])
  refine (CodecSeals_walk v0 v1 l0 l1 at_ bn W s0 s1 b0 b1 (wf_i64 wa) (by omega) hg).mono fun e W' ⟨he, hbel⟩ => ?_
  subst he
  refine ⟨_, rfl, _, _, _, [], p0 ++ p1, [], hW', ?_, ?_, rfl, hbel.frame _, fun h => by cases h⟩
  · exact trodAll_mk1 (shut_bool Tryd.underlying4 _)
  · have ha := trodAll_mk4 (Below.trod Tryd.laidOut (by kernel_rfl) (of_decide_eq_true (by kernel_rfl)) h0 hbel hlt0) (Below.trod Tryd.laidOut (by kernel_rfl) (of_decide_eq_true (by kernel_rfl)) h1 hbel hlt1) (shut_int Tryd.underlying3 wa) (shut_int Tryd.underlying5 wb)
    rw [show p0 ++ (p1 ++ ([] ++ [])) = p0 ++ p1 from by simp] at ha
    exact ha

theorem codecSeals_holds : Rows.CodecSealsSaid :=
  OpenClaim.holds_of_wide 7 Tryd.f7 rfl rfl rfl rfl rfl rfl rfl ⟨rfl, rfl, rfl, rfl, rfl⟩ rfl rfl rfl rfl rfl (by kernel_rfl) Tryd.func7 (by kernel_rfl)
    (of_decide_eq_true (by kernel_rfl)) (by unfold Func.isWrapper; first | (rw [if_pos (by decide +kernel)]; kernel_rfl) | (rw [if_neg (by decide +kernel)]; exact ⟨rfl, rfl⟩))
    (fun os started H enc _ => codecSeals_lifted os started H enc)

theorem codecSeals_card : Rows.CodecSealsCardSaid :=
  Claim7.holds_tied_plain_at .later [] [.data] true (true, "fbdc8e45f7607e2b3a835cd391fdf34032831d22d01790950dc67abc0ea90e21") false
    codecSeals_holds (fun _ h => by cases h) (by kernel_rfl) (fun _ h => by cases h) codecSeals_row_tie rfl ⟨rfl, rfl⟩ (by kernel_rfl) rfl
    (fun f fn hf hfn => by
      obtain rfl : f = 7 := Option.some.inj ((show Tryd.prog.funcNamed "leat/leatlaw1.CodecSeals" = some 7 by kernel_rfl).symm.trans hf) |>.symm
      obtain rfl : fn = Tryd.f7 := (Option.some.inj (Tryd.func7.symm.trans hfn)).symm
      exact ⟨by kernel_rfl, fun j t ht => by
        rw [Tryd.params7] at ht
        have hm : t ∈ [30, 30, 3, 5] := by simpa using Array.mem_of_getElem? ht
        have hall : ([30, 30, 3, 5].all fun u => !Tryd.prog.wantsStandIn u) = true := by kernel_rfl
        exact (show Tryd.prog.wantsStandIn t = false by simpa using List.all_eq_true.1 hall t (by simpa using hm))⟩)
    (by kernel_rfl)
#print axioms codecSeals_card
end Go.Proofs.YtaajjejgjnlbgaaDoor
