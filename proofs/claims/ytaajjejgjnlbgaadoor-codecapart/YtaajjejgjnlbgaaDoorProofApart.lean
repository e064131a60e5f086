/-
  Proved here: for every two frames, two control messages and two parts that can be read, leatlaw1.CodecApart returns true and leaves its arguments as they were (the law of promise P1.7: unlike frames, control messages and parts have unlike bytes, and none is the beginning of another one of its kind).
  Conditions: those that the row and its card print: the table leat/codec.nibbles reads as the program's own text lays it (the tie is the given one), and the form's own reach.
-/
import Derived.Test.YtaajjejgjnlbgaaDoorReadSnap
import Derived.Test.YtaajjejgjnlbgaaDoorLawApart
import Derived.Test.YtaajjejgjnlbgaaDoorTie
import Derived.Test.YtaajjejgjnlbgaaDoorCards
import Derived.SevenTiedAt
import Derived.OpenShut
namespace Go.Proofs.YtaajjejgjnlbgaaDoor
open Go.ChangeShapes Go.WideShapes Go.ChangeAt Go.WideMaps Go.WideElems Go.RowKit

theorem trodAll_six {H : Type} {enc : TypeId × Value → H} {P : Program} {w : World} {base : Nat} {spare : Nat → Bool} {held : Bool} {t0 t1 t2 t3 t4 t5 : TypeId} {args : Array Value} {ds : List (DataW H)} {ps : List MemPlace} (h : DataW.TrodAll enc P w base spare held [t0, t1, t2, t3, t4, t5] args.toList ds ps) :
    ∃ v0 v1 v2 v3 v4 v5 d0 d1 d2 d3 d4 d5 p0 p1 p2 p3 p4 p5, args = #[v0, v1, v2, v3, v4, v5] ∧ ds = [d0, d1, d2, d3, d4, d5] ∧ ps = p0 ++ (p1 ++ (p2 ++ (p3 ++ (p4 ++ p5)))) ∧ DataW.Trod enc P w base spare held t0 v0 d0 p0 ∧ DataW.Trod enc P w base spare held t1 v1 d1 p1 ∧ DataW.Trod enc P w base spare held t2 v2 d2 p2 ∧ DataW.Trod enc P w base spare held t3 v3 d3 p3 ∧ DataW.Trod enc P w base spare held t4 v4 d4 p4 ∧ DataW.Trod enc P w base spare held t5 v5 d5 p5 := by
  obtain ⟨v0, _, d0, _, p0, _, hargs, rfl, rfl, h0, hr⟩ := trodAll_cons h
  obtain ⟨v1, _, d1, _, p1, _, rfl, rfl, rfl, h1, hr⟩ := trodAll_cons hr
  obtain ⟨v2, _, d2, _, p2, _, rfl, rfl, rfl, h2, hr⟩ := trodAll_cons hr
  obtain ⟨v3, _, d3, _, p3, _, rfl, rfl, rfl, h3, hr⟩ := trodAll_cons hr
  obtain ⟨v4, _, d4, _, p4, _, rfl, rfl, rfl, h4, hr⟩ := trodAll_cons hr
  obtain ⟨v5, _, d5, _, p5, _, rfl, rfl, rfl, h5, hr⟩ := trodAll_cons hr
  obtain ⟨rfl, rfl, rfl⟩ := trodAll_nil hr
  exact ⟨v0, v1, v2, v3, v4, v5, d0, d1, d2, d3, d4, d5, p0, p1, p2, p3, p4, p5, by cases args; simp_all, rfl, by simp, h0, h1, h2, h3, h4, h5⟩

set_option maxRecDepth 100000 in
theorem codecApart_lifted (os : Os) (started : os.Started) (H : Type) (enc : TypeId × Value → H) :
    ReturnsInHanded {} Tryd.checked os 8 .any (fun w args => (Rows.codecApartSpec.pre enc Tryd.prog Tryd.f8 [] false w args ∧ laidMetH Tryd.prog laid1 w) ∧ sizedMet enc Tryd.prog Tryd.f8 (OpenSpec.ofChange Rows.codecApartSpec) false w args)
      (Rows.codecApartSpec.post enc Tryd.prog Tryd.f8 false true false false) := by
  refine returnsInHanded_of_change_and (C := Tryd.checked) (X := fun w _ => laidMetH Tryd.prog laid1 w) (fun _ _ _ hh h => h.of_heap hh) Tryd.own started (by kernel_rfl) Tryd.func8
    (ChangeSpec.witness_shaped (enc := enc) (C := Tryd.checked) (os := os) (X := fun w _ => laidMetH Tryd.prog laid1 w) false (World.doorLaid Tryd.prog 400 os) #[.agg #[.int .i64 0, .int .i64 0, .int .i64 0, .int .i64 0, .int .i64 0, .int .u64 0, .bool false], .agg #[.int .i64 0, .int .i64 0, .int .i64 0, .int .i64 0, .int .i64 0, .int .u64 0, .bool false], .agg #[.int .i64 0, .int .u64 0, .int .u64 0, .int .i64 0], .agg #[.int .i64 0, .int .u64 0, .int .u64 0, .int .i64 0], .agg #[.int .i64 0, .int .i64 0, .int .i64 0, .slice none 0 0, .slice none 0 0, .slice none 0 0], .agg #[.int .i64 0, .int .i64 0, .int .i64 0, .slice none 0 0, .slice none 0 0, .slice none 0 0]] 8 rfl (World.shaped_of_RefB (by kernel_rfl) (by kernel_rfl)) (by kernel_rfl) (by kernel_rfl) (by kernel_rfl) (door_met os _)) ?_
  intro W base args ds gs before hval0 hW _ hsz0 hL _
  have hsz : (DataW.weightsEach Tryd.prog (Tryd.f8.params.toList ++ Rows.codecApartSpec.plain.varTypes Tryd.prog) (ds ++ gs)).all (· ≤ reachBytes) = true := hsz0
  have hval : ∀ (j : Nat) t v, Tryd.f8.params[j]? = some t → args[j]? = some v → Value.okWide Tryd.prog W .any base t v := hval0
  have hW' := hW
  obtain ⟨p, q, hA0, hV, rfl, _, _⟩ := hW
  have hA : DataW.TrodAll enc Tryd.prog W 0 (fun _ => true) true Tryd.f8.params.toList args.toList ds p := hA0
  rw [Tryd.params8] at hA hval hsz
  obtain ⟨v0, v1, v2, v3, v4, v5, d0, d1, d2, d3, d4, d5, p0, p1, p2, p3, p4, p5, rfl, rfl, rfl, h0, h1, h2, h3, h4, h5⟩ := trodAll_six hA
  obtain ⟨rfl, rfl⟩ := trodVars_none hV
  obtain ⟨kd, ke, ti, va, ma, n, ov, rfl, _, b1, b2, b3, b4, b5⟩ := open_frame (hval 0 26 v0 rfl rfl) h0
  obtain ⟨kd', ke', ti', va', ma', n', ov', rfl, _, b1', b2', b3', b4', b5'⟩ := open_frame (hval 1 26 v1 rfl rfl) h1
  obtain ⟨ck, ce, cn, ct, rfl, _, k1, k2, _⟩ := open_ctl (hval 2 28 v2 rfl rfl) h2
  obtain ⟨ck', ce', cn', ct', rfl, _, k1', k2', _⟩ := open_ctl (hval 3 28 v3 rfl rfl) h3
  obtain ⟨vm, vp, vc, s, rfl, hs, hok⟩ := open_snap (hval 4 48 v4 rfl rfl) h4 (fun k hk => by
    have := List.all_eq_true.1 hsz k (DataW.weights_mem_each (j := 4) (t := 48) (d := d4) rfl rfl k hk)
    simpa using this)
  obtain ⟨um, up, uc, t, rfl, ht, hot⟩ := open_snap (hval 5 48 v5 rfl rfl) h5 (fun k hk => by
    have := List.all_eq_true.1 hsz k (DataW.weights_mem_each (j := 5) (t := 48) (d := d5) rfl rfl k hk)
    simpa using this)
  have hg := glob_of_laid hL
  clear hA0 hval0 hA hsz hsz0
  simp only [List.append_nil] at hW'
  have hlt : ∀ p : List MemPlace, (∀ x ∈ p, x ∈ p0 ++ (p1 ++ (p2 ++ (p3 ++ (p4 ++ p5))))) → ∀ x ∈ p, x.block < W.heap.size := fun p hp x hx => hW'.lt x (hp x hx)
  refine (@CodecApart_walk decFrm decCtl decPn decOt decSn ⟨kd, ke, ti, va, ma, n, ov⟩ ⟨kd', ke', ti', va', ma', n', ov'⟩ ⟨ck, ce, cn, ct⟩ ⟨ck', ce', cn', ct'⟩ s t vm vp vc um up uc W ⟨b1, b2, b3, b4, b5⟩ ⟨b1', b2', b3', b4', b5'⟩ ⟨k1, k2⟩ ⟨k1', k2'⟩ hok hot hs ht hg).mono fun e W' ⟨he, hbel⟩ => ?_
  subst he
  refine ⟨_, rfl, _, _, _, [], p0 ++ (p1 ++ (p2 ++ (p3 ++ (p4 ++ p5)))), [], hW', ?_, ?_, rfl, hbel.frame _, fun h => by cases h⟩
  · exact trodAll_mk1 (shut_bool Tryd.underlying4 _)
  · refine trodAll_cons_mk ?_ (trodAll_cons_mk ?_ (trodAll_cons_mk ?_ (trodAll_cons_mk ?_ (trodAll_mk2 ?_ ?_))))
    · exact Below.trod Tryd.laidOut (by kernel_rfl) (of_decide_eq_true (by kernel_rfl)) h0 hbel (hlt _ (fun x hx => by simp [hx]))
    · exact Below.trod Tryd.laidOut (by kernel_rfl) (of_decide_eq_true (by kernel_rfl)) h1 hbel (hlt _ (fun x hx => by simp [hx]))
    · exact Below.trod Tryd.laidOut (by kernel_rfl) (of_decide_eq_true (by kernel_rfl)) h2 hbel (hlt _ (fun x hx => by simp [hx]))
    · exact Below.trod Tryd.laidOut (by kernel_rfl) (of_decide_eq_true (by kernel_rfl)) h3 hbel (hlt _ (fun x hx => by simp [hx]))
    · exact Below.trod Tryd.laidOut (by kernel_rfl) (of_decide_eq_true (by kernel_rfl)) h4 hbel (hlt _ (fun x hx => by simp [hx]))
    · exact Below.trod Tryd.laidOut (by kernel_rfl) (of_decide_eq_true (by kernel_rfl)) h5 hbel (hlt _ (fun x hx => by simp [hx]))

theorem codecApart_holds : Rows.CodecApartSaid :=
  OpenClaim.holds_of_wide 8 Tryd.f8 rfl rfl rfl rfl rfl rfl rfl ⟨rfl, rfl, rfl, rfl, rfl⟩ rfl rfl rfl rfl rfl (by kernel_rfl) Tryd.func8 (by kernel_rfl)
    (of_decide_eq_true (by kernel_rfl)) (by unfold Func.isWrapper; first | (rw [if_pos (by decide +kernel)]; kernel_rfl) | (rw [if_neg (by decide +kernel)]; exact ⟨rfl, rfl⟩))
    (fun os started H enc _ => codecApart_lifted os started H enc)

theorem codecApart_card : Rows.CodecApartCardSaid :=
  Claim7.holds_tied_plain_at .later [] [.data] true (true, "fbdc8e45f7607e2b3a835cd391fdf34032831d22d01790950dc67abc0ea90e21") false
    codecApart_holds (fun _ h => by cases h) (by kernel_rfl) (fun _ h => by cases h) codecApart_row_tie rfl ⟨rfl, rfl⟩ (by kernel_rfl) rfl
    (fun f fn hf hfn => by
      obtain rfl : f = 8 := Option.some.inj ((show Tryd.prog.funcNamed "leat/leatlaw1.CodecApart" = some 8 by kernel_rfl).symm.trans hf) |>.symm
      obtain rfl : fn = Tryd.f8 := (Option.some.inj (Tryd.func8.symm.trans hfn)).symm
      exact ⟨by kernel_rfl, fun j t ht => by
        rw [Tryd.params8] at ht
        have hm : t ∈ [26, 26, 28, 28, 48, 48] := by simpa using Array.mem_of_getElem? ht
        have hall : ([26, 26, 28, 28, 48, 48].all fun u => !Tryd.prog.wantsStandIn u) = true := by kernel_rfl
        exact (show Tryd.prog.wantsStandIn t = false by simpa using List.all_eq_true.1 hall t (by simpa using hm))⟩)
    (by kernel_rfl)
#print axioms codecApart_card
end Go.Proofs.YtaajjejgjnlbgaaDoor
