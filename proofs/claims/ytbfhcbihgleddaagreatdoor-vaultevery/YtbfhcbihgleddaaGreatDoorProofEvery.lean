/-
  Proved here: for every two lists of parts and every list of numbers that can be read, leatlaw3.VaultEvery returns true and leaves its arguments as they were (the law of promise P3.3: a Put holds at every point of power failure: behind the crash the newest snapshot is the new one whole, or the one ahead of it, and surely the new one once the Put was told OK).
  Conditions: those that the row and its card print: the four tables read as the program's own text lays them (the tie is the given one), and the form's own reach.
-/
import Derived.Test.YtbfhcbihgleddaaGreatDoorM41
import Derived.Test.YtbfhcbihgleddaaGreatDoorM44
import Derived.Test.YtbfhcbihgleddaaGreatDoorTie
import Derived.Test.YtbfhcbihgleddaaGreatDoorCards
import Derived.SevenTiedAt
namespace Go.Proofs.YtbfhcbihgleddaaGreatDoor
open Go.ChangeShapes Go.WideShapes Go.ChangeAt Go.WideMaps Go.WideElems Go.RowKit Go.ChangeMaps

theorem Tryz.cells3e : Tryz.prog.cellsOf 3 = 1 := by kernel_rfl
theorem Tryz.bytes3e : Tryz.prog.bytesOf 3 = 8 := by kernel_rfl
theorem one_int3 {H : Type} {enc : TypeId × Value → H} {W : World} {base : Nat} {held : Bool} {m : Nat} {ce : List Value} {y : DataW H × List MemPlace} (h : DataW.trod enc Tryz.prog W base (fun _ => true) held m 3 ce = some y) : ∃ x : Int, ce = [Value.int .i64 x] ∧ True := by
  obtain ⟨n, e, _, _⟩ := DataW.trod_int Tryz.underlying3 h
  exact ⟨n, e, trivial⟩
set_option maxHeartbeats 1000000 in
set_option maxRecDepth 100000 in
theorem vaultEvery_lifted (os : Os) (started : os.Started) (H : Type) (enc : TypeId × Value → H) :
    ReturnsInHanded {} Tryz.checked os 7 .any (fun w args => (Rows.vaultEverySpec.pre enc Tryz.prog Tryz.f7 [] false w args ∧ laidMetH Tryz.prog laid4 w) ∧ sizedMet enc Tryz.prog Tryz.f7 (OpenSpec.ofChange Rows.vaultEverySpec) false w args)
      (Rows.vaultEverySpec.post enc Tryz.prog Tryz.f7 false true false false) := by
  refine returnsInHanded_of_change_and (C := Tryz.checked) (X := fun w _ => laidMetH Tryz.prog laid4 w) (fun _ _ _ hh h => h.of_heap hh) Tryz.own started (by kernel_rfl) Tryz.func7
    (ChangeSpec.witness_shaped (enc := enc) (C := Tryz.checked) (os := os) (X := fun w _ => laidMetH Tryz.prog laid4 w) false (World.doorLaid Tryz.prog 400 os) #[.slice none 0 0, .slice none 0 0, .slice none 0 0] 8 rfl (World.shaped_of_RefB (by kernel_rfl) (by kernel_rfl)) (by kernel_rfl) (by kernel_rfl) (by kernel_rfl) (door_met os _)) ?_
  intro W base args ds gs before hval0 hW _ hsz0 hL _
  have hsz : (DataW.weightsEach Tryz.prog (Tryz.f7.params.toList ++ Rows.vaultEverySpec.plain.varTypes Tryz.prog) (ds ++ gs)).all (· ≤ reachBytes) = true := hsz0
  have hval : ∀ (j : Nat) t v, Tryz.f7.params[j]? = some t → args[j]? = some v → Value.okWide Tryz.prog W .any base t v := hval0
  have hW' := hW
  obtain ⟨p, q, hA0, hV, rfl, _, _⟩ := hW
  have hA : DataW.TrodAll enc Tryz.prog W 0 (fun _ => true) true Tryz.f7.params.toList args.toList ds p := hA0
  rw [Tryz.params7] at hA hval hsz
  obtain ⟨v0, v1, v2, d0, d1, d2, p0, p1, p2, rfl, rfl, rfl, h0, h1, h2⟩ := trodAll_three hA
  obtain ⟨rfl, rfl⟩ := trodVars_none hV
  have hw0 : ∀ k ∈ d0.weights Tryz.prog 30, k ≤ reachBytes := fun k hk => by
    have := List.all_eq_true.1 hsz k (DataW.weights_mem_each (j := 0) (t := 30) (d := d0) rfl rfl k hk)
    simpa using this
  have hw1 : ∀ k ∈ d1.weights Tryz.prog 30, k ≤ reachBytes := fun k hk => by
    have := List.all_eq_true.1 hsz k (DataW.weights_mem_each (j := 1) (t := 30) (d := d1) rfl rfl k hk)
    simpa using this
  have hw2 : ∀ k ∈ d2.weights Tryz.prog 31, k ≤ reachBytes := fun k hk => by
    have := List.all_eq_true.1 hsz k (DataW.weights_mem_each (j := 2) (t := 31) (d := d2) rfl rfl k hk)
    simpa using this
  obtain ⟨s0, l0, c0, rfl⟩ := okWide_slice Tryz.underlying30 (hval 0 30 v0 rfl rfl)
  obtain ⟨s1, l1, c1, rfl⟩ := okWide_slice Tryz.underlying30 (hval 1 30 v1 rfl rfl)
  obtain ⟨s2, l2, c2, rfl⟩ := okWide_slice Tryz.underlying31 (hval 2 31 v2 rfl rfl)
  obtain ⟨fu0, hf0⟩ := h0
  obtain ⟨fu1, hf1⟩ := h1
  obtain ⟨fu2, hf2⟩ := h2
  obtain ⟨⟨aa, ac, al⟩, e0, ha, hao⟩ := one_parts hf0 hw0
  obtain ⟨⟨ba, bc, bl⟩, e1, hb, hbo⟩ := one_parts hf1 hw1
  obtain ⟨ka, kc, kl, e2, hk, _⟩ := open_lseg (0 : Int) (cs := fun x : Int => [Value.int .i64 x]) (ok := fun _ => True) Tryz.underlying31 Tryz.cells3e (by decide) (by rw [Tryz.bytes3e]; decide) (fun _ _ _ h _ => one_int3 h) hf2 hw2
  simp [Value.cells, TnV.cs] at e0 e1
  simp [Value.cells] at e2
  obtain ⟨rfl, rfl, rfl⟩ := e0
  obtain ⟨rfl, rfl, rfl⟩ := e1
  obtain ⟨rfl, rfl, rfl⟩ := e2
  have h0 : DataW.Trod enc Tryz.prog W 0 (fun _ => true) true 30 _ d0 p0 := ⟨fu0, hf0⟩
  have h1 : DataW.Trod enc Tryz.prog W 0 (fun _ => true) true 30 _ d1 p1 := ⟨fu1, hf1⟩
  have h2 : DataW.Trod enc Tryz.prog W 0 (fun _ => true) true 31 _ d2 p2 := ⟨fu2, hf2⟩
  have hg := glob_of_laid hL
  clear hA0 hval0 hA hsz hsz0
  simp only [List.append_nil] at hW'
  have hlt0 : ∀ z ∈ p0, z.block < W.heap.size := fun z hz => hW'.lt z (by simp [hz])
  have hlt1 : ∀ z ∈ p1, z.block < W.heap.size := fun z hz => hW'.lt z (by simp [hz])
  have hlt2 : ∀ z ∈ p2, z.block < W.heap.size := fun z hz => hW'.lt z (by simp [hz])
  refine (VaultEvery_walk W hg _ _ _ _ _ _ al bl kl ha hao hb hbo hk).mono fun e W' ⟨he, hbel⟩ => ?_
  subst he
  refine ⟨_, rfl, _, _, _, [], p0 ++ (p1 ++ p2), [], hW', ?_, ?_, rfl, hbel.frame _, fun h => by cases h⟩
  · exact trodAll_mk1 (shut_bool Tryz.underlying4 _)
  · exact trodAll_mk3 (Below.trod Tryz.laidOut (by kernel_rfl) (of_decide_eq_true (by kernel_rfl)) h0 hbel hlt0) (Below.trod Tryz.laidOut (by kernel_rfl) (of_decide_eq_true (by kernel_rfl)) h1 hbel hlt1) (Below.trod Tryz.laidOut (by kernel_rfl) (of_decide_eq_true (by kernel_rfl)) h2 hbel hlt2)

theorem vaultEvery_holds : Rows.VaultEverySaid :=
  OpenClaim.holds_of_wide 7 Tryz.f7 rfl rfl rfl rfl rfl rfl rfl ⟨rfl, rfl, rfl, rfl, rfl⟩ rfl rfl rfl rfl rfl (by kernel_rfl) Tryz.func7 (by kernel_rfl)
    (of_decide_eq_true (by kernel_rfl)) (by unfold Func.isWrapper; first | (rw [if_pos (by decide +kernel)]; kernel_rfl) | (rw [if_neg (by decide +kernel)]; exact ⟨rfl, rfl⟩))
    (fun os started H enc _ => vaultEvery_lifted os started H enc)

theorem vaultEvery_card : Rows.VaultEveryCardSaid :=
  Claim7.holds_tied_plain_at .later [] [.data, .data, .data, .data] true (true, "18d826a8b5b13de5a3a30d4fae7d330abf585ecef230f43c4d6b178345ac3c37") false
    vaultEvery_holds (fun _ h => by cases h) (by kernel_rfl) (fun _ h => by cases h) vaultEvery_row_tie rfl ⟨rfl, rfl⟩ (by kernel_rfl) rfl
    (fun f fn hf hfn => by
      obtain rfl : f = 7 := Option.some.inj ((show Tryz.prog.funcNamed "leat/leatlaw3.VaultEvery" = some 7 by kernel_rfl).symm.trans hf) |>.symm
      obtain rfl : fn = Tryz.f7 := (Option.some.inj (Tryz.func7.symm.trans hfn)).symm
      exact ⟨by kernel_rfl, fun j t ht => by
        rw [Tryz.params7] at ht
        have hm : t ∈ [30, 30, 31] := by simpa using Array.mem_of_getElem? ht
        have hall : ([30, 30, 31].all fun u => !Tryz.prog.wantsStandIn u) = true := by kernel_rfl
        exact (show Tryz.prog.wantsStandIn t = false by simpa using List.all_eq_true.1 hall t (by simpa using hm))⟩)
    (by kernel_rfl)
#print axioms vaultEvery_card
end Go.Proofs.YtbfhcbihgleddaaGreatDoor
