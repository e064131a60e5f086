/-
  Proved here: for every keep and every script of steps that can be read, leatlaw3.VaultPlays returns true and leaves its arguments as they were (the law of the promises P3.1, P3.2, P3.4: a vault has just the newest snapshots that were put, each with its parts, whatever foreign files lie beside, and a disk that is full refuses one and loses none; every script without power cuts and crashes).
  Conditions: those that the row and its card print: the four tables read as the program's own text lays them (the tie is the given one), and the form's own reach.
-/
import Derived.Test.YtbfhcbihgleddaaGreatDoorM41
import Derived.Test.YtbfhcbihgleddaaGreatDoorVPlayD
import Derived.Test.YtbfhcbihgleddaaGreatDoorTie
import Derived.Test.YtbfhcbihgleddaaGreatDoorCards
import Derived.SevenTiedAt
namespace Go.Proofs.YtbfhcbihgleddaaGreatDoor
open Go.ChangeShapes Go.WideShapes Go.ChangeAt Go.WideMaps Go.WideElems Go.RowKit Go.ChangeMaps

theorem Tryz.cells3e : Tryz.prog.cellsOf 3 = 1 := by kernel_rfl
theorem Tryz.bytes3e : Tryz.prog.bytesOf 3 = 8 := by kernel_rfl
theorem Tryz.cells33e : Tryz.prog.cellsOf 33 = 5 := by kernel_rfl
theorem Tryz.bytes33e : Tryz.prog.bytesOf 33 = 88 := by kernel_rfl
theorem Tryz.cells30e : Tryz.prog.cellsOf 30 = 1 := by kernel_rfl
theorem Tryz.cells31e : Tryz.prog.cellsOf 31 = 1 := by kernel_rfl
theorem Tryz.cells22e : Tryz.prog.cellsOf 22 = 1 := by kernel_rfl
theorem list5 {α : Type} (l : List α) (h : l.length = 5) : ∃ a b c d e, l = [a, b, c, d, e] := by
  match l, h with
  | [a, b, c, d, e], _ => exact ⟨a, b, c, d, e, rfl⟩
section
variable {H : Type} {enc : TypeId × Value → H} {W : World} {base : Nat} {held : Bool}
theorem one_int3 {m : Nat} {ce : List Value} {y : DataW H × List MemPlace} (h : DataW.trod enc Tryz.prog W base (fun _ => true) held m 3 ce = some y) : ∃ x : Int, ce = [Value.int .i64 x] ∧ True := by
  obtain ⟨n, e, _, _⟩ := DataW.trod_int Tryz.underlying3 h
  exact ⟨n, e, trivial⟩
/-- One step, as it lies in a row. -/
theorem one_step {fuel : Nat} {ce : List Value} {y : DataW H × List MemPlace} (h : DataW.trod enc Tryz.prog W base (fun _ => true) held fuel 33 ce = some y)
    (hsz : ∀ n ∈ DataW.weights Tryz.prog 33 y.1, n ≤ reachBytes) : ∃ t : StV, ce = StV.cs t ∧ StOk W.heap.size W t ∧ ∀ x ∈ t.sn, x.s.ok := by
  have hf := h
  obtain ⟨xs, m, rfl, hx, hl, hxl, hf⟩ := DataW.trod_struct Tryz.underlying33 hf
  rw [Tryz.cells33e] at hl
  obtain ⟨c0, c1, c2, c3, c4, hcs⟩ := list5 ce hl
  rw [hcs] at hf
  have f0 : DataW.trod enc Tryz.prog W base (fun _ => true) held m 3 (List.take (Tryz.prog.cellsOf 3) (List.drop 0 [c0, c1, c2, c3, c4])) = xs[(0 : Nat)]? := hf 0 _ rfl
  have f1 : DataW.trod enc Tryz.prog W base (fun _ => true) held m 3 (List.take (Tryz.prog.cellsOf 3) (List.drop 1 [c0, c1, c2, c3, c4])) = xs[(1 : Nat)]? := hf 1 _ rfl
  have f2 : DataW.trod enc Tryz.prog W base (fun _ => true) held m 30 (List.take (Tryz.prog.cellsOf 30) (List.drop 2 [c0, c1, c2, c3, c4])) = xs[(2 : Nat)]? := hf 2 _ rfl
  have f3 : DataW.trod enc Tryz.prog W base (fun _ => true) held m 31 (List.take (Tryz.prog.cellsOf 31) (List.drop 3 [c0, c1, c2, c3, c4])) = xs[(3 : Nat)]? := hf 3 _ rfl
  have f4 : DataW.trod enc Tryz.prog W base (fun _ => true) held m 22 (List.take (Tryz.prog.cellsOf 22) (List.drop 4 [c0, c1, c2, c3, c4])) = xs[(4 : Nat)]? := hf 4 _ rfl
  have hxl : xs.length = 5 := hxl
  obtain ⟨y0, y1, y2, y3, y4, rfl⟩ := list5 xs hxl
  simp only [Tryz.cells3e, Tryz.cells30e, Tryz.cells31e, Tryz.cells22e, List.drop_zero, List.drop_succ_cons, List.take_succ_cons, List.take_zero, List.getElem?_cons_zero, List.getElem?_cons_succ] at f0 f1 f2 f3 f4
  obtain ⟨wh, e0, _, _⟩ := DataW.trod_int Tryz.underlying3 f0
  obtain ⟨nn, e1, _, w1⟩ := DataW.trod_int Tryz.underlying3 f1
  simp only [List.cons.injEq, and_true] at e0 e1
  subst e0 e1
  subst hx
  have hd := hsz
  simp only [List.map_cons, List.map_nil] at hd
  subst hcs
  have hw : ∀ (j : Nat) (t : TypeId) (y : DataW H), [3, 3, 30, 31, 22][j]? = some t → [y0.1, y1.1, y2.1, y3.1, y4.1][j]? = some y → ∀ k ∈ DataW.weights Tryz.prog t y, k ≤ reachBytes := fun j t y hj hy k hk => hd k (by
    simp only [DataW.weights, Tryz.underlying33]
    exact DataW.weights_mem_each (j := j) (t := t) hj hy k hk)
  obtain ⟨⟨sa, sc, sn⟩, e2, hs, hso⟩ := one_parts f2 (hw 2 30 _ rfl rfl)
  obtain ⟨ka, kc, kl, e3, hk, _⟩ := open_lseg (0 : Int) (cs := fun x : Int => [Value.int .i64 x]) (ok := fun _ => True) Tryz.underlying31 Tryz.cells3e (by decide) (by rw [Tryz.bytes3e]; decide) (fun _ _ _ h _ => one_int3 h) f3 (hw 3 31 _ rfl rfl)
  obtain ⟨ba, bc, bl, e4, hb1, hb2, _⟩ := open_bytes f4 (hw 4 22 _ rfl rfl)
  simp only [TnV.cs, List.cons.injEq, and_true] at e2 e3 e4
  subst e2 e3 e4
  exact ⟨⟨wh, nn, sa, sc, sn, ka, kc, kl, ba, bc, bl⟩, rfl, ⟨hs, hk, hb1.segB, hb2, w1⟩, hso⟩
theorem open_steps {fuel : Nat} {vs : List Value} {x : DataW H × List MemPlace} (h : DataW.trod enc Tryz.prog W base (fun _ => true) held fuel 34 vs = some x) (hw : ∀ k ∈ DataW.weights Tryz.prog 34 x.1, k ≤ reachBytes) :
    ∃ (ao : Option Addr) (cap : Nat) (l : List StV), vs = [.slice ao l.length cap] ∧ StsIn W.heap.size W (.slice ao l.length cap) l ∧ ∀ t ∈ l, ∀ x ∈ t.sn, x.s.ok := by
  obtain ⟨ao, cap, xs, rfl, h1, h2, _⟩ := open_lseg (⟨0, 0, none, 0, [], none, 0, [], none, 0, []⟩ : StV) (cs := StV.cs) (ok := fun t => StOk W.heap.size W t ∧ ∀ x ∈ t.sn, x.s.ok)
    Tryz.underlying34 Tryz.cells33e (by decide) (by rw [Tryz.bytes33e]; decide) (fun _ _ _ h hw => one_step h hw) h hw
  exact ⟨ao, cap, xs, rfl, ⟨h1, fun t ht => (h2 t ht).1⟩, fun t ht => (h2 t ht).2⟩
end
set_option maxHeartbeats 1000000 in
set_option maxRecDepth 100000 in
theorem vaultPlays_lifted (os : Os) (started : os.Started) (H : Type) (enc : TypeId × Value → H) :
    ReturnsInHanded {} Tryz.checked os 4 .any (fun w args => (Rows.vaultPlaysSpec.pre enc Tryz.prog Tryz.f4 [] false w args ∧ laidMetH Tryz.prog laid4 w) ∧ sizedMet enc Tryz.prog Tryz.f4 (OpenSpec.ofChange Rows.vaultPlaysSpec) false w args)
      (Rows.vaultPlaysSpec.post enc Tryz.prog Tryz.f4 false true false false) := by
  refine returnsInHanded_of_change_and (C := Tryz.checked) (X := fun w _ => laidMetH Tryz.prog laid4 w) (fun _ _ _ hh h => h.of_heap hh) Tryz.own started (by kernel_rfl) Tryz.func4
    (ChangeSpec.witness_shaped (enc := enc) (C := Tryz.checked) (os := os) (X := fun w _ => laidMetH Tryz.prog laid4 w) false (World.doorLaid Tryz.prog 400 os) #[.int .i64 0, .slice none 0 0] 8 rfl (World.shaped_of_RefB (by kernel_rfl) (by kernel_rfl)) (by kernel_rfl) (by kernel_rfl) (by kernel_rfl) (door_met os _)) ?_
  intro W base args ds gs before hval0 hW _ hsz0 hL _
  have hsz : (DataW.weightsEach Tryz.prog (Tryz.f4.params.toList ++ Rows.vaultPlaysSpec.plain.varTypes Tryz.prog) (ds ++ gs)).all (· ≤ reachBytes) = true := hsz0
  have hval : ∀ (j : Nat) t v, Tryz.f4.params[j]? = some t → args[j]? = some v → Value.okWide Tryz.prog W .any base t v := hval0
  have hW' := hW
  obtain ⟨p, q, hA0, hV, rfl, _, _⟩ := hW
  have hA : DataW.TrodAll enc Tryz.prog W 0 (fun _ => true) true Tryz.f4.params.toList args.toList ds p := hA0
  rw [Tryz.params4] at hA hval hsz
  obtain ⟨v0, v1, d0, d1, p0, p1, rfl, rfl, rfl, h0, h1⟩ := trodAll_two hA
  obtain ⟨rfl, rfl⟩ := trodVars_none hV
  have hw1 : ∀ k ∈ d1.weights Tryz.prog 34, k ≤ reachBytes := fun k hk => by
    have := List.all_eq_true.1 hsz k (DataW.weights_mem_each (j := 1) (t := 34) (d := d1) rfl rfl k hk)
    simpa using this
  obtain ⟨a, rfl, rfl, rfl, wa⟩ := open_int Tryz.underlying3 (hval 0 3 v0 rfl rfl) h0
  obtain ⟨s1, l1, c1, rfl⟩ := okWide_slice Tryz.underlying34 (hval 1 34 v1 rfl rfl)
  obtain ⟨fu1, hf1⟩ := h1
  obtain ⟨sa, sc, sl, e1, hs, hso⟩ := open_steps hf1 hw1
  simp [Value.cells] at e1
  obtain ⟨rfl, rfl, rfl⟩ := e1
  have h1 : DataW.Trod enc Tryz.prog W 0 (fun _ => true) true 34 _ d1 p1 := ⟨fu1, hf1⟩
  have hg := glob_of_laid hL
  clear hA0 hval0 hA hsz hsz0
  simp only [List.append_nil, List.nil_append] at hW'
  have hlt1 : ∀ z ∈ p1, z.block < W.heap.size := fun z hz => hW'.lt z (by simp [hz])
  refine (VaultPlays_walk W hg a _ _ sl hs hso).mono fun e W' ⟨he, hbel⟩ => ?_
  subst he
  refine ⟨_, rfl, _, _, _, [], [] ++ p1, [], hW', ?_, ?_, rfl, hbel.frame _, fun h => by cases h⟩
  · exact trodAll_mk1 (shut_bool Tryz.underlying4 _)
  · exact trodAll_mk2 (shut_int Tryz.underlying3 wa) (Below.trod Tryz.laidOut (by kernel_rfl) (of_decide_eq_true (by kernel_rfl)) h1 hbel hlt1)

theorem vaultPlays_holds : Rows.VaultPlaysSaid :=
  OpenClaim.holds_of_wide 4 Tryz.f4 rfl rfl rfl rfl rfl rfl rfl ⟨rfl, rfl, rfl, rfl, rfl⟩ rfl rfl rfl rfl rfl (by kernel_rfl) Tryz.func4 (by kernel_rfl)
    (of_decide_eq_true (by kernel_rfl)) (by unfold Func.isWrapper; first | (rw [if_pos (by decide +kernel)]; kernel_rfl) | (rw [if_neg (by decide +kernel)]; exact ⟨rfl, rfl⟩))
    (fun os started H enc _ => vaultPlays_lifted os started H enc)

theorem vaultPlays_card : Rows.VaultPlaysCardSaid :=
  Claim7.holds_tied_plain_at .later [] [.data, .data, .data, .data] true (true, "18d826a8b5b13de5a3a30d4fae7d330abf585ecef230f43c4d6b178345ac3c37") false
    vaultPlays_holds (fun _ h => by cases h) (by kernel_rfl) (fun _ h => by cases h) vaultPlays_row_tie rfl ⟨rfl, rfl⟩ (by kernel_rfl) rfl
    (fun f fn hf hfn => by
      obtain rfl : f = 4 := Option.some.inj ((show Tryz.prog.funcNamed "leat/leatlaw3.VaultPlays" = some 4 by kernel_rfl).symm.trans hf) |>.symm
      obtain rfl : fn = Tryz.f4 := (Option.some.inj (Tryz.func4.symm.trans hfn)).symm
      exact ⟨by kernel_rfl, fun j t ht => by
        rw [Tryz.params4] at ht
        have hm : t ∈ [3, 34] := by simpa using Array.mem_of_getElem? ht
        have hall : ([3, 34].all fun u => !Tryz.prog.wantsStandIn u) = true := by kernel_rfl
        exact (show Tryz.prog.wantsStandIn t = false by simpa using List.all_eq_true.1 hall t (by simpa using hm))⟩)
    (by kernel_rfl)
#print axioms vaultPlays_card
end Go.Proofs.YtbfhcbihgleddaaGreatDoor
