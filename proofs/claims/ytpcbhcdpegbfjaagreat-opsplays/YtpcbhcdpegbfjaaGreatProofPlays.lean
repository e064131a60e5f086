/-
  Proved here: for every node and every script of steps that can be read leatlaw13.OpsPlays returns true and leaves its arguments as they were (the law of promises P13.1, P13.2: an operator tells what the document says).
  Conditions: those that the row prints: the form's own reach alone.
-/
import Derived.Test.YtpcbhcdpegbfjaaGreatM49
import Derived.Test.YtpcbhcdpegbfjaaGreatM50
import Derived.Test.YtpcbhcdpegbfjaaGreatM51
namespace Go.Proofs.YtpcbhcdpegbfjaaGreat
open Go.ChangeShapes Go.WideShapes Go.ChangeAt Go.WideMaps Go.WideElems Go.RowKit Go.Deep
theorem Tryz.cellsSt : Tryz.prog.cellsOf 40 = 5 := by kernel_rfl
theorem Tryz.bytesSt : Tryz.prog.bytesOf 40 = 40 := by kernel_rfl
theorem list5 {α : Type} (l : List α) (h : l.length = 5) : ∃ a b c d e, l = [a, b, c, d, e] := by
  match l, h with
  | [a, b, c, d, e], _ => exact ⟨a, b, c, d, e, rfl⟩
section
variable {H : Type} {enc : TypeId × Value → H} {W : World} {base b0 : Nat} {held : Bool} {fuel : Nat}
set_option maxRecDepth 100000 in
theorem one_stp {m : Nat} {ce : List Value} {y : DataW H × List MemPlace} (h : DataW.trod enc Tryz.prog W base (fun _ => true) held m 40 ce = some y) : ∃ x : Stp, ce = x.cs ∧ (In64 x.rk ∧ In64 x.rv) := by
  obtain ⟨xs, k, rfl, hx, hl, hxl, hf⟩ := DataW.trod_struct Tryz.underlying40 h
  rw [Tryz.cellsSt] at hl
  obtain ⟨c0, c1, c2, c3, c4, rfl⟩ := list5 ce hl
  have f0 : DataW.trod enc Tryz.prog W base (fun _ => true) held k 3 (List.take (Tryz.prog.cellsOf 3) (List.drop 0 [c0, c1, c2, c3, c4])) = xs[(0 : Nat)]? := hf 0 _ rfl
  have f1 : DataW.trod enc Tryz.prog W base (fun _ => true) held k 38 (List.take (Tryz.prog.cellsOf 38) (List.drop 1 [c0, c1, c2, c3, c4])) = xs[(1 : Nat)]? := hf 1 _ rfl
  have f2 : DataW.trod enc Tryz.prog W base (fun _ => true) held k 2 (List.take (Tryz.prog.cellsOf 2) (List.drop 4 [c0, c1, c2, c3, c4])) = xs[(2 : Nat)]? := hf 2 _ rfl
  have hxl : xs.length = 3 := hxl
  obtain ⟨y0, y1, y2, rfl⟩ := list3 xs hxl
  simp only [Tryz.cellsN, Tryz.cellsI, Tryz.cellsR, List.drop_zero, List.drop_succ_cons, List.take_succ_cons, List.take_zero, List.getElem?_cons_zero, List.getElem?_cons_succ] at f0 f1 f2
  obtain ⟨a, e0, _, w0⟩ := DataW.trod_int Tryz.underlying3 f0
  obtain ⟨⟨rk, rt, rv⟩, e1, w1⟩ := one_rec f1
  obtain ⟨b, e2, _, w2⟩ := DataW.trod_int Tryz.underlying2 f2
  simp only [Rc.cs, List.cons.injEq, and_true] at e0 e1 e2
  obtain ⟨e3, e4, e5⟩ := e1
  subst e0 e2 e3 e4 e5
  exact ⟨⟨a, rk, rt, rv, b⟩, rfl, w1.1, w1.2.2⟩
set_option maxRecDepth 100000 in
theorem open_stps {v : Value} {d : DataW H} {p : List MemPlace} (hv : Value.okWide Tryz.prog W .any b0 30 v) (h : DataW.Trod enc Tryz.prog W base (fun _ => true) held 30 v d p)
    (hsz : ∀ n ∈ d.weights Tryz.prog 30, n ≤ reachBytes) : ∃ (ao : Option Addr) (cap : Nat) (l : List Stp), v = .slice ao l.length cap ∧ LSeg 5 Stp.cs W.heap.size W v l ∧ ∀ x ∈ l, In64 x.rk ∧ In64 x.rv := by
  obtain ⟨a0, len, cap, rfl⟩ := okWide_slice Tryz.underlying30 hv
  obtain ⟨fuel, hf⟩ := h
  obtain ⟨ao, cap, xs, e, h1, h2, h3, h4, h5⟩ := open_lseg (⟨0, 0, 0, 0, 0⟩ : Stp) (cs := Stp.cs) (ok := fun x => In64 x.rk ∧ In64 x.rv) Tryz.underlying30 Tryz.cellsSt (by decide) (by rw [Tryz.bytesSt]; decide) (fun _ _ _ h _ => one_stp h) hf hsz
  simp [Value.cells] at e
  obtain ⟨rfl, rfl, rfl⟩ := e
  exact ⟨_, _, xs, rfl, h1, h2⟩
set_option maxRecDepth 100000 in
theorem open_node {v : Value} {d : DataW H} {p : List MemPlace} (hv : Value.okWide Tryz.prog W .any b0 29 v) (h : DataW.Trod enc Tryz.prog W base (fun _ => true) held 29 v d p)
    (hsz : ∀ n ∈ d.weights Tryz.prog 29, n ≤ reachBytes) : ∃ n : J.Nd, v = n.val ∧ J.NdOk W n := by
  obtain ⟨cs, rfl, hcsz⟩ := okWide_struct Tryz.underlying29 hv
  obtain ⟨fuel, hf⟩ := h
  have hf : DataW.trod enc Tryz.prog W base (fun _ => true) held fuel 29 cs.toList = some (d, p) := by simpa [Value.cells] using hf
  obtain ⟨n, e, hn⟩ := J.one_node hf hsz
  refine ⟨n, ?_, hn⟩
  have e2 : cs = n.cs.toArray := by rw [← e]
  rw [e2]; rfl
end
set_option maxRecDepth 100000 in
theorem opsPlays_lifted (os : Os) (started : os.Started) (H : Type) (enc : TypeId × Value → H) :
    ReturnsInHanded {} Tryz.checked os 3 .any (Rows.opsPlaysSpec.pre6 enc Tryz.prog Tryz.f3 [] false) (Rows.opsPlaysSpec.post enc Tryz.prog Tryz.f3 false true false false) := by
  refine returnsInHanded_of_change_sized (C := Tryz.checked) Tryz.own started (by kernel_rfl) Tryz.func3
    (ChangeSpec.witness6 (enc := enc) (C := Tryz.checked) false ⟨#[], #[.agg #[.int .i64 0, .slice none 0 0, .int .i64 0, .int .i64 0, .int .i64 0, .slice none 0 0, .int .i64 0, .int .i64 0, .int .i64 0, .int .i64 0], .slice none 0 0], []⟩ 8 (by kernel_rfl) (by kernel_rfl) (by kernel_rfl) (by kernel_rfl)) ?_
  intro W base args ds gs before hval0 hW _ hsz0 _
  have hsz : (DataW.weightsEach Tryz.prog (Tryz.f3.params.toList ++ Rows.opsPlaysSpec.plain.varTypes Tryz.prog) (ds ++ gs)).all (· ≤ reachBytes) = true := hsz0
  have hval : ∀ (j : Nat) t v, Tryz.f3.params[j]? = some t → args[j]? = some v → Value.okWide Tryz.prog W .any base t v := hval0
  have hW' := hW
  obtain ⟨p, q, hA0, hV, rfl, _, _⟩ := hW
  have hA : DataW.TrodAll enc Tryz.prog W 0 (fun _ => true) true Tryz.f3.params.toList args.toList ds p := hA0
  rw [Tryz.params3] at hA hval hsz
  obtain ⟨v0, v1, d0, d1, p0, p1, rfl, rfl, rfl, h0, h1⟩ := trodAll_two hA
  obtain ⟨rfl, rfl⟩ := trodVars_none hV
  obtain ⟨n, rfl, hn⟩ := open_node (hval 0 29 v0 rfl rfl) h0 (fun k hk => by
    have := List.all_eq_true.1 hsz k (DataW.weights_mem_each (j := 0) (t := 29) (d := d0) rfl rfl k hk)
    simpa using this)
  obtain ⟨la1, lc1, l1, rfl, hl1, ok1⟩ := open_stps (hval 1 30 v1 rfl rfl) h1 (fun k hk => by
    have := List.all_eq_true.1 hsz k (DataW.weights_mem_each (j := 1) (t := 30) (d := d1) rfl rfl k hk)
    simpa using this)
  clear hA0 hval0 hA hsz hsz0
  simp only [List.append_nil] at hW'
  have hlt0 : ∀ z ∈ p0, z.block < W.heap.size := fun z hz => hW'.lt z (by simp [hz])
  have hlt1 : ∀ z ∈ p1, z.block < W.heap.size := fun z hz => hW'.lt z (by simp [hz])
  refine (OpsPlays_walk hl1 (fun r h => ok1 r h) (n := n) hn.2.len hn.1).mono fun e W' ⟨he, hbel⟩ => ?_
  subst he
  refine ⟨_, rfl, _, _, _, [], (p0 ++ p1), [], hW', ?_, ?_, rfl, hbel.frame _, fun h => by cases h⟩
  · exact trodAll_mk1 (shut_bool Tryz.underlying4 _)
  · exact trodAll_mk2 (Below.trod Tryz.laidOut (by kernel_rfl) (of_decide_eq_true (by kernel_rfl)) h0 hbel hlt0) (Below.trod Tryz.laidOut (by kernel_rfl) (of_decide_eq_true (by kernel_rfl)) h1 hbel hlt1)
theorem opsPlays_holds : Rows.OpsPlaysSaid :=
  OpenClaim.holds_of_wide 3 Tryz.f3 rfl rfl rfl rfl rfl rfl rfl ⟨rfl, rfl, rfl, rfl, rfl⟩ rfl rfl rfl rfl rfl (by kernel_rfl) Tryz.func3 (by kernel_rfl)
    (of_decide_eq_true (by kernel_rfl)) (by unfold Func.isWrapper; first | (rw [if_pos (by decide +kernel)]; kernel_rfl) | (rw [if_neg (by decide +kernel)]; exact ⟨rfl, rfl⟩))
    (fun os started H enc _ => opsPlays_lifted os started H enc)
#print axioms opsPlays_holds
end Go.Proofs.YtpcbhcdpegbfjaaGreat
