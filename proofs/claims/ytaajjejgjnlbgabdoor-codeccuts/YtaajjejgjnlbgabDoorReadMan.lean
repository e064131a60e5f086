/-
  Readings for the rows over package codec: a manifest opened.
-/
import Derived.Test.YtaajjejgjnlbgabDoorReads
import Derived.Test.YtaajjejgjnlbgabDoorLawMan
namespace Go.Proofs.YtaajjejgjnlbgabDoor
open Go.ChangeShapes Go.WideShapes Go.ChangeAt Go.WideMaps Go.WideElems Go.RowKit

theorem Tryd.cells30 : Tryd.prog.cellsOf 30 = 3 := by kernel_rfl
theorem Tryd.cells28 : Tryd.prog.cellsOf 28 = 1 := by kernel_rfl
theorem Tryd.cells9 : Tryd.prog.cellsOf 9 = 1 := by kernel_rfl
theorem Tryd.bytes9 : Tryd.prog.bytesOf 9 = 16 := by kernel_rfl
theorem list3 {α : Type} (l : List α) (h : l.length = 3) : ∃ a b c, l = [a, b, c] := by
  match l, h with
  | [a, b, c], _ => exact ⟨a, b, c, rfl⟩
theorem mem_weightsAll {H : Type} {P : Program} {e : TypeId} {ss : List ByteArray} {s : ByteArray} (hs : s ∈ ss) : s.data.toList.length ∈ DataW.weightsAll P e (strs (H := H) ss) := by
  induction ss with
  | nil => cases hs
  | cons t ss ih =>
    simp only [strs, List.map_cons, DataW.weightsAll, DataW.weights, List.mem_append]
    rcases List.mem_cons.1 hs with rfl | h
    · exact .inl (by simp)
    · exact .inr (ih h)

section
variable {H : Type} {enc : TypeId × Value → H} {W : World} {base b0 : Nat} {held : Bool} {fuel : Nat}

set_option maxRecDepth 100000 in
theorem open_man {v : Value} {d : DataW H} {p : List MemPlace} (hv : Value.okWide Tryd.prog W .any b0 30 v) (h : DataW.Trod enc Tryd.prog W base (fun _ => true) held 30 v d p)
    (hsz : ∀ n ∈ d.weights Tryd.prog 30, n ≤ reachBytes) : ∃ (n ep : Int) (vs : Value) (ss : List ByteArray), v = .agg #[.int .u64 n, .int .u64 ep, vs] ∧ U64 n ∧ U64 ep ∧ SSeg W.heap.size W vs ss ∧ ∀ s ∈ ss, s.size ≤ 140737488355328 := by
  obtain ⟨cs, rfl, hcsz⟩ := okWide_struct Tryd.underlying30 hv
  obtain ⟨fuel, hf⟩ := h
  have hf : DataW.trod enc Tryd.prog W base (fun _ => true) held fuel 30 cs.toList = some (d, p) := by simpa [Value.cells] using hf
  obtain ⟨xs, m, rfl, hx, hl, hxl, hf⟩ := DataW.trod_struct Tryd.underlying30 hf
  rw [Tryd.cells30] at hl
  obtain ⟨c0, c1, c2, hcs⟩ := list3 cs.toList hl
  rw [hcs] at hf
  have f0 : DataW.trod enc Tryd.prog W base (fun _ => true) held m 27 (List.take (Tryd.prog.cellsOf 27) (List.drop 0 [c0, c1, c2])) = xs[(0 : Nat)]? := hf 0 _ rfl
  have f1 : DataW.trod enc Tryd.prog W base (fun _ => true) held m 27 (List.take (Tryd.prog.cellsOf 27) (List.drop 1 [c0, c1, c2])) = xs[(1 : Nat)]? := hf 1 _ rfl
  have f2 : DataW.trod enc Tryd.prog W base (fun _ => true) held m 28 (List.take (Tryd.prog.cellsOf 28) (List.drop 2 [c0, c1, c2])) = xs[(2 : Nat)]? := hf 2 _ rfl
  have hxl : xs.length = 3 := hxl
  obtain ⟨y0, y1, y2, rfl⟩ := list3 xs hxl
  simp only [Tryd.cells27, Tryd.cells28, List.drop_zero, List.drop_succ_cons, List.take_succ_cons, List.take_zero, List.getElem?_cons_zero, List.getElem?_cons_succ] at f0 f1 f2
  obtain ⟨n, e0, _, w0⟩ := DataW.trod_int Tryd.underlying27 f0
  obtain ⟨ep, e1, _, w1⟩ := DataW.trod_int Tryd.underlying27 f1
  simp only [List.cons.injEq, and_true] at e0 e1
  subst e0 e1
  simp only [Prod.mk.injEq] at hx
  have hd := hx.1
  simp only [List.map_cons, List.map_nil] at hd
  obtain ⟨l⟩ := cs
  simp only at hcs
  subst hcs
  rcases open_strings Tryd.underlying28 Tryd.underlying9 Tryd.cells9 f2 with ⟨hc2, hx2⟩ | ⟨a, len, cap, ss, hc2, _, hl2, hm2, hz2, hx2, hcell, _⟩
  · simp only [List.cons.injEq, and_true] at hc2
    subst hc2
    exact ⟨n, ep, _, [], rfl, wf_u64 w0, wf_u64 w1, ⟨none, 0, rfl, by simp, .inl rfl⟩, by simp⟩
  · simp only [List.cons.injEq, and_true] at hc2
    subst hc2
    simp only [if_true] at hz2
    have hmem : ∀ k ∈ DataW.weights Tryd.prog 28 y2.1, k ≤ reachBytes := fun k hk => hsz k (by
      rw [hd]
      simp only [DataW.weights, Tryd.underlying30]
      exact DataW.weights_mem_each (j := 2) (t := 28) rfl rfl k hk)
    rw [hx2] at hmem
    simp only [DataW.weights, Tryd.underlying28] at hmem
    have h1 := hmem _ (List.mem_cons_self ..)
    rw [Tryd.bytes9] at h1
    simp only [strs, List.length_map, List.length_take, List.length_drop, reachBytes] at h1
    have h2 : ∀ s ∈ ss.take len, s.size ≤ 140737488355328 := fun s hs => by
      have := hmem s.data.toList.length (List.mem_cons_of_mem _ (List.mem_append_left _ (mem_weightsAll hs)))
      simp only [reachBytes, Array.length_toList] at this
      have e : s.size = s.data.size := rfl
      omega
    refine ⟨n, ep, _, ss.take len, rfl, wf_u64 w0, wf_u64 w1, ⟨some a, cap, by simp [List.length_take]; omega, by simp [List.length_take]; omega, ?_⟩, h2⟩
    by_cases h0 : len = 0
    · exact .inl (by simp [h0])
    · obtain ⟨b, off, spot⟩ := a
      have hspot : spot = none := by simpa [Addr.add] using World.cell?_spot (hcell 0 (by omega))
      subst hspot
      refine .inr ⟨b, off, rfl, ?_, fun i s hs => ?_⟩
      · have := World.block_lt_of_cell? W _ (hcell 0 (by omega))
        simpa [add_plain2] using this
      · rw [List.getElem?_take] at hs
        split at hs
        · have hc := hcell i (by omega)
          rw [add_plain2] at hc
          rw [hc, List.getD_eq_getElem?_getD, hs]; rfl
        · cases hs
end
end Go.Proofs.YtaajjejgjnlbgabDoor
