/-
  Mark, Marks, Captured.
-/
import Derived.Test.YtmipgfobggbndaaGSmall
namespace Go.Proofs.Ytmipgfobggbndaa
open Go.RowKit

theorem GX.seg {w : World} {k mb cb : Nat} {mi : Int} {cv : Value} {s : Gs} (h : GX w k mb cb mi cv s) : LSeg 1 i64cs w.heap.size w (.slice (some ⟨mb, 0, none⟩) s.M.length s.M.length) s.M := by
  have := h.le
  refine ⟨_, _, rfl, by omega, .inr ⟨mb, 0, rfl, h.mx.lt, fun i x hi j u hu => ?_⟩⟩
  match j, hu with
  | 0, hu =>
    obtain rfl : Value.int .i64 x = u := by simpa [i64cs] using hu
    simpa using h.mark hi
  | j + 1, hu => simp [i64cs] at hu
set_option maxRecDepth 100000 in
theorem Mark_any {w : World} {k : Nat} {fp : Nat → Prop} {s : Gs} (h : GA w k fp s) : Calls Try.prog 15 #[.pointer (some ⟨k, 0, none⟩)] w fun e w' => e = .returned (.int .i64 (least s.M)) ∧ w = w' := by
  obtain ⟨mb, cb, mi, cv, h, hf⟩ := h
  obtain ⟨c0, -, -, -, -, -, -⟩ := h.cells
  have HH := hide (Min_any h.seg h.pos (by have := h.le; omega))
  clear h hf
  go_enter Try.func15, Try.ntmps15
  go_wp2_with (go_at_call 34; refine HH.out.mono ?_; rintro e w1 ⟨rfl, rfl⟩)
  go_ret
  exact ⟨rfl, rfl⟩
theorem OwnL.empty {α : Type} (t sz : Nat) (cs : α → List Value) (w : World) : OwnL t sz cs w.heap.size (w.alloc (.cells #[] t)) (.slice (some ⟨w.heap.size, 0, none⟩) 0 0) ([] : List α) :=
  ⟨by simp, .inr ⟨w.heap.size, 0, #[], rfl, Nat.le_refl _, heap_alloc_new w _, by simp, by unfold maxLen; omega, by simp, by simp⟩⟩
set_option maxHeartbeats 1000000 in
set_option maxRecDepth 100000 in
theorem CloneI_any {w : World} {v : Value} {l : List Int} (hl : LSeg 1 i64cs w.heap.size w v l) (hn : l.length ≤ 1000000) : Calls Try.prog 35 #[v] w fun e w' => ∃ u, e = .returned u ∧ OwnL 2 1 i64cs w.heap.size w' u l ∧ Below w.heap.size w w' := by
  have q : ∀ (w : World) (a : Option Addr) (n c : Nat), (binOp .eql 28 (.slice a n c) (.slice none 0 0)).run Try.prog w = .ok (.bool a.isNone) w := fun w a n c => Lib.run_eql_slice_nil w _ _ a n c 0 0 Try.underlying28
  obtain ⟨ao, cap, rfl⟩ := hl.shapeOf
  cases ao with
  | none =>
    have h0 : l = [] := by
      obtain ⟨ao', cap', e, _, hs⟩ := hl
      cases e
      rcases hs with h | ⟨b, off, e, _⟩
      · exact h
      · cases e
    subst h0
    clear hl hn
    go_enter Try.func35, Try.ntmps35
    go_wp2_with fail
    go_ret
    exact ⟨_, rfl, OwnL.nil _ _ _ _ _, Below.refl _ _⟩
  | some ad =>
    have HL := hide (hl.below (below_box w (.cells #[] 2)))
    have HN : Hid (([] : List Int).length + l.length ≤ 1000000) := (show _ ≤ _ by simpa using hn)
    clear hl hn
    go_enter Try.func35, Try.ntmps35
    go_wp2_with (at_builtin; refine app_segL Try.info2' Try.underlying28 rfl (by decide) (by decide) i64cs_len i64cs_one rfl _ _ rfl w.heap.size (.slice (some ⟨w.heap.size, 0, none⟩) 0 0) [] rfl (OwnL.empty _ _ _ _) w.heap.size _ l rfl HL.out HN.out (by simp) ?_; intro v1 w1 h1 g1 k1; rw [List.nil_append] at h1)
    have b1 : Below w.heap.size w w1 := (below_box w (.cells #[] 2)).grown g1 (by simp) (fun g e => by cases e; exact Nat.le_refl _)
    go_ret
    exact ⟨_, rfl, h1, b1⟩
set_option maxHeartbeats 1000000 in
set_option maxRecDepth 100000 in
theorem CloneO_any {w : World} {v : Value} {l : List Ou} (hl : LSeg 8 Ou.cs w.heap.size w v l) (hn : l.length ≤ 1000000) : Calls Try.prog 36 #[v] w fun e w' => ∃ u, e = .returned u ∧ OwnL 65 8 Ou.cs w.heap.size w' u l ∧ Below w.heap.size w w' := by
  have q : ∀ (w : World) (a : Option Addr) (n c : Nat), (binOp .eql 31 (.slice a n c) (.slice none 0 0)).run Try.prog w = .ok (.bool a.isNone) w := fun w a n c => Lib.run_eql_slice_nil w _ _ a n c 0 0 Try.underlying31
  obtain ⟨ao, cap, rfl⟩ := hl.shapeOf
  cases ao with
  | none =>
    have h0 : l = [] := by
      obtain ⟨ao', cap', e, _, hs⟩ := hl
      cases e
      rcases hs with h | ⟨b, off, e, _⟩
      · exact h
      · cases e
    subst h0
    clear hl hn
    go_enter Try.func36, Try.ntmps36
    go_wp2_with fail
    go_ret
    exact ⟨_, rfl, OwnL.nil _ _ _ _ _, Below.refl _ _⟩
  | some ad =>
    have HL := hide (hl.below (below_box w (.cells #[] 65)))
    have HN : Hid (([] : List Ou).length + l.length ≤ 1000000) := (show _ ≤ _ by simpa using hn)
    clear hl hn
    go_enter Try.func36, Try.ntmps36
    go_wp2_with (at_builtin; refine app_segL Try.infoOu Try.underlying31 rfl (by decide) (by decide) Ou.cs_len Ou.cs_one rfl _ _ rfl w.heap.size (.slice (some ⟨w.heap.size, 0, none⟩) 0 0) [] rfl (OwnL.empty _ _ _ _) w.heap.size _ l rfl HL.out HN.out (by simp) ?_; intro v1 w1 h1 g1 k1; rw [List.nil_append] at h1)
    have b1 : Below w.heap.size w w1 := (below_box w (.cells #[] 65)).grown g1 (by simp) (fun g e => by cases e; exact Nat.le_refl _)
    go_ret
    exact ⟨_, rfl, h1, b1⟩
set_option maxRecDepth 100000 in
theorem Marks_any {w : World} {k : Nat} {fp : Nat → Prop} {s : Gs} (h : GA w k fp s) : Calls Try.prog 18 #[.pointer (some ⟨k, 0, none⟩)] w fun e w' => ∃ u, e = .returned u ∧ OwnL 2 1 i64cs w.heap.size w' u s.M ∧ Below w.heap.size w w' := by
  obtain ⟨mb, cb, mi, cv, h, hf⟩ := h
  obtain ⟨c0, -, -, -, -, -, -⟩ := h.cells
  have HH := hide (CloneI_any h.seg (by have := h.le; omega))
  clear h hf
  go_enter Try.func18, Try.ntmps18
  go_wp2_with (go_at_call 35; refine HH.out.mono ?_; rintro e w1 ⟨u, rfl, o1, b1⟩)
  go_ret
  exact ⟨_, rfl, o1, b1⟩
set_option maxRecDepth 100000 in
theorem Captured_any {w : World} {k : Nat} {fp : Nat → Prop} {s : Gs} (h : GA w k fp s) (hn : s.cp.length ≤ 1000000) : Calls Try.prog 22 #[.pointer (some ⟨k, 0, none⟩)] w fun e w' => ∃ u, e = .returned u ∧ OwnL 65 8 Ou.cs w.heap.size w' u s.cp ∧ Below w.heap.size w w' := by
  obtain ⟨mb, cb, mi, cv, h, hf⟩ := h
  obtain ⟨-, -, -, -, -, -, c6⟩ := h.cells
  have HH := hide (CloneO_any (h.cp.seg Ou.cs_len (by omega)) hn)
  clear h hf
  go_enter Try.func22, Try.ntmps22
  go_wp2_with (go_at_call 36; refine HH.out.mono ?_; rintro e w1 ⟨u, rfl, o1, b1⟩)
  go_ret
  exact ⟨_, rfl, o1, b1⟩
end Go.Proofs.Ytmipgfobggbndaa
