/-
  Texts in build order: AFace.
-/
import Derived.Test.YtdoldohcimbdaaaGreatM02
/-
  The face of package agg, and the document's.
-/
namespace Go.Proofs.YtdoldohcimbdaaaGreat
open Go.RowKit

set_option maxHeartbeats 1000000 in
theorem Zero_any (w : World) (a : Int) : Calls Tryz.prog 26 #[.int .i64 a] w fun e w' => e = .returned (.int .i64 (zr a)) ∧ Below w.heap.size w w' := by
  have HF := hide (find_any w a)
  unfold mon at HF
  generalize decide (1 ≤ a ∧ a ≤ 5) = d at *
  generalize zr a = z at *
  generalize oneF a = f at *
  generalize joinF a = g at *
  go_enter Tryz.func26, Tryz.ntmps26
  go_wp2_with (refine HF.out.mono ?_; rintro e w1 ⟨rfl, b1⟩)
  go_ret
  exact ⟨rfl, b1.trans ((below_box w1 _).mono b1.size)⟩
set_option maxHeartbeats 1000000 in
theorem add_any (w : World) (a x v : Int) : Calls Tryz.prog 49 #[mon a, .int .i64 x, .int .i64 v] w fun e w' => e = .returned (.int .i64 (ad a x v)) ∧ Below w.heap.size w w' := by
  have H1 := hide (fun w => one_any w a v)
  have H2 := hide (fun w => join_any w a x (if a = 2 then 1 else v))
  have hf := oneF_run a
  have hg := joinF_run a
  unfold mon ad
  generalize (if a = 2 then 1 else v) = y at *
  generalize jn a x y = r at *
  generalize zr a = z at *
  generalize oneF a = f at *
  generalize joinF a = g at *
  go_enter Tryz.func49, Tryz.ntmps49
  go_wp2_with fail
  go_quiet (first | (exact Calls.quiet_of_same (H1.out _)) | (exact Calls.quiet_of_same (H2.out _)))
  go_wp2_with fail
  go_ret
  exact ⟨rfl, below_drewN (below_box w _) _⟩
set_option maxHeartbeats 1000000 in
theorem Add_any (w : World) (a x v : Int) : Calls Tryz.prog 25 #[.int .i64 a, .int .i64 x, .int .i64 v] w fun e w' => e = .returned (.int .i64 (ad a x v)) ∧ Below w.heap.size w w' := by
  have HF := hide (find_any w a)
  have HA := hide (fun w => add_any w a x v)
  unfold mon at HF HA
  generalize decide (1 ≤ a ∧ a ≤ 5) = d at *
  generalize ad a x v = r at *
  generalize zr a = z at *
  generalize oneF a = f at *
  generalize joinF a = g at *
  go_enter Tryz.func25, Tryz.ntmps25
  go_wp2_with (first
    | (refine HF.out.mono ?_; rintro e w1 ⟨rfl, b1⟩)
    | (refine (HA.out _).mono ?_; rintro e w2 ⟨rfl, b2⟩))
  go_ret
  have hb := (below_box w1 (.cells #[.int .i64 z, .func (.func f) #[] #[], .func (.func g) #[] #[]] 102))
  exact ⟨rfl, (b1.trans (hb.mono b1.size)).trans (b2.mono (Nat.le_trans b1.size hb.size))⟩
set_option maxHeartbeats 1000000 in
theorem Merge_any (w : World) (a x y : Int) : Calls Tryz.prog 52 #[.int .i64 a, .int .i64 x, .int .i64 y] w fun e w' => e = .returned (.int .i64 (jn a x y)) ∧ Below w.heap.size w w' := by
  have HF := hide (find_any w a)
  have HA := hide (fun w => join_any w a x y)
  have hg := joinF_run a
  unfold mon at HF
  generalize decide (1 ≤ a ∧ a ≤ 5) = d at *
  generalize jn a x y = r at *
  generalize zr a = z at *
  generalize oneF a = f at *
  generalize joinF a = g at *
  go_enter Tryz.func52, Tryz.ntmps52
  go_wp2_with (first
    | (refine HF.out.mono ?_; rintro e w1 ⟨rfl, b1⟩)
    | (refine (HA.out _).mono ?_; rintro e w2 ⟨rfl, rfl⟩))
  go_ret
  have hb := (below_box w1 (.cells #[.int .i64 z, .func (.func f) #[] #[], .func (.func g) #[] #[]] 102))
  exact ⟨rfl, b1.trans (hb.mono b1.size)⟩
theorem BoxT.below {t : TypeId} {w w' : World} {k : Nat} {cs : Array Value} (h : BoxT t w k cs) (hb : Below w.heap.size w w') : BoxT t w' k cs := by
  have hk := h.lt
  unfold BoxT at *
  rw [hb.block k hk]; exact h
theorem lt_of_get {α : Type} {l : List α} {i : Nat} {x : α} (h : l[i]? = some x) : i < l.length := (List.getElem?_eq_some_iff.1 h).1
theorem get_of_lt {α : Type} {l : List α} {i : Nat} (h : i < l.length) : ∃ x, l[i]? = some x := ⟨_, List.getElem?_eq_getElem h⟩
theorem seg_int {B : Nat} {w : World} {ao : Option Addr} {n cap : Nat} {xs : List Int} (h : LSeg 1 i64cs B w (.slice ao n cap) xs) {t : Nat} {x : Int} (hx : xs[t]? = some x) : ∃ b o, ao = some ⟨b, o, none⟩ ∧ b < B ∧ w.cell? ⟨b, o + t, none⟩ = some (.int .i64 x) := by
  obtain ⟨ao', cap', e, _, hs⟩ := h
  cases e
  rcases hs with rfl | ⟨b, off, rfl, hb, hc⟩
  · simp at hx
  · exact ⟨b, off, rfl, hb, by simpa using hc t x hx 0 _ rfl⟩
theorem LSeg.shape {B : Nat} {w : World} {v : Value} {xs : List Int} (h : LSeg 1 i64cs B w v xs) : ∃ ao cap, v = .slice ao xs.length cap := by
  obtain ⟨ao, cap, e, _⟩ := h
  exact ⟨ao, cap, e⟩
theorem fold_take {α β : Type} (f : β → α → β) {l : List α} {t : Nat} {x : α} (h : l[t]? = some x) (z : β) : (l.take (t + 1)).foldl f z = f ((l.take t).foldl f z) x := by
  have hl := lt_of_get h
  rw [List.getElem?_eq_getElem hl] at h
  cases h
  rw [List.take_succ_eq_append_getElem hl, List.foldl_append]
  rfl
end Go.Proofs.YtdoldohcimbdaaaGreat
