/-
  The face of package agg, and the document's.
-/
import Derived.Test.YthbfjkhjjkjadaaACalls
namespace Go.Proofs.Ythbfjkhjjkjadaa
open Go.RowKit

set_option maxHeartbeats 1000000 in
theorem Is_any (w : World) (a : Int) : Calls Try.prog 7 #[.int .i64 a] w fun e w' => e = .returned (.bool (decide (1 ≤ a ∧ a ≤ 5))) ∧ Below w.heap.size w w' := by
  have HF := hide (find_any w a)
  unfold mon at HF
  generalize decide (1 ≤ a ∧ a ≤ 5) = d at *
  generalize zr a = z at *
  generalize oneF a = f at *
  generalize joinF a = g at *
  go_enter Try.func7, Try.ntmps7
  go_wp2_with (refine HF.out.mono ?_; rintro e w1 ⟨rfl, b1⟩)
  go_ret
  exact ⟨rfl, b1.trans ((below_box w1 _).mono b1.size)⟩
set_option maxHeartbeats 1000000 in
theorem Zero_any (w : World) (a : Int) : Calls Try.prog 8 #[.int .i64 a] w fun e w' => e = .returned (.int .i64 (zr a)) ∧ Below w.heap.size w w' := by
  have HF := hide (find_any w a)
  unfold mon at HF
  generalize decide (1 ≤ a ∧ a ≤ 5) = d at *
  generalize zr a = z at *
  generalize oneF a = f at *
  generalize joinF a = g at *
  go_enter Try.func8, Try.ntmps8
  go_wp2_with (refine HF.out.mono ?_; rintro e w1 ⟨rfl, b1⟩)
  go_ret
  exact ⟨rfl, b1.trans ((below_box w1 _).mono b1.size)⟩
set_option maxHeartbeats 1000000 in
theorem add_any (w : World) (a x v : Int) : Calls Try.prog 17 #[mon a, .int .i64 x, .int .i64 v] w fun e w' => e = .returned (.int .i64 (ad a x v)) ∧ Below w.heap.size w w' := by
  have H1 := hide (fun w => one_any w a v)
  have H2 := hide (fun w => join_any w a x (if a = 2 then 1 else v))
  have hf := oneF_run a
  have hg := joinF_run a
  unfold mon ad
  generalize (if a = 2 then 1 else v) = y at *
  generalize jn a x y = r at *
  generalize zr a = z at *
  generalize oneF a = f at *
  generalize joinF a = g at *
  go_enter Try.func17, Try.ntmps17
  go_wp2_with fail
  go_quiet (first | (exact Calls.quiet_of_same (H1.out _)) | (exact Calls.quiet_of_same (H2.out _)))
  go_wp2_with fail
  go_ret
  exact ⟨rfl, below_drewN (below_box w _) _⟩
set_option maxHeartbeats 1000000 in
theorem Add_any (w : World) (a x v : Int) : Calls Try.prog 9 #[.int .i64 a, .int .i64 x, .int .i64 v] w fun e w' => e = .returned (.int .i64 (ad a x v)) ∧ Below w.heap.size w w' := by
  have HF := hide (find_any w a)
  have HA := hide (fun w => add_any w a x v)
  unfold mon at HF HA
  generalize decide (1 ≤ a ∧ a ≤ 5) = d at *
  generalize ad a x v = r at *
  generalize zr a = z at *
  generalize oneF a = f at *
  generalize joinF a = g at *
  go_enter Try.func9, Try.ntmps9
  go_wp2_with (first
    | (refine HF.out.mono ?_; rintro e w1 ⟨rfl, b1⟩)
    | (refine (HA.out _).mono ?_; rintro e w2 ⟨rfl, b2⟩))
  go_ret
  have hb := (below_box w1 (.cells #[.int .i64 z, .func (.func f) #[] #[], .func (.func g) #[] #[]] 34))
  exact ⟨rfl, (b1.trans (hb.mono b1.size)).trans (b2.mono (Nat.le_trans b1.size hb.size))⟩
set_option maxHeartbeats 1000000 in
theorem Merge_any (w : World) (a x y : Int) : Calls Try.prog 10 #[.int .i64 a, .int .i64 x, .int .i64 y] w fun e w' => e = .returned (.int .i64 (jn a x y)) ∧ Below w.heap.size w w' := by
  have HF := hide (find_any w a)
  have HA := hide (fun w => join_any w a x y)
  have hg := joinF_run a
  unfold mon at HF
  generalize decide (1 ≤ a ∧ a ≤ 5) = d at *
  generalize jn a x y = r at *
  generalize zr a = z at *
  generalize oneF a = f at *
  generalize joinF a = g at *
  go_enter Try.func10, Try.ntmps10
  go_wp2_with (first
    | (refine HF.out.mono ?_; rintro e w1 ⟨rfl, b1⟩)
    | (refine (HA.out _).mono ?_; rintro e w2 ⟨rfl, rfl⟩))
  go_ret
  have hb := (below_box w1 (.cells #[.int .i64 z, .func (.func f) #[] #[], .func (.func g) #[] #[]] 34))
  exact ⟨rfl, b1.trans (hb.mono b1.size)⟩
theorem BoxT.below {t : TypeId} {w w' : World} {k : Nat} {cs : Array Value} (h : BoxT t w k cs) (hb : Below w.heap.size w w') : BoxT t w' k cs := by
  have hk := h.lt
  unfold BoxT at *
  rw [hb.block k hk]; exact h
theorem lt_of_get {α : Type} {l : List α} {i : Nat} {x : α} (h : l[i]? = some x) : i < l.length := (List.getElem?_eq_some_iff.1 h).1
theorem get_of_lt {α : Type} {l : List α} {i : Nat} (h : i < l.length) : ∃ x, l[i]? = some x := ⟨_, List.getElem?_eq_getElem h⟩
theorem seg_int {B : Nat} {w : World} {ao : Option Addr} {n cap : Nat} {xs : List Int} (h : LSeg 1 i64cs B w (.slice ao n cap) xs) {t : Nat} {x : Int} (hx : xs[t]? = some x) : ∃ b o, ao = some ⟨b, o, none⟩ ∧ b < B ∧ w.cell? ⟨b, o + t, none⟩ = some (.int .i64 x) := by
  obtain ⟨ao', cap', e, _, hs⟩ := h
  cases e
  rcases hs with rfl | ⟨b, off, rfl, hb, hc⟩
  · simp at hx
  · exact ⟨b, off, rfl, hb, by simpa using hc t x hx 0 _ rfl⟩
theorem LSeg.shape {B : Nat} {w : World} {v : Value} {xs : List Int} (h : LSeg 1 i64cs B w v xs) : ∃ ao cap, v = .slice ao xs.length cap := by
  obtain ⟨ao, cap, e, _⟩ := h
  exact ⟨ao, cap, e⟩
theorem fold_take {α β : Type} (f : β → α → β) {l : List α} {t : Nat} {x : α} (h : l[t]? = some x) (z : β) : (l.take (t + 1)).foldl f z = f ((l.take t).foldl f z) x := by
  have hl := lt_of_get h
  rw [List.getElem?_eq_getElem hl] at h
  cases h
  rw [List.take_succ_eq_append_getElem hl, List.foldl_append]
  rfl
set_option maxHeartbeats 1000000 in
theorem all_any {w : World} {v : Value} {l : List Int} (hl : LSeg 1 i64cs w.heap.size w v l) (hn : l.length ≤ 100000) (a : Int) : Calls Try.prog 18 #[mon a, v] w fun e w' => e = .returned (.int .i64 (al a l)) ∧ Below w.heap.size w w' := by
  obtain ⟨ao, cap, rfl⟩ := hl.shape
  have HL := hide hl
  have HA := hide (fun w x v => add_any w a x v)
  clear hl
  have HB := hide (below_box w (.cells #[.int .i64 (zr a), .func (.func (oneF a)) #[] #[], .func (.func (joinF a)) #[] #[]] 34))
  have HX := hide (BoxT.new 34 w #[.int .i64 (zr a), .func (.func (oneF a)) #[] #[], .func (.func (joinF a)) #[] #[]])
  have HZ : Hid (al a [] = zr a) := (show _ = _ from rfl)
  unfold mon at *
  generalize hz : zr a = z at *
  generalize oneF a = f at *
  generalize joinF a = g at *
  go_enter Try.func18, Try.ntmps18
  go_wp2_with fail
  go_loopg [5, 7, 12] (l.length + 1) (fun gh cv xv iv wr => ∃ t : Nat, iv = .int .i64 (t : Int) ∧ t ≤ l.length ∧ l.length + 1 ≤ gh + t ∧ cv = .int .i64 (al a (l.take t)) ∧ Hid (BoxT 34 wr w.heap.size #[.int .i64 z, .func (.func f) #[] #[], .func (.func g) #[] #[]]) ∧ Hid (Below w.heap.size w wr))
  case atStart => exact ⟨0, rfl, by omega, by omega, by rw [List.take_zero, HZ.out], HX, HB⟩
  case round =>
    obtain ⟨t, rfl, ht, hg, rfl, GX, GB⟩ := hrel
    obtain ⟨go, rfl⟩ : ∃ go, gk = go + 1 := ⟨gk - 1, by omega⟩
    by_cases hlt : t < l.length
    · obtain ⟨x, hx⟩ := get_of_lt hlt
      have bt : (t : Int) < (l.length : Int) := by omega
      obtain ⟨nb, no, rfl, nlt, d0⟩ := seg_int (HL.out.below GB.out) hx
      have HT : Hid (al a (l.take (t + 1)) = ad a (al a (l.take t)) x) := (show _ = _ from fold_take _ hx _)
      have HC := hide (fun w => HA.out w (al a (l.take t)) x)
      have e0 := GX.out.cellAt 0
      have e1 := GX.out.cellAt 1
      have e2 := GX.out.cellAt 2
      clear hx
      generalize al a (l.take t) = s at *
      generalize ad a s x = r at *
      simp at e0 e1 e2
      go_wp2_with (refine (HC.out _).mono ?_; rintro e w1 ⟨rfl, b1⟩)
      go_roundg go
      case rel =>
        exact ⟨t + 1, by go_num, by omega, by omega, by rw [HT.out], BoxT.below (t := 34) GX.out b1, GB.out.trans (b1.mono GB.out.size)⟩
      case measure => omega
    · have bt : ¬ (t : Int) < (l.length : Int) := by omega
      have HE : Hid (al a (l.take t) = al a l) := (show _ = _ by rw [List.take_of_length_le (by omega)])
      generalize al a (l.take t) = r at *
      go_wp2_with fail
      go_ret
      exact ⟨by rw [← HE.out]; rfl, GB.out⟩
end Go.Proofs.Ythbfjkhjjkjadaa
