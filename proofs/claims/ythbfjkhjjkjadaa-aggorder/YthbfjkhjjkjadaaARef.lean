/-
  All; the document's Zero, Add, Merge, All; the examples.
-/
import Derived.Test.YthbfjkhjjkjadaaAFace
namespace Go.Proofs.Ythbfjkhjjkjadaa
open Go.RowKit

set_option maxHeartbeats 1000000 in
theorem All_any {w : World} {v : Value} {l : List Int} (hl : LSeg 1 i64cs w.heap.size w v l) (hn : l.length ≤ 100000) (a : Int) : Calls Try.prog 11 #[.int .i64 a, v] w fun e w' => e = .returned (.int .i64 (al a l)) ∧ Below w.heap.size w w' := by
  have HF := hide (find_any w a)
  have HB : Hid (∀ w' o, Below w.heap.size w w' → Below w.heap.size w (w'.alloc o)) := fun w' o h => h.alloc h.size o
  have HA : Hid (∀ w' o, Below w.heap.size w w' → Calls Try.prog 18 #[mon a, v] (w'.alloc o) fun e w'' => e = .returned (.int .i64 (al a l)) ∧ Below (w'.alloc o).heap.size (w'.alloc o) w'') := fun w' o h => all_any ((hl.below (HB.out w' o h)).mono (HB.out w' o h).size) hn a
  clear hl
  unfold mon at HF HA
  generalize decide (1 ≤ a ∧ a ≤ 5) = d at *
  generalize al a l = r at *
  generalize zr a = z at *
  generalize oneF a = f at *
  generalize joinF a = g at *
  go_enter Try.func11, Try.ntmps11
  go_wp2_with (first
    | (refine HF.out.mono ?_; rintro e w1 ⟨rfl, b1⟩)
    | (refine (HA.out _ _ b1).mono ?_; rintro e w2 ⟨rfl, b2⟩))
  go_ret
  exact ⟨rfl, (HB.out _ _ b1).trans (b2.mono (HB.out _ _ b1).size)⟩
theorem RZero_any (w : World) (a : Int) : Calls Try.prog 12 #[.int .i64 a] w fun e w' => e = .returned (.int .i64 (zr a)) ∧ w' = w := by
  by_cases h3 : a = 3
  · subst h3
    go_enter Try.func12, Try.ntmps12
    go_wp2_with fail
    go_ret
    exact ⟨rfl, rfl⟩
  by_cases h4 : a = 4
  · subst h4
    go_enter Try.func12, Try.ntmps12
    go_wp2_with fail
    go_ret
    exact ⟨rfl, rfl⟩
  have HE : Hid (zr a = 0) := (show _ = _ by unfold zr; rw [if_neg h3, if_neg h4])
  generalize zr a = z at *
  go_enter Try.func12, Try.ntmps12
  go_wp2_with fail
  go_ret
  exact ⟨by rw [HE.out]; rfl, rfl⟩
theorem RMerge_any (w : World) (a x y : Int) : Calls Try.prog 14 #[.int .i64 a, .int .i64 x, .int .i64 y] w fun e w' => e = .returned (.int .i64 (jn a x y)) ∧ w' = w := by
  by_cases h1 : a = 1
  · subst h1
    rw [jn1]
    go_enter Try.func14, Try.ntmps14
    go_wp2_with fail
    go_ret
    exact ⟨rfl, rfl⟩
  by_cases h2 : a = 2
  · subst h2
    rw [jn2]
    go_enter Try.func14, Try.ntmps14
    go_wp2_with fail
    go_ret
    exact ⟨rfl, rfl⟩
  by_cases h3 : a = 3
  · subst h3
    rw [jn3]
    go_enter Try.func14, Try.ntmps14
    go_wp2_with fail
    all_goals (go_ret; exact ⟨rfl, rfl⟩)
  by_cases h4 : a = 4
  · subst h4
    rw [jn4]
    go_enter Try.func14, Try.ntmps14
    go_wp2_with fail
    all_goals (go_ret; exact ⟨rfl, rfl⟩)
  by_cases h5 : a = 5
  · subst h5
    rw [jn5]
    go_enter Try.func14, Try.ntmps14
    go_wp2_with fail
    go_ret
    exact ⟨rfl, rfl⟩
  rw [jn_none (by omega)]
  go_enter Try.func14, Try.ntmps14
  go_wp2_with fail
  go_ret
  exact ⟨rfl, rfl⟩
theorem RAdd_any (w : World) (a x v : Int) : Calls Try.prog 13 #[.int .i64 a, .int .i64 x, .int .i64 v] w fun e w' => e = .returned (.int .i64 (ad a x v)) ∧ w' = w := by
  by_cases h2 : a = 2
  · subst h2
    have HE : Hid (ad 2 x v = wrap64 (x + 1)) := (show _ = _ from rfl)
    generalize ad 2 x v = r at *
    go_enter Try.func13, Try.ntmps13
    go_wp2_with fail
    go_ret
    exact ⟨by rw [HE.out]; rfl, rfl⟩
  have HE : Hid (ad a x v = jn a x v) := (show _ = _ by unfold ad; rw [if_neg h2])
  have HM := hide (RMerge_any w a x v)
  generalize ad a x v = r at *
  generalize jn a x v = s at *
  go_enter Try.func13, Try.ntmps13
  go_wp2_with (refine HM.out.mono ?_; rintro e w1 ⟨rfl, rfl⟩)
  go_ret
  exact ⟨by rw [HE.out]; rfl, rfl⟩
set_option maxHeartbeats 1000000 in
theorem RAll_any {w : World} {v : Value} {l : List Int} (hl : LSeg 1 i64cs w.heap.size w v l) (hn : l.length ≤ 100000) (a : Int) : Calls Try.prog 15 #[.int .i64 a, v] w fun e w' => e = .returned (.int .i64 (al a l)) ∧ w' = w := by
  obtain ⟨ao, cap, rfl⟩ := hl.shape
  have HL := hide hl
  have HA := hide (fun w x v => RAdd_any w a x v)
  have HR := hide (RZero_any w a)
  clear hl
  have HZ : Hid (al a [] = zr a) := (show _ = _ from rfl)
  generalize hz : zr a = z at *
  go_enter Try.func15, Try.ntmps15
  go_wp2_with (go_at_call 12; refine HR.out.mono ?_; rintro e w1 ⟨rfl, rfl⟩)
  go_loopg [5, 6] (l.length + 1) (fun gh cv iv wr => ∃ t : Nat, iv = .int .i64 (t : Int) ∧ t ≤ l.length ∧ l.length + 1 ≤ gh + t ∧ cv = .int .i64 (al a (l.take t)) ∧ wr = w1)
  case atStart => exact ⟨0, rfl, by omega, by omega, by rw [List.take_zero, HZ.out], rfl⟩
  case round =>
    obtain ⟨t, rfl, ht, hg, rfl, rfl⟩ := hrel
    obtain ⟨go, rfl⟩ : ∃ go, gk = go + 1 := ⟨gk - 1, by omega⟩
    by_cases hlt : t < l.length
    · obtain ⟨x, hx⟩ := get_of_lt hlt
      have bt : (t : Int) < (l.length : Int) := by omega
      obtain ⟨nb, no, rfl, nlt, d0⟩ := seg_int HL.out hx
      have HT : Hid (al a (l.take (t + 1)) = ad a (al a (l.take t)) x) := (show _ = _ from fold_take _ hx _)
      have HC := hide (fun w => HA.out w (al a (l.take t)) x)
      clear hx
      generalize al a (l.take t) = s at *
      generalize ad a s x = r at *
      go_wp2_with (refine (HC.out _).mono ?_; rintro e w2 ⟨rfl, rfl⟩)
      go_roundg go
      case rel => exact ⟨t + 1, by go_num, by omega, by omega, by rw [HT.out], rfl⟩
      case measure => omega
    · have bt : ¬ (t : Int) < (l.length : Int) := by omega
      have HE : Hid (al a (l.take t) = al a l) := (show _ = _ by rw [List.take_of_length_le (by omega)])
      generalize al a (l.take t) = r at *
      go_wp2_with fail
      go_ret
      exact ⟨by rw [← HE.out]; rfl, rfl⟩
end Go.Proofs.Ythbfjkhjjkjadaa
