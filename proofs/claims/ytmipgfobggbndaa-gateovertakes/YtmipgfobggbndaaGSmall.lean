/-
  Blocked, Under, Last, giveUp, Mark, Marks, Captured.
-/
import Derived.Test.YtmipgfobggbndaaGGate
namespace Go.Proofs.Ytmipgfobggbndaa
open Go.RowKit

theorem Gs.has_nat {s : Gs} {ch : Int} (h : s.has ch = true) : ∃ c : Nat, ch = (c : Int) ∧ c < s.M.length := by
  unfold Gs.has at h
  have := of_decide_eq_true h
  exact ⟨ch.toNat, by omega, by omega⟩
theorem Gs.has_of {s : Gs} {c : Nat} (h : c < s.M.length) : s.has (c : Int) = true := by
  unfold Gs.has
  exact decide_eq_true ⟨by omega, by omega⟩
set_option maxRecDepth 100000 in
theorem Blocked_any {w : World} {k : Nat} {fp : Nat → Prop} {s : Gs} (h : GA w k fp s) (ch : Int) : Calls Try.prog 23 #[.pointer (some ⟨k, 0, none⟩), .int .i64 ch] w fun e w' => e = .returned (.bool (s.bl ch)) ∧ w = w' := by
  have HH := hide (has_any h ch)
  obtain ⟨mb, cb, mi, cv, h, hf⟩ := h
  obtain ⟨-, -, c2, c3, c4, -, -⟩ := h.cells
  unfold Gs.bl
  cases hb : s.has ch with
  | false =>
    rw [hb] at HH
    simp only [Bool.false_and]
    clear hf h
    go_enter Try.func23, Try.ntmps23
    go_wp2_with (go_at_call 29; refine HH.out.mono ?_; rintro e w1 ⟨rfl, rfl⟩)
    go_ret
    exact ⟨rfl, rfl⟩
  | true =>
    rw [hb] at HH
    obtain ⟨c, rfl, hc⟩ := Gs.has_nat hb
    obtain ⟨x, hx⟩ := get_of_lt (show c < s.co.length by rw [h.len]; exact hc)
    have e5 := h.come hx
    have hle := h.le
    have hg : s.co.getD (c : Int).toNat false = x := by simp [hx]
    rw [hg]
    clear hf h hx hg hb
    obtain ⟨M, la, un, ov, co, cp⟩ := s
    simp only at *
    have hi : (c : Int) < (M.length : Int) := by omega
    generalize M.length = n at *
    by_cases h0 : un = 0
    · subst h0
      go_enter Try.func23, Try.ntmps23
      go_wp2_with (go_at_call 29; refine HH.out.mono ?_; rintro e w1 ⟨rfl, rfl⟩)
      go_ret
      exact ⟨by simp, rfl⟩
    · have d0 : decide (un ≠ 0) = true := decide_eq_true h0
      rw [d0]
      cases ov with
      | true =>
        go_enter Try.func23, Try.ntmps23
        go_wp2_with (go_at_call 29; refine HH.out.mono ?_; rintro e w1 ⟨rfl, rfl⟩)
        go_ret
        exact ⟨by simp, rfl⟩
      | false =>
        go_enter Try.func23, Try.ntmps23
        go_wp2_with (go_at_call 29; refine HH.out.mono ?_; rintro e w1 ⟨rfl, rfl⟩)
        go_ret
        exact ⟨by simp [h0], rfl⟩
theorem Under_any {w : World} {k : Nat} {fp : Nat → Prop} {s : Gs} (h : GA w k fp s) : Calls Try.prog 19 #[.pointer (some ⟨k, 0, none⟩)] w fun e w' => e = .returned (.int .u64 s.un) ∧ w = w' := by
  obtain ⟨mb, cb, mi, cv, h, hf⟩ := h
  obtain ⟨-, -, c2, -, -, -, -⟩ := h.cells
  go_enter Try.func19, Try.ntmps19
  go_wp2_with fail
  go_ret
  exact ⟨rfl, rfl⟩
theorem Last_any {w : World} {k : Nat} {fp : Nat → Prop} {s : Gs} (h : GA w k fp s) : Calls Try.prog 20 #[.pointer (some ⟨k, 0, none⟩)] w fun e w' => e = .returned (.int .u64 s.la) ∧ w = w' := by
  obtain ⟨mb, cb, mi, cv, h, hf⟩ := h
  obtain ⟨-, c1, -, -, -, -, -⟩ := h.cells
  go_enter Try.func20, Try.ntmps20
  go_wp2_with fail
  go_ret
  exact ⟨rfl, rfl⟩
/-- The least one. -/
def least : List Int → Int
  | [] => 0
  | x :: l => l.foldl min x
theorem least_take {x : Int} {l : List Int} {t : Nat} {y : Int} (h : (x :: l)[t + 1]? = some y) : least ((x :: l).take (t + 2)) = min (least ((x :: l).take (t + 1))) y := by
  have hl : l[t]? = some y := by simpa using h
  have hlt := lt_of_get hl
  have e : l[t] = y := by rw [List.getElem?_eq_getElem hlt] at hl; exact Option.some.inj hl
  simp only [List.take_succ_cons, least]
  rw [List.take_succ_eq_append_getElem hlt, List.foldl_append, e]
  rfl
set_option maxHeartbeats 1000000 in
set_option maxRecDepth 100000 in
theorem Min_any {w : World} {v : Value} {B : Nat} {l : List Int} (hl : LSeg 1 i64cs B w v l) (h1 : 1 ≤ l.length) (hn : l.length ≤ 1000000) : Calls Try.prog 34 #[v] w fun e w' => e = .returned (.int .i64 (least l)) ∧ w = w' := by
  obtain ⟨ao, cap, rfl⟩ := hl.shape
  obtain ⟨x, m, rfl⟩ : ∃ x m, l = x :: m := by
    cases l with
    | nil => simp at h1
    | cons x m => exact ⟨x, m, rfl⟩
  have HL := hide hl
  obtain ⟨nb, no, rfl, nlt, d0⟩ := seg_int hl (t := 0) rfl
  rw [Nat.add_zero] at d0
  clear hl
  have HS : Hid (least ((x :: m).take 1) = x) := (show _ = _ from rfl)
  have HE : Hid (least ((x :: m).take (x :: m).length) = least (x :: m)) := (show _ = _ by rw [List.take_length])
  have HST : Hid (∀ t y, (x :: m)[t + 1]? = some y → least ((x :: m).take (t + 2)) = min (least ((x :: m).take (t + 1))) y) := (show ∀ t y, _ from fun t y h => least_take h)
  generalize least (x :: m) = R at *
  have HLen : Hid ((x :: m).length = m.length + 1) := (show _ = _ from rfl)
  generalize hLL : (x :: m).length = L at *
  generalize hl : x :: m = l at *
  clear hl
  have b1 : ¬ (L : Int) < 1 := by omega
  have b2 : (0 : Int) < (L : Int) := by omega
  go_enter Try.func34, Try.ntmps34
  go_wp2_with fail
  go_loopg [3, 4] (L + 1) (fun gh xv iv wr => ∃ (t : Nat) (y : Int), iv = .int .i64 ((t : Int) + 1) ∧ t + 1 ≤ L ∧ L + 1 ≤ gh + t ∧ xv = .int .i64 y ∧ Hid (least (l.take (t + 1)) = y) ∧ wr = w)
  case atStart => exact ⟨0, x, rfl, by omega, by omega, rfl, HS, rfl⟩
  case round =>
    obtain ⟨t, y, rfl, ht, hg, rfl, HY, rfl⟩ := hrel
    obtain ⟨go, rfl⟩ : ∃ go, gk = go + 1 := ⟨gk - 1, by omega⟩
    by_cases hlt : t + 1 < L
    · obtain ⟨z, hz⟩ := get_of_lt (show t + 1 < l.length by rw [hLL]; exact hlt)
      have bt : (t : Int) + 1 < (L : Int) := by omega
      obtain ⟨nb', no', e', _, d1⟩ := seg_int HL.out hz
      cases e'
      have HZ : Hid (least (l.take (t + 1 + 1)) = min y z) := (show _ = _ by rw [← HY.out]; exact HST.out t z hz)
      clear hz
      have d1' : wr.cell? ⟨nb, no + (t + 1), none⟩ = some (.int .i64 z) := d1
      clear d1
      go_wp2_with fail
      all_goals
        go_roundg go
        case rel => exact ⟨t + 1, _, by go_num, by omega, by omega, rfl, (show _ = _ by rw [HZ.out]; omega), rfl⟩
        case measure => omega
    · have bt : ¬ (t : Int) + 1 < (L : Int) := by omega
      have HF : Hid (y = R) := (show _ = _ by rw [← HY.out, ← HE.out]; congr 2; omega)
      go_wp2_with fail
      go_ret
      exact ⟨ret_int HF.out, rfl⟩
end Go.Proofs.Ytmipgfobggbndaa
