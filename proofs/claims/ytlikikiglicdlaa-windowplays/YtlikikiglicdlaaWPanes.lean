/-
  panes: such that may be.
-/
import Derived.Test.YtlikikiglicdlaaWFiresP
namespace Go.Proofs.Ytlikikiglicdlaa
open Go.RowKit

set_option maxHeartbeats 4000000 in
set_option maxRecDepth 100000 in
theorem panes_any {w : World} {v : Value} {l : List Pn} (hl : LSeg 4 Pn.cs w.heap.size w v l) : Calls Try.prog 22 #[v] w fun e w' => RetT e (PnsOk l) ∧ Below w.heap.size w w' := by
  have hz : (l.length : Int) ≤ 140737488355328 := by have := hl.len; omega
  obtain ⟨ao, cap, rfl⟩ := hl.shapeOf
  have HL := hide hl
  clear hl
  by_cases hn : (200 : Int) < (l.length : Int)
  · have HNF : Hid (¬ PnsOk l) := (show ¬ _ from fun h => by have := h.1; omega)
    go_enter Try.func22, Try.ntmps22
    go_wp2_with fail
    go_ret
    exact ⟨RetT.no HNF.out, Below.refl _ _⟩
  go_enter Try.func22, Try.ntmps22
  go_wp2_with fail
  go_loopg [3] (l.length + 1) (fun gh iv wr => ∃ i : Nat, iv = .int .i64 (i : Int) ∧ i ≤ l.length ∧ l.length + 1 ≤ gh + i ∧ Hid (∀ p ∈ l.take i, PnOk p) ∧ Hid (∀ B, Below B w wr))
  case atStart => exact ⟨0, rfl, by omega, by omega, (show ∀ p ∈ _, _ from fun p hp => by simp at hp), (show ∀ B, _ from fun B => Below.refl _ _)⟩
  case round =>
    obtain ⟨i, rfl, hi, hg, HO, HD⟩ := hrel
    obtain ⟨go, rfl⟩ : ∃ go, gk = go + 1 := ⟨gk - 1, by omega⟩
    by_cases hlt : i < l.length
    · obtain ⟨x, hx⟩ := get_of_lt hlt
      have bt : (i : Int) < (l.length : Int) := by omega
      have hbr := HD.out
      obtain ⟨b1, o1, rfl, _, e0, e1, e2, e3⟩ := (HL.out.below (hbr _)).pane hx
      have HNO : Hid (¬ PnOk x → ¬ PnsOk l) := (show _ → _ from fun h h' => h (h'.2 x (List.mem_of_getElem? hx)))
      have HYES : Hid (PnOk x → ∀ p ∈ l.take (i + 1), PnOk p) := (show _ → _ from fun h p hp => by
        rw [take_snoc hx] at hp
        rcases List.mem_append.1 hp with h1 | h1
        · exact HO.out p h1
        · rw [List.mem_singleton] at h1; rw [h1]; exact h)
      clear hx hbr HO
      obtain ⟨x0, x1, x2, x3⟩ := x
      simp only at e0 e1 e2 e3
      have HA1 := hide (time_yes (t := x1))
      have HA0 := hide (time_no (t := x1))
      have HC1 := hide (time_yes (t := x2))
      have HC0 := hide (time_no (t := x2))
      by_cases hA : TimeOk x1
      · have HA := hide (HA1.out hA)
        by_cases hC : TimeOk x2
        · have HC := hide (HC1.out hC)
          by_cases hD : x1 < x2
          · have HY := hide (HYES.out ⟨hA, hC, hD⟩)
            clear HNO HYES HA1 HA0 HC1 HC0 hA hC
            go_wp2_with fail
            go_quiet (first | (exact Calls.quiet_of_same (HA.out _)) | (exact Calls.quiet_of_same (HC.out _)))
            go_wp2_with fail
            go_roundg go
            case rel => exact ⟨i + 1, by go_num, by omega, by omega, HY, (show ∀ B, _ from fun B => below_drewN (HD.out B) _)⟩
            case measure => omega
          · have HY := hide (HNO.out (fun h => hD h.2.2))
            clear HNO HYES HA1 HA0 HC1 HC0 hA hC
            go_wp2_with fail
            go_quiet (first | (exact Calls.quiet_of_same (HA.out _)) | (exact Calls.quiet_of_same (HC.out _)))
            go_wp2_with fail
            go_ret
            exact ⟨RetT.no HY.out, below_drewN (HD.out _) _⟩
        · have HC := hide (HC0.out hC)
          have HY := hide (HNO.out (fun h => hC h.2.1))
          clear HNO HYES HA1 HA0 HC1 HC0 hA hC
          go_wp2_with fail
          go_quiet (first | (exact Calls.quiet_of_same (HA.out _)) | (exact Calls.quiet_of_same (HC.out _)))
          go_wp2_with fail
          go_ret
          exact ⟨RetT.no HY.out, below_drewN (HD.out _) _⟩
      · have HA := hide (HA0.out hA)
        have HY := hide (HNO.out (fun h => hA h.1))
        clear HNO HYES HA1 HA0 HC1 HC0 hA
        go_wp2_with fail
        go_quiet (first | (exact Calls.quiet_of_same (HA.out _)) | fail)
        go_wp2_with fail
        go_ret
        exact ⟨RetT.no HY.out, below_drewN (HD.out _) _⟩
    · have bt : ¬ (i : Int) < (l.length : Int) := by omega
      have HF : Hid (PnsOk l) := (show PnsOk l from ⟨by omega, by have := HO.out; rw [List.take_of_length_le (by omega)] at this; exact this⟩)
      go_wp2_with fail
      go_ret
      exact ⟨RetT.yes HF.out, HD.out _⟩
theorem panes_yes {w : World} {v : Value} {l : List Pn} (hl : LSeg 4 Pn.cs w.heap.size w v l) (h : PnsOk l) : Calls Try.prog 22 #[v] w fun e w' => e = .returned (.bool true) ∧ Below w.heap.size w w' := (panes_any hl).mono fun _ _ h1 => ⟨h1.1.is_yes h, h1.2⟩
theorem panes_no {w : World} {v : Value} {l : List Pn} (hl : LSeg 4 Pn.cs w.heap.size w v l) (h : ¬ PnsOk l) : Calls Try.prog 22 #[v] w fun e w' => e = .returned (.bool false) ∧ Below w.heap.size w w' := (panes_any hl).mono fun _ _ h1 => ⟨h1.1.is_no h, h1.2⟩
end Go.Proofs.Ytlikikiglicdlaa
