/-
  Texts in build order: SSearch.
-/
import Derived.Test.YtdoldohcimbdaaaGreatM14
/-
  sort.Search over a key's sessions.
-/
namespace Go.Proofs.YtdoldohcimbdaaaGreat
open Go.RowKit

theorem LSeg.span {B : Nat} {w : World} {ao : Option Addr} {n cap : Nat} {xs : List Sp} (h : LSeg 2 Sp.cs B w (.slice ao n cap) xs) {i : Nat} {x : Sp} (hx : xs[i]? = some x) : ∃ b o, ao = some ⟨b, o, none⟩ ∧ b < B ∧ w.cell? ⟨b, o + i * 2, none⟩ = some (.int .i64 x.f) ∧ w.cell? ⟨b, o + i * 2 + 1, none⟩ = some (.int .i64 x.t) := by
  obtain ⟨b, o, e, hb, _, d⟩ := h.readAt hx
  exact ⟨b, o, e, hb, d 0 _ rfl, d 1 _ rfl⟩
set_option maxHeartbeats 1000000 in
set_option maxRecDepth 100000 in
theorem addC_any {w : World} {KL KF : Nat} {v : Value} {l : List Sp} {f t : Int} (hL : BoxT 79 w KL #[v]) (hF : BoxT 68 w KF #[.int .i64 f, .int .i64 t]) (hl : LSeg 2 Sp.cs w.heap.size w v l) {i : Nat} {x : Sp} (hx : l[i]? = some x) :
    Calls Tryz.prog 81 #[.int .i64 (i : Int), .pointer (some ⟨KL, 0, none⟩), .pointer (some ⟨KF, 0, none⟩)] w fun e w' => e = .returned (.bool (decide (x.t > f))) ∧ Below w.heap.size w w' := by
  obtain ⟨ao, cap, rfl⟩ := hl.shapeOf
  obtain ⟨nb, no, rfl, nlt, e0, e1⟩ := hl.span hx
  have hlt := lt_of_get hx
  have bt : (i : Int) < (l.length : Int) := by omega
  have bt0 : (0 : Int) ≤ (i : Int) := by omega
  have c0 : w.cell? ⟨KL, 0, none⟩ = some (.slice (some ⟨nb, no, none⟩) l.length cap) := by have := hL.cellAt 0; simpa using this
  have f0 : w.cell? ⟨KF, 0, none⟩ = some (.int .i64 f) := by have := hF.cellAt 0; simpa using this
  obtain ⟨xf, xt⟩ := x
  simp only at *
  clear hl hx hL hF
  go_enter Tryz.func81, Tryz.ntmps81
  go_upto_region 1 with fail
  go_quiet (fail)
  go_wp2_with fail
  go_ret
  exact ⟨rfl, below_drewN (Below.refl _ _) _⟩
set_option maxHeartbeats 4000000 in
set_option maxRecDepth 100000 in
/-- sort.Search where what is asked turns from no to yes once. -/
theorem Search_any {w : World} {n : Nat} (hn : n ≤ 1000000) (F : Nat) (cap : Array Value) (q : Nat → Bool) (hq : ∀ a b, a ≤ b → b < n → q a = true → q b = true)
    (hF : ∀ (args : Array Value) (W : World), (callFunc F args).run Tryz.prog W = .ok (.enter F args) W)
    (hC : ∀ (w1 : World), Below w.heap.size w w1 → ∀ i : Nat, i < n → Calls Tryz.prog F (#[.int .i64 (i : Int)] ++ cap) w1 fun e w' => e = .returned (.bool (q i)) ∧ Below w1.heap.size w1 w') :
    Calls Tryz.prog 80 #[.int .i64 (n : Int), .func (.func F) #[] cap] w fun e w' => (∃ k : Nat, e = .returned (.int .i64 (k : Int)) ∧ k ≤ n ∧ (∀ a, a < k → q a = false) ∧ ∀ a, k ≤ a → a < n → q a = true) ∧ Below w.heap.size w w' := by
  have HC := hide hC
  have HQ := hide hq
  clear hC hq
  go_enter Tryz.func80, Tryz.ntmps80
  go_wp2_with fail
  go_loopg [5, 6, 7] (n + 1) (fun gh iv jv _ wr => ∃ i j : Nat, iv = .int .i64 (i : Int) ∧ jv = .int .i64 (j : Int) ∧ i ≤ j ∧ j ≤ n ∧ j + 1 ≤ gh + i ∧ Hid (∀ a, a < i → q a = false) ∧ Hid (∀ a, j ≤ a → a < n → q a = true) ∧ Hid (Below w.heap.size w wr))
  case atStart => exact ⟨0, n, rfl, rfl, by omega, by omega, by omega, (show ∀ a, _ from fun a ha => by omega), (show ∀ a, _ from fun a ha => by omega), Below.refl _ _⟩
  case round =>
    obtain ⟨i, j, rfl, rfl, hij, hjn, hg, HI, HJ, GB⟩ := hrel
    obtain ⟨go, rfl⟩ : ∃ go, gk = go + 1 := ⟨gk - 1, by omega⟩
    have hrun := hF
    by_cases hlt : i < j
    · have bt : (i : Int) < (j : Int) := by omega
      obtain ⟨h, hh⟩ : ∃ h, (i + j) / 2 = h := ⟨_, rfl⟩
      have hh1 : i ≤ h := by omega
      have hh2 : h < j := by omega
      have HH : Hid (((i : Int) + (j : Int)) / 2 = (h : Int)) := (show _ = _ by omega)
      clear hh
      have hC1 := HC.out wr GB.out h (by omega)
      rw [← HH.out] at hC1
      have HC1 := hide hC1
      clear hC1
      cases hb : q h with
      | true =>
        rw [hb] at HC1
        have HB := hide hb
        clear hb
        go_wp2_with (first | (refine HC1.out.mono ?_; rintro e w1 ⟨rfl, b1⟩; have B1 := hide (GB.out.trans (b1.mono GB.out.size)); clear b1) | fail)
        go_roundg go
        case rel => exact ⟨i, h, rfl, by rw [HH.out], by omega, by omega, by omega, HI, (show ∀ a, _ from fun a h1 h2 => HQ.out h a h1 h2 HB.out), B1⟩
        case measure => omega
      | false =>
        rw [hb] at HC1
        have HB := hide hb
        clear hb
        go_wp2_with (first | (refine HC1.out.mono ?_; rintro e w1 ⟨rfl, b1⟩; have B1 := hide (GB.out.trans (b1.mono GB.out.size)); clear b1) | fail)
        go_roundg go
        case rel =>
          refine ⟨h + 1, j, by rw [HH.out]; go_num, rfl, by omega, by omega, by omega, (show ∀ a, _ from fun a ha => ?_), HJ, B1⟩
          cases hqa : q a with
          | false => rfl
          | true => have := HQ.out a h (by omega) (by omega) hqa; rw [HB.out] at this; cases this
        case measure => omega
    · have bt : ¬ (i : Int) < (j : Int) := by omega
      go_wp2_with fail
      go_ret
      exact ⟨⟨i, rfl, by omega, HI.out, fun a h1 h2 => HJ.out a (by omega) h2⟩, GB.out⟩
end Go.Proofs.YtdoldohcimbdaaaGreat
