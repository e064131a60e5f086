/-
  The closure of withSession; slices.IndexFunc and DeleteFunc over panes.
-/
import Derived.Test.YtlikikiglicdlaaWSort
import Derived.Test.YtlikikiglicdlaaWJoined
namespace Go.Proofs.Ytlikikiglicdlaa
open Go.RowKit

set_option maxRecDepth 100000 in
theorem clo_any {w : World} {K : Nat} {wh : Pn} (hK : BoxT 46 w K wh.cs.toArray) (x : Pn) : Calls Try.prog 44 #[x.val, .pointer (some ⟨K, 0, none⟩)] w fun e w' => e = .returned (.bool (ovb wh x)) ∧ Below w.heap.size w w' := by
  have hb := below_box w (.cells #[.int .i64 x.k, .int .i64 x.f, .int .i64 x.t, .int .i64 x.a] 46)
  have hK1 := BoxT.below (t := 46) hK hb
  obtain ⟨c0, c1, c2, c3⟩ := hK1.cells4
  have HB := hide hb
  have HO := hide (fun w => overlap_any w wh x)
  generalize ovb wh x = R at *
  obtain ⟨xk, xf, xt, xa⟩ := x
  obtain ⟨yk, yf, yt, ya⟩ := wh
  clear hK hK1 hb
  unfold Pn.val at *
  simp only at c0 c1 c2 c3
  go_enter Try.func44, Try.ntmps44
  go_wp2_with (go_at_call 35; refine (HO.out _).mono ?_; rintro e w1 ⟨rfl, b1⟩)
  go_ret
  exact ⟨rfl, HB.out.trans (b1.mono HB.out.size)⟩
theorem LSeg.pane {B : Nat} {w : World} {ao : Option Addr} {n cap : Nat} {xs : List Pn} (h : LSeg 4 Pn.cs B w (.slice ao n cap) xs) {i : Nat} {x : Pn} (hx : xs[i]? = some x) : ∃ b o, ao = some ⟨b, o, none⟩ ∧ b < B ∧ w.cell? ⟨b, o + i * 4, none⟩ = some (.int .i64 x.k) ∧ w.cell? ⟨b, o + i * 4 + 1, none⟩ = some (.int .i64 x.f) ∧ w.cell? ⟨b, o + i * 4 + 2, none⟩ = some (.int .i64 x.t) ∧ w.cell? ⟨b, o + i * 4 + 3, none⟩ = some (.int .i64 x.a) := by
  obtain ⟨b, o, e, hb, _, d⟩ := h.readAt hx
  exact ⟨b, o, e, hb, d 0 _ rfl, d 1 _ rfl, d 2 _ rfl, d 3 _ rfl⟩
theorem runClo (args : Array Value) (W : World) : (callFunc 44 args).run Try.prog W = .ok (.enter 44 args) W := by kernel_rfl
set_option maxHeartbeats 1000000 in
set_option maxRecDepth 100000 in
/-- IndexFunc: the first pane that overlaps, or -1. -/
theorem index_any {w : World} {K : Nat} {wh : Pn} {v : Value} {l : List Pn} (hK : BoxT 46 w K wh.cs.toArray) (hl : LSeg 4 Pn.cs w.heap.size w v l) (hn : l.length ≤ 1000000) :
    Calls Try.prog 61 #[v, .func (.func 44) #[] #[.pointer (some ⟨K, 0, none⟩)]] w fun e w' => (∃ r : Int, e = .returned (.int .i64 r) ∧ ((r = -1 ∧ ∀ s ∈ l, ovb wh s = false) ∨ ∃ k : Nat, r = (k : Int) ∧ k < l.length ∧ (∀ i s, i < k → l[i]? = some s → ovb wh s = false) ∧ ∀ s, l[k]? = some s → ovb wh s = true)) ∧ Below w.heap.size w w' := by
  obtain ⟨ao, cap, rfl⟩ := hl.shapeOf
  have HL := hide hl
  have HK := hide hK
  clear hl hK
  go_enter Try.func61, Try.ntmps61
  go_wp2_with fail
  go_loopg [5, 8] (l.length + 1) (fun gh xv iv wr => ∃ t : Nat, iv = .int .i64 (t : Int) ∧ t ≤ l.length ∧ l.length + 1 ≤ gh + t ∧ Hid (∀ a s, a < t → l[a]? = some s → ovb wh s = false) ∧ Hid (Below w.heap.size w wr))
  case atStart => exact ⟨0, rfl, by omega, by omega, (show ∀ a s, _ from fun a s ha => by omega), Below.refl _ _⟩
  case round =>
    obtain ⟨t, rfl, ht, hg, HI, GB⟩ := hrel
    obtain ⟨go, rfl⟩ : ∃ go, gk = go + 1 := ⟨gk - 1, by omega⟩
    by_cases hlt : t < l.length
    · obtain ⟨x, hx⟩ := get_of_lt hlt
      have bt : (t : Int) < (l.length : Int) := by omega
      obtain ⟨nb, no, rfl, nlt, e0, e1, e2, e3⟩ := (HL.out.below GB.out).pane hx
      have HC := hide (clo_any (BoxT.below (t := 46) HK.out GB.out) x)
      have HX := hide hx
      clear hx
      have hrun := runClo
      generalize hR : ovb wh x = R at HC
      have HR := hide hR
      clear hR
      obtain ⟨xk, xf, xt, xa⟩ := x
      unfold Pn.val at HC
      simp only at e0 e1 e2 e3
      cases R with
      | false =>
        go_wp2_with (refine HC.out.mono ?_; rintro e w1 ⟨rfl, b1⟩; have B1 := hide (GB.out.trans (b1.mono GB.out.size)); clear b1)
        go_roundg go
        case rel =>
          refine ⟨t + 1, by go_num, by omega, by omega, (show ∀ a s, _ from fun a s ha hs => ?_), B1⟩
          by_cases e : a = t
          · subst e
            rw [HX.out] at hs
            cases hs
            exact HR.out
          · exact HI.out a s (by omega) hs
        case measure => omega
      | true =>
        go_wp2_with (refine HC.out.mono ?_; rintro e w1 ⟨rfl, b1⟩; have B1 := hide (GB.out.trans (b1.mono GB.out.size)); clear b1)
        go_ret
        exact ⟨⟨t, rfl, .inr ⟨t, rfl, hlt, HI.out, fun s hs => by rw [HX.out] at hs; cases hs; exact HR.out⟩⟩, B1.out⟩
    · have bt : ¬ (t : Int) < (l.length : Int) := by omega
      go_wp2_with fail
      go_ret
      refine ⟨⟨-1, rfl, .inl ⟨rfl, fun s hs => ?_⟩⟩, GB.out⟩
      obtain ⟨a, ha⟩ := List.getElem?_of_mem hs
      exact HI.out a s (by have := lt_of_get ha; omega) ha
end Go.Proofs.Ytlikikiglicdlaa
