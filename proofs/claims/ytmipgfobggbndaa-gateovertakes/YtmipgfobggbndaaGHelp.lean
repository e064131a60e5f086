/-
  leathelp's Marks and Outs of equal lists.
-/
import Derived.Test.YtmipgfobggbndaaGKnown
namespace Go.Proofs.Ytmipgfobggbndaa
open Go.RowKit

theorem LSeg.ou {B : Nat} {w : World} {ao : Option Addr} {n cap : Nat} {xs : List Ou} (h : LSeg 8 Ou.cs B w (.slice ao n cap) xs) {i : Nat} {x : Ou} (hx : xs[i]? = some x) : ∃ b o, ao = some ⟨b, o, none⟩ ∧ b < B ∧ w.cell? ⟨b, o + i * 8, none⟩ = some (.int .i64 x.ch) ∧ w.cell? ⟨b, o + i * 8 + 1, none⟩ = some (.int .i64 x.f.kd) ∧ w.cell? ⟨b, o + i * 8 + 2, none⟩ = some (.int .i64 x.f.ke) ∧ w.cell? ⟨b, o + i * 8 + 3, none⟩ = some (.int .i64 x.f.ti) ∧ w.cell? ⟨b, o + i * 8 + 4, none⟩ = some (.int .i64 x.f.va) ∧ w.cell? ⟨b, o + i * 8 + 5, none⟩ = some (.int .i64 x.f.ma) ∧ w.cell? ⟨b, o + i * 8 + 6, none⟩ = some (.int .u64 x.f.n) ∧ w.cell? ⟨b, o + i * 8 + 7, none⟩ = some (.bool x.f.ov) := by
  obtain ⟨b, o, e, hb, _, d⟩ := h.readAt hx
  exact ⟨b, o, e, hb, d 0 _ rfl, d 1 _ rfl, d 2 _ rfl, d 3 _ rfl, d 4 _ rfl, d 5 _ rfl, d 6 _ rfl, d 7 _ rfl⟩
set_option maxHeartbeats 1000000 in
set_option maxRecDepth 100000 in
theorem hMarks_any {w : World} {v1 v2 : Value} {B1 B2 : Nat} {l : List Int} (h1 : LSeg 1 i64cs B1 w v1 l) (h2 : LSeg 1 i64cs B2 w v2 l) (hn : l.length ≤ 1000000) : Calls Try.prog 17 #[v1, v2] w fun e w' => e = .returned (.bool true) ∧ ∀ B, Below B w w' := by
  obtain ⟨a1, c1, rfl⟩ := h1.shapeOf
  obtain ⟨a2, c2, rfl⟩ := h2.shapeOf
  have H1 := hide h1
  have H2 := hide h2
  clear h1 h2
  go_enter Try.func17, Try.ntmps17
  go_wp2_with fail
  go_loopg [5] (l.length + 1) (fun gh iv wr => ∃ i : Nat, iv = .int .i64 (i : Int) ∧ i ≤ l.length ∧ l.length + 1 ≤ gh + i ∧ Hid (∀ B, Below B w wr))
  case atStart => exact ⟨0, rfl, by omega, by omega, (show ∀ B, _ from fun B => Below.refl _ _)⟩
  case round =>
    obtain ⟨i, rfl, hi, hg, HD⟩ := hrel
    obtain ⟨go, rfl⟩ : ∃ go, gk = go + 1 := ⟨gk - 1, by omega⟩
    by_cases hlt : i < l.length
    · obtain ⟨x, hx⟩ := get_of_lt hlt
      have bt : (i : Int) < (l.length : Int) := by omega
      have hbr := HD.out
      obtain ⟨b1, o1, rfl, _, e0⟩ := seg_int (H1.out.below (hbr _)) hx
      obtain ⟨b2, o2, rfl, _, f0⟩ := seg_int (H2.out.below (hbr _)) hx
      clear hx hbr
      go_wp2_with fail
      go_quiet (fail)
      go_wp2_with fail
      go_roundg go
      case rel => exact ⟨i + 1, by go_num, by omega, by omega, (show ∀ B, _ from fun B => below_drewN (HD.out B) _)⟩
      case measure => omega
    · have bt : ¬ (i : Int) < (l.length : Int) := by omega
      go_wp2_with fail
      go_ret
      exact ⟨rfl, HD.out⟩
set_option maxHeartbeats 1000000 in
set_option maxRecDepth 100000 in
theorem hOuts_any {w : World} {v1 v2 : Value} {B1 B2 : Nat} {l : List Ou} (h1 : LSeg 8 Ou.cs B1 w v1 l) (h2 : LSeg 8 Ou.cs B2 w v2 l) (hn : l.length ≤ 1000000) : Calls Try.prog 21 #[v1, v2] w fun e w' => e = .returned (.bool true) ∧ ∀ B, Below B w w' := by
  obtain ⟨a1, c1, rfl⟩ := h1.shapeOf
  obtain ⟨a2, c2, rfl⟩ := h2.shapeOf
  have H1 := hide h1
  have H2 := hide h2
  clear h1 h2
  go_enter Try.func21, Try.ntmps21
  go_wp2_with fail
  go_loopg [5] (l.length + 1) (fun gh iv wr => ∃ i : Nat, iv = .int .i64 (i : Int) ∧ i ≤ l.length ∧ l.length + 1 ≤ gh + i ∧ Hid (∀ B, Below B w wr))
  case atStart => exact ⟨0, rfl, by omega, by omega, (show ∀ B, _ from fun B => Below.refl _ _)⟩
  case round =>
    obtain ⟨i, rfl, hi, hg, HD⟩ := hrel
    obtain ⟨go, rfl⟩ : ∃ go, gk = go + 1 := ⟨gk - 1, by omega⟩
    by_cases hlt : i < l.length
    · obtain ⟨x, hx⟩ := get_of_lt hlt
      have bt : (i : Int) < (l.length : Int) := by omega
      have hbr := HD.out
      obtain ⟨b1, o1, rfl, _, e0, e1, e2, e3, e4, e5, e6, e7⟩ := (H1.out.below (hbr _)).ou hx
      obtain ⟨b2, o2, rfl, _, f0, f1, f2, f3, f4, f5, f6, f7⟩ := (H2.out.below (hbr _)).ou hx
      clear hx hbr
      obtain ⟨x0, x1, x2, x3, x4, x5, x6, x7⟩ := x
      simp only at e0 e1 e2 e3 e4 e5 e6 e7 f0 f1 f2 f3 f4 f5 f6 f7
      go_wp2_with fail
      go_quiet (fail)
      go_wp2_with fail
      go_roundg go
      case rel => exact ⟨i + 1, by go_num, by omega, by omega, (show ∀ B, _ from fun B => below_drewN (HD.out B) _)⟩
      case measure => omega
    · have bt : ¬ (i : Int) < (l.length : Int) := by omega
      go_wp2_with fail
      go_ret
      exact ⟨rfl, HD.out⟩
end Go.Proofs.Ytmipgfobggbndaa
