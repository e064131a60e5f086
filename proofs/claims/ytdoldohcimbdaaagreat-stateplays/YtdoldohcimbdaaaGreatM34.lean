/-
  Texts in build order: SHelp.
-/
import Derived.Test.YtdoldohcimbdaaaGreatM30
import Derived.Test.YtdoldohcimbdaaaGreatM31
import Derived.Test.YtdoldohcimbdaaaGreatM33
/-
  leathelp's Panes, Records, Bytes of equal lists; Place; the laws' fit and time.
-/
namespace Go.Proofs.YtdoldohcimbdaaaGreat
open Go.RowKit

theorem LSeg.rec {B : Nat} {w : World} {ao : Option Addr} {n cap : Nat} {xs : List Rc} (h : LSeg 3 Rc.cs B w (.slice ao n cap) xs) {i : Nat} {x : Rc} (hx : xs[i]? = some x) : ∃ b o, ao = some ⟨b, o, none⟩ ∧ b < B ∧ w.cell? ⟨b, o + i * 3, none⟩ = some (.int .i64 x.k) ∧ w.cell? ⟨b, o + i * 3 + 1, none⟩ = some (.int .i64 x.t) ∧ w.cell? ⟨b, o + i * 3 + 2, none⟩ = some (.int .i64 x.v) := by
  obtain ⟨b, o, e, hb, _, d⟩ := h.readAt hx
  exact ⟨b, o, e, hb, d 0 _ rfl, d 1 _ rfl, d 2 _ rfl⟩
set_option maxHeartbeats 1000000 in
set_option maxRecDepth 100000 in
theorem hPanes_any {w : World} {v1 v2 : Value} {B1 B2 : Nat} {l : List Pn} (h1 : LSeg 4 Pn.cs B1 w v1 l) (h2 : LSeg 4 Pn.cs B2 w v2 l) (hn : l.length ≤ 1000000) : Calls Tryz.prog 20 #[v1, v2] w fun e w' => e = .returned (.bool true) ∧ Below w.heap.size w w' := by
  obtain ⟨a1, c1, rfl⟩ := h1.shapeOf
  obtain ⟨a2, c2, rfl⟩ := h2.shapeOf
  have H1 := hide h1
  have H2 := hide h2
  clear h1 h2
  go_enter Tryz.func20, Tryz.ntmps20
  go_wp2_with fail
  go_loopg [5] (l.length + 1) (fun gh iv wr => ∃ i : Nat, iv = .int .i64 (i : Int) ∧ i ≤ l.length ∧ l.length + 1 ≤ gh + i ∧ Hid (∀ B, Below B w wr))
  case atStart => exact ⟨0, rfl, by omega, by omega, (show ∀ B, _ from fun B => Below.refl _ _)⟩
  case round =>
    obtain ⟨i, rfl, hi, hg, HD⟩ := hrel
    obtain ⟨go, rfl⟩ : ∃ go, gk = go + 1 := ⟨gk - 1, by omega⟩
    by_cases hlt : i < l.length
    · obtain ⟨x, hx⟩ := get_of_lt hlt
      have bt : (i : Int) < (l.length : Int) := by omega
      have hbr := HD.out
      obtain ⟨b1, o1, rfl, _, e0, e1, e2, e3⟩ := (H1.out.below (hbr _)).pane hx
      obtain ⟨b2, o2, rfl, _, f0, f1, f2, f3⟩ := (H2.out.below (hbr _)).pane hx
      clear hx hbr
      obtain ⟨x0, x1, x2, x3⟩ := x
      simp only at e0 e1 e2 e3 f0 f1 f2 f3
      go_wp2_with fail
      go_quiet (fail)
      go_wp2_with fail
      go_roundg go
      case rel => exact ⟨i + 1, by go_num, by omega, by omega, (show ∀ B, _ from fun B => below_drewN (HD.out B) _)⟩
      case measure => omega
    · have bt : ¬ (i : Int) < (l.length : Int) := by omega
      go_wp2_with fail
      go_ret
      exact ⟨rfl, HD.out _⟩
set_option maxHeartbeats 1000000 in
set_option maxRecDepth 100000 in
theorem hRecords_any {w : World} {v1 v2 : Value} {B1 B2 : Nat} {l : List Rc} (h1 : LSeg 3 Rc.cs B1 w v1 l) (h2 : LSeg 3 Rc.cs B2 w v2 l) (hn : l.length ≤ 1000000) : Calls Tryz.prog 13 #[v1, v2] w fun e w' => e = .returned (.bool true) ∧ Below w.heap.size w w' := by
  obtain ⟨a1, c1, rfl⟩ := h1.shapeOf
  obtain ⟨a2, c2, rfl⟩ := h2.shapeOf
  have H1 := hide h1
  have H2 := hide h2
  clear h1 h2
  go_enter Tryz.func13, Tryz.ntmps13
  go_wp2_with fail
  go_loopg [5] (l.length + 1) (fun gh iv wr => ∃ i : Nat, iv = .int .i64 (i : Int) ∧ i ≤ l.length ∧ l.length + 1 ≤ gh + i ∧ Hid (∀ B, Below B w wr))
  case atStart => exact ⟨0, rfl, by omega, by omega, (show ∀ B, _ from fun B => Below.refl _ _)⟩
  case round =>
    obtain ⟨i, rfl, hi, hg, HD⟩ := hrel
    obtain ⟨go, rfl⟩ : ∃ go, gk = go + 1 := ⟨gk - 1, by omega⟩
    by_cases hlt : i < l.length
    · obtain ⟨x, hx⟩ := get_of_lt hlt
      have bt : (i : Int) < (l.length : Int) := by omega
      have hbr := HD.out
      obtain ⟨b1, o1, rfl, _, e0, e1, e2⟩ := (H1.out.below (hbr _)).rec hx
      obtain ⟨b2, o2, rfl, _, f0, f1, f2⟩ := (H2.out.below (hbr _)).rec hx
      clear hx hbr
      obtain ⟨x0, x1, x2⟩ := x
      simp only at e0 e1 e2 f0 f1 f2
      go_wp2_with fail
      go_quiet (fail)
      go_wp2_with fail
      go_roundg go
      case rel => exact ⟨i + 1, by go_num, by omega, by omega, (show ∀ B, _ from fun B => below_drewN (HD.out B) _)⟩
      case measure => omega
    · have bt : ¬ (i : Int) < (l.length : Int) := by omega
      go_wp2_with fail
      go_ret
      exact ⟨rfl, HD.out _⟩
set_option maxHeartbeats 1000000 in
set_option maxRecDepth 100000 in
theorem hBytes_any {w : World} {v1 v2 : Value} {B1 B2 : Nat} {l : List Nat} (h1 : LSeg 1 u8cs B1 w v1 l) (h2 : LSeg 1 u8cs B2 w v2 l) (hn : l.length ≤ 1000000) : Calls Tryz.prog 22 #[v1, v2] w fun e w' => e = .returned (.bool true) ∧ Below w.heap.size w w' := by
  obtain ⟨a1, c1, rfl⟩ := h1.shapeOf
  obtain ⟨a2, c2, rfl⟩ := h2.shapeOf
  have H1 := hide h1
  have H2 := hide h2
  clear h1 h2
  go_enter Tryz.func22, Tryz.ntmps22
  go_wp2_with fail
  go_loopg [5] (l.length + 1) (fun gh iv wr => ∃ i : Nat, iv = .int .i64 (i : Int) ∧ i ≤ l.length ∧ l.length + 1 ≤ gh + i ∧ Hid (∀ B, Below B w wr))
  case atStart => exact ⟨0, rfl, by omega, by omega, (show ∀ B, _ from fun B => Below.refl _ _)⟩
  case round =>
    obtain ⟨i, rfl, hi, hg, HD⟩ := hrel
    obtain ⟨go, rfl⟩ : ∃ go, gk = go + 1 := ⟨gk - 1, by omega⟩
    by_cases hlt : i < l.length
    · obtain ⟨x, hx⟩ := get_of_lt hlt
      have bt : (i : Int) < (l.length : Int) := by omega
      have hbr := HD.out
      obtain ⟨b1, o1, rfl, _, _, d⟩ := (H1.out.below (hbr _)).readAt hx
      obtain ⟨b2, o2, rfl, _, _, d'⟩ := (H2.out.below (hbr _)).readAt hx
      have e0 : wr.cell? ⟨b1, o1 + i, none⟩ = some (.int .u8 (x : Int)) := by have h0 := d 0 _ rfl; simpa using h0
      have f0 : wr.cell? ⟨b2, o2 + i, none⟩ = some (.int .u8 (x : Int)) := by have h0 := d' 0 _ rfl; simpa using h0
      clear hx hbr d d'
      go_wp2_with fail
      go_quiet (fail)
      go_wp2_with fail
      go_roundg go
      case rel => exact ⟨i + 1, by go_num, by omega, by omega, (show ∀ B, _ from fun B => below_drewN (HD.out B) _)⟩
      case measure => omega
    · have bt : ¬ (i : Int) < (l.length : Int) := by omega
      go_wp2_with fail
      go_ret
      exact ⟨rfl, HD.out _⟩
/-- A window that a job may have. -/
def FitW (k size slide : Int) : Prop := 1 ≤ k ∧ k ≤ 3 ∧ 1 ≤ size ∧ size ≤ 68719476736 ∧ ((k = 2 ∧ 1 ≤ slide ∧ slide ≤ 68719476736 ∧ (size - 1) / slide < 64) ∨ (k ≠ 2 ∧ slide = 0))
/-- A window, or none, and an aggregate. -/
def FitS (k size slide a : Int) : Prop := 1 ≤ a ∧ a ≤ 5 ∧ ((k = 0 ∧ size = 0 ∧ slide = 0) ∨ FitW k size slide)
def TimeOk (t : Int) : Prop := -1125899906842624 ≤ t ∧ t ≤ 1125899906842624
/-- It answers whether P. -/
def RetT (e : Ending) (P : Prop) : Prop := ∃ b : Bool, e = .returned (.bool b) ∧ (b = true ↔ P)
theorem RetT.no {P : Prop} (h : ¬ P) : RetT (.returned (.bool false)) P := ⟨false, rfl, by simp [h]⟩
theorem RetT.yes {P : Prop} (h : P) : RetT (.returned (.bool true)) P := ⟨true, rfl, by simp [h]⟩
theorem RetT.is_yes {e : Ending} {P : Prop} (h : RetT e P) (hp : P) : e = .returned (.bool true) := by obtain ⟨b, rfl, hb⟩ := h; rw [hb.2 hp]
theorem RetT.is_no {e : Ending} {P : Prop} (h : RetT e P) (hp : ¬ P) : e = .returned (.bool false) := by
  obtain ⟨b, rfl, hb⟩ := h
  cases b with
  | false => rfl
  | true => exact absurd (hb.1 rfl) hp
set_option maxRecDepth 100000 in
theorem time_any (w : World) (t : Int) : Calls Tryz.prog 9 #[.int .i64 t] w fun e w' => RetT e (TimeOk t) ∧ w' = w := by
  by_cases h1 : -1125899906842624 ≤ t
  · by_cases h2 : t ≤ 1125899906842624
    · go_enter Tryz.func9, Tryz.ntmps9
      go_wp2_with fail
      go_ret
      exact ⟨⟨true, rfl, by simp [TimeOk, h1, h2]⟩, rfl⟩
    · go_enter Tryz.func9, Tryz.ntmps9
      go_wp2_with fail
      go_ret
      exact ⟨⟨false, rfl, by simp [TimeOk]; omega⟩, rfl⟩
  · go_enter Tryz.func9, Tryz.ntmps9
    go_wp2_with fail
    go_ret
    exact ⟨⟨false, rfl, by simp [TimeOk]; omega⟩, rfl⟩
set_option maxHeartbeats 2000000 in
set_option maxRecDepth 100000 in
theorem fit_any (w : World) (k size slide a : Int) : Calls Tryz.prog 5 #[.agg #[.int .i64 k, .int .i64 size, .int .i64 slide], .int .i64 a] w fun e w' => RetT e (FitS k size slide a) ∧ Below w.heap.size w w' := by
  have HB := hide (below_box w (.cells #[.int .i64 k, .int .i64 size, .int .i64 slide] 23))
  by_cases ha1 : a < 1
  · have HNF : Hid (¬ FitS k size slide a) := (show ¬ _ by unfold FitS; omega)
    go_enter Tryz.func5, Tryz.ntmps5
    go_wp2_with fail
    go_ret
    exact ⟨RetT.no HNF.out, HB.out⟩
  by_cases ha2 : 5 < a
  · have HNF : Hid (¬ FitS k size slide a) := (show ¬ _ by unfold FitS; omega)
    go_enter Tryz.func5, Tryz.ntmps5
    go_wp2_with fail
    go_ret
    exact ⟨RetT.no HNF.out, HB.out⟩
  by_cases hz : k = 0 ∧ size = 0 ∧ slide = 0
  · obtain ⟨rfl, rfl, rfl⟩ := hz
    have HF : Hid (FitS 0 0 0 a) := (show FitS _ _ _ _ from ⟨by omega, by omega, .inl ⟨rfl, rfl, rfl⟩⟩)
    go_enter Tryz.func5, Tryz.ntmps5
    go_wp2_with fail
    go_ret
    exact ⟨RetT.yes HF.out, HB.out⟩
  by_cases hk0 : k = 0
  · subst hk0
    by_cases hs0 : size = 0
    · subst hs0
      have hl0 : slide ≠ 0 := fun e => hz ⟨rfl, rfl, e⟩
      have hslb : (slide == 0) = false := by simpa using hl0
      have HNF : Hid (¬ FitS 0 0 slide a) := (show ¬ _ by unfold FitS FitW; omega)
      clear hz
      go_enter Tryz.func5, Tryz.ntmps5
      go_wp2_with fail
      go_ret
      exact ⟨RetT.no HNF.out, HB.out⟩
    · have hsb : (size == 0) = false := by simpa using hs0
      have HNF : Hid (¬ FitS 0 size slide a) := (show ¬ _ by unfold FitS FitW; omega)
      clear hz
      go_enter Tryz.func5, Tryz.ntmps5
      go_wp2_with fail
      go_ret
      exact ⟨RetT.no HNF.out, HB.out⟩
  have hkb : (k == 0) = false := by simpa using hk0
  clear hz
  by_cases h1 : k < 1
  · have HNF : Hid (¬ FitS k size slide a) := (show ¬ _ by unfold FitS FitW; omega)
    go_enter Tryz.func5, Tryz.ntmps5
    go_wp2_with fail
    go_ret
    exact ⟨RetT.no HNF.out, HB.out⟩
  by_cases h2 : 3 < k
  · have HNF : Hid (¬ FitS k size slide a) := (show ¬ _ by unfold FitS FitW; omega)
    go_enter Tryz.func5, Tryz.ntmps5
    go_wp2_with fail
    go_ret
    exact ⟨RetT.no HNF.out, HB.out⟩
  by_cases h3 : size < 1
  · have HNF : Hid (¬ FitS k size slide a) := (show ¬ _ by unfold FitS FitW; omega)
    go_enter Tryz.func5, Tryz.ntmps5
    go_wp2_with fail
    go_ret
    exact ⟨RetT.no HNF.out, HB.out⟩
  by_cases h4 : 68719476736 < size
  · have HNF : Hid (¬ FitS k size slide a) := (show ¬ _ by unfold FitS FitW; omega)
    go_enter Tryz.func5, Tryz.ntmps5
    go_wp2_with fail
    go_ret
    exact ⟨RetT.no HNF.out, HB.out⟩
  by_cases h5 : k = 2
  · subst h5
    by_cases h6 : 1 ≤ slide
    · by_cases h7 : slide ≤ 68719476736
      · have hz2 : slide ≠ 0 := by omega
        have f1 : (size - 1).tdiv slide = (size - 1) / slide := Int.tdiv_eq_ediv_of_nonneg (by omega)
        have hq0 : 0 ≤ (size - 1) / slide := Int.ediv_nonneg (by omega) (by omega)
        have hq1 : (size - 1) / slide ≤ size - 1 := Int.ediv_le_self _ (by omega)
        have f2 : wrap64 ((size - 1) / slide) = (size - 1) / slide := by unfold wrap64; omega
        by_cases h8 : (size - 1) / slide < 64
        · have HF : Hid (FitS 2 size slide a) := (show FitS _ _ _ _ from ⟨by omega, by omega, .inr ⟨by omega, by omega, by omega, by omega, .inl ⟨rfl, h6, h7, h8⟩⟩⟩)
          go_enter Tryz.func5, Tryz.ntmps5
          go_wp2_with fail
          go_ret
          exact ⟨RetT.yes HF.out, HB.out⟩
        · have HNF : Hid (¬ FitS 2 size slide a) := (show ¬ _ by unfold FitS FitW; omega)
          go_enter Tryz.func5, Tryz.ntmps5
          go_wp2_with fail
          go_ret
          exact ⟨RetT.no HNF.out, HB.out⟩
      · have HNF : Hid (¬ FitS 2 size slide a) := (show ¬ _ by unfold FitS FitW; omega)
        go_enter Tryz.func5, Tryz.ntmps5
        go_wp2_with fail
        go_ret
        exact ⟨RetT.no HNF.out, HB.out⟩
    · have HNF : Hid (¬ FitS 2 size slide a) := (show ¬ _ by unfold FitS FitW; omega)
      go_enter Tryz.func5, Tryz.ntmps5
      go_wp2_with fail
      go_ret
      exact ⟨RetT.no HNF.out, HB.out⟩
  · have hk : (k != 2) = true := by simp [h5]
    by_cases h6 : slide = 0
    · subst h6
      have HF : Hid (FitS k size 0 a) := (show FitS _ _ _ _ from ⟨by omega, by omega, .inr ⟨by omega, by omega, by omega, by omega, .inr ⟨h5, rfl⟩⟩⟩)
      go_enter Tryz.func5, Tryz.ntmps5
      go_wp2_with fail
      go_ret
      exact ⟨RetT.yes HF.out, HB.out⟩
    · have hsb : (slide == 0) = false := by simp [h6]
      have HNF : Hid (¬ FitS k size slide a) := (show ¬ _ by unfold FitS FitW; omega)
      go_enter Tryz.func5, Tryz.ntmps5
      go_wp2_with fail
      go_ret
      exact ⟨RetT.no HNF.out, HB.out⟩
theorem fit_yes {k size slide a : Int} (h : FitS k size slide a) (w : World) : Calls Tryz.prog 5 #[.agg #[.int .i64 k, .int .i64 size, .int .i64 slide], .int .i64 a] w fun e w' => e = .returned (.bool true) ∧ Below w.heap.size w w' := (fit_any w k size slide a).mono fun _ _ h1 => ⟨h1.1.is_yes h, h1.2⟩
theorem fit_no {k size slide a : Int} (h : ¬ FitS k size slide a) (w : World) : Calls Tryz.prog 5 #[.agg #[.int .i64 k, .int .i64 size, .int .i64 slide], .int .i64 a] w fun e w' => e = .returned (.bool false) ∧ Below w.heap.size w w' := (fit_any w k size slide a).mono fun _ _ h1 => ⟨h1.1.is_no h, h1.2⟩
theorem time_yes {t : Int} (h : TimeOk t) (w : World) : Calls Tryz.prog 9 #[.int .i64 t] w fun e w' => e = .returned (.bool true) ∧ w' = w := (time_any w t).mono fun _ _ h1 => ⟨h1.1.is_yes h, h1.2⟩
theorem time_no {t : Int} (h : ¬ TimeOk t) (w : World) : Calls Tryz.prog 9 #[.int .i64 t] w fun e w' => e = .returned (.bool false) ∧ w' = w := (time_any w t).mono fun _ _ h1 => ⟨h1.1.is_no h, h1.2⟩
def plc (i n : Int) : Int := if i.tmod n < 0 then i.tmod n + n else i.tmod n
theorem plc_in {i n : Int} (h : 1 ≤ n) : 0 ≤ plc i n ∧ plc i n < n := since_in h
end Go.Proofs.YtdoldohcimbdaaaGreat
