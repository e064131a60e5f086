/-
  Panes, spans and records as they lie; the comparison of panes.
-/
import Derived.Test.YtlikikiglicdlaaWPure
import Derived.Test.YtlikikiglicdlaaARef
import Derived.Test.YtlikikiglicdlaaWHold
import Derived.Sort.Grow
namespace Go.Proofs.Ytlikikiglicdlaa
open Go.RowKit

structure Sp where
  f : Int
  t : Int
structure Rc where
  k : Int
  t : Int
  v : Int
def Pn.cs (x : Pn) : List Value := [.int .i64 x.k, .int .i64 x.f, .int .i64 x.t, .int .i64 x.a]
def Pn.val (x : Pn) : Value := .agg #[.int .i64 x.k, .int .i64 x.f, .int .i64 x.t, .int .i64 x.a]
def Sp.cs (x : Sp) : List Value := [.int .i64 x.f, .int .i64 x.t]
def Sp.val (x : Sp) : Value := .agg #[.int .i64 x.f, .int .i64 x.t]
def Rc.cs (x : Rc) : List Value := [.int .i64 x.k, .int .i64 x.t, .int .i64 x.v]
def Rc.val (x : Rc) : Value := .agg #[.int .i64 x.k, .int .i64 x.t, .int .i64 x.v]
theorem Pn.cs_len (x : Pn) : x.cs.length = 4 := rfl
theorem Sp.cs_len (x : Sp) : x.cs.length = 2 := rfl
theorem Rc.cs_len (x : Rc) : x.cs.length = 3 := rfl
theorem Pn.cs_one (n : Pn) : ∀ u ∈ n.cs, u.oneCell' = true := by
  intro u hu
  simp only [Pn.cs, List.mem_cons, List.not_mem_nil, or_false] at hu
  rcases hu with rfl | rfl | rfl | rfl <;> rfl
theorem Sp.cs_one (n : Sp) : ∀ u ∈ n.cs, u.oneCell' = true := by
  intro u hu
  simp only [Sp.cs, List.mem_cons, List.not_mem_nil, or_false] at hu
  rcases hu with rfl | rfl <;> rfl
theorem Rc.cs_one (n : Rc) : ∀ u ∈ n.cs, u.oneCell' = true := by
  intro u hu
  simp only [Rc.cs, List.mem_cons, List.not_mem_nil, or_false] at hu
  rcases hu with rfl | rfl | rfl <;> rfl
theorem Try.infoPn : (Try.prog.info? 46).map (fun i => (i.zero, i.size, i.bytes)) = some (some (.agg #[.int .i64 0, .int .i64 0, .int .i64 0, .int .i64 0]), 4, 32) := by kernel_rfl
theorem Try.infoSp : (Try.prog.info? 31).map (fun i => (i.zero, i.size, i.bytes)) = some (some (.agg #[.int .i64 0, .int .i64 0]), 2, 16) := by kernel_rfl
theorem Try.infoRc : (Try.prog.info? 37).map (fun i => (i.zero, i.size, i.bytes)) = some (some (.agg #[.int .i64 0, .int .i64 0, .int .i64 0]), 3, 24) := by kernel_rfl
/-- A row of one's own is one that can be read. -/
theorem OwnL.seg {α : Type} {t sz : Nat} {cs : α → List Value} {base : Nat} {w : World} {v : Value} {xs : List α} (h : OwnL t sz cs base w v xs) (hcs : ∀ x, (cs x).length = sz) (hl : xs.length ≤ 140737488355328) : LSeg sz cs w.heap.size w v xs := by
  have hn := h.1
  rcases h.2 with ⟨rfl, h0⟩ | ⟨g, cap, cur, rfl, h2, h3, h4, h5, h6, h7⟩
  · have : xs = [] := List.length_eq_zero_iff.1 h0
    subst this
    exact ⟨none, 0, rfl, by simp, .inl rfl⟩
  · refine ⟨some ⟨g, 0, none⟩, cap, rfl, hl, .inr ⟨g, 0, rfl, (Array.getElem?_eq_some_iff.1 h3).1, fun i x hi j u hu => ?_⟩⟩
    have h8 := flat_get hcs xs i j x u hi hu
    rw [← h7, List.getElem?_take] at h8
    split at h8
    · have hb : BoxT t w g cur := h3
      rw [hb.cellAt, Nat.zero_add]; simpa using h8
    · cases h8
theorem LSeg.nil' {α : Type} (sz : Nat) (cs : α → List Value) (B : Nat) (w : World) : LSeg sz cs B w (.slice none 0 0) ([] : List α) := ⟨none, 0, rfl, by simp, .inl rfl⟩
theorem LSeg.shapeOf {α : Type} {sz : Nat} {cs : α → List Value} {B : Nat} {w : World} {v : Value} {xs : List α} (h : LSeg sz cs B w v xs) : ∃ ao cap, v = .slice ao xs.length cap := by
  obtain ⟨ao, cap, e, _⟩ := h
  exact ⟨ao, cap, e⟩
theorem LSeg.len {α : Type} {sz : Nat} {cs : α → List Value} {B : Nat} {w : World} {v : Value} {xs : List α} (h : LSeg sz cs B w v xs) : xs.length ≤ 140737488355328 := by
  obtain ⟨_, _, _, h, _⟩ := h
  exact h
/-- The cells of one that is read. -/
theorem LSeg.readAt {α : Type} {sz : Nat} {cs : α → List Value} {B : Nat} {w : World} {ao : Option Addr} {n cap : Nat} {xs : List α} (h : LSeg sz cs B w (.slice ao n cap) xs) {i : Nat} {x : α} (hx : xs[i]? = some x) : ∃ b o, ao = some ⟨b, o, none⟩ ∧ b < B ∧ n = xs.length ∧ ∀ (j : Nat) (u : Value), (cs x)[j]? = some u → w.cell? ⟨b, o + i * sz + j, none⟩ = some u := by
  obtain ⟨ao', cap', e, _, hs⟩ := h
  cases e
  rcases hs with rfl | ⟨b, off, rfl, hb, hc⟩
  · simp at hx
  · exact ⟨b, off, rfl, hb, rfl, hc i x hx⟩
theorem ret_int {x y : Int} (h : x = y) : (Ending.returned (.int .i64 x)) = .returned (.int .i64 y) := by rw [h]
theorem ret_bool {x y : Bool} (h : x = y) : (Ending.returned (.bool x)) = .returned (.bool y) := by rw [h]
def cmpv (x y : Int) : Int := if x < y then -1 else if y < x then 1 else 0
set_option maxRecDepth 100000 in
theorem isNaN_any (w : World) (x : Int) : Calls Try.prog 64 #[.int .i64 x] w fun e w' => e = .returned (.bool false) ∧ w' = w := by
  go_enter Try.func64, Try.ntmps64
  go_wp2_with fail
  go_ret
  exact ⟨by simp, rfl⟩
set_option maxRecDepth 100000 in
theorem Compare_any (w : World) (a t : Int) : Calls Try.prog 52 #[.int .i64 a, .int .i64 t] w fun e w' => e = .returned (.int .i64 (cmpv a t)) ∧ w' = w := by
  unfold cmpv
  by_cases h1 : a < t
  · rw [if_pos h1]
    go_enter Try.func52, Try.ntmps52
    go_wp2_with (first | (go_at_call 64; refine (isNaN_any _ _).mono ?_; rintro e w1 ⟨rfl, rfl⟩) | fail)
    go_ret
    exact ⟨rfl, rfl⟩
  · rw [if_neg h1]
    by_cases h2 : t < a
    · rw [if_pos h2]
      go_enter Try.func52, Try.ntmps52
      go_wp2_with (first | (go_at_call 64; refine (isNaN_any _ _).mono ?_; rintro e w1 ⟨rfl, rfl⟩) | fail)
      go_ret
      exact ⟨rfl, rfl⟩
    · rw [if_neg h2]
      go_enter Try.func52, Try.ntmps52
      go_wp2_with (first | (go_at_call 64; refine (isNaN_any _ _).mono ?_; rintro e w1 ⟨rfl, rfl⟩) | fail)
      go_ret
      exact ⟨rfl, rfl⟩
/-- The first that is not 0. -/
def orv : List Int → Int
  | [] => 0
  | x :: r => if x = 0 then orv r else x
theorem drop_at {α : Type} {l : List α} {t : Nat} {x : α} (h : l[t]? = some x) : l.drop t = x :: l.drop (t + 1) := by
  have hl := lt_of_get h
  rw [List.getElem?_eq_getElem hl] at h
  cases h
  exact List.drop_eq_getElem_cons hl
theorem drop_end {α : Type} {l : List α} {t : Nat} (h : ¬ t < l.length) : l.drop t = [] := List.drop_eq_nil_of_le (by omega)
set_option maxHeartbeats 1000000 in
theorem Or_any {w : World} {v : Value} {l : List Int} {B : Nat} (hl : LSeg 1 i64cs B w v l) (hn : l.length ≤ 100000) : Calls Try.prog 51 #[v] w fun e w' => e = .returned (.int .i64 (orv l)) ∧ w' = w := by
  obtain ⟨ao, cap, rfl⟩ := hl.shape
  have HL := hide hl
  clear hl
  generalize hR : orv l = R
  have HR : Hid (orv (l.drop 0) = R) := (show _ = _ by rw [List.drop_zero]; exact hR)
  clear hR
  go_enter Try.func51, Try.ntmps51
  go_wp2_with fail
  go_loopg [5, 8] (l.length + 1) (fun gh xv iv wr => ∃ t : Nat, iv = .int .i64 (t : Int) ∧ t ≤ l.length ∧ l.length + 1 ≤ gh + t ∧ Hid (orv (l.drop t) = R) ∧ wr = w)
  case atStart => exact ⟨0, rfl, by omega, by omega, HR, rfl⟩
  case round =>
    obtain ⟨t, rfl, ht, hg, HR, rfl⟩ := hrel
    obtain ⟨go, rfl⟩ : ∃ go, gk = go + 1 := ⟨gk - 1, by omega⟩
    by_cases hlt : t < l.length
    · obtain ⟨x, hx⟩ := get_of_lt hlt
      have bt : (t : Int) < (l.length : Int) := by omega
      obtain ⟨nb, no, rfl, nlt, d0⟩ := seg_int HL.out hx
      have hd := drop_at hx
      by_cases h0 : x = 0
      · have HT : Hid (orv (l.drop (t + 1)) = R) := (show _ = _ by rw [← HR.out, hd, orv, if_pos h0])
        clear hx hd
        subst h0
        go_wp2_with fail
        go_roundg go
        case rel => exact ⟨t + 1, by go_num, by omega, by omega, HT, rfl⟩
        case measure => omega
      · have HT : Hid (x = R) := (show _ = _ by rw [← HR.out, hd, orv, if_neg h0])
        clear hx hd
        go_wp2_with fail
        go_ret
        exact ⟨ret_int HT.out, rfl⟩
    · have bt : ¬ (t : Int) < (l.length : Int) := by omega
      have HE : Hid (0 = R) := (show _ = _ by rw [← HR.out, drop_end hlt]; rfl)
      go_wp2_with fail
      go_ret
      exact ⟨ret_int HE.out, rfl⟩
end Go.Proofs.Ytlikikiglicdlaa
