import Derived.Test.YtaajjejgjnlbgaaDoorBase
import Derived.Deep.QuietTactic
import Derived.BigQuiet
namespace Go.Proofs.YtaajjejgjnlbgaaDoor
open Go.RowKit

theorem ret_bool0 {a b : Bool} (h : a = b) : Ending.returned (.bool a) = .returned (.bool b) := by rw [h]
/-- v is a slice of just the bytes l, wherever they lie. -/
def Seg (w : World) (v : Value) (l : List Nat) : Prop :=
  ∃ ao cap, v = .slice ao l.length cap ∧ l.length ≤ cap ∧ cap ≤ 9223372036854775807 ∧ l.length ≤ 140737488355328 ∧ (l = [] ∨ ∃ b off, ao = some ⟨b, off, none⟩ ∧ b < w.heap.size ∧ ∀ (i x : Nat), l[i]? = some x → w.cell? ⟨b, off + i, none⟩ = some (.int .u8 (x : Int)))

theorem Seg.nil (w : World) : Seg w (.slice none 0 0) [] := ⟨none, 0, rfl, by simp, by simp, by simp, .inl rfl⟩
theorem Seg.below {w w' : World} {v : Value} {l : List Nat} (h : Seg w v l) (hb : Below w.heap.size w w') : Seg w' v l := by
  obtain ⟨ao, cap, h1, h2, h3, h3', h4⟩ := h
  refine ⟨ao, cap, h1, h2, h3, h3', ?_⟩
  rcases h4 with h4 | ⟨b, off, h5, h6, h7⟩
  · exact .inl h4
  · exact .inr ⟨b, off, h5, by have := hb.size; omega, fun i x hi => (hb.cell (p := ⟨b, off + i, none⟩) h6).trans (h7 i x hi)⟩

theorem list_eq_of {a b : List Nat} {n : Nat} (hl : a.length = n) (hb : b.length = n) (h : ∀ i : Nat, i < n → a[i]? = b[i]?) : a = b := by
  apply List.ext_getElem?
  intro i
  by_cases hi : i < n
  · exact h i hi
  · rw [List.getElem?_eq_none (by omega), List.getElem?_eq_none (by omega)]

theorem below_drewN' {B : Nat} {a w : World} (h : Below B a w) (n : Nat) : Below B a (w.drewN n) := by
  exact h.trans ⟨rfl, rfl, rfl, Nat.le_refl _, fun _ _ => rfl⟩
set_option maxHeartbeats 1000000 in
set_option maxRecDepth 100000 in
theorem Bytes_core (n ca cb b1 o1 b2 o2 : Nat) (a b : List Nat) (w : World) (hn : n ≤ 140737488355328) (hla : Hid (a.length = n)) (hlb : Hid (b.length = n)) (h1 : b1 < w.heap.size) (h2 : b2 < w.heap.size)
    (hc1 : ∀ (i x : Nat), a[i]? = some x → w.cell? ⟨b1, o1 + i, none⟩ = some (.int .u8 (x : Int))) (hc2 : ∀ (i x : Nat), b[i]? = some x → w.cell? ⟨b2, o2 + i, none⟩ = some (.int .u8 (x : Int))) :
    Calls Tryd.prog 14 #[.slice (some ⟨b1, o1, none⟩) n ca, .slice (some ⟨b2, o2, none⟩) n cb] w fun e w' => e = .returned (.bool (decide (a = b))) ∧ Below w.heap.size w w' := by
  have H1 : Hid (∀ (i x : Nat), a[i]? = some x → w.cell? ⟨b1, o1 + i, none⟩ = some (.int .u8 (x : Int))) := hc1
  have H2 : Hid (∀ (i x : Nat), b[i]? = some x → w.cell? ⟨b2, o2 + i, none⟩ = some (.int .u8 (x : Int))) := hc2
  clear hc1 hc2
  go_enter Tryd.func14, Tryd.ntmps14
  go_wp2
  go_loopw [5] (fun i wr => ∃ k : Nat, k ≤ n ∧ i = .int .i64 k ∧ Below w.heap.size w wr ∧ Hid (∀ i : Nat, i < k → a[i]? = b[i]?)) (fun i _ => n - (intOf i).toNat)
  case atStart => exact ⟨0, Nat.zero_le _, rfl, Below.refl _ _, fun i h => by omega⟩
  case round =>
    obtain ⟨k, hk, rfl, hbel, HS⟩ := hrel
    by_cases hlt : k < n
    · obtain ⟨x, hx⟩ : ∃ x : Nat, a[k]? = some x := ⟨_, List.getElem?_eq_getElem (by have := hla.out; omega)⟩
      obtain ⟨y, hy⟩ : ∃ y : Nat, b[k]? = some y := ⟨_, List.getElem?_eq_getElem (by have := hlb.out; omega)⟩
      have c1 : wr.cell? ⟨b1, o1 + k, none⟩ = some (.int .u8 (x : Int)) := (hbel.cell (p := ⟨b1, o1 + k, none⟩) h1).trans (H1.out k x hx)
      have c2 : wr.cell? ⟨b2, o2 + k, none⟩ = some (.int .u8 (y : Int)) := (hbel.cell (p := ⟨b2, o2 + k, none⟩) h2).trans (H2.out k y hy)
      have HX : Hid (a[k]? = some x) := hx
      have HY : Hid (b[k]? = some y) := hy
      clear hx hy
      by_cases hxy : x = y
      · subst hxy
        go_wp2
        go_quiet (fail)
        go_wp2
        go_roundw
        case rel => exact ⟨k + 1, by omega, by go_num, below_drewN' hbel nq, fun i hi => by
          by_cases hik : i < k
          · exact HS.out i hik
          · obtain rfl : i = k := by omega
            rw [HX.out, HY.out]⟩
        case measure => simp [intOf]; omega
      · have e1 : ((x : Int) != (y : Int)) = true := by simp; omega
        go_wp2
        go_quiet (fail)
        go_wp2
        go_ret
        refine ⟨ret_bool0 (by
          symm; apply decide_eq_false; intro h; subst h
          have := HX.out.symm.trans HY.out; exact hxy (Option.some.inj this)), below_drewN' hbel nq⟩
    · go_wp2
      go_ret
      exact ⟨ret_bool0 (by simp; exact (list_eq_of hla.out hlb.out fun i hi => HS.out i (by omega)).symm ▸ rfl), hbel⟩

set_option maxHeartbeats 1000000 in
set_option maxRecDepth 100000 in
theorem Bytes_any (va vb : Value) (a b : List Nat) (w : World) (ha : Seg w va a) (hb : Seg w vb b) :
    Calls Tryd.prog 14 #[va, vb] w fun e w' => e = .returned (.bool (decide (a = b))) ∧ Below w.heap.size w w' := by
  obtain ⟨aa, ca, rfl, hla, hca, hna, ha⟩ := ha
  obtain ⟨ab, cb, rfl, hlb, hcb, hnb, hb⟩ := hb
  by_cases hlen : a.length = b.length
  · by_cases h0 : a = []
    · subst h0
      have : b = [] := by simpa using hlen.symm
      subst this
      clear ha hb hlen
      simp only [List.length_nil]
      go_enter Tryd.func14, Tryd.ntmps14
      go_wp2
      refine wp_loop_rounds 1 ?_
      rw [rounds_succ]
      go_wp2
      go_ret
      exact ⟨ret_bool0 (by simp), Below.refl _ _⟩
    · rcases ha with ha | ⟨b1, o1, rfl, h1, hc1⟩
      · exact absurd ha h0
      rcases hb with rfl | ⟨b2, o2, rfl, h2, hc2⟩
      · exact absurd (by simpa using hlen) h0
      rw [← hlen]
      exact Bytes_core a.length ca cb b1 o1 b2 o2 a b w hna rfl hlen.symm h1 h2 hc1 hc2
  · have e0 : ((a.length : Int) != (b.length : Int)) = true := by simp; omega
    have HL : Hid (¬ a.length = b.length) := hlen
    clear ha hb hlen
    go_enter Tryd.func14, Tryd.ntmps14
    go_wp2
    go_ret
    exact ⟨ret_bool0 (by symm; apply decide_eq_false; intro h; exact HL.out (by rw [h])), Below.refl _ _⟩

end Go.Proofs.YtaajjejgjnlbgaaDoor
