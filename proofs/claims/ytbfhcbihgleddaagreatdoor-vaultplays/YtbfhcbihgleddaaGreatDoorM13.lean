/-
  Texts of the vault, in build order: Help, HelpO.
-/
import Derived.Test.YtbfhcbihgleddaaGreatDoorM08
import Derived.Test.YtbfhcbihgleddaaGreatDoorM03
import Derived.Test.YtbfhcbihgleddaaGreatDoorM01
/-
  Walks over the helps of the laws: lists of marks, of panes, of captured frames held against one another; parts.
-/
namespace Go.Proofs.YtbfhcbihgleddaaGreatDoor
open Go.RowKit

def decPn : DecidableEq Pn := fun a b => decidable_of_iff (a.ke = b.ke ∧ a.fr = b.fr ∧ a.to = b.to ∧ a.ac = b.ac) (by cases a; cases b; simp)
def decFrm : DecidableEq Frm := fun a b => decidable_of_iff (a.kd = b.kd ∧ a.ke = b.ke ∧ a.ti = b.ti ∧ a.va = b.va ∧ a.ma = b.ma ∧ a.n = b.n ∧ a.ov = b.ov) (by cases a; cases b; simp)
def decOt : DecidableEq Ot := fun a b => decidable_of_iff (a.ch = b.ch ∧ a.f.kd = b.f.kd ∧ a.f.ke = b.f.ke ∧ a.f.ti = b.f.ti ∧ a.f.va = b.f.va ∧ a.f.ma = b.f.ma ∧ a.f.n = b.f.n ∧ a.f.ov = b.f.ov) (by cases a with | mk _ f => cases f; cases b with | mk _ g => cases g; simp)
theorem hideb {p : Prop} (h : p) : Hid p := h
theorem list_eq_any {α : Type} {a b : List α} {n : Nat} (ha : a.length = n) (hb : b.length = n) (h : ∀ i, i < n → a[i]? = b[i]?) : a = b := by
  apply List.ext_getElem?
  intro i
  by_cases hi : i < n
  · exact h i hi
  · rw [List.getElem?_eq_none (by omega), List.getElem?_eq_none (by omega)]

set_option maxHeartbeats 2000000 in
set_option maxRecDepth 100000 in
theorem Marks_core (n ca cb b1 o1 b2 o2 : Nat) (a b : List Int) (w : World) (hn : n ≤ 140737488355328) (hla : Hid (a.length = n)) (hlb : Hid (b.length = n)) (h1 : b1 < w.heap.size) (h2 : b2 < w.heap.size)
    (hc1 : ∀ (i : Nat) (x : Int), a[i]? = some x → ∀ (j : Nat) (u : Value), (ics x)[j]? = some u → w.cell? ⟨b1, o1 + i * 1 + j, none⟩ = some u) (hc2 : ∀ (i : Nat) (x : Int), b[i]? = some x → ∀ (j : Nat) (u : Value), (ics x)[j]? = some u → w.cell? ⟨b2, o2 + i * 1 + j, none⟩ = some u) :
    Calls Tryz.prog 49 #[.slice (some ⟨b1, o1, none⟩) n ca, .slice (some ⟨b2, o2, none⟩) n cb] w fun e w' => e = .returned (.bool (decide (a = b))) ∧ Below w.heap.size w w' := by
  have H1 : Hid (∀ (i : Nat) (x : Int), a[i]? = some x → ∀ (j : Nat) (u : Value), (ics x)[j]? = some u → w.cell? ⟨b1, o1 + i * 1 + j, none⟩ = some u) := hc1
  have H2 : Hid (∀ (i : Nat) (x : Int), b[i]? = some x → ∀ (j : Nat) (u : Value), (ics x)[j]? = some u → w.cell? ⟨b2, o2 + i * 1 + j, none⟩ = some u) := hc2
  clear hc1 hc2
  go_enter Tryz.func49, Tryz.ntmps49
  go_wp2
  go_loopw [5] (fun i wr => ∃ k : Nat, k ≤ n ∧ i = .int .i64 k ∧ Below w.heap.size w wr ∧ Hid (∀ i : Nat, i < k → a[i]? = b[i]?)) (fun i _ => n - (intOf i).toNat)
  case atStart => exact ⟨0, Nat.zero_le _, rfl, Below.refl _ _, fun i h => by omega⟩
  case round =>
    obtain ⟨k, hk, rfl, hbel, HS⟩ := hrel
    by_cases hlt : k < n
    · obtain ⟨x, hx⟩ : ∃ x : Int, a[k]? = some x := ⟨_, List.getElem?_eq_getElem (by have := hla.out; omega)⟩
      obtain ⟨y, hy⟩ : ∃ y : Int, b[k]? = some y := ⟨_, List.getElem?_eq_getElem (by have := hlb.out; omega)⟩
      have c0 : wr.cell? ⟨b1, o1 + k, none⟩ = some (.int .i64 x) := by have := (hbel.cell (p := ⟨b1, _, none⟩) h1).trans (H1.out k x hx 0 _ rfl); simpa using this
      have d0 : wr.cell? ⟨b2, o2 + k, none⟩ = some (.int .i64 y) := by have := (hbel.cell (p := ⟨b2, _, none⟩) h2).trans (H2.out k y hy 0 _ rfl); simpa using this
      have HX : Hid (a[k]? = some x) := hx
      have HY : Hid (b[k]? = some y) := hy
      have hne : Hid (x ≠ y → decide (a = b) = false) := fun hxy => decide_eq_false fun h => by
        subst h
        exact hxy (Option.some.inj (HX.out.symm.trans HY.out))
      clear hx hy
      by_cases g0 : x = y
      rotate_left
      · have e0 : (x != y) = true := by simp [g0]
        have f0 : (x == y) = false := by simp [g0]
        have hno := hne.out (by simp [g0])
        go_wp2
        go_quiet (fail)
        go_wp2
        go_ret
        exact ⟨ret_bool0 hno.symm, below_drewN' hbel nq⟩
      subst g0
      clear hne
      go_wp2
      go_quiet (fail)
      go_wp2
      go_roundw
      case rel => exact ⟨k + 1, by omega, by go_num, below_drewN' hbel nq, fun i hi => by
        by_cases hik : i < k
        · exact HS.out i hik
        · obtain rfl : i = k := by omega
          rw [HX.out, HY.out]⟩
      case measure => simp [intOf]; omega
    · go_wp2
      go_ret
      exact ⟨ret_bool0 (by simp; exact (list_eq_any hla.out hlb.out fun i hi => HS.out i (by omega)).symm ▸ rfl), hbel⟩

set_option maxHeartbeats 1000000 in
set_option maxRecDepth 100000 in
theorem Marks_any (va vb : Value) (a b : List Int) (w : World) (ha : LSeg 1 ics w.heap.size w va a) (hb : LSeg 1 ics w.heap.size w vb b) :
    Calls Tryz.prog 49 #[va, vb] w fun e w' => e = .returned (.bool (decide (a = b))) ∧ Below w.heap.size w w' := by
  obtain ⟨aa, ca, rfl, hna, ha⟩ := ha
  obtain ⟨ab, cb, rfl, hnb, hb⟩ := hb
  by_cases hlen : a.length = b.length
  · by_cases h0 : a = []
    · subst h0
      have : b = [] := by simpa using hlen.symm
      subst this
      clear ha hb hlen
      simp only [List.length_nil]
      go_enter Tryz.func49, Tryz.ntmps49
      go_wp2
      refine wp_loop_rounds 1 ?_
      rw [rounds_succ]
      go_wp2
      go_ret
      exact ⟨ret_bool0 (by simp), Below.refl _ _⟩
    · rcases ha with ha | ⟨b1, o1, rfl, h1, hc1⟩
      · exact absurd ha h0
      rcases hb with rfl | ⟨b2, o2, rfl, h2, hc2⟩
      · exact absurd (by simpa using hlen) h0
      rw [← hlen]
      exact Marks_core a.length ca cb b1 o1 b2 o2 a b w hna rfl hlen.symm h1 h2 hc1 hc2
  · have e0 : ((a.length : Int) != (b.length : Int)) = true := by simp; omega
    have HL : Hid (¬ a.length = b.length) := hlen
    clear ha hb hlen
    go_enter Tryz.func49, Tryz.ntmps49
    go_wp2
    go_ret
    exact ⟨ret_bool0 (by symm; apply decide_eq_false; intro h; exact HL.out (by rw [h])), Below.refl _ _⟩

set_option maxHeartbeats 2000000 in
set_option maxRecDepth 100000 in
theorem Panes_core [DecidableEq Pn] (n ca cb b1 o1 b2 o2 : Nat) (a b : List Pn) (w : World) (hn : n ≤ 140737488355328) (hla : Hid (a.length = n)) (hlb : Hid (b.length = n)) (h1 : b1 < w.heap.size) (h2 : b2 < w.heap.size)
    (hc1 : ∀ (i : Nat) (x : Pn), a[i]? = some x → ∀ (j : Nat) (u : Value), (Pn.cs x)[j]? = some u → w.cell? ⟨b1, o1 + i * 4 + j, none⟩ = some u) (hc2 : ∀ (i : Nat) (x : Pn), b[i]? = some x → ∀ (j : Nat) (u : Value), (Pn.cs x)[j]? = some u → w.cell? ⟨b2, o2 + i * 4 + j, none⟩ = some u) :
    Calls Tryz.prog 50 #[.slice (some ⟨b1, o1, none⟩) n ca, .slice (some ⟨b2, o2, none⟩) n cb] w fun e w' => e = .returned (.bool (decide (a = b))) ∧ Below w.heap.size w w' := by
  have H1 : Hid (∀ (i : Nat) (x : Pn), a[i]? = some x → ∀ (j : Nat) (u : Value), (Pn.cs x)[j]? = some u → w.cell? ⟨b1, o1 + i * 4 + j, none⟩ = some u) := hc1
  have H2 : Hid (∀ (i : Nat) (x : Pn), b[i]? = some x → ∀ (j : Nat) (u : Value), (Pn.cs x)[j]? = some u → w.cell? ⟨b2, o2 + i * 4 + j, none⟩ = some u) := hc2
  clear hc1 hc2
  go_enter Tryz.func50, Tryz.ntmps50
  go_wp2
  go_loopw [5] (fun i wr => ∃ k : Nat, k ≤ n ∧ i = .int .i64 k ∧ Below w.heap.size w wr ∧ Hid (∀ i : Nat, i < k → a[i]? = b[i]?)) (fun i _ => n - (intOf i).toNat)
  case atStart => exact ⟨0, Nat.zero_le _, rfl, Below.refl _ _, fun i h => by omega⟩
  case round =>
    obtain ⟨k, hk, rfl, hbel, HS⟩ := hrel
    by_cases hlt : k < n
    · obtain ⟨x, hx⟩ : ∃ x : Pn, a[k]? = some x := ⟨_, List.getElem?_eq_getElem (by have := hla.out; omega)⟩
      obtain ⟨y, hy⟩ : ∃ y : Pn, b[k]? = some y := ⟨_, List.getElem?_eq_getElem (by have := hlb.out; omega)⟩
      have c0 : wr.cell? ⟨b1, o1 + k * 4, none⟩ = some (.int .i64 x.ke) := (hbel.cell (p := ⟨b1, _, none⟩) h1).trans (H1.out k x hx 0 _ rfl)
      have c1 : wr.cell? ⟨b1, o1 + k * 4 + 1, none⟩ = some (.int .i64 x.fr) := (hbel.cell (p := ⟨b1, _, none⟩) h1).trans (H1.out k x hx 1 _ rfl)
      have c2 : wr.cell? ⟨b1, o1 + k * 4 + 2, none⟩ = some (.int .i64 x.to) := (hbel.cell (p := ⟨b1, _, none⟩) h1).trans (H1.out k x hx 2 _ rfl)
      have c3 : wr.cell? ⟨b1, o1 + k * 4 + 3, none⟩ = some (.int .i64 x.ac) := (hbel.cell (p := ⟨b1, _, none⟩) h1).trans (H1.out k x hx 3 _ rfl)
      have d0 : wr.cell? ⟨b2, o2 + k * 4, none⟩ = some (.int .i64 y.ke) := (hbel.cell (p := ⟨b2, _, none⟩) h2).trans (H2.out k y hy 0 _ rfl)
      have d1 : wr.cell? ⟨b2, o2 + k * 4 + 1, none⟩ = some (.int .i64 y.fr) := (hbel.cell (p := ⟨b2, _, none⟩) h2).trans (H2.out k y hy 1 _ rfl)
      have d2 : wr.cell? ⟨b2, o2 + k * 4 + 2, none⟩ = some (.int .i64 y.to) := (hbel.cell (p := ⟨b2, _, none⟩) h2).trans (H2.out k y hy 2 _ rfl)
      have d3 : wr.cell? ⟨b2, o2 + k * 4 + 3, none⟩ = some (.int .i64 y.ac) := (hbel.cell (p := ⟨b2, _, none⟩) h2).trans (H2.out k y hy 3 _ rfl)
      have HX : Hid (a[k]? = some x) := hx
      have HY : Hid (b[k]? = some y) := hy
      have hne : Hid (x ≠ y → decide (a = b) = false) := fun hxy => decide_eq_false fun h => by
        subst h
        exact hxy (Option.some.inj (HX.out.symm.trans HY.out))
      clear hx hy
      obtain ⟨x0, x1, x2, x3⟩ := x
      obtain ⟨y0, y1, y2, y3⟩ := y
      simp only at *
      by_cases g0 : x0 = y0
      rotate_left
      · have e0 : (x0 != y0) = true := by simp [g0]
        have f0 : (x0 == y0) = false := by simp [g0]
        have hno := hne.out (by simp [g0])
        go_wp2
        go_quiet (fail)
        go_wp2
        go_ret
        exact ⟨ret_bool0 hno.symm, below_drewN' hbel nq⟩
      subst g0
      by_cases g1 : x1 = y1
      rotate_left
      · have e1 : (x1 != y1) = true := by simp [g1]
        have f1 : (x1 == y1) = false := by simp [g1]
        have hno := hne.out (by simp [g1])
        go_wp2
        go_quiet (fail)
        go_wp2
        go_ret
        exact ⟨ret_bool0 hno.symm, below_drewN' hbel nq⟩
      subst g1
      by_cases g2 : x2 = y2
      rotate_left
      · have e2 : (x2 != y2) = true := by simp [g2]
        have f2 : (x2 == y2) = false := by simp [g2]
        have hno := hne.out (by simp [g2])
        go_wp2
        go_quiet (fail)
        go_wp2
        go_ret
        exact ⟨ret_bool0 hno.symm, below_drewN' hbel nq⟩
      subst g2
      by_cases g3 : x3 = y3
      rotate_left
      · have e3 : (x3 != y3) = true := by simp [g3]
        have f3 : (x3 == y3) = false := by simp [g3]
        have hno := hne.out (by simp [g3])
        go_wp2
        go_quiet (fail)
        go_wp2
        go_ret
        exact ⟨ret_bool0 hno.symm, below_drewN' hbel nq⟩
      subst g3
      clear hne
      go_wp2
      go_quiet (fail)
      go_wp2
      go_roundw
      case rel => exact ⟨k + 1, by omega, by go_num, below_drewN' hbel nq, fun i hi => by
        by_cases hik : i < k
        · exact HS.out i hik
        · obtain rfl : i = k := by omega
          rw [HX.out, HY.out]⟩
      case measure => simp [intOf]; omega
    · go_wp2
      go_ret
      exact ⟨ret_bool0 (by simp; exact (list_eq_any hla.out hlb.out fun i hi => HS.out i (by omega)).symm ▸ rfl), hbel⟩

set_option maxHeartbeats 1000000 in
set_option maxRecDepth 100000 in
theorem Panes_any [DecidableEq Pn] (va vb : Value) (a b : List Pn) (w : World) (ha : LSeg 4 Pn.cs w.heap.size w va a) (hb : LSeg 4 Pn.cs w.heap.size w vb b) :
    Calls Tryz.prog 50 #[va, vb] w fun e w' => e = .returned (.bool (decide (a = b))) ∧ Below w.heap.size w w' := by
  obtain ⟨aa, ca, rfl, hna, ha⟩ := ha
  obtain ⟨ab, cb, rfl, hnb, hb⟩ := hb
  by_cases hlen : a.length = b.length
  · by_cases h0 : a = []
    · subst h0
      have : b = [] := by simpa using hlen.symm
      subst this
      clear ha hb hlen
      simp only [List.length_nil]
      go_enter Tryz.func50, Tryz.ntmps50
      go_wp2
      refine wp_loop_rounds 1 ?_
      rw [rounds_succ]
      go_wp2
      go_ret
      exact ⟨ret_bool0 (by simp), Below.refl _ _⟩
    · rcases ha with ha | ⟨b1, o1, rfl, h1, hc1⟩
      · exact absurd ha h0
      rcases hb with rfl | ⟨b2, o2, rfl, h2, hc2⟩
      · exact absurd (by simpa using hlen) h0
      rw [← hlen]
      exact Panes_core a.length ca cb b1 o1 b2 o2 a b w hna rfl hlen.symm h1 h2 hc1 hc2
  · have e0 : ((a.length : Int) != (b.length : Int)) = true := by simp; omega
    have HL : Hid (¬ a.length = b.length) := hlen
    clear ha hb hlen
    go_enter Tryz.func50, Tryz.ntmps50
    go_wp2
    go_ret
    exact ⟨ret_bool0 (by symm; apply decide_eq_false; intro h; exact HL.out (by rw [h])), Below.refl _ _⟩
end Go.Proofs.YtbfhcbihgleddaaGreatDoor
/-
  Walks over the helps of the laws: lists of marks, of panes, of captured frames held against one another; parts.
-/
namespace Go.Proofs.YtbfhcbihgleddaaGreatDoor
open Go.RowKit


set_option maxHeartbeats 2000000 in
set_option maxRecDepth 100000 in
theorem Outs_core [DecidableEq Ot] (n ca cb b1 o1 b2 o2 : Nat) (a b : List Ot) (w : World) (hn : n ≤ 140737488355328) (hla : Hid (a.length = n)) (hlb : Hid (b.length = n)) (h1 : b1 < w.heap.size) (h2 : b2 < w.heap.size)
    (hc1 : ∀ (i : Nat) (x : Ot), a[i]? = some x → ∀ (j : Nat) (u : Value), (Ot.cs x)[j]? = some u → w.cell? ⟨b1, o1 + i * 8 + j, none⟩ = some u) (hc2 : ∀ (i : Nat) (x : Ot), b[i]? = some x → ∀ (j : Nat) (u : Value), (Ot.cs x)[j]? = some u → w.cell? ⟨b2, o2 + i * 8 + j, none⟩ = some u) :
    Calls Tryz.prog 51 #[.slice (some ⟨b1, o1, none⟩) n ca, .slice (some ⟨b2, o2, none⟩) n cb] w fun e w' => e = .returned (.bool (decide (a = b))) ∧ Below w.heap.size w w' := by
  have H1 : Hid (∀ (i : Nat) (x : Ot), a[i]? = some x → ∀ (j : Nat) (u : Value), (Ot.cs x)[j]? = some u → w.cell? ⟨b1, o1 + i * 8 + j, none⟩ = some u) := hc1
  have H2 : Hid (∀ (i : Nat) (x : Ot), b[i]? = some x → ∀ (j : Nat) (u : Value), (Ot.cs x)[j]? = some u → w.cell? ⟨b2, o2 + i * 8 + j, none⟩ = some u) := hc2
  clear hc1 hc2
  go_enter Tryz.func51, Tryz.ntmps51
  go_wp2
  go_loopw [5] (fun i wr => ∃ k : Nat, k ≤ n ∧ i = .int .i64 k ∧ Below w.heap.size w wr ∧ Hid (∀ i : Nat, i < k → a[i]? = b[i]?)) (fun i _ => n - (intOf i).toNat)
  case atStart => exact ⟨0, Nat.zero_le _, rfl, Below.refl _ _, fun i h => by omega⟩
  case round =>
    obtain ⟨k, hk, rfl, hbel, HS⟩ := hrel
    by_cases hlt : k < n
    · obtain ⟨x, hx⟩ : ∃ x : Ot, a[k]? = some x := ⟨_, List.getElem?_eq_getElem (by have := hla.out; omega)⟩
      obtain ⟨y, hy⟩ : ∃ y : Ot, b[k]? = some y := ⟨_, List.getElem?_eq_getElem (by have := hlb.out; omega)⟩
      have c0 : wr.cell? ⟨b1, o1 + k * 8, none⟩ = some (.int .i64 x.ch) := (hbel.cell (p := ⟨b1, _, none⟩) h1).trans (H1.out k x hx 0 _ rfl)
      have c1 : wr.cell? ⟨b1, o1 + k * 8 + 1, none⟩ = some (.int .i64 x.f.kd) := (hbel.cell (p := ⟨b1, _, none⟩) h1).trans (H1.out k x hx 1 _ rfl)
      have c2 : wr.cell? ⟨b1, o1 + k * 8 + 2, none⟩ = some (.int .i64 x.f.ke) := (hbel.cell (p := ⟨b1, _, none⟩) h1).trans (H1.out k x hx 2 _ rfl)
      have c3 : wr.cell? ⟨b1, o1 + k * 8 + 3, none⟩ = some (.int .i64 x.f.ti) := (hbel.cell (p := ⟨b1, _, none⟩) h1).trans (H1.out k x hx 3 _ rfl)
      have c4 : wr.cell? ⟨b1, o1 + k * 8 + 4, none⟩ = some (.int .i64 x.f.va) := (hbel.cell (p := ⟨b1, _, none⟩) h1).trans (H1.out k x hx 4 _ rfl)
      have c5 : wr.cell? ⟨b1, o1 + k * 8 + 5, none⟩ = some (.int .i64 x.f.ma) := (hbel.cell (p := ⟨b1, _, none⟩) h1).trans (H1.out k x hx 5 _ rfl)
      have c6 : wr.cell? ⟨b1, o1 + k * 8 + 6, none⟩ = some (.int .u64 x.f.n) := (hbel.cell (p := ⟨b1, _, none⟩) h1).trans (H1.out k x hx 6 _ rfl)
      have c7 : wr.cell? ⟨b1, o1 + k * 8 + 7, none⟩ = some (.bool x.f.ov) := (hbel.cell (p := ⟨b1, _, none⟩) h1).trans (H1.out k x hx 7 _ rfl)
      have d0 : wr.cell? ⟨b2, o2 + k * 8, none⟩ = some (.int .i64 y.ch) := (hbel.cell (p := ⟨b2, _, none⟩) h2).trans (H2.out k y hy 0 _ rfl)
      have d1 : wr.cell? ⟨b2, o2 + k * 8 + 1, none⟩ = some (.int .i64 y.f.kd) := (hbel.cell (p := ⟨b2, _, none⟩) h2).trans (H2.out k y hy 1 _ rfl)
      have d2 : wr.cell? ⟨b2, o2 + k * 8 + 2, none⟩ = some (.int .i64 y.f.ke) := (hbel.cell (p := ⟨b2, _, none⟩) h2).trans (H2.out k y hy 2 _ rfl)
      have d3 : wr.cell? ⟨b2, o2 + k * 8 + 3, none⟩ = some (.int .i64 y.f.ti) := (hbel.cell (p := ⟨b2, _, none⟩) h2).trans (H2.out k y hy 3 _ rfl)
      have d4 : wr.cell? ⟨b2, o2 + k * 8 + 4, none⟩ = some (.int .i64 y.f.va) := (hbel.cell (p := ⟨b2, _, none⟩) h2).trans (H2.out k y hy 4 _ rfl)
      have d5 : wr.cell? ⟨b2, o2 + k * 8 + 5, none⟩ = some (.int .i64 y.f.ma) := (hbel.cell (p := ⟨b2, _, none⟩) h2).trans (H2.out k y hy 5 _ rfl)
      have d6 : wr.cell? ⟨b2, o2 + k * 8 + 6, none⟩ = some (.int .u64 y.f.n) := (hbel.cell (p := ⟨b2, _, none⟩) h2).trans (H2.out k y hy 6 _ rfl)
      have d7 : wr.cell? ⟨b2, o2 + k * 8 + 7, none⟩ = some (.bool y.f.ov) := (hbel.cell (p := ⟨b2, _, none⟩) h2).trans (H2.out k y hy 7 _ rfl)
      have HX : Hid (a[k]? = some x) := hx
      have HY : Hid (b[k]? = some y) := hy
      have hne : Hid (x ≠ y → decide (a = b) = false) := fun hxy => decide_eq_false fun h => by
        subst h
        exact hxy (Option.some.inj (HX.out.symm.trans HY.out))
      clear hx hy
      obtain ⟨x0, ⟨x1, x2, x3, x4, x5, x6, x7⟩⟩ := x
      obtain ⟨y0, ⟨y1, y2, y3, y4, y5, y6, y7⟩⟩ := y
      simp only at *
      by_cases g0 : x0 = y0
      rotate_left
      · have e0 : (x0 != y0) = true := by simp [g0]
        have f0 : (x0 == y0) = false := by simp [g0]
        have hno := hne.out (by simp [g0])
        go_wp2
        go_quiet (fail)
        go_wp2
        go_ret
        exact ⟨ret_bool0 hno.symm, below_drewN' hbel nq⟩
      subst g0
      by_cases g1 : x1 = y1
      rotate_left
      · have e1 : (x1 != y1) = true := by simp [g1]
        have f1 : (x1 == y1) = false := by simp [g1]
        have hno := hne.out (by simp [g1])
        go_wp2
        go_quiet (fail)
        go_wp2
        go_ret
        exact ⟨ret_bool0 hno.symm, below_drewN' hbel nq⟩
      subst g1
      by_cases g2 : x2 = y2
      rotate_left
      · have e2 : (x2 != y2) = true := by simp [g2]
        have f2 : (x2 == y2) = false := by simp [g2]
        have hno := hne.out (by simp [g2])
        go_wp2
        go_quiet (fail)
        go_wp2
        go_ret
        exact ⟨ret_bool0 hno.symm, below_drewN' hbel nq⟩
      subst g2
      by_cases g3 : x3 = y3
      rotate_left
      · have e3 : (x3 != y3) = true := by simp [g3]
        have f3 : (x3 == y3) = false := by simp [g3]
        have hno := hne.out (by simp [g3])
        go_wp2
        go_quiet (fail)
        go_wp2
        go_ret
        exact ⟨ret_bool0 hno.symm, below_drewN' hbel nq⟩
      subst g3
      by_cases g4 : x4 = y4
      rotate_left
      · have e4 : (x4 != y4) = true := by simp [g4]
        have f4 : (x4 == y4) = false := by simp [g4]
        have hno := hne.out (by simp [g4])
        go_wp2
        go_quiet (fail)
        go_wp2
        go_ret
        exact ⟨ret_bool0 hno.symm, below_drewN' hbel nq⟩
      subst g4
      by_cases g5 : x5 = y5
      rotate_left
      · have e5 : (x5 != y5) = true := by simp [g5]
        have f5 : (x5 == y5) = false := by simp [g5]
        have hno := hne.out (by simp [g5])
        go_wp2
        go_quiet (fail)
        go_wp2
        go_ret
        exact ⟨ret_bool0 hno.symm, below_drewN' hbel nq⟩
      subst g5
      by_cases g6 : x6 = y6
      rotate_left
      · have e6 : (x6 != y6) = true := by simp [g6]
        have f6 : (x6 == y6) = false := by simp [g6]
        have hno := hne.out (by simp [g6])
        go_wp2
        go_quiet (fail)
        go_wp2
        go_ret
        exact ⟨ret_bool0 hno.symm, below_drewN' hbel nq⟩
      subst g6
      by_cases g7 : x7 = y7
      rotate_left
      · have e7 : (x7 != y7) = true := by simp [g7]
        have f7 : (x7 == y7) = false := by simp [g7]
        have hno := hne.out (by simp [g7])
        go_wp2
        go_quiet (fail)
        go_wp2
        go_ret
        exact ⟨ret_bool0 hno.symm, below_drewN' hbel nq⟩
      subst g7
      clear hne
      go_wp2
      go_quiet (fail)
      go_wp2
      go_roundw
      case rel => exact ⟨k + 1, by omega, by go_num, below_drewN' hbel nq, fun i hi => by
        by_cases hik : i < k
        · exact HS.out i hik
        · obtain rfl : i = k := by omega
          rw [HX.out, HY.out]⟩
      case measure => simp [intOf]; omega
    · go_wp2
      go_ret
      exact ⟨ret_bool0 (by simp; exact (list_eq_any hla.out hlb.out fun i hi => HS.out i (by omega)).symm ▸ rfl), hbel⟩

set_option maxHeartbeats 1000000 in
set_option maxRecDepth 100000 in
theorem Outs_any [DecidableEq Ot] (va vb : Value) (a b : List Ot) (w : World) (ha : LSeg 8 Ot.cs w.heap.size w va a) (hb : LSeg 8 Ot.cs w.heap.size w vb b) :
    Calls Tryz.prog 51 #[va, vb] w fun e w' => e = .returned (.bool (decide (a = b))) ∧ Below w.heap.size w w' := by
  obtain ⟨aa, ca, rfl, hna, ha⟩ := ha
  obtain ⟨ab, cb, rfl, hnb, hb⟩ := hb
  by_cases hlen : a.length = b.length
  · by_cases h0 : a = []
    · subst h0
      have : b = [] := by simpa using hlen.symm
      subst this
      clear ha hb hlen
      simp only [List.length_nil]
      go_enter Tryz.func51, Tryz.ntmps51
      go_wp2
      refine wp_loop_rounds 1 ?_
      rw [rounds_succ]
      go_wp2
      go_ret
      exact ⟨ret_bool0 (by simp), Below.refl _ _⟩
    · rcases ha with ha | ⟨b1, o1, rfl, h1, hc1⟩
      · exact absurd ha h0
      rcases hb with rfl | ⟨b2, o2, rfl, h2, hc2⟩
      · exact absurd (by simpa using hlen) h0
      rw [← hlen]
      exact Outs_core a.length ca cb b1 o1 b2 o2 a b w hna rfl hlen.symm h1 h2 hc1 hc2
  · have e0 : ((a.length : Int) != (b.length : Int)) = true := by simp; omega
    have HL : Hid (¬ a.length = b.length) := hlen
    clear ha hb hlen
    go_enter Tryz.func51, Tryz.ntmps51
    go_wp2
    go_ret
    exact ⟨ret_bool0 (by symm; apply decide_eq_false; intro h; exact HL.out (by rw [h])), Below.refl _ _⟩
end Go.Proofs.YtbfhcbihgleddaaGreatDoor
