/-
  Texts of the vault, in build order: HelpO, HelpS.
-/
import Derived.Test.YtbfhcbihgleddaaGreatDoorM16
import Derived.Test.YtbfhcbihgleddaaGreatDoorM11
/-
  Walks over the helps of the laws: lists of marks, of panes, of captured frames held against one another; parts.
-/
namespace Go.Proofs.YtbfhcbihgleddaaGreatDoor
open Go.RowKit


set_option maxHeartbeats 2000000 in
set_option maxRecDepth 100000 in
theorem Outs_core [DecidableEq Ot] (n ca cb b1 o1 b2 o2 : Nat) (a b : List Ot) (w : World) (hn : n ≤ 140737488355328) (hla : Hid (a.length = n)) (hlb : Hid (b.length = n)) (h1 : b1 < w.heap.size) (h2 : b2 < w.heap.size)
    (hc1 : ∀ (i : Nat) (x : Ot), a[i]? = some x → ∀ (j : Nat) (u : Value), (Ot.cs x)[j]? = some u → w.cell? ⟨b1, o1 + i * 8 + j, none⟩ = some u) (hc2 : ∀ (i : Nat) (x : Ot), b[i]? = some x → ∀ (j : Nat) (u : Value), (Ot.cs x)[j]? = some u → w.cell? ⟨b2, o2 + i * 8 + j, none⟩ = some u) :
    Calls Tryz.prog 51 #[.slice (some ⟨b1, o1, none⟩) n ca, .slice (some ⟨b2, o2, none⟩) n cb] w fun e w' => e = .returned (.bool (decide (a = b))) ∧ Below w.heap.size w w' := by
  have H1 : Hid (∀ (i : Nat) (x : Ot), a[i]? = some x → ∀ (j : Nat) (u : Value), (Ot.cs x)[j]? = some u → w.cell? ⟨b1, o1 + i * 8 + j, none⟩ = some u) := hc1
  have H2 : Hid (∀ (i : Nat) (x : Ot), b[i]? = some x → ∀ (j : Nat) (u : Value), (Ot.cs x)[j]? = some u → w.cell? ⟨b2, o2 + i * 8 + j, none⟩ = some u) := hc2
  clear hc1 hc2
  go_enter Tryz.func51, Tryz.ntmps51
  go_wp2
  go_loopw [5] (fun i wr => ∃ k : Nat, k ≤ n ∧ i = .int .i64 k ∧ Below w.heap.size w wr ∧ Hid (∀ i : Nat, i < k → a[i]? = b[i]?)) (fun i _ => n - (intOf i).toNat)
  case atStart => exact ⟨0, Nat.zero_le _, rfl, Below.refl _ _, fun i h => by omega⟩
  case round =>
    obtain ⟨k, hk, rfl, hbel, HS⟩ := hrel
    by_cases hlt : k < n
    · obtain ⟨x, hx⟩ : ∃ x : Ot, a[k]? = some x := ⟨_, List.getElem?_eq_getElem (by have := hla.out; omega)⟩
      obtain ⟨y, hy⟩ : ∃ y : Ot, b[k]? = some y := ⟨_, List.getElem?_eq_getElem (by have := hlb.out; omega)⟩
      have c0 : wr.cell? ⟨b1, o1 + k * 8, none⟩ = some (.int .i64 x.ch) := (hbel.cell (p := ⟨b1, _, none⟩) h1).trans (H1.out k x hx 0 _ rfl)
      have c1 : wr.cell? ⟨b1, o1 + k * 8 + 1, none⟩ = some (.int .i64 x.f.kd) := (hbel.cell (p := ⟨b1, _, none⟩) h1).trans (H1.out k x hx 1 _ rfl)
      have c2 : wr.cell? ⟨b1, o1 + k * 8 + 2, none⟩ = some (.int .i64 x.f.ke) := (hbel.cell (p := ⟨b1, _, none⟩) h1).trans (H1.out k x hx 2 _ rfl)
      have c3 : wr.cell? ⟨b1, o1 + k * 8 + 3, none⟩ = some (.int .i64 x.f.ti) := (hbel.cell (p := ⟨b1, _, none⟩) h1).trans (H1.out k x hx 3 _ rfl)
      have c4 : wr.cell? ⟨b1, o1 + k * 8 + 4, none⟩ = some (.int .i64 x.f.va) := (hbel.cell (p := ⟨b1, _, none⟩) h1).trans (H1.out k x hx 4 _ rfl)
      have c5 : wr.cell? ⟨b1, o1 + k * 8 + 5, none⟩ = some (.int .i64 x.f.ma) := (hbel.cell (p := ⟨b1, _, none⟩) h1).trans (H1.out k x hx 5 _ rfl)
      have c6 : wr.cell? ⟨b1, o1 + k * 8 + 6, none⟩ = some (.int .u64 x.f.n) := (hbel.cell (p := ⟨b1, _, none⟩) h1).trans (H1.out k x hx 6 _ rfl)
      have c7 : wr.cell? ⟨b1, o1 + k * 8 + 7, none⟩ = some (.bool x.f.ov) := (hbel.cell (p := ⟨b1, _, none⟩) h1).trans (H1.out k x hx 7 _ rfl)
      have d0 : wr.cell? ⟨b2, o2 + k * 8, none⟩ = some (.int .i64 y.ch) := (hbel.cell (p := ⟨b2, _, none⟩) h2).trans (H2.out k y hy 0 _ rfl)
      have d1 : wr.cell? ⟨b2, o2 + k * 8 + 1, none⟩ = some (.int .i64 y.f.kd) := (hbel.cell (p := ⟨b2, _, none⟩) h2).trans (H2.out k y hy 1 _ rfl)
      have d2 : wr.cell? ⟨b2, o2 + k * 8 + 2, none⟩ = some (.int .i64 y.f.ke) := (hbel.cell (p := ⟨b2, _, none⟩) h2).trans (H2.out k y hy 2 _ rfl)
      have d3 : wr.cell? ⟨b2, o2 + k * 8 + 3, none⟩ = some (.int .i64 y.f.ti) := (hbel.cell (p := ⟨b2, _, none⟩) h2).trans (H2.out k y hy 3 _ rfl)
      have d4 : wr.cell? ⟨b2, o2 + k * 8 + 4, none⟩ = some (.int .i64 y.f.va) := (hbel.cell (p := ⟨b2, _, none⟩) h2).trans (H2.out k y hy 4 _ rfl)
      have d5 : wr.cell? ⟨b2, o2 + k * 8 + 5, none⟩ = some (.int .i64 y.f.ma) := (hbel.cell (p := ⟨b2, _, none⟩) h2).trans (H2.out k y hy 5 _ rfl)
      have d6 : wr.cell? ⟨b2, o2 + k * 8 + 6, none⟩ = some (.int .u64 y.f.n) := (hbel.cell (p := ⟨b2, _, none⟩) h2).trans (H2.out k y hy 6 _ rfl)
      have d7 : wr.cell? ⟨b2, o2 + k * 8 + 7, none⟩ = some (.bool y.f.ov) := (hbel.cell (p := ⟨b2, _, none⟩) h2).trans (H2.out k y hy 7 _ rfl)
      have HX : Hid (a[k]? = some x) := hx
      have HY : Hid (b[k]? = some y) := hy
      have hne : Hid (x ≠ y → decide (a = b) = false) := fun hxy => decide_eq_false fun h => by
        subst h
        exact hxy (Option.some.inj (HX.out.symm.trans HY.out))
      clear hx hy
      obtain ⟨x0, ⟨x1, x2, x3, x4, x5, x6, x7⟩⟩ := x
      obtain ⟨y0, ⟨y1, y2, y3, y4, y5, y6, y7⟩⟩ := y
      simp only at *
      by_cases g0 : x0 = y0
      rotate_left
      · have e0 : (x0 != y0) = true := by simp [g0]
        have f0 : (x0 == y0) = false := by simp [g0]
        have hno := hne.out (by simp [g0])
        go_wp2
        go_quiet (fail)
        go_wp2
        go_ret
        exact ⟨ret_bool0 hno.symm, below_drewN' hbel nq⟩
      subst g0
      by_cases g1 : x1 = y1
      rotate_left
      · have e1 : (x1 != y1) = true := by simp [g1]
        have f1 : (x1 == y1) = false := by simp [g1]
        have hno := hne.out (by simp [g1])
        go_wp2
        go_quiet (fail)
        go_wp2
        go_ret
        exact ⟨ret_bool0 hno.symm, below_drewN' hbel nq⟩
      subst g1
      by_cases g2 : x2 = y2
      rotate_left
      · have e2 : (x2 != y2) = true := by simp [g2]
        have f2 : (x2 == y2) = false := by simp [g2]
        have hno := hne.out (by simp [g2])
        go_wp2
        go_quiet (fail)
        go_wp2
        go_ret
        exact ⟨ret_bool0 hno.symm, below_drewN' hbel nq⟩
      subst g2
      by_cases g3 : x3 = y3
      rotate_left
      · have e3 : (x3 != y3) = true := by simp [g3]
        have f3 : (x3 == y3) = false := by simp [g3]
        have hno := hne.out (by simp [g3])
        go_wp2
        go_quiet (fail)
        go_wp2
        go_ret
        exact ⟨ret_bool0 hno.symm, below_drewN' hbel nq⟩
      subst g3
      by_cases g4 : x4 = y4
      rotate_left
      · have e4 : (x4 != y4) = true := by simp [g4]
        have f4 : (x4 == y4) = false := by simp [g4]
        have hno := hne.out (by simp [g4])
        go_wp2
        go_quiet (fail)
        go_wp2
        go_ret
        exact ⟨ret_bool0 hno.symm, below_drewN' hbel nq⟩
      subst g4
      by_cases g5 : x5 = y5
      rotate_left
      · have e5 : (x5 != y5) = true := by simp [g5]
        have f5 : (x5 == y5) = false := by simp [g5]
        have hno := hne.out (by simp [g5])
        go_wp2
        go_quiet (fail)
        go_wp2
        go_ret
        exact ⟨ret_bool0 hno.symm, below_drewN' hbel nq⟩
      subst g5
      by_cases g6 : x6 = y6
      rotate_left
      · have e6 : (x6 != y6) = true := by simp [g6]
        have f6 : (x6 == y6) = false := by simp [g6]
        have hno := hne.out (by simp [g6])
        go_wp2
        go_quiet (fail)
        go_wp2
        go_ret
        exact ⟨ret_bool0 hno.symm, below_drewN' hbel nq⟩
      subst g6
      by_cases g7 : x7 = y7
      rotate_left
      · have e7 : (x7 != y7) = true := by simp [g7]
        have f7 : (x7 == y7) = false := by simp [g7]
        have hno := hne.out (by simp [g7])
        go_wp2
        go_quiet (fail)
        go_wp2
        go_ret
        exact ⟨ret_bool0 hno.symm, below_drewN' hbel nq⟩
      subst g7
      clear hne
      go_wp2
      go_quiet (fail)
      go_wp2
      go_roundw
      case rel => exact ⟨k + 1, by omega, by go_num, below_drewN' hbel nq, fun i hi => by
        by_cases hik : i < k
        · exact HS.out i hik
        · obtain rfl : i = k := by omega
          rw [HX.out, HY.out]⟩
      case measure => simp [intOf]; omega
    · go_wp2
      go_ret
      exact ⟨ret_bool0 (by simp; exact (list_eq_any hla.out hlb.out fun i hi => HS.out i (by omega)).symm ▸ rfl), hbel⟩

set_option maxHeartbeats 1000000 in
set_option maxRecDepth 100000 in
theorem Outs_any [DecidableEq Ot] (va vb : Value) (a b : List Ot) (w : World) (ha : LSeg 8 Ot.cs w.heap.size w va a) (hb : LSeg 8 Ot.cs w.heap.size w vb b) :
    Calls Tryz.prog 51 #[va, vb] w fun e w' => e = .returned (.bool (decide (a = b))) ∧ Below w.heap.size w w' := by
  obtain ⟨aa, ca, rfl, hna, ha⟩ := ha
  obtain ⟨ab, cb, rfl, hnb, hb⟩ := hb
  by_cases hlen : a.length = b.length
  · by_cases h0 : a = []
    · subst h0
      have : b = [] := by simpa using hlen.symm
      subst this
      clear ha hb hlen
      simp only [List.length_nil]
      go_enter Tryz.func51, Tryz.ntmps51
      go_wp2
      refine wp_loop_rounds 1 ?_
      rw [rounds_succ]
      go_wp2
      go_ret
      exact ⟨ret_bool0 (by simp), Below.refl _ _⟩
    · rcases ha with ha | ⟨b1, o1, rfl, h1, hc1⟩
      · exact absurd ha h0
      rcases hb with rfl | ⟨b2, o2, rfl, h2, hc2⟩
      · exact absurd (by simpa using hlen) h0
      rw [← hlen]
      exact Outs_core a.length ca cb b1 o1 b2 o2 a b w hna rfl hlen.symm h1 h2 hc1 hc2
  · have e0 : ((a.length : Int) != (b.length : Int)) = true := by simp; omega
    have HL : Hid (¬ a.length = b.length) := hlen
    clear ha hb hlen
    go_enter Tryz.func51, Tryz.ntmps51
    go_wp2
    go_ret
    exact ⟨ret_bool0 (by symm; apply decide_eq_false; intro h; exact HL.out (by rw [h])), Below.refl _ _⟩
end Go.Proofs.YtbfhcbihgleddaaGreatDoor
/-
  Walks over the helps of the laws: parts held against one another; parts that are looked at.
-/
namespace Go.Proofs.YtbfhcbihgleddaaGreatDoor
open Go.RowKit

def decSn : DecidableEq Sn := fun a b =>
  have _i := decPn
  have _j := decOt
  decidable_of_iff (a.task = b.task ∧ a.off = b.off ∧ a.mark = b.mark ∧ a.marks = b.marks ∧ a.panes = b.panes ∧ a.outs = b.outs) (by cases a; cases b; simp)

set_option maxHeartbeats 2000000 in
set_option maxRecDepth 100000 in
theorem helpSnap_any [DecidableEq Pn] [DecidableEq Ot] [DecidableEq Sn] (s t : Sn) (vm vp vc um up uc : Value) (w : World) (hs : SnSeg w.heap.size w vm vp vc s) (ht : SnSeg w.heap.size w um up uc t) :
    Calls Tryz.prog 26 #[.agg #[.int .i64 s.task, .int .i64 s.off, .int .i64 s.mark, vm, vp, vc], .agg #[.int .i64 t.task, .int .i64 t.off, .int .i64 t.mark, um, up, uc]] w fun e w' => e = .returned (.bool (decide (s = t))) ∧ Below w.heap.size w w' := by
  have HS : Hid (SnSeg w.heap.size w vm vp vc s) := hs
  have HT : Hid (SnSeg w.heap.size w um up uc t) := ht
  obtain ⟨am, cm, rfl, -, -⟩ := hs.m
  obtain ⟨ap, cp, rfl, -, -⟩ := hs.p
  obtain ⟨ac, cc, rfl, -, -⟩ := hs.c
  obtain ⟨bm, dm, rfl, -, -⟩ := ht.m
  obtain ⟨bp, dp, rfl, -, -⟩ := ht.p
  obtain ⟨bc, dc, rfl, -, -⟩ := ht.c
  clear hs ht
  have hb0 : Below w.heap.size w ((w.alloc (.cells #[.int .i64 s.task, .int .i64 s.off, .int .i64 s.mark, .slice am s.marks.length cm, .slice ap s.panes.length cp, .slice ac s.outs.length cc] 27)).alloc (.cells #[.int .i64 t.task, .int .i64 t.off, .int .i64 t.mark, .slice bm t.marks.length dm, .slice bp t.panes.length dp, .slice bc t.outs.length dc] 27)) := ((Below.refl _ _).alloc (Nat.le_refl _) _).alloc (by simp) _
  have bx : BoxT 27 ((w.alloc (.cells #[.int .i64 s.task, .int .i64 s.off, .int .i64 s.mark, .slice am s.marks.length cm, .slice ap s.panes.length cp, .slice ac s.outs.length cc] 27)).alloc (.cells #[.int .i64 t.task, .int .i64 t.off, .int .i64 t.mark, .slice bm t.marks.length dm, .slice bp t.panes.length dp, .slice bc t.outs.length dc] 27)) w.heap.size _ := (BoxT.new 27 w _).alloc _
  have by_ : BoxT 27 ((w.alloc (.cells #[.int .i64 s.task, .int .i64 s.off, .int .i64 s.mark, .slice am s.marks.length cm, .slice ap s.panes.length cp, .slice ac s.outs.length cc] 27)).alloc (.cells #[.int .i64 t.task, .int .i64 t.off, .int .i64 t.mark, .slice bm t.marks.length dm, .slice bp t.panes.length dp, .slice bc t.outs.length dc] 27)) (w.heap.size + 1) _ := BoxT.new_at (by simp)
  obtain ⟨c0, c1, c2, c3, c4, c5⟩ := bx.cells6
  obtain ⟨d0, d1, d2, d3, d4, d5⟩ := by_.cells6
  have HBX := hideb bx
  have HBY := hideb by_
  clear bx by_
  by_cases g0 : s.task = t.task
  rotate_left
  · have e0 : (s.task == t.task) = false := by simp [g0]
    have hno : decide (s = t) = false := decide_eq_false fun h => g0 (by rw [h])
    rw [hno]
    clear hno HS HT HBX HBY
    go_enter Tryz.func26, Tryz.ntmps26
    go_wp2
    go_ret
    exact ⟨rfl, hb0⟩
  have e0 : (s.task == t.task) = true := by simp [g0]
  by_cases g1 : s.off = t.off
  rotate_left
  · have e1 : (s.off == t.off) = false := by simp [g1]
    have hno : decide (s = t) = false := decide_eq_false fun h => g1 (by rw [h])
    rw [hno]
    clear hno HS HT HBX HBY g0
    go_enter Tryz.func26, Tryz.ntmps26
    go_wp2
    go_ret
    exact ⟨rfl, hb0⟩
  have e1 : (s.off == t.off) = true := by simp [g1]
  by_cases g2 : s.mark = t.mark
  rotate_left
  · have e2 : (s.mark == t.mark) = false := by simp [g2]
    have hno : decide (s = t) = false := decide_eq_false fun h => g2 (by rw [h])
    rw [hno]
    clear hno HS HT HBX HBY g0 g1
    go_enter Tryz.func26, Tryz.ntmps26
    go_wp2
    go_ret
    exact ⟨rfl, hb0⟩
  have e2 : (s.mark == t.mark) = true := by simp [g2]
  have HM := Marks_any (.slice am s.marks.length cm) (.slice bm t.marks.length dm) s.marks t.marks _ ((HS.out.m.below hb0).mono hb0.size) ((HT.out.m.below hb0).mono hb0.size)
  have HD : Hid (decide (s = t) = (decide (s.marks = t.marks) && (decide (s.panes = t.panes) && decide (s.outs = t.outs)))) := by
    show _ = _
    obtain ⟨_, _, _, _, _, _⟩ := s
    obtain ⟨_, _, _, _, _, _⟩ := t
    simp only at g0 g1 g2
    subst g0 g1 g2
    simp
  rw [HD.out]
  clear HD g0 g1 g2
  rcases Bool.eq_false_or_eq_true (decide (s.marks = t.marks)) with hm | hm
  rotate_left
  · rw [hm] at HM ⊢
    clear hm HS HT HBX HBY
    go_enter Tryz.func26, Tryz.ntmps26
    go_wp2_with fail
    refine HM.mono ?_
    rintro e w1 ⟨rfl, hb⟩
    have hb0 := hb0.trans (hb.mono hb0.size)
    go_wp2
    go_ret
    exact ⟨rfl, hb0⟩
  rw [hm] at HM ⊢
  clear hm
  rcases Bool.eq_false_or_eq_true (decide (s.panes = t.panes)) with hp | hp
  rotate_left
  · rw [hp]
    have HP : Hid (decide (s.panes = t.panes) = false) := hp
    clear hp
    go_enter Tryz.func26, Tryz.ntmps26
    go_wp2_with fail
    refine HM.mono ?_
    rintro e w1 ⟨rfl, hb⟩
    clear HM c0 c1 c2 c3 c4 c5 d0 d1 d2 d3 d4 d5
    have bx := HBX.out.kept (base := 0) (Kept.of_below hb) (by decide)
    have by_ := HBY.out.kept (base := 0) (Kept.of_below hb) (by decide)
    obtain ⟨c0, c1, c2, c3, c4, c5⟩ := bx.cells6
    obtain ⟨d0, d1, d2, d3, d4, d5⟩ := by_.cells6
    have hb0 := hb0.trans (hb.mono hb0.size)
    have HPP := Panes_any (.slice ap s.panes.length cp) (.slice bp t.panes.length dp) s.panes t.panes w1 ((HS.out.p.below hb0).mono hb0.size) ((HT.out.p.below hb0).mono hb0.size)
    rw [HP.out] at HPP
    clear hb bx by_ HBX HBY HP HS HT
    go_wp2_with fail
    refine HPP.mono ?_
    rintro e w2 ⟨rfl, hb⟩
    have hb0 := hb0.trans (hb.mono hb0.size)
    go_wp2
    go_ret
    exact ⟨rfl, hb0⟩
  rw [hp]
  have HP : Hid (decide (s.panes = t.panes) = true) := hp
  clear hp
  generalize ho : decide (s.outs = t.outs) = o
  have HO : Hid (decide (s.outs = t.outs) = o) := ho
  clear ho
  go_enter Tryz.func26, Tryz.ntmps26
  go_wp2_with fail
  refine HM.mono ?_
  rintro e w1 ⟨rfl, hb⟩
  clear HM c0 c1 c2 c3 c4 c5 d0 d1 d2 d3 d4 d5
  have bx := HBX.out.kept (base := 0) (Kept.of_below hb) (by decide)
  have by_ := HBY.out.kept (base := 0) (Kept.of_below hb) (by decide)
  obtain ⟨c0, c1, c2, c3, c4, c5⟩ := bx.cells6
  obtain ⟨d0, d1, d2, d3, d4, d5⟩ := by_.cells6
  have hb0 := hb0.trans (hb.mono hb0.size)
  have HPP := Panes_any (.slice ap s.panes.length cp) (.slice bp t.panes.length dp) s.panes t.panes w1 ((HS.out.p.below hb0).mono hb0.size) ((HT.out.p.below hb0).mono hb0.size)
  rw [HP.out] at HPP
  have HBX := hideb bx
  have HBY := hideb by_
  clear hb bx by_ HP
  go_wp2_with fail
  refine HPP.mono ?_
  rintro e w2 ⟨rfl, hb⟩
  clear HPP c0 c1 c2 c3 c4 c5 d0 d1 d2 d3 d4 d5
  have bx := HBX.out.kept (base := 0) (Kept.of_below hb) (by decide)
  have by_ := HBY.out.kept (base := 0) (Kept.of_below hb) (by decide)
  obtain ⟨c0, c1, c2, c3, c4, c5⟩ := bx.cells6
  obtain ⟨d0, d1, d2, d3, d4, d5⟩ := by_.cells6
  have hb0 := hb0.trans (hb.mono hb0.size)
  have HOO := Outs_any (.slice ac s.outs.length cc) (.slice bc t.outs.length dc) s.outs t.outs w2 ((HS.out.c.below hb0).mono hb0.size) ((HT.out.c.below hb0).mono hb0.size)
  rw [HO.out] at HOO
  clear hb bx by_ HO HBX HBY HS HT
  go_wp2_with fail
  refine HOO.mono ?_
  rintro e w3 ⟨rfl, hb⟩
  have hb0 := hb0.trans (hb.mono hb0.size)
  clear HOO
  go_wp2
  go_ret
  exact ⟨by simp, hb0⟩

/-- A part that is looked at. -/
def Sn.light (s : Sn) : Bool := decide (s.marks.length ≤ 300) && ((decide (s.panes.length ≤ 300) || (decide (4096 < s.panes.length) && decide (s.panes.length < 4105))) && (decide (s.outs.length ≤ 300) || (decide (4096 < s.outs.length) && decide (s.outs.length < 4105))))

end Go.Proofs.YtbfhcbihgleddaaGreatDoor
