/-
  Texts of the vault, in build order: HelpS.
-/
import Derived.Test.YtbfhcbihgleddaaGreatDoorM13
import Derived.Test.YtbfhcbihgleddaaGreatDoorM09
/-
  Walks over the helps of the laws: parts held against one another; parts that are looked at.
-/
namespace Go.Proofs.YtbfhcbihgleddaaGreatDoor
open Go.RowKit

def decSn : DecidableEq Sn := fun a b =>
  have _i := decPn
  have _j := decOt
  decidable_of_iff (a.task = b.task ∧ a.off = b.off ∧ a.mark = b.mark ∧ a.marks = b.marks ∧ a.panes = b.panes ∧ a.outs = b.outs) (by cases a; cases b; simp)

set_option maxHeartbeats 2000000 in
set_option maxRecDepth 100000 in
theorem helpSnap_any [DecidableEq Pn] [DecidableEq Ot] [DecidableEq Sn] (s t : Sn) (vm vp vc um up uc : Value) (w : World) (hs : SnSeg w.heap.size w vm vp vc s) (ht : SnSeg w.heap.size w um up uc t) :
    Calls Tryz.prog 26 #[.agg #[.int .i64 s.task, .int .i64 s.off, .int .i64 s.mark, vm, vp, vc], .agg #[.int .i64 t.task, .int .i64 t.off, .int .i64 t.mark, um, up, uc]] w fun e w' => e = .returned (.bool (decide (s = t))) ∧ Below w.heap.size w w' := by
  have HS : Hid (SnSeg w.heap.size w vm vp vc s) := hs
  have HT : Hid (SnSeg w.heap.size w um up uc t) := ht
  obtain ⟨am, cm, rfl, -, -⟩ := hs.m
  obtain ⟨ap, cp, rfl, -, -⟩ := hs.p
  obtain ⟨ac, cc, rfl, -, -⟩ := hs.c
  obtain ⟨bm, dm, rfl, -, -⟩ := ht.m
  obtain ⟨bp, dp, rfl, -, -⟩ := ht.p
  obtain ⟨bc, dc, rfl, -, -⟩ := ht.c
  clear hs ht
  have hb0 : Below w.heap.size w ((w.alloc (.cells #[.int .i64 s.task, .int .i64 s.off, .int .i64 s.mark, .slice am s.marks.length cm, .slice ap s.panes.length cp, .slice ac s.outs.length cc] 27)).alloc (.cells #[.int .i64 t.task, .int .i64 t.off, .int .i64 t.mark, .slice bm t.marks.length dm, .slice bp t.panes.length dp, .slice bc t.outs.length dc] 27)) := ((Below.refl _ _).alloc (Nat.le_refl _) _).alloc (by simp) _
  have bx : BoxT 27 ((w.alloc (.cells #[.int .i64 s.task, .int .i64 s.off, .int .i64 s.mark, .slice am s.marks.length cm, .slice ap s.panes.length cp, .slice ac s.outs.length cc] 27)).alloc (.cells #[.int .i64 t.task, .int .i64 t.off, .int .i64 t.mark, .slice bm t.marks.length dm, .slice bp t.panes.length dp, .slice bc t.outs.length dc] 27)) w.heap.size _ := (BoxT.new 27 w _).alloc _
  have by_ : BoxT 27 ((w.alloc (.cells #[.int .i64 s.task, .int .i64 s.off, .int .i64 s.mark, .slice am s.marks.length cm, .slice ap s.panes.length cp, .slice ac s.outs.length cc] 27)).alloc (.cells #[.int .i64 t.task, .int .i64 t.off, .int .i64 t.mark, .slice bm t.marks.length dm, .slice bp t.panes.length dp, .slice bc t.outs.length dc] 27)) (w.heap.size + 1) _ := BoxT.new_at (by simp)
  obtain ⟨c0, c1, c2, c3, c4, c5⟩ := bx.cells6
  obtain ⟨d0, d1, d2, d3, d4, d5⟩ := by_.cells6
  have HBX := hideb bx
  have HBY := hideb by_
  clear bx by_
  by_cases g0 : s.task = t.task
  rotate_left
  · have e0 : (s.task == t.task) = false := by simp [g0]
    have hno : decide (s = t) = false := decide_eq_false fun h => g0 (by rw [h])
    rw [hno]
    clear hno HS HT HBX HBY
    go_enter Tryz.func26, Tryz.ntmps26
    go_wp2
    go_ret
    exact ⟨rfl, hb0⟩
  have e0 : (s.task == t.task) = true := by simp [g0]
  by_cases g1 : s.off = t.off
  rotate_left
  · have e1 : (s.off == t.off) = false := by simp [g1]
    have hno : decide (s = t) = false := decide_eq_false fun h => g1 (by rw [h])
    rw [hno]
    clear hno HS HT HBX HBY g0
    go_enter Tryz.func26, Tryz.ntmps26
    go_wp2
    go_ret
    exact ⟨rfl, hb0⟩
  have e1 : (s.off == t.off) = true := by simp [g1]
  by_cases g2 : s.mark = t.mark
  rotate_left
  · have e2 : (s.mark == t.mark) = false := by simp [g2]
    have hno : decide (s = t) = false := decide_eq_false fun h => g2 (by rw [h])
    rw [hno]
    clear hno HS HT HBX HBY g0 g1
    go_enter Tryz.func26, Tryz.ntmps26
    go_wp2
    go_ret
    exact ⟨rfl, hb0⟩
  have e2 : (s.mark == t.mark) = true := by simp [g2]
  have HM := Marks_any (.slice am s.marks.length cm) (.slice bm t.marks.length dm) s.marks t.marks _ ((HS.out.m.below hb0).mono hb0.size) ((HT.out.m.below hb0).mono hb0.size)
  have HD : Hid (decide (s = t) = (decide (s.marks = t.marks) && (decide (s.panes = t.panes) && decide (s.outs = t.outs)))) := by
    show _ = _
    obtain ⟨_, _, _, _, _, _⟩ := s
    obtain ⟨_, _, _, _, _, _⟩ := t
    simp only at g0 g1 g2
    subst g0 g1 g2
    simp
  rw [HD.out]
  clear HD g0 g1 g2
  rcases Bool.eq_false_or_eq_true (decide (s.marks = t.marks)) with hm | hm
  rotate_left
  · rw [hm] at HM ⊢
    clear hm HS HT HBX HBY
    go_enter Tryz.func26, Tryz.ntmps26
    go_wp2_with fail
    refine HM.mono ?_
    rintro e w1 ⟨rfl, hb⟩
    have hb0 := hb0.trans (hb.mono hb0.size)
    go_wp2
    go_ret
    exact ⟨rfl, hb0⟩
  rw [hm] at HM ⊢
  clear hm
  rcases Bool.eq_false_or_eq_true (decide (s.panes = t.panes)) with hp | hp
  rotate_left
  · rw [hp]
    have HP : Hid (decide (s.panes = t.panes) = false) := hp
    clear hp
    go_enter Tryz.func26, Tryz.ntmps26
    go_wp2_with fail
    refine HM.mono ?_
    rintro e w1 ⟨rfl, hb⟩
    clear HM c0 c1 c2 c3 c4 c5 d0 d1 d2 d3 d4 d5
    have bx := HBX.out.kept (base := 0) (Kept.of_below hb) (by decide)
    have by_ := HBY.out.kept (base := 0) (Kept.of_below hb) (by decide)
    obtain ⟨c0, c1, c2, c3, c4, c5⟩ := bx.cells6
    obtain ⟨d0, d1, d2, d3, d4, d5⟩ := by_.cells6
    have hb0 := hb0.trans (hb.mono hb0.size)
    have HPP := Panes_any (.slice ap s.panes.length cp) (.slice bp t.panes.length dp) s.panes t.panes w1 ((HS.out.p.below hb0).mono hb0.size) ((HT.out.p.below hb0).mono hb0.size)
    rw [HP.out] at HPP
    clear hb bx by_ HBX HBY HP HS HT
    go_wp2_with fail
    refine HPP.mono ?_
    rintro e w2 ⟨rfl, hb⟩
    have hb0 := hb0.trans (hb.mono hb0.size)
    go_wp2
    go_ret
    exact ⟨rfl, hb0⟩
  rw [hp]
  have HP : Hid (decide (s.panes = t.panes) = true) := hp
  clear hp
  generalize ho : decide (s.outs = t.outs) = o
  have HO : Hid (decide (s.outs = t.outs) = o) := ho
  clear ho
  go_enter Tryz.func26, Tryz.ntmps26
  go_wp2_with fail
  refine HM.mono ?_
  rintro e w1 ⟨rfl, hb⟩
  clear HM c0 c1 c2 c3 c4 c5 d0 d1 d2 d3 d4 d5
  have bx := HBX.out.kept (base := 0) (Kept.of_below hb) (by decide)
  have by_ := HBY.out.kept (base := 0) (Kept.of_below hb) (by decide)
  obtain ⟨c0, c1, c2, c3, c4, c5⟩ := bx.cells6
  obtain ⟨d0, d1, d2, d3, d4, d5⟩ := by_.cells6
  have hb0 := hb0.trans (hb.mono hb0.size)
  have HPP := Panes_any (.slice ap s.panes.length cp) (.slice bp t.panes.length dp) s.panes t.panes w1 ((HS.out.p.below hb0).mono hb0.size) ((HT.out.p.below hb0).mono hb0.size)
  rw [HP.out] at HPP
  have HBX := hideb bx
  have HBY := hideb by_
  clear hb bx by_ HP
  go_wp2_with fail
  refine HPP.mono ?_
  rintro e w2 ⟨rfl, hb⟩
  clear HPP c0 c1 c2 c3 c4 c5 d0 d1 d2 d3 d4 d5
  have bx := HBX.out.kept (base := 0) (Kept.of_below hb) (by decide)
  have by_ := HBY.out.kept (base := 0) (Kept.of_below hb) (by decide)
  obtain ⟨c0, c1, c2, c3, c4, c5⟩ := bx.cells6
  obtain ⟨d0, d1, d2, d3, d4, d5⟩ := by_.cells6
  have hb0 := hb0.trans (hb.mono hb0.size)
  have HOO := Outs_any (.slice ac s.outs.length cc) (.slice bc t.outs.length dc) s.outs t.outs w2 ((HS.out.c.below hb0).mono hb0.size) ((HT.out.c.below hb0).mono hb0.size)
  rw [HO.out] at HOO
  clear hb bx by_ HO HBX HBY HS HT
  go_wp2_with fail
  refine HOO.mono ?_
  rintro e w3 ⟨rfl, hb⟩
  have hb0 := hb0.trans (hb.mono hb0.size)
  clear HOO
  go_wp2
  go_ret
  exact ⟨by simp, hb0⟩

/-- A part that is looked at. -/
def Sn.light (s : Sn) : Bool := decide (s.marks.length ≤ 300) && ((decide (s.panes.length ≤ 300) || (decide (4096 < s.panes.length) && decide (s.panes.length < 4105))) && (decide (s.outs.length ≤ 300) || (decide (4096 < s.outs.length) && decide (s.outs.length < 4105))))

end Go.Proofs.YtbfhcbihgleddaaGreatDoor
