/-
  Texts of the vault, in build order: HelpS, Fine.
-/
import Derived.Test.YtbfhcbihgleddaaGreatDoorM16
import Derived.Test.YtbfhcbihgleddaaGreatDoorM08
import Derived.Test.YtbfhcbihgleddaaGreatDoorM03
/-
  Walks over the helps of the laws: parts held against one another; parts that are looked at.
-/
namespace Go.Proofs.YtbfhcbihgleddaaGreatDoor
open Go.RowKit

def decSn : DecidableEq Sn := fun a b =>
  have _i := decPn
  have _j := decOt
  decidable_of_iff (a.task = b.task ∧ a.off = b.off ∧ a.mark = b.mark ∧ a.marks = b.marks ∧ a.panes = b.panes ∧ a.outs = b.outs) (by cases a; cases b; simp)

set_option maxHeartbeats 2000000 in
set_option maxRecDepth 100000 in
theorem helpSnap_any [DecidableEq Pn] [DecidableEq Ot] [DecidableEq Sn] (s t : Sn) (vm vp vc um up uc : Value) (w : World) (hs : SnSeg w.heap.size w vm vp vc s) (ht : SnSeg w.heap.size w um up uc t) :
    Calls Tryz.prog 26 #[.agg #[.int .i64 s.task, .int .i64 s.off, .int .i64 s.mark, vm, vp, vc], .agg #[.int .i64 t.task, .int .i64 t.off, .int .i64 t.mark, um, up, uc]] w fun e w' => e = .returned (.bool (decide (s = t))) ∧ Below w.heap.size w w' := by
  have HS : Hid (SnSeg w.heap.size w vm vp vc s) := hs
  have HT : Hid (SnSeg w.heap.size w um up uc t) := ht
  obtain ⟨am, cm, rfl, -, -⟩ := hs.m
  obtain ⟨ap, cp, rfl, -, -⟩ := hs.p
  obtain ⟨ac, cc, rfl, -, -⟩ := hs.c
  obtain ⟨bm, dm, rfl, -, -⟩ := ht.m
  obtain ⟨bp, dp, rfl, -, -⟩ := ht.p
  obtain ⟨bc, dc, rfl, -, -⟩ := ht.c
  clear hs ht
  have hb0 : Below w.heap.size w ((w.alloc (.cells #[.int .i64 s.task, .int .i64 s.off, .int .i64 s.mark, .slice am s.marks.length cm, .slice ap s.panes.length cp, .slice ac s.outs.length cc] 27)).alloc (.cells #[.int .i64 t.task, .int .i64 t.off, .int .i64 t.mark, .slice bm t.marks.length dm, .slice bp t.panes.length dp, .slice bc t.outs.length dc] 27)) := ((Below.refl _ _).alloc (Nat.le_refl _) _).alloc (by simp) _
  have bx : BoxT 27 ((w.alloc (.cells #[.int .i64 s.task, .int .i64 s.off, .int .i64 s.mark, .slice am s.marks.length cm, .slice ap s.panes.length cp, .slice ac s.outs.length cc] 27)).alloc (.cells #[.int .i64 t.task, .int .i64 t.off, .int .i64 t.mark, .slice bm t.marks.length dm, .slice bp t.panes.length dp, .slice bc t.outs.length dc] 27)) w.heap.size _ := (BoxT.new 27 w _).alloc _
  have by_ : BoxT 27 ((w.alloc (.cells #[.int .i64 s.task, .int .i64 s.off, .int .i64 s.mark, .slice am s.marks.length cm, .slice ap s.panes.length cp, .slice ac s.outs.length cc] 27)).alloc (.cells #[.int .i64 t.task, .int .i64 t.off, .int .i64 t.mark, .slice bm t.marks.length dm, .slice bp t.panes.length dp, .slice bc t.outs.length dc] 27)) (w.heap.size + 1) _ := BoxT.new_at (by simp)
  obtain ⟨c0, c1, c2, c3, c4, c5⟩ := bx.cells6
  obtain ⟨d0, d1, d2, d3, d4, d5⟩ := by_.cells6
  have HBX := hideb bx
  have HBY := hideb by_
  clear bx by_
  by_cases g0 : s.task = t.task
  rotate_left
  · have e0 : (s.task == t.task) = false := by simp [g0]
    have hno : decide (s = t) = false := decide_eq_false fun h => g0 (by rw [h])
    rw [hno]
    clear hno HS HT HBX HBY
    go_enter Tryz.func26, Tryz.ntmps26
    go_wp2
    go_ret
    exact ⟨rfl, hb0⟩
  have e0 : (s.task == t.task) = true := by simp [g0]
  by_cases g1 : s.off = t.off
  rotate_left
  · have e1 : (s.off == t.off) = false := by simp [g1]
    have hno : decide (s = t) = false := decide_eq_false fun h => g1 (by rw [h])
    rw [hno]
    clear hno HS HT HBX HBY g0
    go_enter Tryz.func26, Tryz.ntmps26
    go_wp2
    go_ret
    exact ⟨rfl, hb0⟩
  have e1 : (s.off == t.off) = true := by simp [g1]
  by_cases g2 : s.mark = t.mark
  rotate_left
  · have e2 : (s.mark == t.mark) = false := by simp [g2]
    have hno : decide (s = t) = false := decide_eq_false fun h => g2 (by rw [h])
    rw [hno]
    clear hno HS HT HBX HBY g0 g1
    go_enter Tryz.func26, Tryz.ntmps26
    go_wp2
    go_ret
    exact ⟨rfl, hb0⟩
  have e2 : (s.mark == t.mark) = true := by simp [g2]
  have HM := Marks_any (.slice am s.marks.length cm) (.slice bm t.marks.length dm) s.marks t.marks _ ((HS.out.m.below hb0).mono hb0.size) ((HT.out.m.below hb0).mono hb0.size)
  have HD : Hid (decide (s = t) = (decide (s.marks = t.marks) && (decide (s.panes = t.panes) && decide (s.outs = t.outs)))) := by
    show _ = _
    obtain ⟨_, _, _, _, _, _⟩ := s
    obtain ⟨_, _, _, _, _, _⟩ := t
    simp only at g0 g1 g2
    subst g0 g1 g2
    simp
  rw [HD.out]
  clear HD g0 g1 g2
  rcases Bool.eq_false_or_eq_true (decide (s.marks = t.marks)) with hm | hm
  rotate_left
  · rw [hm] at HM ⊢
    clear hm HS HT HBX HBY
    go_enter Tryz.func26, Tryz.ntmps26
    go_wp2_with fail
    refine HM.mono ?_
    rintro e w1 ⟨rfl, hb⟩
    have hb0 := hb0.trans (hb.mono hb0.size)
    go_wp2
    go_ret
    exact ⟨rfl, hb0⟩
  rw [hm] at HM ⊢
  clear hm
  rcases Bool.eq_false_or_eq_true (decide (s.panes = t.panes)) with hp | hp
  rotate_left
  · rw [hp]
    have HP : Hid (decide (s.panes = t.panes) = false) := hp
    clear hp
    go_enter Tryz.func26, Tryz.ntmps26
    go_wp2_with fail
    refine HM.mono ?_
    rintro e w1 ⟨rfl, hb⟩
    clear HM c0 c1 c2 c3 c4 c5 d0 d1 d2 d3 d4 d5
    have bx := HBX.out.kept (base := 0) (Kept.of_below hb) (by decide)
    have by_ := HBY.out.kept (base := 0) (Kept.of_below hb) (by decide)
    obtain ⟨c0, c1, c2, c3, c4, c5⟩ := bx.cells6
    obtain ⟨d0, d1, d2, d3, d4, d5⟩ := by_.cells6
    have hb0 := hb0.trans (hb.mono hb0.size)
    have HPP := Panes_any (.slice ap s.panes.length cp) (.slice bp t.panes.length dp) s.panes t.panes w1 ((HS.out.p.below hb0).mono hb0.size) ((HT.out.p.below hb0).mono hb0.size)
    rw [HP.out] at HPP
    clear hb bx by_ HBX HBY HP HS HT
    go_wp2_with fail
    refine HPP.mono ?_
    rintro e w2 ⟨rfl, hb⟩
    have hb0 := hb0.trans (hb.mono hb0.size)
    go_wp2
    go_ret
    exact ⟨rfl, hb0⟩
  rw [hp]
  have HP : Hid (decide (s.panes = t.panes) = true) := hp
  clear hp
  generalize ho : decide (s.outs = t.outs) = o
  have HO : Hid (decide (s.outs = t.outs) = o) := ho
  clear ho
  go_enter Tryz.func26, Tryz.ntmps26
  go_wp2_with fail
  refine HM.mono ?_
  rintro e w1 ⟨rfl, hb⟩
  clear HM c0 c1 c2 c3 c4 c5 d0 d1 d2 d3 d4 d5
  have bx := HBX.out.kept (base := 0) (Kept.of_below hb) (by decide)
  have by_ := HBY.out.kept (base := 0) (Kept.of_below hb) (by decide)
  obtain ⟨c0, c1, c2, c3, c4, c5⟩ := bx.cells6
  obtain ⟨d0, d1, d2, d3, d4, d5⟩ := by_.cells6
  have hb0 := hb0.trans (hb.mono hb0.size)
  have HPP := Panes_any (.slice ap s.panes.length cp) (.slice bp t.panes.length dp) s.panes t.panes w1 ((HS.out.p.below hb0).mono hb0.size) ((HT.out.p.below hb0).mono hb0.size)
  rw [HP.out] at HPP
  have HBX := hideb bx
  have HBY := hideb by_
  clear hb bx by_ HP
  go_wp2_with fail
  refine HPP.mono ?_
  rintro e w2 ⟨rfl, hb⟩
  clear HPP c0 c1 c2 c3 c4 c5 d0 d1 d2 d3 d4 d5
  have bx := HBX.out.kept (base := 0) (Kept.of_below hb) (by decide)
  have by_ := HBY.out.kept (base := 0) (Kept.of_below hb) (by decide)
  obtain ⟨c0, c1, c2, c3, c4, c5⟩ := bx.cells6
  obtain ⟨d0, d1, d2, d3, d4, d5⟩ := by_.cells6
  have hb0 := hb0.trans (hb.mono hb0.size)
  have HOO := Outs_any (.slice ac s.outs.length cc) (.slice bc t.outs.length dc) s.outs t.outs w2 ((HS.out.c.below hb0).mono hb0.size) ((HT.out.c.below hb0).mono hb0.size)
  rw [HO.out] at HOO
  clear hb bx by_ HO HBX HBY HS HT
  go_wp2_with fail
  refine HOO.mono ?_
  rintro e w3 ⟨rfl, hb⟩
  have hb0 := hb0.trans (hb.mono hb0.size)
  clear HOO
  go_wp2
  go_ret
  exact ⟨by simp, hb0⟩

/-- A part that is looked at. -/
def Sn.light (s : Sn) : Bool := decide (s.marks.length ≤ 300) && ((decide (s.panes.length ≤ 300) || (decide (4096 < s.panes.length) && decide (s.panes.length < 4105))) && (decide (s.outs.length ≤ 300) || (decide (4096 < s.outs.length) && decide (s.outs.length < 4105))))

end Go.Proofs.YtbfhcbihgleddaaGreatDoor
/-
  A finer contract of the document's Put: one other block stays as it was.
-/
namespace Go.Proofs.YtbfhcbihgleddaaGreatDoor
open Go.RowKit

/-- append of one byte: the row is the one that it was, or a new one. -/
theorem app_fine {w : World} {ops : Array Oper} {rest : List Oper} {o : Oper} {a : Act} {Q : Exit → Act → World → Prop} (hgd : o.guard = none) (s x : Operand)
    (ho : o.op = .call { callee := .builtin .append, args := #[s, x], argTypes := #[22, 22] }) (base : Nat) (v : Value) (l : List Nat) (hs : a.eval s = v) (hown : Own base w v l)
    (ad : Addr) (y : Nat) (hx : a.eval x = .slice (some ad) 1 1) (hnews : w.cell? (ad.add 0) = some (.int .u8 (y : Int)))
    (hl : l.length ≤ 10000000000) (hbase : base ≤ w.heap.size)
    (h : ∀ v' w', Own base w' v' (l ++ [y]) → w.grownBy w' v.ownBlock → (∀ k, v'.ownBlock = some k → v.ownBlock = some k ∨ w.heap.size ≤ k) → wpList Tryz.prog ops Q rest (a.put o.dst v') w') : wpList Tryz.prog ops Q (o :: rest) a w := by
  obtain ⟨i0, hi, hz0, hz1, hz2⟩ := info_parts Tryz.info5
  have hc : ∀ (j : Nat) (u : Value), [Value.int .u8 (y : Int)][j]? = some u → w.cell? (ad.add j) = some u := by
    intro j u hj
    match j, hj with
    | 0, hj => simp at hj; subst hj; exact hnews
  have h1c : ∀ u ∈ [Value.int .u8 (y : Int)], u.oneCell' = true := by intro u hu; simp at hu; subst hu; rfl
  have hown0 := hown
  have out : ∀ (b : Nat) (v' : Value) (w' : World), base ≤ b → w'.ownsRow b 5 1 v' (l.length + 1) (bs l ++ [.int .u8 (y : Int)]) → Own base w' v' (l ++ [y]) := by
    intro b v' w' hb h1
    have h2 : Own b w' v' (l ++ [y]) := by
      show w'.ownsRow b 5 1 v' (l ++ [y]).length (bs (l ++ [y]))
      rw [List.length_append, bs_append]; exact h1
    exact h2.mono hb
  rcases hown.2 with ⟨rfl, h0⟩ | ⟨g, cap, cur, rfl, h2, h3, h4, h5, _⟩
  · have hl0 : l = [] := List.length_eq_zero_iff.1 h0
    subst hl0
    refine wpList_append_grows w hgd s x 22 ho 5 i0 (.int .u8 0) 1 1 Tryz.underlying22 hi hz0 hz1 hz2 rfl (by decide) none 0 0 [] hs (fun _ => ⟨rfl, rfl⟩) rfl (fun b hb => by cases hb) ad 1 1 [.int .u8 (y : Int)] hx rfl hc h1c (by omega) (by unfold maxLen; omega) (by omega) ?_
    intro v' w' h1 h2
    exact h v' w' (out _ v' w' hbase h1) h2 (fun k hk => .inr (World.ownsRow.lt h1 k hk).1)
  · by_cases hroom : l.length + 1 ≤ cap
    · refine wpList_append_fits w hgd s x 22 ho base 5 i0 1 Tryz.underlying22 hi hz1 g l.length cap (bs l) hs hown0 ad 1 1 [.int .u8 (y : Int)] hx rfl hc h1c hroom ?_
      intro w' h1 h2
      exact h _ w' (out base _ w' (Nat.le_refl _) h1) h2 (fun k hk => .inl hk)
    · refine wpList_append_grows w hgd s x 22 ho 5 i0 (.int .u8 0) 1 1 Tryz.underlying22 hi hz0 hz1 hz2 rfl (by decide) (some ⟨g, 0, none⟩) l.length cap (bs l) hs (fun e => by cases e) (by simp [bs]) (fun b hb => by cases hb; exact World.ownsRow.cells hown0 rfl) ad 1 1 [.int .u8 (y : Int)] hx rfl hc h1c (by omega) (by unfold maxLen; omega) (by omega) ?_
      intro v' w' h1 h2
      refine h v' w' (out _ v' w' hbase h1) ⟨h2.os, h2.tape, h2.output, h2.size, fun k hk _ => h2.block k hk (by simp)⟩ (fun k hk => .inr (World.ownsRow.lt h1 k hk).1)

/-- What Put leaves as it was: all below base, all that is no row of bytes, and block x. -/
structure KeptX (base x : Nat) (w w' : World) (v' : Value) : Prop where
  k : Kept base w w'
  b : w'.heap[x]? = w.heap[x]?
  n : v'.ownBlock ≠ some x

set_option maxHeartbeats 1000000 in
set_option maxRecDepth 100000 in
theorem put_fine (base x : Nat) (v : Value) (l : List Nat) (size n : Nat) (w : World) (hs : size ≤ 8) (hl : l.length ≤ 1000000000) (hb : base ≤ w.heap.size) (hown : Own base w v l) (hx : x < w.heap.size) (hne : Hid (v.ownBlock ≠ some x)) :
    Calls Tryz.prog 104 #[v, .int .i64 size, .int .u64 n] w fun e w' => ∃ v', e = .returned v' ∧ Own base w' v' (l ++ be size n) ∧ KeptX base x w w' v' := by
  go_enter Tryz.func104, Tryz.ntmps104
  go_wp2
  go_loopw [0, 7] (fun v i wr => ∃ k : Nat, k ≤ size ∧ i = .int .i64 ((size : Int) - 1 - k) ∧ Own base wr v (l ++ (be size n).take k) ∧ KeptX base x w wr v) (fun _ i _ => (intOf i + 1).toNat)
  case atStart => exact ⟨0, Nat.zero_le _, by simp, by simpa using hown, ⟨Kept.refl _ _, rfl, hne.out⟩⟩
  case round =>
    obtain ⟨k, hk, rfl, hown, hkept⟩ := hrel
    have hkl : ((be size n).take k).length ≤ 8 := by rw [List.length_take, be_length]; omega
    have hsz := hkept.k.size
    have HKX : Hid (KeptX base x w wr _) := hkept
    clear hkept
    by_cases hlt : k < size
    · go_wp2_with (at_builtin; (rw [cast_byte]); refine app_fine rfl _ _ rfl base _ _ rfl (hown.alloc _) ⟨wr.heap.size, 0, none⟩ (n / 2 ^ (8 * (size - 1 - k)) % 256) rfl (one_cell _ _ 0 (by simp)) ?c1 ?c2 ?_)
      case c1 => simp only [List.length_append]; omega
      case c2 => simp; omega
      intro v' w1 hown' hg hown2
      have hk1 : Kept base wr w1 := ((Kept.refl _ _).alloc _).trans (Kept.of_grown (hown.alloc _) hg)
      have HK2 : Hid (KeptX base x w w1 v') := by
        refine ⟨HKX.out.k.trans hk1, ?_, ?_⟩
        · rw [hg.block x (by simp; omega) (fun e => HKX.out.n e.symm), Below.heap_alloc wr _ x (by omega), HKX.out.b]
        · intro e
          rcases hown2 x e with h | h
          · exact HKX.out.n h
          · first | omega | (simp at h; omega)
      clear hg hown2 hk1
      go_wp2
      go_roundw
      case rel => exact ⟨k + 1, by omega, by go_num, by rw [be_take size n k hlt]; simpa using hown', HK2.out⟩
      case measure => simp [intOf]; omega
    · go_wp2
      go_ret
      have : k = size := by omega
      subst this
      rw [List.take_of_length_le (by rw [be_length]; omega)] at hown
      exact ⟨_, rfl, hown, HKX.out⟩
end Go.Proofs.YtbfhcbihgleddaaGreatDoor
