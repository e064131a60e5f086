/-
  Texts of the vault, in build order: OpenSnap, Help.
-/
import Derived.Test.YtbfhcbihgleddaaGreatDoorM15
import Derived.Test.YtbfhcbihgleddaaGreatDoorM10
import Derived.Test.YtbfhcbihgleddaaGreatDoorM04
import Derived.Test.YtbfhcbihgleddaaGreatDoorM01
/-
  Walks over package codec's readers of snapshots: the whole.
-/
namespace Go.Proofs.YtbfhcbihgleddaaGreatDoor
open Go.RowKit

/-- What OpenSnap tells: the part s, and er. -/
def OSPost (w : World) (s : Sn) (er : Int) (e : Ending) (w' : World) : Prop :=
  ∃ vm vp vc, e = .returned (.tuple #[.agg #[.int .i64 s.task, .int .i64 s.off, .int .i64 s.mark, vm, vp, vc], .int .i64 er]) ∧ OwnSn w.heap.size w' vm vp vc s ∧ Below w.heap.size w w'
theorem OSPost.mk {w w' : World} {s : Sn} {er : Int} {vm vp vc : Value} (ho : OwnSn w.heap.size w' vm vp vc s) (hb : Below w.heap.size w w') : OSPost w s er (.returned (.tuple #[.agg #[.int .i64 s.task, .int .i64 s.off, .int .i64 s.mark, vm, vp, vc], .int .i64 er])) w' := ⟨_, _, _, rfl, ho, hb⟩
def oSn (p : Sn × (List Nat × Bool)) : Sn := if done p.2 then p.1 else Sn.nil
def oEr (p : Sn × (List Nat × Bool)) : Int := if done p.2 then 0 else 10

set_option maxHeartbeats 4000000 in
set_option maxRecDepth 100000 in
theorem readAllS_no (v : Value) (l : List Nat) (w : World) (h : Seg w v l) (hb : Byts l) (hno : Hid (done (rSnap (l, false)).2 = false)) :
    Calls Tryz.prog 113 #[v, .func (.func 114) #[] #[]] w (OSPost w Sn.nil 10) := by
  have hrf := fun o => readSnap_any (RdS.start_at (k := w.heap.size + 1) (by simp) (h.alloc o) hb)
  obtain ⟨ao, cap, rfl, h2, h3, h3', h4⟩ := h
  generalize rSnap (l, false) = p at *
  obtain ⟨⟨ta, off, mark, ms, ps, os⟩, s1, bad⟩ := p
  simp only at *
  have HR := hrf
  clear h4 hrf
  cases bad
  · rcases s1 with _ | ⟨x, s1⟩
    · exact absurd hno.out (by simp [done])
    · clear hno
      go_enter Tryz.func113, Tryz.ntmps113
      go_wp2_with fail
      refine (HR _).mono ?_
      rintro e w1 ⟨vm, vp, vc, rfl, ho1, hr, hg⟩
      clear HR
      obtain ⟨am, cm, hvm⟩ := ho1.m.shape
      obtain ⟨ap, cp, hvp⟩ := ho1.p.shape
      obtain ⟨ac, cc, hvc⟩ := ho1.c.shape
      rw [hvm, hvp, hvc]
      clear hvm hvp hvc ho1
      simp only at *
      obtain ⟨ao', cap', r0, r1, rf⟩ := hr.cells
      have bA := (((BoxT.new 27 w _).alloc (.cells #[.slice ao l.length cap, .bool false] 177) |>.grown hg (by omega)).alloc (.cells #[.int .i64 ta, .int .i64 off, .int .i64 mark, .slice am ms.length cm, .slice ap ps.length cp, .slice ac os.length cc] 27)).alloc (.cells #[.int .i64 0, .int .i64 0, .int .i64 0, .slice none 0 0, .slice none 0 0, .slice none 0 0] 27)
      have hbel := Below.trans (((Below.refl w.heap.size w).alloc (Nat.le_refl _) _).alloc (by simp) _) (Below.of_grown hg (B := w.heap.size) (by omega) (by simp; omega))
      obtain ⟨d0, d1, d2, d3, d4, d5⟩ := bA.cells6
      have fa := bA.free
      have hz := hbel.size
      have hR := hr.lt
      have hpos : (0 : Int) < (s1.length : Int) + 1 := by omega
      clear hg
      go_wp2
      have hx := bA.setAll (j := 0) [.int .i64 0, .int .i64 0, .int .i64 0, .slice none 0 0, .slice none 0 0, .slice none 0 0]
      have hW := below_setAll (Nat.le_refl w.heap.size) (j := 0) [.int .i64 0, .int .i64 0, .int .i64 0, .slice none 0 0, .slice none 0 0, .slice none 0 0] ((hbel.alloc (by omega) (.cells #[.int .i64 ta, .int .i64 off, .int .i64 mark, .slice am ms.length cm, .slice ap ps.length cp, .slice ac os.length cc] 27)).alloc (by simp; omega) (.cells #[.int .i64 0, .int .i64 0, .int .i64 0, .slice none 0 0, .slice none 0 0, .slice none 0 0] 27))
      simp only [setAll, Nat.reduceAdd] at hx hW
      obtain ⟨x0, x1, x2, x3, x4, x5⟩ := BoxT.cells6 hx
      exact bodyPost_ret (v := .tuple #[.agg #[.int .i64 0, .int .i64 0, .int .i64 0, .slice none 0 0, .slice none 0 0, .slice none 0 0], .int .i64 10]) (by simp [results, Tryz.results113, go_sem, x0, x1, x2, x3, x4, x5]) rfl (OSPost.mk (OwnSn.nil _ _) hW)
  · clear hno
    go_enter Tryz.func113, Tryz.ntmps113
    go_wp2_with fail
    refine (HR _).mono ?_
    rintro e w1 ⟨vm, vp, vc, rfl, ho1, hr, hg⟩
    clear HR
    obtain ⟨am, cm, hvm⟩ := ho1.m.shape
    obtain ⟨ap, cp, hvp⟩ := ho1.p.shape
    obtain ⟨ac, cc, hvc⟩ := ho1.c.shape
    rw [hvm, hvp, hvc]
    clear hvm hvp hvc ho1
    simp only at *
    obtain ⟨ao', cap', r0, r1, rf⟩ := hr.cells
    have bA := (((BoxT.new 27 w _).alloc (.cells #[.slice ao l.length cap, .bool false] 177) |>.grown hg (by omega)).alloc (.cells #[.int .i64 ta, .int .i64 off, .int .i64 mark, .slice am ms.length cm, .slice ap ps.length cp, .slice ac os.length cc] 27)).alloc (.cells #[.int .i64 0, .int .i64 0, .int .i64 0, .slice none 0 0, .slice none 0 0, .slice none 0 0] 27)
    have hbel := Below.trans (((Below.refl w.heap.size w).alloc (Nat.le_refl _) _).alloc (by simp) _) (Below.of_grown hg (B := w.heap.size) (by omega) (by simp; omega))
    obtain ⟨d0, d1, d2, d3, d4, d5⟩ := bA.cells6
    have fa := bA.free
    have hz := hbel.size
    have hR := hr.lt
    clear hg
    go_wp2
    have hx := bA.setAll (j := 0) [.int .i64 0, .int .i64 0, .int .i64 0, .slice none 0 0, .slice none 0 0, .slice none 0 0]
    have hW := below_setAll (Nat.le_refl w.heap.size) (j := 0) [.int .i64 0, .int .i64 0, .int .i64 0, .slice none 0 0, .slice none 0 0, .slice none 0 0] ((hbel.alloc (by omega) (.cells #[.int .i64 ta, .int .i64 off, .int .i64 mark, .slice am ms.length cm, .slice ap ps.length cp, .slice ac os.length cc] 27)).alloc (by simp; omega) (.cells #[.int .i64 0, .int .i64 0, .int .i64 0, .slice none 0 0, .slice none 0 0, .slice none 0 0] 27))
    simp only [setAll, Nat.reduceAdd] at hx hW
    obtain ⟨x0, x1, x2, x3, x4, x5⟩ := BoxT.cells6 hx
    exact bodyPost_ret (v := .tuple #[.agg #[.int .i64 0, .int .i64 0, .int .i64 0, .slice none 0 0, .slice none 0 0, .slice none 0 0], .int .i64 10]) (by simp [results, Tryz.results113, go_sem, x0, x1, x2, x3, x4, x5]) rfl (OSPost.mk (OwnSn.nil _ _) hW)

set_option maxHeartbeats 4000000 in
set_option maxRecDepth 100000 in
theorem readAllS_yes (v : Value) (l : List Nat) (w : World) (h : Seg w v l) (hb : Byts l) (s : Sn) (hyes : Hid (rSnap (l, false) = (s, ([], false)))) :
    Calls Tryz.prog 113 #[v, .func (.func 114) #[] #[]] w (OSPost w s 0) := by
  have hrf := fun o => readSnap_any (RdS.start_at (k := w.heap.size + 1) (by simp) (h.alloc o) hb)
  obtain ⟨ao, cap, rfl, h2, h3, h3', h4⟩ := h
  rw [hyes.out] at hrf
  obtain ⟨ta, off, mark, ms, ps, os⟩ := s
  simp only at *
  have HR := hrf
  clear h4 hrf hyes
  go_enter Tryz.func113, Tryz.ntmps113
  go_wp2_with fail
  refine (HR _).mono ?_
  rintro e w1 ⟨vm, vp, vc, rfl, ho1, hr, hg⟩
  clear HR
  obtain ⟨am, cm, hvm⟩ := ho1.m.shape
  obtain ⟨ap, cp, hvp⟩ := ho1.p.shape
  obtain ⟨ac, cc, hvc⟩ := ho1.c.shape
  rw [hvm, hvp, hvc] at ho1 ⊢
  clear hvm hvp hvc
  simp only at *
  obtain ⟨ao', cap', r0, r1, rf⟩ := hr.cells
  have bA := ((BoxT.new 27 w _).alloc (.cells #[.slice ao l.length cap, .bool false] 177) |>.grown hg (by omega)).alloc (.cells #[.int .i64 ta, .int .i64 off, .int .i64 mark, .slice am ms.length cm, .slice ap ps.length cp, .slice ac os.length cc] 27)
  have hbel := Below.trans (((Below.refl w.heap.size w).alloc (Nat.le_refl _) _).alloc (by simp) _) (Below.of_grown hg (B := w.heap.size) (by omega) (by simp; omega))
  have ho1 := (ho1.mono (show w.heap.size ≤ _ by simp; omega)).alloc (.cells #[.int .i64 ta, .int .i64 off, .int .i64 mark, .slice am ms.length cm, .slice ap ps.length cp, .slice ac os.length cc] 27)
  have HO1 := hide ho1
  obtain ⟨d0, d1, d2, d3, d4, d5⟩ := bA.cells6
  have fa := bA.free
  have hz := hbel.size
  have hR := hr.lt
  clear hg ho1
  go_wp2
  have hx := bA.setAll (j := 0) [.int .i64 ta, .int .i64 off, .int .i64 mark, .slice am ms.length cm, .slice ap ps.length cp, .slice ac os.length cc]
  have hsn := HO1.out.setAll bA (j := 0) [.int .i64 ta, .int .i64 off, .int .i64 mark, .slice am ms.length cm, .slice ap ps.length cp, .slice ac os.length cc]
  have hW := below_setAll (Nat.le_refl w.heap.size) (j := 0) [.int .i64 ta, .int .i64 off, .int .i64 mark, .slice am ms.length cm, .slice ap ps.length cp, .slice ac os.length cc] (hbel.alloc (by omega) (.cells #[.int .i64 ta, .int .i64 off, .int .i64 mark, .slice am ms.length cm, .slice ap ps.length cp, .slice ac os.length cc] 27))
  simp only [setAll, Nat.reduceAdd] at hx hW hsn
  obtain ⟨x0, x1, x2, x3, x4, x5⟩ := BoxT.cells6 hx
  exact bodyPost_ret (v := .tuple #[.agg #[.int .i64 ta, .int .i64 off, .int .i64 mark, .slice am ms.length cm, .slice ap ps.length cp, .slice ac os.length cc], .int .i64 0]) (by simp [results, Tryz.results113, go_sem, x0, x1, x2, x3, x4, x5]) rfl (OSPost.mk (s := ⟨ta, off, mark, ms, ps, os⟩) hsn hW)

theorem readAllS_any (v : Value) (l : List Nat) (w : World) (h : Seg w v l) (hb : Byts l) :
    Calls Tryz.prog 113 #[v, .func (.func 114) #[] #[]] w (OSPost w (oSn (rSnap (l, false))) (oEr (rSnap (l, false)))) := by
  unfold oSn oEr
  rcases Bool.eq_false_or_eq_true (done (rSnap (l, false)).2) with hd | hd
  · rw [hd]
    have hy : rSnap (l, false) = ((rSnap (l, false)).1, ([], false)) := by
      generalize rSnap (l, false) = p at *
      obtain ⟨s, l1, bad⟩ := p
      cases bad <;> rcases l1 with _ | ⟨x, l1⟩ <;> simp [done] at hd ⊢
    exact readAllS_yes v l w h hb _ hy
  · rw [hd]
    exact readAllS_no v l w h hb hd

set_option maxHeartbeats 2000000 in
set_option maxRecDepth 100000 in
theorem OpenSnap_any (v : Value) (l : List Nat) (w : World) (h : Seg w v l) (hb : Byts l) :
    Calls Tryz.prog 80 #[v] w (OSPost w (oSn (rSnap (l, false))) (oEr (rSnap (l, false)))) := by
  have hra := fun o => readAllS_any v l (w.alloc o) (h.alloc o) hb
  generalize oSn (rSnap (l, false)) = s at *
  generalize oEr (rSnap (l, false)) = er at *
  obtain ⟨ta, off, mark, ms, ps, os⟩ := s
  have HR := hra
  clear hra h hb
  go_enter Tryz.func80, Tryz.ntmps80
  go_wp2_with fail
  refine (HR _).mono ?_
  rintro e w1 ⟨vm, vp, vc, rfl, ho1, hb1⟩
  clear HR
  obtain ⟨am, cm, hvm⟩ := ho1.m.shape
  obtain ⟨ap, cp, hvp⟩ := ho1.p.shape
  obtain ⟨ac, cc, hvc⟩ := ho1.c.shape
  rw [hvm, hvp, hvc] at ho1 ⊢
  have ho1 := ho1.mono (show w.heap.size ≤ _ by simp)
  have HO1 := hide ho1
  clear hvm hvp hvc ho1
  simp only at *
  have bA := (BoxT.new 27 w _).kept (base := 0) (Kept.of_below hb1) (by decide)
  obtain ⟨d0, d1, d2, d3, d4, d5⟩ := bA.cells6
  have fa := bA.free
  go_wp2
  have hx := bA.setAll (j := 0) [.int .i64 ta, .int .i64 off, .int .i64 mark, .slice am ms.length cm, .slice ap ps.length cp, .slice ac os.length cc]
  have hsn := HO1.out.setAll bA (j := 0) [.int .i64 ta, .int .i64 off, .int .i64 mark, .slice am ms.length cm, .slice ap ps.length cp, .slice ac os.length cc]
  have hW := below_setAll (Nat.le_refl w.heap.size) (j := 0) [.int .i64 ta, .int .i64 off, .int .i64 mark, .slice am ms.length cm, .slice ap ps.length cp, .slice ac os.length cc] (((Below.refl _ _).alloc (Nat.le_refl _) _).trans (hb1.mono (by simp)))
  simp only [setAll, Nat.reduceAdd] at hx hW hsn
  obtain ⟨x0, x1, x2, x3, x4, x5⟩ := BoxT.cells6 hx
  exact bodyPost_ret (v := .tuple #[.agg #[.int .i64 ta, .int .i64 off, .int .i64 mark, .slice am ms.length cm, .slice ap ps.length cp, .slice ac os.length cc], .int .i64 er]) (by simp [results, Tryz.results80, go_sem, x0, x1, x2, x3, x4, x5]) rfl (OSPost.mk (s := ⟨ta, off, mark, ms, ps, os⟩) hsn hW)
end Go.Proofs.YtbfhcbihgleddaaGreatDoor
/-
  Walks over the helps of the laws: lists of marks, of panes, of captured frames held against one another; parts.
-/
namespace Go.Proofs.YtbfhcbihgleddaaGreatDoor
open Go.RowKit

def decPn : DecidableEq Pn := fun a b => decidable_of_iff (a.ke = b.ke ∧ a.fr = b.fr ∧ a.to = b.to ∧ a.ac = b.ac) (by cases a; cases b; simp)
def decFrm : DecidableEq Frm := fun a b => decidable_of_iff (a.kd = b.kd ∧ a.ke = b.ke ∧ a.ti = b.ti ∧ a.va = b.va ∧ a.ma = b.ma ∧ a.n = b.n ∧ a.ov = b.ov) (by cases a; cases b; simp)
def decOt : DecidableEq Ot := fun a b => decidable_of_iff (a.ch = b.ch ∧ a.f.kd = b.f.kd ∧ a.f.ke = b.f.ke ∧ a.f.ti = b.f.ti ∧ a.f.va = b.f.va ∧ a.f.ma = b.f.ma ∧ a.f.n = b.f.n ∧ a.f.ov = b.f.ov) (by cases a with | mk _ f => cases f; cases b with | mk _ g => cases g; simp)
theorem hideb {p : Prop} (h : p) : Hid p := h
theorem list_eq_any {α : Type} {a b : List α} {n : Nat} (ha : a.length = n) (hb : b.length = n) (h : ∀ i, i < n → a[i]? = b[i]?) : a = b := by
  apply List.ext_getElem?
  intro i
  by_cases hi : i < n
  · exact h i hi
  · rw [List.getElem?_eq_none (by omega), List.getElem?_eq_none (by omega)]

set_option maxHeartbeats 2000000 in
set_option maxRecDepth 100000 in
theorem Marks_core (n ca cb b1 o1 b2 o2 : Nat) (a b : List Int) (w : World) (hn : n ≤ 140737488355328) (hla : Hid (a.length = n)) (hlb : Hid (b.length = n)) (h1 : b1 < w.heap.size) (h2 : b2 < w.heap.size)
    (hc1 : ∀ (i : Nat) (x : Int), a[i]? = some x → ∀ (j : Nat) (u : Value), (ics x)[j]? = some u → w.cell? ⟨b1, o1 + i * 1 + j, none⟩ = some u) (hc2 : ∀ (i : Nat) (x : Int), b[i]? = some x → ∀ (j : Nat) (u : Value), (ics x)[j]? = some u → w.cell? ⟨b2, o2 + i * 1 + j, none⟩ = some u) :
    Calls Tryz.prog 49 #[.slice (some ⟨b1, o1, none⟩) n ca, .slice (some ⟨b2, o2, none⟩) n cb] w fun e w' => e = .returned (.bool (decide (a = b))) ∧ Below w.heap.size w w' := by
  have H1 : Hid (∀ (i : Nat) (x : Int), a[i]? = some x → ∀ (j : Nat) (u : Value), (ics x)[j]? = some u → w.cell? ⟨b1, o1 + i * 1 + j, none⟩ = some u) := hc1
  have H2 : Hid (∀ (i : Nat) (x : Int), b[i]? = some x → ∀ (j : Nat) (u : Value), (ics x)[j]? = some u → w.cell? ⟨b2, o2 + i * 1 + j, none⟩ = some u) := hc2
  clear hc1 hc2
  go_enter Tryz.func49, Tryz.ntmps49
  go_wp2
  go_loopw [5] (fun i wr => ∃ k : Nat, k ≤ n ∧ i = .int .i64 k ∧ Below w.heap.size w wr ∧ Hid (∀ i : Nat, i < k → a[i]? = b[i]?)) (fun i _ => n - (intOf i).toNat)
  case atStart => exact ⟨0, Nat.zero_le _, rfl, Below.refl _ _, fun i h => by omega⟩
  case round =>
    obtain ⟨k, hk, rfl, hbel, HS⟩ := hrel
    by_cases hlt : k < n
    · obtain ⟨x, hx⟩ : ∃ x : Int, a[k]? = some x := ⟨_, List.getElem?_eq_getElem (by have := hla.out; omega)⟩
      obtain ⟨y, hy⟩ : ∃ y : Int, b[k]? = some y := ⟨_, List.getElem?_eq_getElem (by have := hlb.out; omega)⟩
      have c0 : wr.cell? ⟨b1, o1 + k, none⟩ = some (.int .i64 x) := by have := (hbel.cell (p := ⟨b1, _, none⟩) h1).trans (H1.out k x hx 0 _ rfl); simpa using this
      have d0 : wr.cell? ⟨b2, o2 + k, none⟩ = some (.int .i64 y) := by have := (hbel.cell (p := ⟨b2, _, none⟩) h2).trans (H2.out k y hy 0 _ rfl); simpa using this
      have HX : Hid (a[k]? = some x) := hx
      have HY : Hid (b[k]? = some y) := hy
      have hne : Hid (x ≠ y → decide (a = b) = false) := fun hxy => decide_eq_false fun h => by
        subst h
        exact hxy (Option.some.inj (HX.out.symm.trans HY.out))
      clear hx hy
      by_cases g0 : x = y
      rotate_left
      · have e0 : (x != y) = true := by simp [g0]
        have f0 : (x == y) = false := by simp [g0]
        have hno := hne.out (by simp [g0])
        go_wp2
        go_quiet (fail)
        go_wp2
        go_ret
        exact ⟨ret_bool0 hno.symm, below_drewN' hbel nq⟩
      subst g0
      clear hne
      go_wp2
      go_quiet (fail)
      go_wp2
      go_roundw
      case rel => exact ⟨k + 1, by omega, by go_num, below_drewN' hbel nq, fun i hi => by
        by_cases hik : i < k
        · exact HS.out i hik
        · obtain rfl : i = k := by omega
          rw [HX.out, HY.out]⟩
      case measure => simp [intOf]; omega
    · go_wp2
      go_ret
      exact ⟨ret_bool0 (by simp; exact (list_eq_any hla.out hlb.out fun i hi => HS.out i (by omega)).symm ▸ rfl), hbel⟩

set_option maxHeartbeats 1000000 in
set_option maxRecDepth 100000 in
theorem Marks_any (va vb : Value) (a b : List Int) (w : World) (ha : LSeg 1 ics w.heap.size w va a) (hb : LSeg 1 ics w.heap.size w vb b) :
    Calls Tryz.prog 49 #[va, vb] w fun e w' => e = .returned (.bool (decide (a = b))) ∧ Below w.heap.size w w' := by
  obtain ⟨aa, ca, rfl, hna, ha⟩ := ha
  obtain ⟨ab, cb, rfl, hnb, hb⟩ := hb
  by_cases hlen : a.length = b.length
  · by_cases h0 : a = []
    · subst h0
      have : b = [] := by simpa using hlen.symm
      subst this
      clear ha hb hlen
      simp only [List.length_nil]
      go_enter Tryz.func49, Tryz.ntmps49
      go_wp2
      refine wp_loop_rounds 1 ?_
      rw [rounds_succ]
      go_wp2
      go_ret
      exact ⟨ret_bool0 (by simp), Below.refl _ _⟩
    · rcases ha with ha | ⟨b1, o1, rfl, h1, hc1⟩
      · exact absurd ha h0
      rcases hb with rfl | ⟨b2, o2, rfl, h2, hc2⟩
      · exact absurd (by simpa using hlen) h0
      rw [← hlen]
      exact Marks_core a.length ca cb b1 o1 b2 o2 a b w hna rfl hlen.symm h1 h2 hc1 hc2
  · have e0 : ((a.length : Int) != (b.length : Int)) = true := by simp; omega
    have HL : Hid (¬ a.length = b.length) := hlen
    clear ha hb hlen
    go_enter Tryz.func49, Tryz.ntmps49
    go_wp2
    go_ret
    exact ⟨ret_bool0 (by symm; apply decide_eq_false; intro h; exact HL.out (by rw [h])), Below.refl _ _⟩

set_option maxHeartbeats 2000000 in
set_option maxRecDepth 100000 in
theorem Panes_core [DecidableEq Pn] (n ca cb b1 o1 b2 o2 : Nat) (a b : List Pn) (w : World) (hn : n ≤ 140737488355328) (hla : Hid (a.length = n)) (hlb : Hid (b.length = n)) (h1 : b1 < w.heap.size) (h2 : b2 < w.heap.size)
    (hc1 : ∀ (i : Nat) (x : Pn), a[i]? = some x → ∀ (j : Nat) (u : Value), (Pn.cs x)[j]? = some u → w.cell? ⟨b1, o1 + i * 4 + j, none⟩ = some u) (hc2 : ∀ (i : Nat) (x : Pn), b[i]? = some x → ∀ (j : Nat) (u : Value), (Pn.cs x)[j]? = some u → w.cell? ⟨b2, o2 + i * 4 + j, none⟩ = some u) :
    Calls Tryz.prog 50 #[.slice (some ⟨b1, o1, none⟩) n ca, .slice (some ⟨b2, o2, none⟩) n cb] w fun e w' => e = .returned (.bool (decide (a = b))) ∧ Below w.heap.size w w' := by
  have H1 : Hid (∀ (i : Nat) (x : Pn), a[i]? = some x → ∀ (j : Nat) (u : Value), (Pn.cs x)[j]? = some u → w.cell? ⟨b1, o1 + i * 4 + j, none⟩ = some u) := hc1
  have H2 : Hid (∀ (i : Nat) (x : Pn), b[i]? = some x → ∀ (j : Nat) (u : Value), (Pn.cs x)[j]? = some u → w.cell? ⟨b2, o2 + i * 4 + j, none⟩ = some u) := hc2
  clear hc1 hc2
  go_enter Tryz.func50, Tryz.ntmps50
  go_wp2
  go_loopw [5] (fun i wr => ∃ k : Nat, k ≤ n ∧ i = .int .i64 k ∧ Below w.heap.size w wr ∧ Hid (∀ i : Nat, i < k → a[i]? = b[i]?)) (fun i _ => n - (intOf i).toNat)
  case atStart => exact ⟨0, Nat.zero_le _, rfl, Below.refl _ _, fun i h => by omega⟩
  case round =>
    obtain ⟨k, hk, rfl, hbel, HS⟩ := hrel
    by_cases hlt : k < n
    · obtain ⟨x, hx⟩ : ∃ x : Pn, a[k]? = some x := ⟨_, List.getElem?_eq_getElem (by have := hla.out; omega)⟩
      obtain ⟨y, hy⟩ : ∃ y : Pn, b[k]? = some y := ⟨_, List.getElem?_eq_getElem (by have := hlb.out; omega)⟩
      have c0 : wr.cell? ⟨b1, o1 + k * 4, none⟩ = some (.int .i64 x.ke) := (hbel.cell (p := ⟨b1, _, none⟩) h1).trans (H1.out k x hx 0 _ rfl)
      have c1 : wr.cell? ⟨b1, o1 + k * 4 + 1, none⟩ = some (.int .i64 x.fr) := (hbel.cell (p := ⟨b1, _, none⟩) h1).trans (H1.out k x hx 1 _ rfl)
      have c2 : wr.cell? ⟨b1, o1 + k * 4 + 2, none⟩ = some (.int .i64 x.to) := (hbel.cell (p := ⟨b1, _, none⟩) h1).trans (H1.out k x hx 2 _ rfl)
      have c3 : wr.cell? ⟨b1, o1 + k * 4 + 3, none⟩ = some (.int .i64 x.ac) := (hbel.cell (p := ⟨b1, _, none⟩) h1).trans (H1.out k x hx 3 _ rfl)
      have d0 : wr.cell? ⟨b2, o2 + k * 4, none⟩ = some (.int .i64 y.ke) := (hbel.cell (p := ⟨b2, _, none⟩) h2).trans (H2.out k y hy 0 _ rfl)
      have d1 : wr.cell? ⟨b2, o2 + k * 4 + 1, none⟩ = some (.int .i64 y.fr) := (hbel.cell (p := ⟨b2, _, none⟩) h2).trans (H2.out k y hy 1 _ rfl)
      have d2 : wr.cell? ⟨b2, o2 + k * 4 + 2, none⟩ = some (.int .i64 y.to) := (hbel.cell (p := ⟨b2, _, none⟩) h2).trans (H2.out k y hy 2 _ rfl)
      have d3 : wr.cell? ⟨b2, o2 + k * 4 + 3, none⟩ = some (.int .i64 y.ac) := (hbel.cell (p := ⟨b2, _, none⟩) h2).trans (H2.out k y hy 3 _ rfl)
      have HX : Hid (a[k]? = some x) := hx
      have HY : Hid (b[k]? = some y) := hy
      have hne : Hid (x ≠ y → decide (a = b) = false) := fun hxy => decide_eq_false fun h => by
        subst h
        exact hxy (Option.some.inj (HX.out.symm.trans HY.out))
      clear hx hy
      obtain ⟨x0, x1, x2, x3⟩ := x
      obtain ⟨y0, y1, y2, y3⟩ := y
      simp only at *
      by_cases g0 : x0 = y0
      rotate_left
      · have e0 : (x0 != y0) = true := by simp [g0]
        have f0 : (x0 == y0) = false := by simp [g0]
        have hno := hne.out (by simp [g0])
        go_wp2
        go_quiet (fail)
        go_wp2
        go_ret
        exact ⟨ret_bool0 hno.symm, below_drewN' hbel nq⟩
      subst g0
      by_cases g1 : x1 = y1
      rotate_left
      · have e1 : (x1 != y1) = true := by simp [g1]
        have f1 : (x1 == y1) = false := by simp [g1]
        have hno := hne.out (by simp [g1])
        go_wp2
        go_quiet (fail)
        go_wp2
        go_ret
        exact ⟨ret_bool0 hno.symm, below_drewN' hbel nq⟩
      subst g1
      by_cases g2 : x2 = y2
      rotate_left
      · have e2 : (x2 != y2) = true := by simp [g2]
        have f2 : (x2 == y2) = false := by simp [g2]
        have hno := hne.out (by simp [g2])
        go_wp2
        go_quiet (fail)
        go_wp2
        go_ret
        exact ⟨ret_bool0 hno.symm, below_drewN' hbel nq⟩
      subst g2
      by_cases g3 : x3 = y3
      rotate_left
      · have e3 : (x3 != y3) = true := by simp [g3]
        have f3 : (x3 == y3) = false := by simp [g3]
        have hno := hne.out (by simp [g3])
        go_wp2
        go_quiet (fail)
        go_wp2
        go_ret
        exact ⟨ret_bool0 hno.symm, below_drewN' hbel nq⟩
      subst g3
      clear hne
      go_wp2
      go_quiet (fail)
      go_wp2
      go_roundw
      case rel => exact ⟨k + 1, by omega, by go_num, below_drewN' hbel nq, fun i hi => by
        by_cases hik : i < k
        · exact HS.out i hik
        · obtain rfl : i = k := by omega
          rw [HX.out, HY.out]⟩
      case measure => simp [intOf]; omega
    · go_wp2
      go_ret
      exact ⟨ret_bool0 (by simp; exact (list_eq_any hla.out hlb.out fun i hi => HS.out i (by omega)).symm ▸ rfl), hbel⟩

set_option maxHeartbeats 1000000 in
set_option maxRecDepth 100000 in
theorem Panes_any [DecidableEq Pn] (va vb : Value) (a b : List Pn) (w : World) (ha : LSeg 4 Pn.cs w.heap.size w va a) (hb : LSeg 4 Pn.cs w.heap.size w vb b) :
    Calls Tryz.prog 50 #[va, vb] w fun e w' => e = .returned (.bool (decide (a = b))) ∧ Below w.heap.size w w' := by
  obtain ⟨aa, ca, rfl, hna, ha⟩ := ha
  obtain ⟨ab, cb, rfl, hnb, hb⟩ := hb
  by_cases hlen : a.length = b.length
  · by_cases h0 : a = []
    · subst h0
      have : b = [] := by simpa using hlen.symm
      subst this
      clear ha hb hlen
      simp only [List.length_nil]
      go_enter Tryz.func50, Tryz.ntmps50
      go_wp2
      refine wp_loop_rounds 1 ?_
      rw [rounds_succ]
      go_wp2
      go_ret
      exact ⟨ret_bool0 (by simp), Below.refl _ _⟩
    · rcases ha with ha | ⟨b1, o1, rfl, h1, hc1⟩
      · exact absurd ha h0
      rcases hb with rfl | ⟨b2, o2, rfl, h2, hc2⟩
      · exact absurd (by simpa using hlen) h0
      rw [← hlen]
      exact Panes_core a.length ca cb b1 o1 b2 o2 a b w hna rfl hlen.symm h1 h2 hc1 hc2
  · have e0 : ((a.length : Int) != (b.length : Int)) = true := by simp; omega
    have HL : Hid (¬ a.length = b.length) := hlen
    clear ha hb hlen
    go_enter Tryz.func50, Tryz.ntmps50
    go_wp2
    go_ret
    exact ⟨ret_bool0 (by symm; apply decide_eq_false; intro h; exact HL.out (by rw [h])), Below.refl _ _⟩
end Go.Proofs.YtbfhcbihgleddaaGreatDoor
