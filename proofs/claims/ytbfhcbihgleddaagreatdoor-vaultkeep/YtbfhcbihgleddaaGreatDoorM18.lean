/-
  Texts of the vault, in build order: OpenSnap.
-/
import Derived.Test.YtbfhcbihgleddaaGreatDoorM17
/-
  Walks over package codec's readers of snapshots: the whole.
-/
namespace Go.Proofs.YtbfhcbihgleddaaGreatDoor
open Go.RowKit

/-- What OpenSnap tells: the part s, and er. -/
def OSPost (w : World) (s : Sn) (er : Int) (e : Ending) (w' : World) : Prop :=
  ∃ vm vp vc, e = .returned (.tuple #[.agg #[.int .i64 s.task, .int .i64 s.off, .int .i64 s.mark, vm, vp, vc], .int .i64 er]) ∧ OwnSn w.heap.size w' vm vp vc s ∧ Below w.heap.size w w'
theorem OSPost.mk {w w' : World} {s : Sn} {er : Int} {vm vp vc : Value} (ho : OwnSn w.heap.size w' vm vp vc s) (hb : Below w.heap.size w w') : OSPost w s er (.returned (.tuple #[.agg #[.int .i64 s.task, .int .i64 s.off, .int .i64 s.mark, vm, vp, vc], .int .i64 er])) w' := ⟨_, _, _, rfl, ho, hb⟩
def oSn (p : Sn × (List Nat × Bool)) : Sn := if done p.2 then p.1 else Sn.nil
def oEr (p : Sn × (List Nat × Bool)) : Int := if done p.2 then 0 else 10

set_option maxHeartbeats 4000000 in
set_option maxRecDepth 100000 in
theorem readAllS_no (v : Value) (l : List Nat) (w : World) (h : Seg w v l) (hb : Byts l) (hno : Hid (done (rSnap (l, false)).2 = false)) :
    Calls Tryz.prog 113 #[v, .func (.func 114) #[] #[]] w (OSPost w Sn.nil 10) := by
  have hrf := fun o => readSnap_any (RdS.start_at (k := w.heap.size + 1) (by simp) (h.alloc o) hb)
  obtain ⟨ao, cap, rfl, h2, h3, h3', h4⟩ := h
  generalize rSnap (l, false) = p at *
  obtain ⟨⟨ta, off, mark, ms, ps, os⟩, s1, bad⟩ := p
  simp only at *
  have HR := hrf
  clear h4 hrf
  cases bad
  · rcases s1 with _ | ⟨x, s1⟩
    · exact absurd hno.out (by simp [done])
    · clear hno
      go_enter Tryz.func113, Tryz.ntmps113
      go_wp2_with fail
      refine (HR _).mono ?_
      rintro e w1 ⟨vm, vp, vc, rfl, ho1, hr, hg⟩
      clear HR
      obtain ⟨am, cm, hvm⟩ := ho1.m.shape
      obtain ⟨ap, cp, hvp⟩ := ho1.p.shape
      obtain ⟨ac, cc, hvc⟩ := ho1.c.shape
      rw [hvm, hvp, hvc]
      clear hvm hvp hvc ho1
      simp only at *
      obtain ⟨ao', cap', r0, r1, rf⟩ := hr.cells
      have bA := (((BoxT.new 27 w _).alloc (.cells #[.slice ao l.length cap, .bool false] 177) |>.grown hg (by omega)).alloc (.cells #[.int .i64 ta, .int .i64 off, .int .i64 mark, .slice am ms.length cm, .slice ap ps.length cp, .slice ac os.length cc] 27)).alloc (.cells #[.int .i64 0, .int .i64 0, .int .i64 0, .slice none 0 0, .slice none 0 0, .slice none 0 0] 27)
      have hbel := Below.trans (((Below.refl w.heap.size w).alloc (Nat.le_refl _) _).alloc (by simp) _) (Below.of_grown hg (B := w.heap.size) (by omega) (by simp; omega))
      obtain ⟨d0, d1, d2, d3, d4, d5⟩ := bA.cells6
      have fa := bA.free
      have hz := hbel.size
      have hR := hr.lt
      have hpos : (0 : Int) < (s1.length : Int) + 1 := by omega
      clear hg
      go_wp2
      have hx := bA.setAll (j := 0) [.int .i64 0, .int .i64 0, .int .i64 0, .slice none 0 0, .slice none 0 0, .slice none 0 0]
      have hW := below_setAll (Nat.le_refl w.heap.size) (j := 0) [.int .i64 0, .int .i64 0, .int .i64 0, .slice none 0 0, .slice none 0 0, .slice none 0 0] ((hbel.alloc (by omega) (.cells #[.int .i64 ta, .int .i64 off, .int .i64 mark, .slice am ms.length cm, .slice ap ps.length cp, .slice ac os.length cc] 27)).alloc (by simp; omega) (.cells #[.int .i64 0, .int .i64 0, .int .i64 0, .slice none 0 0, .slice none 0 0, .slice none 0 0] 27))
      simp only [setAll, Nat.reduceAdd] at hx hW
      obtain ⟨x0, x1, x2, x3, x4, x5⟩ := BoxT.cells6 hx
      exact bodyPost_ret (v := .tuple #[.agg #[.int .i64 0, .int .i64 0, .int .i64 0, .slice none 0 0, .slice none 0 0, .slice none 0 0], .int .i64 10]) (by simp [results, Tryz.results113, go_sem, x0, x1, x2, x3, x4, x5]) rfl (OSPost.mk (OwnSn.nil _ _) hW)
  · clear hno
    go_enter Tryz.func113, Tryz.ntmps113
    go_wp2_with fail
    refine (HR _).mono ?_
    rintro e w1 ⟨vm, vp, vc, rfl, ho1, hr, hg⟩
    clear HR
    obtain ⟨am, cm, hvm⟩ := ho1.m.shape
    obtain ⟨ap, cp, hvp⟩ := ho1.p.shape
    obtain ⟨ac, cc, hvc⟩ := ho1.c.shape
    rw [hvm, hvp, hvc]
    clear hvm hvp hvc ho1
    simp only at *
    obtain ⟨ao', cap', r0, r1, rf⟩ := hr.cells
    have bA := (((BoxT.new 27 w _).alloc (.cells #[.slice ao l.length cap, .bool false] 177) |>.grown hg (by omega)).alloc (.cells #[.int .i64 ta, .int .i64 off, .int .i64 mark, .slice am ms.length cm, .slice ap ps.length cp, .slice ac os.length cc] 27)).alloc (.cells #[.int .i64 0, .int .i64 0, .int .i64 0, .slice none 0 0, .slice none 0 0, .slice none 0 0] 27)
    have hbel := Below.trans (((Below.refl w.heap.size w).alloc (Nat.le_refl _) _).alloc (by simp) _) (Below.of_grown hg (B := w.heap.size) (by omega) (by simp; omega))
    obtain ⟨d0, d1, d2, d3, d4, d5⟩ := bA.cells6
    have fa := bA.free
    have hz := hbel.size
    have hR := hr.lt
    clear hg
    go_wp2
    have hx := bA.setAll (j := 0) [.int .i64 0, .int .i64 0, .int .i64 0, .slice none 0 0, .slice none 0 0, .slice none 0 0]
    have hW := below_setAll (Nat.le_refl w.heap.size) (j := 0) [.int .i64 0, .int .i64 0, .int .i64 0, .slice none 0 0, .slice none 0 0, .slice none 0 0] ((hbel.alloc (by omega) (.cells #[.int .i64 ta, .int .i64 off, .int .i64 mark, .slice am ms.length cm, .slice ap ps.length cp, .slice ac os.length cc] 27)).alloc (by simp; omega) (.cells #[.int .i64 0, .int .i64 0, .int .i64 0, .slice none 0 0, .slice none 0 0, .slice none 0 0] 27))
    simp only [setAll, Nat.reduceAdd] at hx hW
    obtain ⟨x0, x1, x2, x3, x4, x5⟩ := BoxT.cells6 hx
    exact bodyPost_ret (v := .tuple #[.agg #[.int .i64 0, .int .i64 0, .int .i64 0, .slice none 0 0, .slice none 0 0, .slice none 0 0], .int .i64 10]) (by simp [results, Tryz.results113, go_sem, x0, x1, x2, x3, x4, x5]) rfl (OSPost.mk (OwnSn.nil _ _) hW)

set_option maxHeartbeats 4000000 in
set_option maxRecDepth 100000 in
theorem readAllS_yes (v : Value) (l : List Nat) (w : World) (h : Seg w v l) (hb : Byts l) (s : Sn) (hyes : Hid (rSnap (l, false) = (s, ([], false)))) :
    Calls Tryz.prog 113 #[v, .func (.func 114) #[] #[]] w (OSPost w s 0) := by
  have hrf := fun o => readSnap_any (RdS.start_at (k := w.heap.size + 1) (by simp) (h.alloc o) hb)
  obtain ⟨ao, cap, rfl, h2, h3, h3', h4⟩ := h
  rw [hyes.out] at hrf
  obtain ⟨ta, off, mark, ms, ps, os⟩ := s
  simp only at *
  have HR := hrf
  clear h4 hrf hyes
  go_enter Tryz.func113, Tryz.ntmps113
  go_wp2_with fail
  refine (HR _).mono ?_
  rintro e w1 ⟨vm, vp, vc, rfl, ho1, hr, hg⟩
  clear HR
  obtain ⟨am, cm, hvm⟩ := ho1.m.shape
  obtain ⟨ap, cp, hvp⟩ := ho1.p.shape
  obtain ⟨ac, cc, hvc⟩ := ho1.c.shape
  rw [hvm, hvp, hvc] at ho1 ⊢
  clear hvm hvp hvc
  simp only at *
  obtain ⟨ao', cap', r0, r1, rf⟩ := hr.cells
  have bA := ((BoxT.new 27 w _).alloc (.cells #[.slice ao l.length cap, .bool false] 177) |>.grown hg (by omega)).alloc (.cells #[.int .i64 ta, .int .i64 off, .int .i64 mark, .slice am ms.length cm, .slice ap ps.length cp, .slice ac os.length cc] 27)
  have hbel := Below.trans (((Below.refl w.heap.size w).alloc (Nat.le_refl _) _).alloc (by simp) _) (Below.of_grown hg (B := w.heap.size) (by omega) (by simp; omega))
  have ho1 := (ho1.mono (show w.heap.size ≤ _ by simp; omega)).alloc (.cells #[.int .i64 ta, .int .i64 off, .int .i64 mark, .slice am ms.length cm, .slice ap ps.length cp, .slice ac os.length cc] 27)
  have HO1 := hide ho1
  obtain ⟨d0, d1, d2, d3, d4, d5⟩ := bA.cells6
  have fa := bA.free
  have hz := hbel.size
  have hR := hr.lt
  clear hg ho1
  go_wp2
  have hx := bA.setAll (j := 0) [.int .i64 ta, .int .i64 off, .int .i64 mark, .slice am ms.length cm, .slice ap ps.length cp, .slice ac os.length cc]
  have hsn := HO1.out.setAll bA (j := 0) [.int .i64 ta, .int .i64 off, .int .i64 mark, .slice am ms.length cm, .slice ap ps.length cp, .slice ac os.length cc]
  have hW := below_setAll (Nat.le_refl w.heap.size) (j := 0) [.int .i64 ta, .int .i64 off, .int .i64 mark, .slice am ms.length cm, .slice ap ps.length cp, .slice ac os.length cc] (hbel.alloc (by omega) (.cells #[.int .i64 ta, .int .i64 off, .int .i64 mark, .slice am ms.length cm, .slice ap ps.length cp, .slice ac os.length cc] 27))
  simp only [setAll, Nat.reduceAdd] at hx hW hsn
  obtain ⟨x0, x1, x2, x3, x4, x5⟩ := BoxT.cells6 hx
  exact bodyPost_ret (v := .tuple #[.agg #[.int .i64 ta, .int .i64 off, .int .i64 mark, .slice am ms.length cm, .slice ap ps.length cp, .slice ac os.length cc], .int .i64 0]) (by simp [results, Tryz.results113, go_sem, x0, x1, x2, x3, x4, x5]) rfl (OSPost.mk (s := ⟨ta, off, mark, ms, ps, os⟩) hsn hW)

theorem readAllS_any (v : Value) (l : List Nat) (w : World) (h : Seg w v l) (hb : Byts l) :
    Calls Tryz.prog 113 #[v, .func (.func 114) #[] #[]] w (OSPost w (oSn (rSnap (l, false))) (oEr (rSnap (l, false)))) := by
  unfold oSn oEr
  rcases Bool.eq_false_or_eq_true (done (rSnap (l, false)).2) with hd | hd
  · rw [hd]
    have hy : rSnap (l, false) = ((rSnap (l, false)).1, ([], false)) := by
      generalize rSnap (l, false) = p at *
      obtain ⟨s, l1, bad⟩ := p
      cases bad <;> rcases l1 with _ | ⟨x, l1⟩ <;> simp [done] at hd ⊢
    exact readAllS_yes v l w h hb _ hy
  · rw [hd]
    exact readAllS_no v l w h hb hd

set_option maxHeartbeats 2000000 in
set_option maxRecDepth 100000 in
theorem OpenSnap_any (v : Value) (l : List Nat) (w : World) (h : Seg w v l) (hb : Byts l) :
    Calls Tryz.prog 80 #[v] w (OSPost w (oSn (rSnap (l, false))) (oEr (rSnap (l, false)))) := by
  have hra := fun o => readAllS_any v l (w.alloc o) (h.alloc o) hb
  generalize oSn (rSnap (l, false)) = s at *
  generalize oEr (rSnap (l, false)) = er at *
  obtain ⟨ta, off, mark, ms, ps, os⟩ := s
  have HR := hra
  clear hra h hb
  go_enter Tryz.func80, Tryz.ntmps80
  go_wp2_with fail
  refine (HR _).mono ?_
  rintro e w1 ⟨vm, vp, vc, rfl, ho1, hb1⟩
  clear HR
  obtain ⟨am, cm, hvm⟩ := ho1.m.shape
  obtain ⟨ap, cp, hvp⟩ := ho1.p.shape
  obtain ⟨ac, cc, hvc⟩ := ho1.c.shape
  rw [hvm, hvp, hvc] at ho1 ⊢
  have ho1 := ho1.mono (show w.heap.size ≤ _ by simp)
  have HO1 := hide ho1
  clear hvm hvp hvc ho1
  simp only at *
  have bA := (BoxT.new 27 w _).kept (base := 0) (Kept.of_below hb1) (by decide)
  obtain ⟨d0, d1, d2, d3, d4, d5⟩ := bA.cells6
  have fa := bA.free
  go_wp2
  have hx := bA.setAll (j := 0) [.int .i64 ta, .int .i64 off, .int .i64 mark, .slice am ms.length cm, .slice ap ps.length cp, .slice ac os.length cc]
  have hsn := HO1.out.setAll bA (j := 0) [.int .i64 ta, .int .i64 off, .int .i64 mark, .slice am ms.length cm, .slice ap ps.length cp, .slice ac os.length cc]
  have hW := below_setAll (Nat.le_refl w.heap.size) (j := 0) [.int .i64 ta, .int .i64 off, .int .i64 mark, .slice am ms.length cm, .slice ap ps.length cp, .slice ac os.length cc] (((Below.refl _ _).alloc (Nat.le_refl _) _).trans (hb1.mono (by simp)))
  simp only [setAll, Nat.reduceAdd] at hx hW hsn
  obtain ⟨x0, x1, x2, x3, x4, x5⟩ := BoxT.cells6 hx
  exact bodyPost_ret (v := .tuple #[.agg #[.int .i64 ta, .int .i64 off, .int .i64 mark, .slice am ms.length cm, .slice ap ps.length cp, .slice ac os.length cc], .int .i64 er]) (by simp [results, Tryz.results80, go_sem, x0, x1, x2, x3, x4, x5]) rfl (OSPost.mk (s := ⟨ta, off, mark, ms, ps, os⟩) hsn hW)
end Go.Proofs.YtbfhcbihgleddaaGreatDoor
