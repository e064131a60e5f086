/-
  Texts of the vault, in build order: RdListO, RdSnap, OpenSnap.
-/
import Derived.Test.YtbfhcbihgleddaaGreatDoorM10
import Derived.Test.YtbfhcbihgleddaaGreatDoorM11
import Derived.Test.YtbfhcbihgleddaaGreatDoorM09
/-
  Walks over package codec's readers of snapshots: the lists of captured frames.
-/
namespace Go.Proofs.YtbfhcbihgleddaaGreatDoor
open Go.RowKit

set_option maxHeartbeats 2000000 in
set_option maxRecDepth 100000 in
theorem readListO_any {R : Nat} {w : World} {s : List Nat × Bool} (h : RdS R w s) :
    Calls Tryz.prog 141 #[.pointer (some ⟨R, 0, none⟩), .int .i64 4096, .func (.func 142) #[] #[]] w fun e w' => ∃ v, e = .returned v ∧ OwnL 151 8 Ot.cs w.heap.size w' v (rList rOut 4096 s).1 ∧ RdS R w' (rList rOut 4096 s).2 ∧ w.grownBy w' (some R) := by
  have hR := h.lt
  have hb0 := num_lt (k := 2) h.2
  have n0 := number_any (sz := 2) h (by omega) (by omega)
  rw [show (2 : Int).toNat = 2 from rfl] at n0
  unfold rList
  generalize num 2 s = p0 at *
  obtain ⟨n, s0⟩ := p0
  simp only at *
  have hn : n < 65536 := hb0
  have hw : wrap64 (n : Int) = n := by unfold wrap64; omega
  have N0 := n0
  clear n0 hb0
  by_cases hm : 4096 < n
  · rw [if_pos hm]
    go_enter Tryz.func141, Tryz.ntmps141
    go_wp2_with fail
    refine N0.mono ?_
    rintro e w1 ⟨rfl, hr, hg⟩
    clear N0
    obtain ⟨ao, cap, r0, r1, rf⟩ := hr.cells
    have hrb := hr.bad
    have hg := grownBy_trans hg (grownBy_set w1 R 1 (.bool true))
    obtain ⟨ao', cap', r0', r1', rf'⟩ := hrb.cells
    simp only at r1'
    clear hr r0 r0'
    go_wp2
    refine wp_loop_rounds 1 ?_
    rw [rounds_succ]
    go_wp2
    go_ret
    exact ⟨_, rfl, OwnL.nil _ _ _ _ _, hrb, hg⟩
  rw [if_neg hm]
  generalize hrl : rL rOut n s0 = rl
  have HRL : Hid (rL rOut n s0 = rl) := hrl
  clear hrl
  go_enter Tryz.func141, Tryz.ntmps141
  go_wp2_with fail
  refine N0.mono ?_
  rintro e w1 ⟨rfl, hr, hg⟩
  clear N0
  have HR1 : Hid (RdS R w1 s0) := hr
  clear hr
  go_wp2
  go_loopw [8, 9] (fun v i wr => ∃ (k : Nat) (sk : List Nat × Bool) (acc : List Ot), k ≤ n ∧ i = .int .i64 k ∧ Hid (acc.length = k) ∧ Hid (RdS R wr sk) ∧ Hid (OwnL 151 8 Ot.cs w.heap.size wr v acc) ∧ Hid (w.grownBy wr (some R)) ∧ Hid (rl = (acc ++ (rL rOut (n - k) sk).1, (rL rOut (n - k) sk).2))) (fun _ i _ => n - (intOf i).toNat)
  case atStart => exact ⟨0, s0, [], Nat.zero_le _, rfl, rfl, HR1, OwnL.nil _ _ _ _ _, hg, by show rl = _; rw [← HRL.out]; rfl⟩
  case round =>
    obtain ⟨k, ⟨lk, bad⟩, acc, hk, rfl, HL, HRk, HO, HG, HE⟩ := hrel
    obtain ⟨ao, cap, r0, r1, rf⟩ := HRk.out.cells
    simp only at r0 r1
    clear r0
    by_cases hlt : k < n
    · cases bad
      · generalize hx : rOut (lk, false) = px
        obtain ⟨x, sx⟩ := px
        have HX : Hid (rOut (lk, false) = (x, sx)) := hx
        clear hx
        go_wp2_with fail
        refine (readOut_any HRk.out).mono ?_
        rw [HX.out]
        rintro e w2 ⟨rfl, hr2, hg2⟩
        have ho2 := HO.out.grown hg2 hR
        have hG2 := grownBy_trans HG.out hg2
        have hz2 := hG2.size
        have HR2 : Hid (RdS R (w2.alloc (.cells #[.int .i64 x.ch, .int .i64 x.f.kd, .int .i64 x.f.ke, .int .i64 x.f.ti, .int .i64 x.f.va, .int .i64 x.f.ma, .int .u64 x.f.n, .bool x.f.ov] 151)) sx) := hr2.alloc _
        have HO2 : Hid (OwnL 151 8 Ot.cs w.heap.size (w2.alloc (.cells #[.int .i64 x.ch, .int .i64 x.f.kd, .int .i64 x.f.ke, .int .i64 x.f.ti, .int .i64 x.f.va, .int .i64 x.f.ma, .int .u64 x.f.n, .bool x.f.ov] 151)) _ acc) := ho2.alloc _
        have HG3 : Hid (w.grownBy (w2.alloc (.cells #[.int .i64 x.ch, .int .i64 x.f.kd, .int .i64 x.f.ke, .int .i64 x.f.ti, .int .i64 x.f.va, .int .i64 x.f.ma, .int .u64 x.f.n, .bool x.f.ov] 151)) (some R)) := grown_alloc hG2 _
        have hla : acc.length ≤ 1000000 := by have := HL.out; omega
        clear hr2 hg2 ho2 hG2
        simp only [Ot.cs]
        go_wp2_with (first | (at_builtin; refine app_ownL Tryz.info151 Tryz.underlying25 rfl (by decide) (by decide) (fun _ => rfl) (fun y u hu => by simp [Ot.cs] at hu; rcases hu with rfl | rfl | rfl | rfl | rfl | rfl | rfl | rfl <;> rfl) rfl _ _ rfl w.heap.size _ acc rfl HO2.out ⟨w2.heap.size, 0, none⟩ 1 x rfl (fun j u hu => by match j, hu with | 0, hu | 1, hu | 2, hu | 3, hu | 4, hu | 5, hu | 6, hu | 7, hu => simp [Ot.cs] at hu; subst hu; simp [Addr.add]) hla (by simp; omega) ?_) | fail)
        intro v3 w3 ho3 hg3
        have HO3 : Hid (OwnL 151 8 Ot.cs w.heap.size w3 v3 (acc ++ [x])) := ho3
        have HR3 : Hid (RdS R w3 sx) := HO2.out.rd HR2.out hg3 hR
        have HG4 : Hid (w.grownBy w3 (some R)) := HO2.out.grownBy HG3.out hg3 (Nat.le_refl _)
        clear ho3 hg3 r1 rf
        go_wp2
        go_roundw
        case rel =>
          refine ⟨k + 1, sx, acc ++ [x], by omega, by go_num, ?_, HR3, HO3, HG4, ?_⟩
          · show _ = _; rw [List.length_append, HL.out]; rfl
          · show rl = _
            rw [HE.out, show n - k = (n - (k + 1)) + 1 from by omega]
            simp [rL, HX.out]
        case measure => simp [intOf]; omega
      · go_wp2
        go_ret
        refine ⟨_, rfl, ?_, ?_, HG.out⟩
        · rw [HE.out, rL_bad]; simpa using HO.out
        · rw [HE.out, rL_bad]; exact HRk.out
    · go_wp2
      go_ret
      refine ⟨_, rfl, ?_, ?_, HG.out⟩
      · rw [HE.out, show n - k = 0 from by omega]; simpa [rL] using HO.out
      · rw [HE.out, show n - k = 0 from by omega]; exact HRk.out
end Go.Proofs.YtbfhcbihgleddaaGreatDoor
/-
  Walks over package codec's readers of snapshots: a part as it is read.
-/
namespace Go.Proofs.YtbfhcbihgleddaaGreatDoor
open Go.RowKit

theorem arr6 {ca : Array Value} (h : ca.size = 6) : ∃ a0 a1 a2 a3 a4 a5, ca = #[a0, a1, a2, a3, a4, a5] := by
  obtain ⟨l⟩ := ca
  match l, h with
  | [a0, a1, a2, a3, a4, a5], _ => exact ⟨a0, a1, a2, a3, a4, a5, rfl⟩
theorem OwnL.setAll {α : Type} {t sz b k base : Nat} {cs : α → List Value} {v : Value} {xs : List α} (ht : b ≠ t) (vs : List Value) : ∀ {w : World} {ca : Array Value} {j : Nat}, OwnL t sz cs base w v xs → BoxT b w k ca → OwnL t sz cs base (setAll w k j vs) v xs := by
  induction vs with
  | nil => intro w ca j h _; exact h
  | cons u vs ih => intro w ca j h hb; exact ih (h.setBox hb ht j u) (hb.set j u)
theorem below_setAll {B k : Nat} (hk : B ≤ k) (vs : List Value) : ∀ {a w : World} {j : Nat}, Below B a w → Below B a (setAll w k j vs) := by
  induction vs with
  | nil => intro a w j h; exact h
  | cons u vs ih => intro a w j h; exact ih (h.setCell (p := ⟨k, j, none⟩) hk u)

theorem hide {p : Prop} (h : p) : Hid p := h
/-- The three lists of a part that was read, as they lie. -/
structure OwnSn (base : Nat) (w : World) (vm vp vc : Value) (s : Sn) : Prop where
  m : OwnL 2 1 ics base w vm s.marks
  p : OwnL 145 4 Pn.cs base w vp s.panes
  c : OwnL 151 8 Ot.cs base w vc s.outs
section
variable {base : Nat} {w w' : World} {vm vp vc : Value} {s : Sn}
theorem OwnSn.mono {base' : Nat} (h : OwnSn base w vm vp vc s) (hb : base' ≤ base) : OwnSn base' w vm vp vc s := ⟨h.m.mono hb, h.p.mono hb, h.c.mono hb⟩
theorem OwnSn.alloc (h : OwnSn base w vm vp vc s) (o : Obj) : OwnSn base (w.alloc o) vm vp vc s := ⟨h.m.alloc o, h.p.alloc o, h.c.alloc o⟩
theorem OwnSn.below (h : OwnSn base w vm vp vc s) (hb : Below w.heap.size w w') : OwnSn base w' vm vp vc s := ⟨h.m.below hb, h.p.below hb, h.c.below hb⟩
theorem OwnSn.setAll {k j : Nat} {ca : Array Value} (h : OwnSn base w vm vp vc s) (hb : BoxT 27 w k ca) (vs : List Value) : OwnSn base (setAll w k j vs) vm vp vc s :=
  ⟨OwnL.setAll (by decide) vs h.m hb, OwnL.setAll (by decide) vs h.p hb, OwnL.setAll (by decide) vs h.c hb⟩
end
def Sn.nil : Sn := ⟨0, 0, 0, [], [], []⟩
theorem OwnSn.nil (base : Nat) (w : World) : OwnSn base w (.slice none 0 0) (.slice none 0 0) (.slice none 0 0) Sn.nil := ⟨OwnL.nil _ _ _ _ _, OwnL.nil _ _ _ _ _, OwnL.nil _ _ _ _ _⟩

/-- What readSigned reads. -/
def rInt (s : List Nat × Bool) : Int × (List Nat × Bool) := (i64of (num 8 s).1, (num 8 s).2)
/-- What readSnap reads. -/
def rSnap (s : List Nat × Bool) : Sn × (List Nat × Bool) :=
  let p0 := num 2 s
  let p1 := num 2 p0.2
  let p2 := num 8 p1.2
  let p3 := rList (fun s => (i64of (num 8 s).1, (num 8 s).2)) 65535 p2.2
  let p4 := rList rPane 4096 p3.2
  let p5 := rList rOut 4096 p4.2
  (⟨(p0.1 : Nat), (p1.1 : Nat), i64of p2.1, p3.1, p4.1, p5.1⟩, p5.2)

set_option maxHeartbeats 4000000 in
set_option maxRecDepth 100000 in
theorem readSnap_any {R : Nat} {w : World} {s : List Nat × Bool} (h : RdS R w s) :
    Calls Tryz.prog 114 #[.pointer (some ⟨R, 0, none⟩)] w fun e w' => ∃ vm vp vc, e = .returned (.agg #[.int .i64 (rSnap s).1.task, .int .i64 (rSnap s).1.off, .int .i64 (rSnap s).1.mark, vm, vp, vc]) ∧ OwnSn w.heap.size w' vm vp vc (rSnap s).1 ∧ RdS R w' (rSnap s).2 ∧ w.grownBy w' (some R) := by
  have hR := h.lt
  have q := RB.start (t := 27) (n := 6) (ca := #[.int .i64 0, .int .i64 0, .int .i64 0, .slice none 0 0, .slice none 0 0, .slice none 0 0]) (cs := #[.int .i64 0, .int .i64 0, .int .i64 0, .slice none 0 0, .slice none 0 0, .slice none 0 0]) rfl h
  unfold rSnap
  have hb0 := num_lt (k := 2) h.2
  generalize hp0 : num 2 s = p0 at hb0 ⊢
  obtain ⟨ta, s0⟩ := p0
  have HP0 := hide hp0
  clear hp0
  dsimp only at hb0 ⊢
  have hw : wrap64 (ta : Int) = ta := by unfold wrap64; omega
  generalize hp1 : num 2 s0 = p1
  obtain ⟨off, s1⟩ := p1
  have HP1 := hide hp1
  clear hp1
  dsimp only
  generalize hp2 : num 8 s1 = p2
  obtain ⟨mk, s2⟩ := p2
  have HP2 := hide hp2
  clear hp2 hb0
  dsimp only
  generalize hmk : i64of mk = mark
  have HMK := hide hmk
  clear hmk
  generalize hp3 : rList (fun s => (i64of (num 8 s).1, (num 8 s).2)) 65535 s2 = p3
  obtain ⟨ms, s3⟩ := p3
  have HP3 := hide hp3
  clear hp3
  dsimp only
  generalize hp4 : rList rPane 4096 s3 = p4
  obtain ⟨ps, s4⟩ := p4
  have HP4 := hide hp4
  clear hp4
  dsimp only
  generalize hp5 : rList rOut 4096 s4 = p5
  obtain ⟨os, s5⟩ := p5
  have HP5 := hide hp5
  clear hp5
  dsimp only
  have N0 := number_any (sz := 2) q.rd (by omega) (by omega)
  rw [show (2 : Int).toNat = 2 from rfl, HP0.out] at N0
  go_enter Tryz.func114, Tryz.ntmps114
  go_wp2_with fail
  refine N0.mono ?_
  rintro e w1 ⟨rfl, hr, hg⟩
  have q := q.call hr hg
  obtain ⟨c0, c1, c2, c3, c4, c5⟩ := q.bF.cells6
  have fr := q.bF.free
  have q := q.set 0 (.int .i64 ta)
  have hb1 := num_lt (k := 2) hr.2
  rw [HP1.out] at hb1
  have hw1 : wrap64 (off : Int) = off := by unfold wrap64; dsimp only at hb1; omega
  clear hg hr N0 hb1
  have N1 := number_any (sz := 2) q.rd (by omega) (by omega)
  rw [show (2 : Int).toNat = 2 from rfl, HP1.out] at N1
  go_wp2_with fail
  refine N1.mono ?_
  rintro e w2 ⟨rfl, hr, hg⟩
  have q := q.call hr hg
  clear c0 c1 c2 c3 c4 c5 fr hg hr N1
  obtain ⟨c0, c1, c2, c3, c4, c5⟩ := q.bF.cells6
  have fr := q.bF.free
  have q := q.set 1 (.int .i64 off)
  have N2 := readSigned_any q.rd
  rw [HP2.out] at N2
  dsimp only at N2
  rw [HMK.out] at N2
  go_wp2_with fail
  refine N2.mono ?_
  rintro e w3 ⟨rfl, hr, hg⟩
  have q := q.call hr hg
  clear c0 c1 c2 c3 c4 c5 fr hg hr N2
  obtain ⟨c0, c1, c2, c3, c4, c5⟩ := q.bF.cells6
  have fr := q.bF.free
  have q := q.set 2 (.int .i64 mark)
  have N3 := readListI_any q.rd
  have hz3 := q.gr.size
  rw [HP3.out] at N3
  dsimp only at N3
  go_wp2_with fail
  refine N3.mono ?_
  rintro e w4 ⟨vm, rfl, hm, hr, hg⟩
  have q := q.call hr hg
  have hm := hm.mono hz3
  obtain ⟨am, cm, hvm⟩ := hm.shape
  rw [hvm] at hm ⊢
  clear c0 c1 c2 c3 c4 c5 fr hg hr N3 hz3 hvm
  obtain ⟨c0, c1, c2, c3, c4, c5⟩ := q.bF.cells6
  have fr := q.bF.free
  have hm := hm.setBox q.bF (by decide) 3 (.slice am ms.length cm)
  have q := q.set 3 (.slice am ms.length cm)
  have N4 := readListP_any q.rd
  have hz4 := q.gr.size
  rw [HP4.out] at N4
  dsimp only at N4
  have HM := hide hm
  clear hm
  go_wp2_with fail
  refine N4.mono ?_
  rintro e w5 ⟨vp, rfl, hp, hr, hg⟩
  have hm := HM.out.grown hg hR
  have q := q.call hr hg
  have hp := hp.mono hz4
  obtain ⟨ap, cp, hvp⟩ := hp.shape
  rw [hvp] at hp ⊢
  clear c0 c1 c2 c3 c4 c5 fr hg hr N4 hz4 hvp HM
  obtain ⟨c0, c1, c2, c3, c4, c5⟩ := q.bF.cells6
  have fr := q.bF.free
  have hm := hm.setBox q.bF (by decide) 4 (.slice ap ps.length cp)
  have hp := hp.setBox q.bF (by decide) 4 (.slice ap ps.length cp)
  have q := q.set 4 (.slice ap ps.length cp)
  have N5 := readListO_any q.rd
  have hz5 := q.gr.size
  rw [HP5.out] at N5
  dsimp only at N5
  have HM := hide hm
  have HP := hide hp
  clear hm hp
  go_wp2_with fail
  refine N5.mono ?_
  rintro e w6 ⟨vc, rfl, hc, hr, hg⟩
  have hm := HM.out.grown hg hR
  have hp := HP.out.grown hg hR
  have q := q.call hr hg
  have hc := hc.mono hz5
  obtain ⟨ac, cc, hvc⟩ := hc.shape
  rw [hvc] at hc ⊢
  clear c0 c1 c2 c3 c4 c5 fr hg hr N5 hz5 hvc HM HP
  obtain ⟨c0, c1, c2, c3, c4, c5⟩ := q.bF.cells6
  have fr := q.bF.free
  have hm := hm.setBox q.bF (by decide) 5 (.slice ac os.length cc)
  have hp := hp.setBox q.bF (by decide) 5 (.slice ac os.length cc)
  have hc := hc.setBox q.bF (by decide) 5 (.slice ac os.length cc)
  have q := q.set 5 (.slice ac os.length cc)
  have hsn : OwnSn w.heap.size _ _ _ _ ⟨ta, off, mark, ms, ps, os⟩ := ⟨hm, hp, hc⟩
  have HSN := hide hsn
  clear hm hp hc hsn c0 c1 c2 c3 c4
  obtain ⟨e0, e1, e2, e3, e4, e5⟩ := q.bF.cells6
  obtain ⟨ca, hca, bA⟩ := q.bA
  obtain ⟨a0, a1, a2, a3, a4, a5, rfl⟩ := arr6 hca
  obtain ⟨d0, d1, d2, d3, d4, d5⟩ := bA.cells6
  have fa := bA.free
  go_wp2
  have bx := bA.setAll (j := 0) [.int .i64 ta, .int .i64 off, .int .i64 mark, .slice am ms.length cm, .slice ap ps.length cp, .slice ac os.length cc]
  have hrd := q.rd.setAll hR (j := 0) [.int .i64 ta, .int .i64 off, .int .i64 mark, .slice am ms.length cm, .slice ap ps.length cp, .slice ac os.length cc]
  have hgr := grown_setAll (Nat.le_refl _) (j := 0) [.int .i64 ta, .int .i64 off, .int .i64 mark, .slice am ms.length cm, .slice ap ps.length cp, .slice ac os.length cc] q.gr
  have hsn := HSN.out.setAll bA (j := 0) [.int .i64 ta, .int .i64 off, .int .i64 mark, .slice am ms.length cm, .slice ap ps.length cp, .slice ac os.length cc]
  simp only [setAll, Nat.reduceAdd] at bx hrd hgr hsn
  obtain ⟨x0, x1, x2, x3, x4, x5⟩ := BoxT.cells6 bx
  exact bodyPost_ret (v := .agg #[.int .i64 ta, .int .i64 off, .int .i64 mark, .slice am ms.length cm, .slice ap ps.length cp, .slice ac os.length cc]) (by simp [results, Tryz.results114, go_sem, x0, x1, x2, x3, x4, x5]) rfl ⟨_, _, _, rfl, hsn, hrd, hgr⟩
end Go.Proofs.YtbfhcbihgleddaaGreatDoor
/-
  Walks over package codec's readers of snapshots: the whole.
-/
namespace Go.Proofs.YtbfhcbihgleddaaGreatDoor
open Go.RowKit

/-- What OpenSnap tells: the part s, and er. -/
def OSPost (w : World) (s : Sn) (er : Int) (e : Ending) (w' : World) : Prop :=
  ∃ vm vp vc, e = .returned (.tuple #[.agg #[.int .i64 s.task, .int .i64 s.off, .int .i64 s.mark, vm, vp, vc], .int .i64 er]) ∧ OwnSn w.heap.size w' vm vp vc s ∧ Below w.heap.size w w'
theorem OSPost.mk {w w' : World} {s : Sn} {er : Int} {vm vp vc : Value} (ho : OwnSn w.heap.size w' vm vp vc s) (hb : Below w.heap.size w w') : OSPost w s er (.returned (.tuple #[.agg #[.int .i64 s.task, .int .i64 s.off, .int .i64 s.mark, vm, vp, vc], .int .i64 er])) w' := ⟨_, _, _, rfl, ho, hb⟩
def oSn (p : Sn × (List Nat × Bool)) : Sn := if done p.2 then p.1 else Sn.nil
def oEr (p : Sn × (List Nat × Bool)) : Int := if done p.2 then 0 else 10

set_option maxHeartbeats 4000000 in
set_option maxRecDepth 100000 in
theorem readAllS_no (v : Value) (l : List Nat) (w : World) (h : Seg w v l) (hb : Byts l) (hno : Hid (done (rSnap (l, false)).2 = false)) :
    Calls Tryz.prog 113 #[v, .func (.func 114) #[] #[]] w (OSPost w Sn.nil 10) := by
  have hrf := fun o => readSnap_any (RdS.start_at (k := w.heap.size + 1) (by simp) (h.alloc o) hb)
  obtain ⟨ao, cap, rfl, h2, h3, h3', h4⟩ := h
  generalize rSnap (l, false) = p at *
  obtain ⟨⟨ta, off, mark, ms, ps, os⟩, s1, bad⟩ := p
  simp only at *
  have HR := hrf
  clear h4 hrf
  cases bad
  · rcases s1 with _ | ⟨x, s1⟩
    · exact absurd hno.out (by simp [done])
    · clear hno
      go_enter Tryz.func113, Tryz.ntmps113
      go_wp2_with fail
      refine (HR _).mono ?_
      rintro e w1 ⟨vm, vp, vc, rfl, ho1, hr, hg⟩
      clear HR
      obtain ⟨am, cm, hvm⟩ := ho1.m.shape
      obtain ⟨ap, cp, hvp⟩ := ho1.p.shape
      obtain ⟨ac, cc, hvc⟩ := ho1.c.shape
      rw [hvm, hvp, hvc]
      clear hvm hvp hvc ho1
      simp only at *
      obtain ⟨ao', cap', r0, r1, rf⟩ := hr.cells
      have bA := (((BoxT.new 27 w _).alloc (.cells #[.slice ao l.length cap, .bool false] 177) |>.grown hg (by omega)).alloc (.cells #[.int .i64 ta, .int .i64 off, .int .i64 mark, .slice am ms.length cm, .slice ap ps.length cp, .slice ac os.length cc] 27)).alloc (.cells #[.int .i64 0, .int .i64 0, .int .i64 0, .slice none 0 0, .slice none 0 0, .slice none 0 0] 27)
      have hbel := Below.trans (((Below.refl w.heap.size w).alloc (Nat.le_refl _) _).alloc (by simp) _) (Below.of_grown hg (B := w.heap.size) (by omega) (by simp; omega))
      obtain ⟨d0, d1, d2, d3, d4, d5⟩ := bA.cells6
      have fa := bA.free
      have hz := hbel.size
      have hR := hr.lt
      have hpos : (0 : Int) < (s1.length : Int) + 1 := by omega
      clear hg
      go_wp2
      have hx := bA.setAll (j := 0) [.int .i64 0, .int .i64 0, .int .i64 0, .slice none 0 0, .slice none 0 0, .slice none 0 0]
      have hW := below_setAll (Nat.le_refl w.heap.size) (j := 0) [.int .i64 0, .int .i64 0, .int .i64 0, .slice none 0 0, .slice none 0 0, .slice none 0 0] ((hbel.alloc (by omega) (.cells #[.int .i64 ta, .int .i64 off, .int .i64 mark, .slice am ms.length cm, .slice ap ps.length cp, .slice ac os.length cc] 27)).alloc (by simp; omega) (.cells #[.int .i64 0, .int .i64 0, .int .i64 0, .slice none 0 0, .slice none 0 0, .slice none 0 0] 27))
      simp only [setAll, Nat.reduceAdd] at hx hW
      obtain ⟨x0, x1, x2, x3, x4, x5⟩ := BoxT.cells6 hx
      exact bodyPost_ret (v := .tuple #[.agg #[.int .i64 0, .int .i64 0, .int .i64 0, .slice none 0 0, .slice none 0 0, .slice none 0 0], .int .i64 10]) (by simp [results, Tryz.results113, go_sem, x0, x1, x2, x3, x4, x5]) rfl (OSPost.mk (OwnSn.nil _ _) hW)
  · clear hno
    go_enter Tryz.func113, Tryz.ntmps113
    go_wp2_with fail
    refine (HR _).mono ?_
    rintro e w1 ⟨vm, vp, vc, rfl, ho1, hr, hg⟩
    clear HR
    obtain ⟨am, cm, hvm⟩ := ho1.m.shape
    obtain ⟨ap, cp, hvp⟩ := ho1.p.shape
    obtain ⟨ac, cc, hvc⟩ := ho1.c.shape
    rw [hvm, hvp, hvc]
    clear hvm hvp hvc ho1
    simp only at *
    obtain ⟨ao', cap', r0, r1, rf⟩ := hr.cells
    have bA := (((BoxT.new 27 w _).alloc (.cells #[.slice ao l.length cap, .bool false] 177) |>.grown hg (by omega)).alloc (.cells #[.int .i64 ta, .int .i64 off, .int .i64 mark, .slice am ms.length cm, .slice ap ps.length cp, .slice ac os.length cc] 27)).alloc (.cells #[.int .i64 0, .int .i64 0, .int .i64 0, .slice none 0 0, .slice none 0 0, .slice none 0 0] 27)
    have hbel := Below.trans (((Below.refl w.heap.size w).alloc (Nat.le_refl _) _).alloc (by simp) _) (Below.of_grown hg (B := w.heap.size) (by omega) (by simp; omega))
    obtain ⟨d0, d1, d2, d3, d4, d5⟩ := bA.cells6
    have fa := bA.free
    have hz := hbel.size
    have hR := hr.lt
    clear hg
    go_wp2
    have hx := bA.setAll (j := 0) [.int .i64 0, .int .i64 0, .int .i64 0, .slice none 0 0, .slice none 0 0, .slice none 0 0]
    have hW := below_setAll (Nat.le_refl w.heap.size) (j := 0) [.int .i64 0, .int .i64 0, .int .i64 0, .slice none 0 0, .slice none 0 0, .slice none 0 0] ((hbel.alloc (by omega) (.cells #[.int .i64 ta, .int .i64 off, .int .i64 mark, .slice am ms.length cm, .slice ap ps.length cp, .slice ac os.length cc] 27)).alloc (by simp; omega) (.cells #[.int .i64 0, .int .i64 0, .int .i64 0, .slice none 0 0, .slice none 0 0, .slice none 0 0] 27))
    simp only [setAll, Nat.reduceAdd] at hx hW
    obtain ⟨x0, x1, x2, x3, x4, x5⟩ := BoxT.cells6 hx
    exact bodyPost_ret (v := .tuple #[.agg #[.int .i64 0, .int .i64 0, .int .i64 0, .slice none 0 0, .slice none 0 0, .slice none 0 0], .int .i64 10]) (by simp [results, Tryz.results113, go_sem, x0, x1, x2, x3, x4, x5]) rfl (OSPost.mk (OwnSn.nil _ _) hW)

set_option maxHeartbeats 4000000 in
set_option maxRecDepth 100000 in
theorem readAllS_yes (v : Value) (l : List Nat) (w : World) (h : Seg w v l) (hb : Byts l) (s : Sn) (hyes : Hid (rSnap (l, false) = (s, ([], false)))) :
    Calls Tryz.prog 113 #[v, .func (.func 114) #[] #[]] w (OSPost w s 0) := by
  have hrf := fun o => readSnap_any (RdS.start_at (k := w.heap.size + 1) (by simp) (h.alloc o) hb)
  obtain ⟨ao, cap, rfl, h2, h3, h3', h4⟩ := h
  rw [hyes.out] at hrf
  obtain ⟨ta, off, mark, ms, ps, os⟩ := s
  simp only at *
  have HR := hrf
  clear h4 hrf hyes
  go_enter Tryz.func113, Tryz.ntmps113
  go_wp2_with fail
  refine (HR _).mono ?_
  rintro e w1 ⟨vm, vp, vc, rfl, ho1, hr, hg⟩
  clear HR
  obtain ⟨am, cm, hvm⟩ := ho1.m.shape
  obtain ⟨ap, cp, hvp⟩ := ho1.p.shape
  obtain ⟨ac, cc, hvc⟩ := ho1.c.shape
  rw [hvm, hvp, hvc] at ho1 ⊢
  clear hvm hvp hvc
  simp only at *
  obtain ⟨ao', cap', r0, r1, rf⟩ := hr.cells
  have bA := ((BoxT.new 27 w _).alloc (.cells #[.slice ao l.length cap, .bool false] 177) |>.grown hg (by omega)).alloc (.cells #[.int .i64 ta, .int .i64 off, .int .i64 mark, .slice am ms.length cm, .slice ap ps.length cp, .slice ac os.length cc] 27)
  have hbel := Below.trans (((Below.refl w.heap.size w).alloc (Nat.le_refl _) _).alloc (by simp) _) (Below.of_grown hg (B := w.heap.size) (by omega) (by simp; omega))
  have ho1 := (ho1.mono (show w.heap.size ≤ _ by simp; omega)).alloc (.cells #[.int .i64 ta, .int .i64 off, .int .i64 mark, .slice am ms.length cm, .slice ap ps.length cp, .slice ac os.length cc] 27)
  have HO1 := hide ho1
  obtain ⟨d0, d1, d2, d3, d4, d5⟩ := bA.cells6
  have fa := bA.free
  have hz := hbel.size
  have hR := hr.lt
  clear hg ho1
  go_wp2
  have hx := bA.setAll (j := 0) [.int .i64 ta, .int .i64 off, .int .i64 mark, .slice am ms.length cm, .slice ap ps.length cp, .slice ac os.length cc]
  have hsn := HO1.out.setAll bA (j := 0) [.int .i64 ta, .int .i64 off, .int .i64 mark, .slice am ms.length cm, .slice ap ps.length cp, .slice ac os.length cc]
  have hW := below_setAll (Nat.le_refl w.heap.size) (j := 0) [.int .i64 ta, .int .i64 off, .int .i64 mark, .slice am ms.length cm, .slice ap ps.length cp, .slice ac os.length cc] (hbel.alloc (by omega) (.cells #[.int .i64 ta, .int .i64 off, .int .i64 mark, .slice am ms.length cm, .slice ap ps.length cp, .slice ac os.length cc] 27))
  simp only [setAll, Nat.reduceAdd] at hx hW hsn
  obtain ⟨x0, x1, x2, x3, x4, x5⟩ := BoxT.cells6 hx
  exact bodyPost_ret (v := .tuple #[.agg #[.int .i64 ta, .int .i64 off, .int .i64 mark, .slice am ms.length cm, .slice ap ps.length cp, .slice ac os.length cc], .int .i64 0]) (by simp [results, Tryz.results113, go_sem, x0, x1, x2, x3, x4, x5]) rfl (OSPost.mk (s := ⟨ta, off, mark, ms, ps, os⟩) hsn hW)

theorem readAllS_any (v : Value) (l : List Nat) (w : World) (h : Seg w v l) (hb : Byts l) :
    Calls Tryz.prog 113 #[v, .func (.func 114) #[] #[]] w (OSPost w (oSn (rSnap (l, false))) (oEr (rSnap (l, false)))) := by
  unfold oSn oEr
  rcases Bool.eq_false_or_eq_true (done (rSnap (l, false)).2) with hd | hd
  · rw [hd]
    have hy : rSnap (l, false) = ((rSnap (l, false)).1, ([], false)) := by
      generalize rSnap (l, false) = p at *
      obtain ⟨s, l1, bad⟩ := p
      cases bad <;> rcases l1 with _ | ⟨x, l1⟩ <;> simp [done] at hd ⊢
    exact readAllS_yes v l w h hb _ hy
  · rw [hd]
    exact readAllS_no v l w h hb hd

set_option maxHeartbeats 2000000 in
set_option maxRecDepth 100000 in
theorem OpenSnap_any (v : Value) (l : List Nat) (w : World) (h : Seg w v l) (hb : Byts l) :
    Calls Tryz.prog 80 #[v] w (OSPost w (oSn (rSnap (l, false))) (oEr (rSnap (l, false)))) := by
  have hra := fun o => readAllS_any v l (w.alloc o) (h.alloc o) hb
  generalize oSn (rSnap (l, false)) = s at *
  generalize oEr (rSnap (l, false)) = er at *
  obtain ⟨ta, off, mark, ms, ps, os⟩ := s
  have HR := hra
  clear hra h hb
  go_enter Tryz.func80, Tryz.ntmps80
  go_wp2_with fail
  refine (HR _).mono ?_
  rintro e w1 ⟨vm, vp, vc, rfl, ho1, hb1⟩
  clear HR
  obtain ⟨am, cm, hvm⟩ := ho1.m.shape
  obtain ⟨ap, cp, hvp⟩ := ho1.p.shape
  obtain ⟨ac, cc, hvc⟩ := ho1.c.shape
  rw [hvm, hvp, hvc] at ho1 ⊢
  have ho1 := ho1.mono (show w.heap.size ≤ _ by simp)
  have HO1 := hide ho1
  clear hvm hvp hvc ho1
  simp only at *
  have bA := (BoxT.new 27 w _).kept (base := 0) (Kept.of_below hb1) (by decide)
  obtain ⟨d0, d1, d2, d3, d4, d5⟩ := bA.cells6
  have fa := bA.free
  go_wp2
  have hx := bA.setAll (j := 0) [.int .i64 ta, .int .i64 off, .int .i64 mark, .slice am ms.length cm, .slice ap ps.length cp, .slice ac os.length cc]
  have hsn := HO1.out.setAll bA (j := 0) [.int .i64 ta, .int .i64 off, .int .i64 mark, .slice am ms.length cm, .slice ap ps.length cp, .slice ac os.length cc]
  have hW := below_setAll (Nat.le_refl w.heap.size) (j := 0) [.int .i64 ta, .int .i64 off, .int .i64 mark, .slice am ms.length cm, .slice ap ps.length cp, .slice ac os.length cc] (((Below.refl _ _).alloc (Nat.le_refl _) _).trans (hb1.mono (by simp)))
  simp only [setAll, Nat.reduceAdd] at hx hW hsn
  obtain ⟨x0, x1, x2, x3, x4, x5⟩ := BoxT.cells6 hx
  exact bodyPost_ret (v := .tuple #[.agg #[.int .i64 ta, .int .i64 off, .int .i64 mark, .slice am ms.length cm, .slice ap ps.length cp, .slice ac os.length cc], .int .i64 er]) (by simp [results, Tryz.results80, go_sem, x0, x1, x2, x3, x4, x5]) rfl (OSPost.mk (s := ⟨ta, off, mark, ms, ps, os⟩) hsn hW)
end Go.Proofs.YtbfhcbihgleddaaGreatDoor
