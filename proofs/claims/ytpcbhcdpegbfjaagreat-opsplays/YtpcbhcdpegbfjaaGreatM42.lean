/-
  Texts in build order: ZOFit, ZOFitP.
-/
import Derived.Test.YtpcbhcdpegbfjaaGreatM40
import Derived.Test.YtpcbhcdpegbfjaaGreatM41
import Derived.Laws.StructEq
/-
 fit of a node.
-/
namespace Go.Proofs.YtpcbhcdpegbfjaaGreat.J
set_option maxHeartbeats 16000000
set_option maxRecDepth 100000
open Go.RowKit
theorem wp_at {c : Code} {Q : Exit → Act → World → Prop} {a : Act} {w : World} (P : World → Prop) (h : P w) (k : ∀ W, P W → c.wp Tryz.prog Q a W) : c.wp Tryz.prog Q a w := k w h
def nMid (n : Nd) (a : Option Addr) (c : Nat) : Nd := { n with ia := a, ic := c, ins := [0], par := 1 }
def nSnk (a : Option Addr) (c : Nat) : Nd := ⟨8, a, c, [1], 1, e0, 0, 0, 0, 0⟩
def FtO (n : Nd) : Prop := lgt n.e 100 40 ≤ 100 ∧ ∃ a c a2 c2, CkOk [cSrc, nMid n a c, nSnk a2 c2]
def nCells (n : Nd) (ia : Option Addr) (il ic : Nat) (par : Int) : Array Value := #[.int .i64 1, .slice none 0 0, .int .i64 1, .int .i64 0, .int .i64 0, .slice none 0 0, .int .i64 0, .int .i64 0, .int .i64 0, .int .i64 0, .int .i64 n.kind, .slice ia il ic, .int .i64 par, .int .i64 n.e.op, .int .i64 n.e.n, .slice n.e.a n.e.l.length n.e.c, .int .i64 n.agg, .int .i64 n.wk, .int .i64 n.ws, .int .i64 n.wl]
theorem fitO_any {w : World} {n : Nd} (hi : n.ins.length ≤ 140737488355328) (hE : In w n.e) :
  Calls Tryz.prog 9 #[n.val] w fun e w' => ∃ b : Bool, e = .returned (.bool b) ∧ (b = true → n.kind ≠ 1 → n.kind ≠ 8 → FtO n) ∧ Below w.heap.size w w' := by
 have HB := hide (below_box w (.cells n.cs.toArray 29))
 have HX := hide (BoxT.new 29 w n.cs.toArray)
 have HE := hide hE
 have HLT := hide (fun w' (hb : Below w.heap.size w w') => Light_any n.e w' 100 40 (HE.out.below hb) (by omega) (by omega) (by omega) (by omega))
 have hlt := lgt_ok n.e 100 40 (by omega)
 clear hE
 by_cases h4 : 4 < n.ins.length
 ·have b4 : (4 : Int) < (n.ins.length : Int) := by omega
  unfold Nd.val
  go_enter Tryz.func9, Tryz.ntmps9
  go_wp2_with fail
  go_ret
  exact ⟨false, rfl, (fun h => by cases h), HB.out⟩
 have b4 : ¬ (4 : Int) < (n.ins.length : Int) := by omega
 by_cases hl : 100 < lgt n.e 100 40
 ·unfold Nd.val
  go_enter Tryz.func9, Tryz.ntmps9
  go_wp2_with (go_at_call 25; refine (HLT.out _ HB.out).mono ?_; rintro e w1 ⟨rfl, b1⟩; have B1 := hide (HB.out.trans (b1.mono HB.out.size)); clear b1)
  go_ret
  exact ⟨false, rfl, (fun h => by cases h), B1.out⟩
 unfold Nd.val
 go_enter Tryz.func9, Tryz.ntmps9
 go_upto_region 4 with (go_at_call 25; refine (HLT.out _ HB.out).mono ?_; rintro e w1 ⟨rfl, b1⟩; have B1 := hide (HB.out.trans (b1.mono HB.out.size)); have X1 := hide (HX.out.below b1); obtain ⟨c0, c1, c2, c3, c4, c5, c6, c7, c8, c9⟩ := BoxT.cells10 X1.out; clear b1)
 refine wp_at (fun V => BoxT 29 V w1.heap.size (nCells n n.ia n.ins.length n.ic n.par) ∧ BoxT 62 V (w1.heap.size + 1) #[.slice (some ⟨w1.heap.size, 0, none⟩) 2 2] ∧ BoxT 29 V w.heap.size n.cs.toArray ∧ Below w.heap.size w V) ⟨(BoxT.new 29 w1 _).alloc _, BoxT.new_at (by simp), (X1.out.alloc _).alloc _, (B1.out.alloc B1.out.size _).alloc (by have := B1.out.size; simp; omega) _⟩ ?_
 have hwb : w.heap.size ≤ w1.heap.size := B1.out.size
 clear X1 c0 c1 c2 c3 c4 c5 c6 c7 c8 c9 HX HB B1
 generalize w1.heap.size = nb at *
 rintro V ⟨NV, JV, XV, BV⟩
 have HNV := hide NV
 have HJV := hide JV
 have HBV := hide BV
 obtain ⟨c0, c1, c2, c3, c4, c5, c6, c7, c8, c9⟩ := BoxT.cells10 XV
 clear NV JV XV BV
 by_cases hk1 : n.kind = 1
 ·have g1 : (n.kind == 1) = true := by simp [hk1]
  go_wp2_with fail
  all_goals go_ret
  all_goals exact ⟨_, rfl, (fun _ h => absurd hk1 h), HBV.out⟩
 by_cases hk8 : n.kind = 8
 ·have g1 : (n.kind == 1) = false := by simp [hk1]
  have g8 : (n.kind == 8) = true := by simp [hk8]
  go_wp2_with fail
  all_goals go_ret
  all_goals exact ⟨_, rfl, (fun _ _ h => absurd hk8 h), HBV.out⟩
 have g1 : (n.kind == 1) = false := by simp [hk1]
 have g8 : (n.kind == 8) = false := by simp [hk8]
 have j0 : V.cell? ⟨nb + 1, 0, none⟩ = some (.slice (some ⟨nb, 0, none⟩) 2 2) := HJV.out.cellAt 0
 have n11 : V.cell? ⟨nb, 11, none⟩ = some (.slice n.ia n.ins.length n.ic) := HNV.out.cellAt 11
 have nfr := HNV.out.free
 have HA1 := hide (HNV.out.alloc (.cells #[.int .i64 0] 3))
 have afr := HA1.out.free
 have a11 : (V.alloc (.cells #[.int .i64 0] 3)).cell? ⟨nb, 11, none⟩ = some (.slice n.ia n.ins.length n.ic) := HA1.out.cellAt 11
 go_upto_region 7 with fail
 refine wp_at (fun U => BoxT 29 U nb (nCells n (some ⟨V.heap.size, 0, none⟩) 1 1 n.par) ∧ BoxT 62 U (nb + 1) #[.slice (some ⟨nb, 0, none⟩) 2 2] ∧ BoxT 3 U V.heap.size #[.int .i64 0] ∧ Below w.heap.size w U) ⟨HA1.out.set 11 _, (HJV.out.alloc _).other _ _ (by omega), (BoxT.new 3 V _).other _ _ (by have := HNV.out.lt; show V.heap.size ≠ nb; omega), (HBV.out.alloc HBV.out.size _).setCell hwb _⟩ ?_
 have hvb : w.heap.size ≤ V.heap.size := HBV.out.size
 clear HA1 afr a11 HNV HJV HBV j0 n11 nfr c0 c1 c2 c3 c4 c5 c6 c7 c8 c9
 generalize V.heap.size = ib at *
 rintro U ⟨NU, JU, IU, BU⟩
 have HNU := hide NU
 have HJU := hide JU
 have HIU := hide IU
 have HBU := hide BU
 have j0 : U.cell? ⟨nb + 1, 0, none⟩ = some (.slice (some ⟨nb, 0, none⟩) 2 2) := JU.cellAt 0
 have n12 : U.cell? ⟨nb, 12, none⟩ = some (.int .i64 n.par) := NU.cellAt 12
 have nfr := NU.free
 clear NU JU IU BU
 go_upto_region 8 with fail
 refine wp_at (fun T => BoxT 29 T nb (nCells n (some ⟨ib, 0, none⟩) 1 1 1) ∧ BoxT 62 T (nb + 1) #[.slice (some ⟨nb, 0, none⟩) 2 2] ∧ BoxT 3 T ib #[.int .i64 0] ∧ Below w.heap.size w T) ⟨HNU.out.set 12 _, HJU.out.other _ _ (by omega), HIU.out.other _ _ (BoxT.ne (t := 3) (t' := 29) HIU.out HNU.out (by decide)), HBU.out.setCell hwb _⟩ ?_
 clear HNU HJU HIU HBU j0 n12 nfr
 rintro T ⟨NT, JT, IT, BT⟩
 have HJB : Hid (JB w.heap.size T (nb + 1) (.slice (some ⟨nb, 0, none⟩) 2 2) [cSrc, nMid n (some ⟨ib, 0, none⟩) 1]) := (show JB _ _ _ _ _ from ⟨JT, OwnL.mkA (xs := [cSrc, nMid n (some ⟨ib, 0, none⟩) 1]) (cap := 2) Nd.cs_len (by decide) hwb NT (Nat.le_refl 2) (by decide) rfl (fun i x j u hx hu => by
  have hj : j < 10 := by have := lt_of_get hu; rw [Nd.cs_len] at this; exact this
  match i, hx with
  | 0, hx =>
   obtain rfl : cSrc = x := by simpa using hx
   match j, hj, hu with
   | 0, _, hu | 1, _, hu | 2, _, hu | 3, _, hu | 4, _, hu | 5, _, hu | 6, _, hu | 7, _, hu | 8, _, hu | 9, _, hu => simpa [Nd.cs, cSrc, e0, nCells] using hu
  | 1, hx =>
   obtain rfl : nMid n (some ⟨ib, 0, none⟩) 1 = x := by simpa using hx
   match j, hj, hu with
   | 0, _, hu | 1, _, hu | 2, _, hu | 3, _, hu | 4, _, hu | 5, _, hu | 6, _, hu | 7, _, hu | 8, _, hu | 9, _, hu => simpa [Nd.cs, nMid, nCells] using hu
  | i + 2, hx => simp at hx), fun m hm => (by
   simp only [List.mem_cons, List.not_mem_nil, or_false] at hm
   rcases hm with rfl | rfl
   ·exact OwnL.nil _ _ _ _ _
   ·exact OwnL.mk1 (ic_len _) hvb IT), by omega⟩)
 have HBT := hide BT
 have j0 : T.cell? ⟨nb + 1, 0, none⟩ = some (.slice (some ⟨nb, 0, none⟩) 2 2) := JT.cellAt 0
 clear NT JT IT BT
 have htb : w.heap.size ≤ T.heap.size := HBT.out.size
 have HJR : Hid (JB w.heap.size ((T.alloc (.cells #[.int .i64 1] 3)).alloc (.cells #[.int .i64 8, .slice (some ⟨T.heap.size, 0, none⟩) 1 1, .int .i64 1, .int .i64 0, .int .i64 0, .slice none 0 0, .int .i64 0, .int .i64 0, .int .i64 0, .int .i64 0] 29)) (nb + 1) (.slice (some ⟨nb, 0, none⟩) 2 2) [cSrc, nMid n (some ⟨ib, 0, none⟩) 1]) := (show JB _ _ _ _ _ from HJB.out.below (((Below.refl _ _).alloc (Nat.le_refl _) _).alloc (by simp) _))
 have HBR : Hid (Below w.heap.size w ((T.alloc (.cells #[.int .i64 1] 3)).alloc (.cells #[.int .i64 8, .slice (some ⟨T.heap.size, 0, none⟩) 1 1, .int .i64 1, .int .i64 0, .int .i64 0, .slice none 0 0, .int .i64 0, .int .i64 0, .int .i64 0, .int .i64 0] 29))) := (show Below _ _ _ from (HBT.out.alloc htb _).alloc (by simp; omega) _)
 have HIR : Hid (OwnL 3 1 ic w.heap.size ((T.alloc (.cells #[.int .i64 1] 3)).alloc (.cells #[.int .i64 8, .slice (some ⟨T.heap.size, 0, none⟩) 1 1, .int .i64 1, .int .i64 0, .int .i64 0, .slice none 0 0, .int .i64 0, .int .i64 0, .int .i64 0, .int .i64 0] 29)) (.slice (some ⟨T.heap.size, 0, none⟩) 1 1) [1]) := (show OwnL _ _ _ _ _ _ _ from OwnL.mk1 (ic_len _) htb ((BoxT.new 3 T _).alloc _))
 have HNW : Hid (∀ (j : Nat) (u : Value), (nSnk (some ⟨T.heap.size, 0, none⟩) 1).cs[j]? = some u → ((T.alloc (.cells #[.int .i64 1] 3)).alloc (.cells #[.int .i64 8, .slice (some ⟨T.heap.size, 0, none⟩) 1 1, .int .i64 1, .int .i64 0, .int .i64 0, .slice none 0 0, .int .i64 0, .int .i64 0, .int .i64 0, .int .i64 0] 29)).cell? ((⟨T.heap.size + 1, 0, none⟩ : Addr).add j) = some u) := (show ∀ j u, _ from fun j u hu => by
  have hb : BoxT 29 ((T.alloc (.cells #[.int .i64 1] 3)).alloc (.cells #[.int .i64 8, .slice (some ⟨T.heap.size, 0, none⟩) 1 1, .int .i64 1, .int .i64 0, .int .i64 0, .slice none 0 0, .int .i64 0, .int .i64 0, .int .i64 0, .int .i64 0] 29)) (T.heap.size + 1) (nSnk (some ⟨T.heap.size, 0, none⟩) 1).cs.toArray := BoxT.new_at (by simp)
  rw [add_plain2, hb.cellAt, Nat.zero_add]
  simpa using hu)
 have HBR2 := HBR
 have hwr : w.heap.size ≤ ((T.alloc (.cells #[.int .i64 1] 3)).alloc (.cells #[.int .i64 8, .slice (some ⟨T.heap.size, 0, none⟩) 1 1, .int .i64 1, .int .i64 0, .int .i64 0, .slice none 0 0, .int .i64 0, .int .i64 0, .int .i64 0, .int .i64 0] 29)).heap.size := HBR.out.size
 go_upto_region 9 with (at_builtin; go_loud (refine app_nd rfl _ _ rfl w.heap.size (.slice (some ⟨nb, 0, none⟩) 2 2) [cSrc, nMid n (some ⟨ib, 0, none⟩) 1] rfl HJR.out.row ⟨T.heap.size + 1, 0, none⟩ 1 (nSnk (some ⟨T.heap.size, 0, none⟩) 1) rfl HNW.out (show 2 ≤ 1000 by omega) hwr ?_; intro v5 w5 o5 g5 k5; have HGR := hide (HJR.out.grown o5 g5 HIR.out); have HGB := hide (HJR.out.grownBelow (v' := v5) g5 hwr); have jj0 : w5.cell? ⟨nb + 1, 0, none⟩ = some (.slice (some ⟨nb, 0, none⟩) 2 2) := HGR.out.1.cellAt 0; have jfr := HGR.out.1.free 0; obtain ⟨a5, e5, hv5⟩ := o5.shape; have hv6 : v5 = .slice a5 3 e5 := hv5; subst hv6; clear o5 g5 k5 hv5))
 clear HJB HBT HJR HBR HIR HNW hwr j0
 refine wp_at (fun X => JB w.heap.size X (nb + 1) (.slice a5 3 e5) ([cSrc, nMid n (some ⟨ib, 0, none⟩) 1] ++ [nSnk (some ⟨T.heap.size, 0, none⟩) 1]) ∧ Below w.heap.size w X) ⟨HGR.out.2, HBR2.out.trans HGB.out⟩ ?_
 clear HGR HGB HBR2 jj0 jfr
 rintro X ⟨JX, BX⟩
 have x0 : X.cell? ⟨nb + 1, 0, none⟩ = some (.slice a5 3 e5) := JX.cell.1
 have HJX := hide (JX.job (show 3 ≤ 1000 by omega) (fun m hm => by
  simp only [List.cons_append, List.nil_append, List.mem_cons, List.not_mem_nil, or_false] at hm
  rcases hm with rfl | rfl | rfl
  ·exact Nat.zero_le _
  ·exact (show 1 ≤ 1000 by omega)
  ·exact (show 1 ≤ 1000 by omega)))
 have hE0 : ∀ W : World, In W e0 := fun W => In.mk ⟨by decide, by decide, by decide, by decide, by decide, by decide, fun i x hx => by simp [e0] at hx⟩ (fun x hx => by simp [e0] at hx)
 have hEx : ExIn X ([cSrc, nMid n (some ⟨ib, 0, none⟩) 1] ++ [nSnk (some ⟨T.heap.size, 0, none⟩) 1]) := fun m hm => by
  simp only [List.cons_append, List.nil_append, List.mem_cons, List.not_mem_nil, or_false] at hm
  rcases hm with rfl | rfl | rfl
  ·exact hE0 _
  ·exact HE.out.below BX
  ·exact hE0 _
 have hl0 : lgt e0 100 40 ≤ 100 := by unfold e0; rw [lgt_mk]; simp [lgt1, lgtL]
 have hXR := exR_of (ns := [cSrc, nMid n (some ⟨ib, 0, none⟩) 1] ++ [nSnk (some ⟨T.heap.size, 0, none⟩) 1]) (fun m hm => by
  simp only [List.cons_append, List.nil_append, List.mem_cons, List.not_mem_nil, or_false] at hm
  rcases hm with rfl | rfl | rfl
  ·exact ⟨Nat.zero_le _, hl0⟩
  ·exact ⟨show 1 ≤ 40 by omega, show lgt n.e 100 40 ≤ 100 by omega⟩
  ·exact ⟨show 1 ≤ 40 by omega, hl0⟩) hEx
 have HRC := hide (rcheckA HJX.out hXR)
 have HBX := hide BX
 have hlq : lgt n.e 100 40 ≤ 100 := by omega
 clear JX BX hE0 hEx hl0 hXR HJX
 go_wp2_with (go_at_call 26; refine HRC.out.mono ?_; rintro e w8 ⟨c, rfl, hc, b8⟩; have HC := hide hc; have B8 := hide (HBX.out.trans (b8.mono HBX.out.size)); clear hc b8)
 go_ret
 refine ⟨c == 0, rfl, fun h _ _ => ⟨hlq, _, _, _, _, HC.out (by simpa using h)⟩, B8.out⟩
end Go.Proofs.YtpcbhcdpegbfjaaGreat.J
/-
 What fit tells of a window.
-/
namespace Go.Proofs.YtpcbhcdpegbfjaaGreat.J
open Go.RowKit
theorem three_ord : ordR [[], [0], [1]] 4 [false, false, false] = [0, 1, 2] := by decide
theorem FtO.win {n : Nd} (h : FtO n) (h7 : n.kind = 7) : (1 ≤ n.agg ∧ n.agg ≤ 5) ∧ 1 ≤ n.wk ∧ n.wk ≤ 3 ∧ 1 ≤ n.ws ∧ n.ws ≤ 68719476736 ∧ ((n.wk = 2 ∧ 1 ≤ n.wl ∧ n.wl ≤ 68719476736 ∧ (n.ws - 1) / n.wl < 64) ∨ (n.wk ≠ 2 ∧ n.wl = 0)) := by
 obtain ⟨_, a, c, a2, c2, ck⟩ := h
 have h1 := ck.lt.ck (nMid n a c) (by simp)
 unfold ckE ckN at h1
 have hag : aggB n.kind n.agg = true := by
  cases hb : aggB n.kind n.agg with
  | true => rfl
  | false =>
   exfalso
   rw [show (nMid n a c).agg = n.agg from rfl, show (nMid n a c).kind = n.kind from rfl, hb] at h1
   revert h1
   split <;> (try split) <;> (try split) <;> (try split) <;> simp
 have hwi : winB n.kind n.wk n.ws n.wl = true := by
  cases hb : winB n.kind n.wk n.ws n.wl with
  | true => rfl
  | false =>
   exfalso
   rw [show (nMid n a c).wk = n.wk from rfl, show (nMid n a c).ws = n.ws from rfl, show (nMid n a c).wl = n.wl from rfl, show (nMid n a c).kind = n.kind from rfl, hb] at h1
   revert h1
   split <;> (try split) <;> (try split) <;> (try split) <;> (try split) <;> simp
 have hord : ordD [cSrc, nMid n a c, nSnk a2 c2] = [0, 1, 2] := three_ord
 have hwt : min (mulN n) 65 ≤ 64 := by
  refine ck.wt _ ?_
  unfold wtsD wtsL
  rw [hord]
  have : wt1 (nMid n a c) [1, 0, 0] = min (mulN n) 65 := by
   unfold wt1
   rw [if_neg (by show ¬ n.kind = 1; omega)]
   show min (sumN [0] [1, 0, 0] * mulN (nMid n a c)) 65 = _
   rw [show sumN [0] [1, 0, 0] = 1 by decide, Nat.one_mul]
   rfl
  simp only [List.foldl_cons, List.foldl_nil, List.length_cons, List.length_nil, Nat.zero_add, Nat.reduceAdd, List.replicate]
  have h0 : wt1 cSrc [0, 0, 0] = 1 := by decide
  show min (mulN n) 65 ∈ ((([0, 0, 0] : List Nat).set 0 (wt1 cSrc [0, 0, 0])).set 1 (wt1 (nMid n a c) (([0, 0, 0] : List Nat).set 0 (wt1 cSrc [0, 0, 0])))).set 2 _
  rw [h0]
  show min (mulN n) 65 ∈ ([1, wt1 (nMid n a c) [1, 0, 0], 0] : List Nat).set 2 _
  rw [this]
  simp
 unfold aggB at hag
 rw [if_pos (by omega)] at hag
 unfold winB at hwi
 rw [if_pos h7] at hwi
 refine ⟨of_decide_eq_true hag, ?_⟩
 by_cases h2 : n.wk = 2
 ·rw [if_pos h2] at hwi
  simp only [spanB, Bool.and_eq_true, decide_eq_true_eq] at hwi
  have hm : mulN n ≤ 64 := by omega
  unfold mulN at hm
  rw [if_pos ⟨h7, h2⟩] at hm
  have hl : 1 ≤ n.wl := hwi.2.1
  have e : (n.ws + n.wl - 1) / n.wl = (n.ws - 1) / n.wl + 1 := by
   rw [show n.ws + n.wl - 1 = n.ws - 1 + 1 * n.wl by omega, Int.add_mul_ediv_right _ _ (by omega)]
  rw [e] at hm
  have : 0 ≤ (n.ws - 1) / n.wl := Int.ediv_nonneg (by omega) (by omega)
  exact ⟨by omega, by omega, hwi.1.1, hwi.1.2, .inl ⟨h2, hl, hwi.2.2, by omega⟩⟩
 ·rw [if_neg h2] at hwi
  by_cases h13 : n.wk = 1 ∨ n.wk = 3
  ·rw [if_pos h13] at hwi
   simp only [spanB, Bool.and_eq_true, decide_eq_true_eq] at hwi
   exact ⟨by omega, by omega, hwi.1.1, hwi.1.2, .inr ⟨h2, hwi.2⟩⟩
  ·rw [if_neg h13] at hwi
   cases hwi
end Go.Proofs.YtpcbhcdpegbfjaaGreat.J
