/-
  Texts in build order: ZPRWts, ZPRCheck.
-/
import Derived.Test.YtpcbhcdpegbfjaaGreatM38
import Derived.Test.YtpcbhcdpegbfjaaGreatM39
import Derived.Test.YtpcbhcdpegbfjaaGreatM24
import Derived.Test.YtpcbhcdpegbfjaaGreatM22
/-
 The document's Weights, of any job.
-/
namespace Go.Proofs.YtpcbhcdpegbfjaaGreat.J
set_option maxHeartbeats 16000000
set_option maxRecDepth 100000
open Go.RowKit
def wtsD (ns : List Nd) : List Nat := wtsL ns (ordD ns) (List.replicate ns.length 0)
theorem Topo.lt {inss : List (List Int)} : ∀ {l : List Nat} {pl : List Bool}, Topo inss pl l → ∀ x ∈ l, x < pl.length
 | [], _, _ => by intro x hx; cases hx
 | i :: r, pl, h => by
  intro x hx
  rcases List.mem_cons.1 hx with rfl | hx
  ·exact lt_of_get h.1.1
  ·have := Topo.lt h.2 x hx
   rwa [List.length_set] at this
theorem ordD_lt (ns : List Nd) : ∀ x ∈ ordD ns, x < ns.length := fun x hx => by
 have := (ordD_topo ns).lt x hx
 simpa using this
theorem ck_win7 {ns : List Nd} {n : Nd} (h : ckE ns n = 0) : n.wk = 2 → n.kind = 7 := by
 intro h2
 unfold ckE ckN at h
 by_cases h1 : n.kind < 1 ∨ 8 < n.kind
 ·rw [if_pos h1] at h; cases h
 rw [if_neg h1] at h
 by_cases h2 : inB (ns.map Nd.kind) n.kind n.ins = false
 ·rw [if_pos h2] at h; cases h
 rw [if_neg h2] at h
 by_cases h3 : n.par < 1 ∨ 4 < n.par
 ·rw [if_pos h3] at h; cases h
 rw [if_neg h3] at h
 by_cases h4 : exB n.kind n.e.op n.e.n n.e.l.length (chk n.e) = false
 ·rw [if_pos h4] at h; cases h
 rw [if_neg h4] at h
 by_cases h5 : aggB n.kind n.agg = false
 ·rw [if_pos h5] at h; cases h
 rw [if_neg h5] at h
 by_cases h6 : winB n.kind n.wk n.ws n.wl = false
 ·rw [if_pos h6] at h; cases h
 have i6 : winB n.kind n.wk n.ws n.wl = true := by simpa using h6
 unfold winB at i6
 by_cases k7 : n.kind = 7
 ·exact k7
 ·rw [if_neg k7] at i6
  have := of_decide_eq_true i6
  omega
theorem big_cap {S m Q : Nat} (hm : 65 < m) (hQ : Q = min S 65) : min (65 * Q) 65 = min (S * m) 65 := by
 by_cases h : S = 0
 ·subst h; subst hQ; simp
 ·have h1 : 1 ≤ Q := by omega
  have h2 : m ≤ S * m := Nat.le_mul_of_pos_left m (by omega)
  omega
theorem rwtsA {w : World} {v : Value} {ns : List Nd} (hj : JobIn w.heap.size w v ns) (hex : ExR w ns) :
  Calls Tryz.prog 36 #[.agg #[v]] w fun e w' => ∃ u, e = .returned u ∧ (u = .slice none 0 0 ∨ (LtOk ns ∧ ∃ G, u = .slice (some ⟨G, 0, none⟩) ns.length ns.length ∧ BoxT 3 w' G ((wtsD ns).map fun x : Nat => Value.int .i64 (x : Int)).toArray)) ∧ Below w.heap.size w w' := by
 obtain ⟨na, ncp, rfl⟩ := hj.shape
 have hb : Below w.heap.size w (w.alloc (.cells #[.slice na ns.length ncp] 62)) := (Below.refl _ _).alloc (Nat.le_refl _) _
 have HLI := hide (rlightA ((hj.below hb).mono hb.size) (hex.below hb))
 have HB := hide hb
 have HX := hide (BoxT.new 62 w #[.slice na ns.length ncp])
 have HJ := hide hj
 clear hb hj
 obtain ⟨R, hR⟩ : ∃ R, wtsD ns = R := ⟨_, rfl⟩
 rw [hR]
 obtain ⟨od, hod⟩ : ∃ od, ordD ns = od := ⟨_, rfl⟩
 have HW : Hid (wtsL ns (od.drop 0) (List.replicate ns.length 0) = R) := (show _ = R by rw [← hR, ← hod]; rfl)
 have HOL : Hid (∀ x ∈ od, x < ns.length) := fun x hx => by rw [← hod] at hx; exact ordD_lt ns x hx
 have HOD := hide hod
 clear hR hod
 go_enter Tryz.func36, Tryz.ntmps36
 go_wp2_with fail
 refine HLI.out.mono ?_
 rintro e w1 ⟨c, rfl, hc, b1⟩
 have B1 := hide (HB.out.trans (b1.mono HB.out.size))
 have X1 := hide (HX.out.below b1)
 have cx1 : w1.cell? ⟨w.heap.size, 0, none⟩ = some (.slice na ns.length ncp) := by rw [X1.out.cellAt]; rfl
 by_cases hc0 : c = 0
 rotate_left
 ·have hcn : (c != 0) = true := by simp [hc0]
  clear hc hc0
  as_aux_lemma =>
  go_wp2_with fail
  go_ret
  exact ⟨_, rfl, .inl rfl, B1.out⟩
 have hr := hc hc0
 subst hc0
 clear hc b1
 have HR := hide hr
 have l2 := hr.l2
 have m2 : ∀ W : World, (Instr.makeSlice 22 (.int .i64 (ns.length : Int)) (.int .i64 (ns.length : Int))).run Tryz.prog W = _ := fun W => mkN W ns.length (by omega)
 obtain ⟨cP, hcP⟩ : ∃ c, ((List.replicate ns.length 0).map fun x : Nat => Value.int .i64 (x : Int)).toArray = c := ⟨_, rfl⟩
 rw [hcP] at m2
 have HP := hide hcP
 have hol : od.length = ns.length := by rw [← HOD.out]; exact hr.od
 have cx2 : (w1.alloc (.cells cP 3)).cell? ⟨w.heap.size, 0, none⟩ = some (.slice na ns.length ncp) := by rw [(X1.out.alloc _).cellAt]; rfl
 clear hr hcP
 as_aux_lemma =>
 go_wp2_with fail
 refine step_any ?_
 intro w2 hw2
 have B2 : Hid (Below w.heap.size w w2) := by rw [hw2]; exact B1.out.alloc B1.out.size _
 have X2 : Hid (BoxT 62 w2 w.heap.size #[.slice na ns.length ncp]) := by rw [hw2]; exact X1.out.alloc _
 have G2 : Hid (BoxT 3 w2 w1.heap.size cP) := by rw [hw2]; exact BoxT.new 3 w1 cP
 clear hw2
 refine (RefOrder_any ((HJ.out.below B2.out).mono B2.out.size) (by omega)).mono ?_
 rintro e w3 ⟨rv, rfl, o3, b3⟩
 rw [show ordR (ns.map Nd.ins) (ns.length + 1) (List.replicate ns.length false) = od from HOD.out] at o3
 obtain ⟨g, cap, cur, hrv, hg, hgb, -, -, -, hat⟩ := OwnN.row o3 (by
  have := HR.out.l1
  intro e
  rw [e, List.length_nil] at hol
  omega)
 rw [hol] at hrv
 subst hrv
 have B3 := hide (B2.out.trans (b3.mono B2.out.size))
 have X3 := hide (X2.out.below b3)
 have G3 := hide (G2.out.below b3)
 have hgG : w1.heap.size ≠ g := by have := G2.out.lt; omega
 have hgL : w.heap.size ≤ w1.heap.size := B1.out.size
 have HGB := hide hgb
 have HAT : Hid (∀ t i : Nat, od[t]? = some i → cur[t]? = some (.int .i64 (i : Int))) := hat
 have HGG := hide hgG
 have HGL := hide hgL
 obtain ⟨G, hG⟩ : ∃ G, w1.heap.size = G := ⟨_, rfl⟩
 rw [hG] at G3 HGG HGL ⊢
 rw [← HP.out] at G3
 clear hgb hat hgG hgL hg o3 b3 B2 X2 G2 hG X1 B1 cx1 cx2 HLI m2 HX HB HP
 go_wp2_with fail
 go_loopg [5] (ns.length + 1) (fun g' iv wr => ∃ (t : Nat) (ws : List Nat), iv = .int .i64 (t : Int) ∧ t ≤ ns.length ∧ ns.length + 1 ≤ g' + t ∧ Hid (BoxT 3 wr G (ws.map fun x : Nat => Value.int .i64 (x : Int)).toArray) ∧ Hid (wtsL ns (od.drop t) ws = R) ∧ Hid (ws.length = ns.length) ∧ Hid (∀ x ∈ ws, x ≤ 65) ∧ Hid (Below w.heap.size w wr) ∧ Hid (BoxT 62 wr w.heap.size #[.slice na ns.length ncp]) ∧ Hid (BoxT 3 wr g cur))
 case atStart => exact ⟨0, List.replicate ns.length 0, rfl, by omega, by omega, G3, HW, List.length_replicate, fun x hx => by rw [(List.mem_replicate.1 hx).2]; omega, B3, X3, HGB⟩
 case round =>
  obtain ⟨t, ws, rfl, ht, hg, GG, GW, GL, G65, GB, GX, GC⟩ := hrel
  obtain ⟨go, rfl⟩ : ∃ go, gk = go + 1 := ⟨gk - 1, by omega⟩
  by_cases hlt : t < ns.length
  ·obtain ⟨i, hi⟩ := get_of_lt (l := od) (i := t) (by omega)
   have hin : i < ns.length := HOL.out i (List.mem_of_getElem? hi)
   obtain ⟨n, hn⟩ := get_of_lt hin
   have bt : (t : Int) < (ns.length : Int) := by omega
   have bi : (i : Int) < (ns.length : Int) := by omega
   have cx : wr.cell? ⟨w.heap.size, 0, none⟩ = some (.slice na ns.length ncp) := by rw [GX.out.cellAt]; rfl
   have cg : wr.cell? ⟨g, t, none⟩ = some (.int .i64 (i : Int)) := by rw [GC.out.cellAt]; exact HAT.out t i hi
   obtain ⟨nb, no, rfl, nlt, d0, d1, d2, d3, d4, d5, d6, d7, d8, d9⟩ := (HJ.out.below GB.out).at_ hn
   have hmem := List.mem_of_getElem? hn
   have HS := hide (ck_fine (HR.out.ck n hmem))
   have HS2 := hide (ck_win7 (HR.out.ck n hmem))
   have hil : n.ins.length ≤ 4 := HS.out.len
   have HI := hide ((HJ.out.ins n hmem).below GB.out)
   have hGW := GW.out
   rw [wtsL_at (n := n) (i := i) hi hn] at hGW
   have HGW := hide hGW
   have bz : g < wr.heap.size := GC.out.lt
   have bz2 : w.heap.size < wr.heap.size := GX.out.lt
   have bz3 : nb < wr.heap.size := by omega
   have BN : Hid (Below wr.heap.size wr (wr.drew.alloc (.cells n.cs.toArray 29))) := (Below.refl _ _).drew.alloc (Nat.le_refl _) _
   have XN : Hid (BoxT 29 (wr.drew.alloc (.cells n.cs.toArray 29)) wr.heap.size n.cs.toArray) := BoxT.new 29 wr.drew _
   have HIO := hide hi
   clear hn hmem nlt hGW GW hi
   obtain ⟨kd, ia, icp, ins, par, ⟨eo, en, ea, ec, el⟩, ag, wk, wz, wl⟩ := n
   unfold Nd.cs at BN XN
   simp only at d0 d1 d2 d3 d4 d5 d6 d7 d8 d9 HI BN XN hil
   obtain ⟨wo, rfl⟩ : ∃ wo, wo = wr := ⟨wr, rfl⟩
   go_wp2_with fail
   go_region
   all_goals
    go_wp2_with fail
    go_loopg [7, 8] (ins.length + 1) (fun g' sv iv wi => ∃ q : Nat, iv = .int .i64 (q : Int) ∧ q ≤ ins.length ∧ ins.length + 1 ≤ g' + q ∧ sv = .int .i64 ((min (sumN (ins.take q) ws) 65 : Nat) : Int) ∧ Hid (Below wo.heap.size wo wi) ∧ Hid (BoxT 29 wi wo.heap.size #[.int .i64 kd, .slice ia ins.length icp, .int .i64 par, .int .i64 eo, .int .i64 en, .slice ea el.length ec, .int .i64 ag, .int .i64 wk, .int .i64 wz, .int .i64 wl]))
    case atStart => exact ⟨0, rfl, by omega, by omega, rfl, BN, XN⟩
    case round =>
     obtain ⟨q, rfl, hq, hgq, rfl, GIB, GIX⟩ := hrel
     obtain ⟨gi, rfl⟩ : ∃ gi, gk = gi + 1 := ⟨gk - 1, by omega⟩
     obtain ⟨f0, f1, f2, f3, f4, f5, f6, f7, f8, f9⟩ := GIX.out.cells10
     by_cases hlq : q < ins.length
     ·obtain ⟨x, hx⟩ := get_of_lt hlq
      obtain ⟨xb, xo, rfl, -, cx2⟩ := (HI.out.below (GIB.out.mono GB.out.size)).num hx
      have hxr := HS.out.ins x (List.mem_of_getElem? hx)
      obtain ⟨f, rfl⟩ : ∃ f : Nat, x = (f : Int) := ⟨x.toNat, by omega⟩
      obtain ⟨m, hm⟩ := get_of_lt (l := ns) (i := f) (by omega)
      clear hxr
      obtain ⟨y, hy⟩ := get_of_lt (l := ws) (i := f) (by rw [GL.out]; exact lt_of_get hm)
      have cy : wr.cell? ⟨G, f, none⟩ = some (.int .i64 (y : Int)) := by
       rw [(GG.out.below GIB.out).cellAt]; simp [hy]
      have bf : (f : Int) < (ns.length : Int) := by have := lt_of_get hm; omega
      have hy65 := G65.out y (List.mem_of_getElem? hy)
      have hst := sumN_take (ws := ws) hx
      rw [Int.toNat_natCast, getD_of hy] at hst
      have bq : (q : Int) < (ins.length : Int) := by omega
      obtain ⟨Z, hZ⟩ : ∃ Z, min (sumN (ins.take q) ws) 65 = Z := ⟨_, rfl⟩
      have hZ2 : min (sumN (ins.take (q + 1)) ws) 65 = min (Z + y) 65 := by omega
      have hZ65 : Z ≤ 65 := by omega
      rw [hZ]
      have HZ2 := hide hZ2
      clear hst hx hy hm hZ hZ2
      by_cases hc : (65 : Int) < (Z : Int) + (y : Int)
      ·have HV : Hid (min (Z + y) 65 = 65) := (show min (Z + y) 65 = 65 by omega)
       go_wp2_with fail
       go_roundg gi
       case rel => exact ⟨q + 1, by go_num, by omega, by omega, by rw [HZ2.out, HV.out]; rfl, GIB, GIX⟩
       case measure => omega
      ·have HV : Hid (min (Z + y) 65 = Z + y) := (show min (Z + y) 65 = Z + y by omega)
       go_wp2_with fail
       go_roundg gi
       case rel => exact ⟨q + 1, by go_num, by omega, by omega, by rw [HZ2.out, HV.out]; go_num, GIB, GIX⟩
       case measure => omega
     ·have bq : ¬ (q : Int) < (ins.length : Int) := by omega
      have htk : ins.take q = ins := List.take_of_length_le (by omega)
      rw [htk]
      clear htk
      have cgt : wr.cell? ⟨g, t, none⟩ = some (.int .i64 (i : Int)) := by rw [(GC.out.below GIB.out).cellAt]; exact HAT.out t i HIO.out
      obtain ⟨y0, hy0⟩ := get_of_lt (l := ws) (i := i) (by rw [GL.out]; exact hin)
      have cG : wr.cell? ⟨G, i, none⟩ = some (.int .i64 (y0 : Int)) := by rw [(GG.out.below GIB.out).cellAt]; simp [hy0]
      have fG := (GG.out.below GIB.out).free i
      have HF : Hid (∀ Y : Nat, Y = wt1 ⟨kd, ia, icp, ins, par, ⟨eo, en, ea, ec, el⟩, ag, wk, wz, wl⟩ ws → BoxT 3 (wr.setCell ⟨G, i, none⟩ (.int .i64 (Y : Int))) G ((ws.set i Y).map fun x : Nat => Value.int .i64 (x : Int)).toArray ∧ wtsL ns (od.drop (t + 1)) (ws.set i Y) = R ∧ (ws.set i Y).length = ns.length ∧ (∀ x ∈ ws.set i Y, x ≤ 65) ∧ Below w.heap.size w (wr.setCell ⟨G, i, none⟩ (.int .i64 (Y : Int))) ∧ BoxT 62 (wr.setCell ⟨G, i, none⟩ (.int .i64 (Y : Int))) w.heap.size #[.slice (some ⟨nb, no, none⟩) ns.length ncp] ∧ BoxT 3 (wr.setCell ⟨G, i, none⟩ (.int .i64 (Y : Int))) g cur) := by
       rintro Y rfl
       have g1 := GG.out.below GIB.out
       have x1 := GX.out.below GIB.out
       refine ⟨?_, HGW.out, by rw [List.length_set]; exact GL.out, set_le G65.out (wt1_le _ _), (GB.out.trans (GIB.out.mono GB.out.size)).setCell HGL.out _, x1.other _ _ (x1.ne g1 (by decide)), (GC.out.below GIB.out).other _ _ (Ne.symm HGG.out)⟩
       have := g1.set i (.int .i64 ((wt1 ⟨kd, ia, icp, ins, par, ⟨eo, en, ea, ec, el⟩, ag, wk, wz, wl⟩ ws : Nat) : Int))
       rwa [map_set (fun x : Nat => Value.int .i64 (x : Int))] at this
      obtain ⟨S, hS⟩ : ∃ S, sumN ins ws = S := ⟨_, rfl⟩
      have hwt : wt1 ⟨kd, ia, icp, ins, par, ⟨eo, en, ea, ec, el⟩, ag, wk, wz, wl⟩ ws = if kd = 1 then 1 else min (S * mulN ⟨kd, ia, icp, ins, par, ⟨eo, en, ea, ec, el⟩, ag, wk, wz, wl⟩) 65 := by rw [← hS]; rfl
      unfold mulN at hwt
      rw [hS]
      obtain ⟨Q, hQ⟩ : ∃ Q, min S 65 = Q := ⟨_, rfl⟩
      rw [hQ]
      have HQ := hide hQ
      have hQ65 : Q ≤ 65 := by omega
      have hwin := HS.out.win
      have hw7 := HS2.out
      simp only at hwin hw7 hwt
      clear hS hQ hy0 d0 d1 d2 d3 d4 d5 d6 d7 d8 d9 cx cg BN XN HGW GL GG GX GC G65
      by_cases hw2 : wk = 2
      ·have hk7 := hw7 hw2
       obtain ⟨u1, u2, u3, u4⟩ := hwin hk7 hw2
       subst hw2 hk7
       rw [if_neg (by decide), if_pos ⟨rfl, rfl⟩, div_up u3] at hwt
       have hq0 : 0 ≤ (wz - 1) / wl := Int.ediv_nonneg (by omega) (by omega)
       have hq1 : (wz - 1) / wl ≤ wz - 1 := Int.ediv_le_self _ (by omega)
       obtain ⟨m, hm⟩ : ∃ m : Nat, (wz - 1) / wl = (m : Int) := ⟨((wz - 1) / wl).toNat, by omega⟩
       rw [hm] at hwt hq0 hq1
       have hmt : ((m : Int) + 1).toNat = m + 1 := by omega
       rw [hmt] at hwt
       have hm36 : m ≤ 68719476736 := by omega
       have hwl0 : wl ≠ 0 := by omega
       have hz : (wl == 0) = false := by simp; omega
       by_cases hT : (65 : Int) < (m : Int) + 1
       ·have hcap := big_cap (S := S) (m := m + 1) (by omega) HQ.out.symm
        rw [← hcap] at hwt
        obtain ⟨P, hP⟩ : ∃ P, 65 * Q = P := ⟨_, rfl⟩
        have hP1 : (65 : Int) * (Q : Int) = (P : Int) := by rw [← hP]; push_cast; rfl
        rw [hP] at hwt
        have hP2 : P ≤ 65 * 65 := by omega
        clear hP hcap hmt hq0 hq1 hwin hw7
        by_cases hc : (65 : Int) < (P : Int)
        ·have HF1 := hide (HF.out 65 (by rw [hwt]; omega))
         clear hwt HF
         go_wp2_with fail
         go_roundg go
         case rel =>
          obtain ⟨z1, z2, z3, z4, z5, z6, z7⟩ := HF1.out
          exact ⟨t + 1, ws.set i 65, by go_num, by omega, by omega, z1, z2, z3, z4, z5, z6, z7⟩
         case measure => omega
        ·have HF1 := hide (HF.out P (by rw [hwt]; omega))
         clear hwt HF
         go_wp2_with fail
         go_roundg go
         case rel =>
          obtain ⟨z1, z2, z3, z4, z5, z6, z7⟩ := HF1.out
          exact ⟨t + 1, ws.set i P, by go_num, by omega, by omega, z1, z2, z3, z4, z5, z6, z7⟩
         case measure => omega
       ·obtain ⟨P, hP⟩ : ∃ P, (m + 1) * Q = P := ⟨_, rfl⟩
        have hPR := mul_cap (show 1 ≤ m + 1 by omega) HQ.out.symm hP.symm
        rw [← hPR] at hwt
        have hP1 : ((m : Int) + 1) * (Q : Int) = (P : Int) := by rw [← hP]; push_cast; rfl
        have hP2 : P ≤ 65 * 65 := by rw [← hP]; exact Nat.mul_le_mul (by omega) hQ65
        clear hPR hP hmt hq0 hq1 hwin hw7
        by_cases hc : (65 : Int) < (P : Int)
        ·have HF1 := hide (HF.out 65 (by rw [hwt]; omega))
         clear hwt HF
         go_wp2_with fail
         go_roundg go
         case rel =>
          obtain ⟨z1, z2, z3, z4, z5, z6, z7⟩ := HF1.out
          exact ⟨t + 1, ws.set i 65, by go_num, by omega, by omega, z1, z2, z3, z4, z5, z6, z7⟩
         case measure => omega
        ·have HF1 := hide (HF.out P (by rw [hwt]; omega))
         clear hwt HF
         go_wp2_with fail
         go_roundg go
         case rel =>
          obtain ⟨z1, z2, z3, z4, z5, z6, z7⟩ := HF1.out
          exact ⟨t + 1, ws.set i P, by go_num, by omega, by omega, z1, z2, z3, z4, z5, z6, z7⟩
         case measure => omega
      ·have gw2 : (wk == 2) = false := by simp [hw2]
       by_cases hk1 : kd = 1
       ·subst hk1
        rw [if_pos rfl] at hwt
        have HF1 := hide (HF.out 1 hwt.symm)
        clear hwt HF hwin hw7 hw2
        go_wp2_with fail
        go_roundg go
        case rel =>
         obtain ⟨z1, z2, z3, z4, z5, z6, z7⟩ := HF1.out
         exact ⟨t + 1, ws.set i 1, by go_num, by omega, by omega, z1, z2, z3, z4, z5, z6, z7⟩
        case measure => omega
       ·have gk1 : (kd == 1) = false := by simp [hk1]
        rw [if_neg hk1, if_neg (by omega), Nat.mul_one, HQ.out] at hwt
        have HF1 := hide (HF.out Q hwt.symm)
        clear hwt HF hwin hw7 hw2 hk1
        go_wp2_with fail
        go_roundg go
        case rel =>
         obtain ⟨z1, z2, z3, z4, z5, z6, z7⟩ := HF1.out
         exact ⟨t + 1, ws.set i Q, by go_num, by omega, by omega, z1, z2, z3, z4, z5, z6, z7⟩
        case measure => omega
  ·have bt : ¬ (t : Int) < (ns.length : Int) := by omega
   have HE : Hid (ws = R) := (show ws = R by
    have := GW.out
    rw [List.drop_eq_nil_of_le (by omega)] at this
    exact this)
   go_wp2_with fail
   go_ret
   exact ⟨_, rfl, .inr ⟨HR.out, G, rfl, by rw [← HE.out]; exact GG.out⟩, GB.out⟩
end Go.Proofs.YtpcbhcdpegbfjaaGreat.J
/-
 The document's Check of any job, and fit: what they take the program takes too.
-/
namespace Go.Proofs.YtpcbhcdpegbfjaaGreat.J
set_option maxHeartbeats 16000000
set_option maxRecDepth 100000
open Go.RowKit
structure CkOk (ns : List Nd) : Prop where
 lt : LtOk ns
 wt : ∀ x ∈ wtsD ns, x ≤ 64
 sk : ∃ n ∈ ns, n.kind = 8
theorem wtsD_len (ns : List Nd) : (wtsD ns).length = ns.length := by
 unfold wtsD
 rw [wtsL_len, List.length_replicate]
theorem rcheckA {w : World} {v : Value} {ns : List Nd} (hj : JobIn w.heap.size w v ns) (hx : ExR w ns) :
  Calls Tryz.prog 26 #[.agg #[v]] w fun e w' => ∃ c : Int, e = .returned (.int .i64 c) ∧ (c = 0 → CkOk ns) ∧ Below w.heap.size w w' := by
 obtain ⟨na, ncp, rfl⟩ := hj.shape
 have hlen := hj.seg.len
 have hb := below_box w (.cells #[.slice na ns.length ncp] 62)
 have HB := hide hb
 have HX := hide (BoxT.new 62 w #[.slice na ns.length ncp])
 have HLI := hide (rlightA ((hj.below hb).mono hb.size) (hx.below hb))
 have HJ := hide hj
 have HEX := hide hx
 clear hj hb hx
 go_enter Tryz.func26, Tryz.ntmps26
 go_wp2_with fail
 refine HLI.out.mono ?_
 rintro e w1 ⟨c, rfl, hc, b1⟩
 have B1 := hide (HB.out.trans (b1.mono HB.out.size))
 have X1 := hide (HX.out.below b1)
 have cx1 : w1.cell? ⟨w.heap.size, 0, none⟩ = some (.slice na ns.length ncp) := by rw [X1.out.cellAt]; rfl
 by_cases hc0 : c = 0
 rotate_left
 ·have hcn : (c != 0) = true := by simp [hc0]
  have HC0 := hide hc0
  clear hc hc0
  as_aux_lemma =>
  go_wp2_with fail
  go_ret
  exact ⟨c, rfl, (fun h => absurd h HC0.out), B1.out⟩
 subst hc0
 clear hc b1
 have HWT := hide (rwtsA ((HJ.out.below B1.out).mono B1.out.size) (HEX.out.below B1.out))
 go_wp2_with fail
 refine HWT.out.mono ?_
 rintro e w2 ⟨u, rfl, hu, b2⟩
 have B2 := hide (B1.out.trans (b2.mono B1.out.size))
 have X2 := hide (X1.out.below b2)
 clear b2 cx1
 rcases hu with rfl | ⟨hlt, G, rfl, hG⟩
 ·as_aux_lemma =>
  go_wp2_with fail
  go_loopg [5, 6] 2 (fun g sv iv wr => iv = .int .i64 0 ∧ sv = .int .i64 0 ∧ 1 ≤ g ∧ w2 = wr)
  case atStart => exact ⟨rfl, rfl, by omega, rfl⟩
  case round =>
   obtain ⟨rfl, rfl, hg, rfl⟩ := hrel
   go_wp2_with fail
   go_ret
   exact ⟨80, rfl, (fun h => by cases h), B2.out⟩
 have hwl := wtsD_len ns
 obtain ⟨wl, hwd⟩ : ∃ l, wtsD ns = l := ⟨_, rfl⟩
 rw [hwd] at hG hwl
 have HOK : Hid ((∀ x ∈ wl, x ≤ 64) → (∃ n ∈ ns, n.kind = 8) → CkOk ns) := fun h1 h2 => ⟨hlt, by rw [hwd]; exact h1, h2⟩
 have HG := hide hG
 have hl12 := hlt.l2
 have HWL := hide hwl
 clear hG hwd hlt hwl
 as_aux_lemma =>
 go_wp2_with fail
 go_loopg [5, 6] (ns.length + 1) (fun g sv iv wr => ∃ t s : Nat, iv = .int .i64 (t : Int) ∧ sv = .int .i64 (s : Int) ∧ t ≤ ns.length ∧ s ≤ t ∧ ns.length + 1 ≤ g + t ∧ Hid (∀ j < t, ∀ x, wl[j]? = some x → x ≤ 64) ∧ Hid (0 < s → ∃ n ∈ ns, n.kind = 8) ∧ w2 = wr)
 case atStart => exact ⟨0, 0, rfl, rfl, by omega, by omega, by omega, (fun j hj => by omega), (fun h => by omega), rfl⟩
 case round =>
  obtain ⟨t, s, rfl, rfl, ht, hst, hg, GW, GS, rfl⟩ := hrel
  obtain ⟨go, rfl⟩ : ∃ go, gk = go + 1 := ⟨gk - 1, by omega⟩
  by_cases hlt : t < ns.length
  ·obtain ⟨n, hn⟩ := get_of_lt hlt
   have bt : (t : Int) < (ns.length : Int) := by omega
   obtain ⟨x, hx⟩ := get_of_lt (l := wl) (i := t) (by rw [HWL.out]; exact hlt)
   have cw : w2.cell? ⟨G, t, none⟩ = some (.int .i64 (x : Int)) := by rw [HG.out.cellAt]; simp [hx]
   have cx : w2.cell? ⟨w.heap.size, 0, none⟩ = some (.slice na ns.length ncp) := by rw [X2.out.cellAt]; rfl
   obtain ⟨nb, no, hna, nlt, d0, -⟩ := (HJ.out.below B2.out).at_ hn
   subst hna
   have HN := hide (List.mem_of_getElem? hn)
   have HXX := hide hx
   clear hn hx
   by_cases h64 : (64 : Int) < (x : Int)
   ·clear GW GS
    go_wp2_with fail
    go_ret
    exact ⟨88, rfl, (fun h => by cases h), B2.out⟩
   ·have GW2 : Hid (∀ j < t + 1, ∀ x, wl[j]? = some x → x ≤ 64) := fun j hj y hy => by
     rcases Nat.lt_succ_iff_lt_or_eq.1 hj with h1 | h1
     ·exact GW.out j h1 y hy
     ·subst h1
      rw [HXX.out] at hy
      cases hy
      omega
    by_cases h8 : n.kind = 8
    ·have g8 : (n.kind == 8) = true := by simp [h8]
     have GS2 : Hid (0 < s + 1 → ∃ n ∈ ns, n.kind = 8) := fun _ => ⟨n, HN.out, h8⟩
     clear h8 GW GS
     go_wp2_with fail
     go_roundg go
     case rel => exact ⟨t + 1, s + 1, by go_num, by go_num, by omega, by omega, by omega, GW2, GS2, rfl⟩
     case measure => omega
    ·have g8 : (n.kind == 8) = false := by simp [h8]
     clear h8 GW
     go_wp2_with fail
     go_roundg go
     case rel => exact ⟨t + 1, s, by go_num, rfl, by omega, by omega, by omega, GW2, GS, rfl⟩
     case measure => omega
  ·have bt : ¬ (t : Int) < (ns.length : Int) := by omega
   have hall : ∀ x ∈ wl, x ≤ 64 := fun x hx => by
    obtain ⟨j, hj⟩ := List.getElem?_of_mem hx
    exact GW.out j (by have := lt_of_get hj; rw [HWL.out] at this; omega) x hj
   have HA := hide hall
   clear hall GW
   by_cases hs0 : s = 0
   ·have gs : ((s : Int) == 0) = true := by simp [hs0]
    clear hs0
    go_wp2_with fail
    go_ret
    exact ⟨80, rfl, (fun h => by cases h), B2.out⟩
   ·have gs : ((s : Int) == 0) = false := by simp [hs0]
    have HF := hide (HOK.out HA.out (GS.out (by omega)))
    clear hs0
    go_wp2_with fail
    go_ret
    exact ⟨0, rfl, (fun _ => HF.out), B2.out⟩
theorem exR_of {w : World} {ns : List Nd} (h : ∀ n ∈ ns, lgOk n) (he : ExIn w ns) : ExR w ns := fun n hn w' hb => by
 have hl := h n hn
 have hk := (lgt_ok n.e 100 40 (by decide)).2.2 hl.2
 have h2 := hl.2
 exact rCheck_any n.e ((he n hn).below hb) (by omega) (by omega)
end Go.Proofs.YtpcbhcdpegbfjaaGreat.J
