/-
  PlanCounts, walked.
-/
import Derived.Test.YtfiafbfbiidnlaaPCountP
import Derived.Test.YtfiafbfbiidnlaaPKnown
namespace Go.Proofs.Ytfiafbfbiidnlaa
open Go.RowKit

/-- A plan and who feeds, in a law. -/
structure PC (w wr : World) (v : Value) (P F : Nat) (tv cv : Value) (ts : List Tk) (cs : List Cn) (fb : List Bool) : Prop where
  jx : BoxT 24 wr w.heap.size #[v]
  px : BoxT 30 wr P #[tv, cv]
  fx : BoxT 4 wr F (fb.map Value.bool).toArray
  t : LSeg 2 Tk.cs P wr tv ts
  c : LSeg 3 Cn.cs P wr cv cs
  bl : Below w.heap.size w wr
  wP : w.heap.size ≤ P
  wF : w.heap.size ≤ F
section
variable {w wr w' : World} {v tv cv : Value} {P F : Nat} {ts : List Tk} {cs : List Cn} {fb : List Bool}
theorem PC.below (h : PC w wr v P F tv cv ts cs fb) (hb : Below wr.heap.size wr w') : PC w w' v P F tv cv ts cs fb :=
  ⟨h.jx.below hb, h.px.below hb, h.fx.below hb, h.t.below (hb.mono (Nat.le_of_lt h.px.lt)), h.c.below (hb.mono (Nat.le_of_lt h.px.lt)), h.bl.trans (hb.mono h.bl.size), h.wP, h.wF⟩
theorem PC.feed {x : Nat} (h : PC w wr v P F tv cv ts cs fb) (hPF : P < F) : PC w (wr.setCell ⟨F, x, none⟩ (.bool true)) v P F tv cv ts cs (fb.set x true) := by
  have hb : Below P wr (wr.setCell ⟨F, x, none⟩ (.bool true)) := (Below.refl _ _).setCell (p := ⟨F, x, none⟩) (Nat.le_of_lt hPF) _
  refine ⟨h.jx.other _ _ (h.jx.ne h.fx (by decide)), h.px.other _ _ (h.px.ne h.fx (by decide)), ?_, h.t.below hb, h.c.below hb, h.bl.setCell (p := ⟨F, x, none⟩) h.wF _, h.wP, h.wF⟩
  have := h.fx.set x (.bool true)
  rwa [map_set Value.bool] at this
end
set_option maxHeartbeats 8000000 in
set_option maxRecDepth 100000 in
theorem PlanCounts_walk {w : World} {v : Value} {ns : List Nd} (hj : JobIn w.heap.size w v ns) (hE : ExIn w ns) :
    Calls Try.prog 6 #[.agg #[v]] w fun e w' => e = .returned (.bool true) ∧ Below w.heap.size w w' := by
  obtain ⟨na, ncp, rfl⟩ := hj.shape
  have hb0 := below_box w (.cells #[.slice na ns.length ncp] 24)
  have HB0 := hide hb0
  have HX0 := hide (BoxT.new 24 w #[.slice na ns.length ncp])
  have HKN := hide (known_any (w.alloc (.cells #[.slice na ns.length ncp] 24)))
  have HJ := hide hj
  have HEX := hide hE
  clear hj hE hb0
  go_enter Try.func6, Try.ntmps6
  go_wp2_with fail
  refine HKN.out.mono ?_
  rintro e w1 ⟨rfl, b1⟩
  have B1 := hide (HB0.out.trans (b1.mono HB0.out.size))
  have X1 := hide (HX0.out.below b1)
  have c1 : w1.cell? ⟨w.heap.size, 0, none⟩ = some (.slice na ns.length ncp) := by rw [X1.out.cellAt]; rfl
  have HFT := hide (fit_any ((HJ.out.below B1.out).mono B1.out.size) (HEX.out.below B1.out))
  clear b1
  go_wp2_with fail
  refine HFT.out.mono ?_
  rintro e w2 ⟨u, rfl, hu, b2⟩
  have B2 := hide (B1.out.trans (b2.mono B1.out.size))
  have X2 := hide (X1.out.below b2)
  have c2 : w2.cell? ⟨w.heap.size, 0, none⟩ = some (.slice na ns.length ncp) := by rw [X2.out.cellAt]; rfl
  clear b2 c1 HFT HKN HB0 HX0
  rcases hu with rfl | ⟨rfl, -, -, hok⟩
  · as_aux_lemma =>
    go_wp2_with fail
    go_ret
    exact ⟨rfl, B2.out⟩
  have hpar : ∀ n ∈ ns, 1 ≤ n.par ∧ n.par ≤ 4 := fun n hn => ck_par (hok.lt.ck n hn)
  have hin : ∀ n ∈ ns, ∀ x ∈ n.ins, 0 ≤ x ∧ x < (ns.length : Int) := fun n hn => (ck_fine (hok.lt.ck n hn)).ins
  have hin4 : ∀ n ∈ ns, n.ins.length ≤ 4 ∧ ∀ x ∈ n.ins, 0 ≤ x ∧ x < (ns.length : Int) := fun n hn => ⟨(ck_fine (hok.lt.ck n hn)).len, hin n hn⟩
  have hl12 := hok.lt.l2
  have hceq := chOf_eq hin
  have hclen : (chJ ns 0 ns).length ≤ 768 := by
    have := chJ_len hpar hin4 ns 0 rfl
    omega
  have HMK := hide (Make_any ((HJ.out.below B2.out).mono B2.out.size) (by omega) (fun n hn => (hpar n hn).2) (by rw [hceq]; omega) (fun w' hb => by
    have hbb := B2.out.trans (hb.mono B2.out.size)
    have := Check_any ((HJ.out.below hbb).mono hbb.size) (hok.exOk (HEX.out.below hbb))
    rw [hok.errJ] at this
    exact this))
  rw [hceq] at HMK
  have HPAR := hide hpar
  have HIN := hide hin
  have HIL : Hid (∀ n ∈ ns, n.ins.length ≤ 4) := fun n hn => (hin4 n hn).1
  have HTS : Hid (∀ (i b : Nat) (n : Nd), ns[i]? = some n → b < n.par.toNat → (0 < (plc (fun c : Cn => decide (c.tg = ((off ns i + b : Nat) : Int))) 0 (chJ ns 0 ns)).length ↔ n.ins ≠ [])) := fun i b n h1 h2 => to_some hin hpar h1 h2
  have HFS : Hid (∀ (x a : Nat) (nx : Nd), ns[x]? = some nx → a < nx.par.toNat → (0 < (plc (fun c : Cn => decide (c.fr = ((off ns x + a : Nat) : Int))) 0 (chJ ns 0 ns)).length ↔ Feeds ns x)) := fun x a nx h1 h2 => from_some hin hpar h1 h2
  have HKI : Hid (∀ n ∈ ns, n.kind ≠ 1 ↔ n.ins ≠ []) := fun n hn => ck_src (hok.lt.ck n hn)
  have htlen : (tksOf 0 ns).length ≤ 48 := by have := tksOf_len ns (fun n hn => (hpar n hn).2) 0; omega
  have HCM : Hid (∀ c ∈ chJ ns 0 ns, ∃ (i k x a b : Nat) (n nx : Nd), ns[i]? = some n ∧ n.ins[k]? = some (x : Int) ∧ ns[x]? = some nx ∧ a < nx.par.toNat ∧ b < n.par.toNat ∧ (fdAll ns (x : Int) (i : Int) = true ∨ a = b) ∧ c = ⟨((off ns x + a : Nat) : Int), ((off ns i + b : Nat) : Int), (k : Int)⟩) := fun c hc => (ch_mem hin).1 hc
  clear hok hceq hpar hin hin4
  go_wp2_with fail
  refine HMK.out.mono ?_
  rintro e w3 ⟨tv, cv, rfl, ot, oc, b3⟩
  have lt := OwnL.lsegA' Tk.cs_len ot (by omega)
  have lc := OwnL.lsegA' Cn.cs_len oc (by omega)
  obtain ⟨ta, tc, rfl⟩ := ot.shape
  obtain ⟨ca, cc, rfl⟩ := oc.shape
  obtain ⟨tl, htl⟩ : ∃ l, (tksOf 0 ns).length = l := ⟨_, rfl⟩
  obtain ⟨cl, hcl⟩ : ∃ l, (chJ ns 0 ns).length = l := ⟨_, rfl⟩
  rw [htl] at lt htlen ⊢
  rw [hcl] at lc hclen ⊢
  obtain ⟨cs, hcs⟩ : ∃ l, chJ ns 0 ns = l := ⟨_, rfl⟩
  rw [hcs] at lc hcl HCM
  have HCS := hide hcs
  have HTL := hide htl
  have HCL := hide hcl
  have m2 : ∀ W : World, (Instr.makeSlice 47 (.int .i64 (ns.length : Int)) (.int .i64 (ns.length : Int))).run Try.prog W = _ := fun W => mkB W ns.length (by omega)
  obtain ⟨cP, hcP⟩ : ∃ c, ((List.replicate ns.length false).map Value.bool).toArray = c := ⟨_, rfl⟩
  rw [hcP] at m2
  have hx := below_box w3 (.cells #[.slice ta tl tc, .slice ca cl cc] 30)
  have hbb := B2.out.trans ((b3.trans (hx.mono b3.size)).mono B2.out.size)
  have hy := below_box (w3.alloc (.cells #[.slice ta tl tc, .slice ca cl cc] 30)) (.cells cP 4)
  have GP0 : Hid (PC w ((w3.alloc (.cells #[.slice ta tl tc, .slice ca cl cc] 30)).alloc (.cells cP 4)) (.slice na ns.length ncp) w3.heap.size (w3.heap.size + 1) (.slice ta tl tc) (.slice ca cl cc) (tksOf 0 ns) cs (List.replicate ns.length false)) := by
    have hs := B2.out.size
    have hs3 := b3.size
    refine ⟨((X2.out.below b3).below hx).below hy, (BoxT.new 30 w3 _).below hy, ?_, (lt.below hx).below (hy.mono (by simp)), (lc.below hx).below (hy.mono (by simp)), hbb.trans (hy.mono hbb.size), by omega, by omega⟩
    rw [hcP]
    exact BoxT.new_at (by simp)
  have c4 : (w3.alloc (.cells #[.slice ta tl tc, .slice ca cl cc] 30)).cell? ⟨w.heap.size, 0, none⟩ = some (.slice na ns.length ncp) := by rw [((X2.out.below b3).below hx).cellAt]; rfl
  clear ot oc lt lc htl hcl hcs hx hy hbb b3 c2 HMK hcP
  as_aux_lemma =>
  go_wp2_with fail
  obtain ⟨P, hP⟩ : ∃ P, w3.heap.size = P := ⟨_, rfl⟩
  rw [hP] at GP0 ⊢
  obtain ⟨F, hF⟩ : ∃ F, P + 1 = F := ⟨_, rfl⟩
  rw [hF] at GP0 ⊢
  have hPF : P < F := by omega
  clear hP hF
  go_loopg [4, 5, 7] (ns.length + 1) (fun g tk ck iv wr => ∃ (i tn cn : Nat) (fb : List Bool), iv = .int .i64 (i : Int) ∧ tk = .int .i64 (tn : Int) ∧ ck = .int .i64 (cn : Int) ∧ i ≤ ns.length ∧ ns.length + 1 ≤ g + i ∧ Hid (tn = off ns i) ∧ Hid (cn + (chJ ns i (ns.drop i)).length = cl) ∧ Hid (PC w wr (.slice na ns.length ncp) P F (.slice ta tl tc) (.slice ca cl cc) (tksOf 0 ns) cs fb) ∧ Hid (fb.length = ns.length) ∧ Hid (∀ x : Nat, fb[x]? = some true ↔ FedTo ns i 0 x))
  case atStart => exact ⟨0, 0, 0, _, rfl, rfl, rfl, by omega, by omega, (show 0 = _ by simp [off, tksOf]), (show _ = cl by rw [List.drop_zero, HCS.out, HCL.out]; omega), GP0, (show _ = _ by simp), (fun x => ⟨(fun h => by rw [List.getElem?_replicate] at h; split at h <;> cases h), (fun h => absurd h (fed_zero ns x))⟩)⟩
  case round =>
    clear GP0 c4
    obtain ⟨i, tn, cn, fb, rfl, rfl, rfl, hi, hg, GT, GN, GP, GL, GF⟩ := hrel
    obtain ⟨g1, rfl⟩ : ∃ go, gk = go + 1 := ⟨gk - 1, by omega⟩
    obtain ⟨wo, hwo⟩ : ∃ wo, wo = wr := ⟨_, rfl⟩
    subst hwo
    have cj : wo.cell? ⟨w.heap.size, 0, none⟩ = some (.slice na ns.length ncp) := by rw [GP.out.jx.cellAt]; rfl
    by_cases hil : i < ns.length
    · obtain ⟨n, hn⟩ := get_of_lt hil
      have bt : (i : Int) < (ns.length : Int) := by omega
      obtain ⟨nb, no, hna, nlt, d0, d1, d2, -⟩ := (HJ.out.below GP.out.bl).at_ hn
      subst hna
      have hmem := List.mem_of_getElem? hn
      have HII := hide (HJ.out.ins n hmem)
      have HXR := hide (HIN.out n hmem)
      have hp4 := HPAR.out n hmem
      have hil4 := HIL.out n hmem
      have htn : tn ≤ 48 := by
        rw [GT.out]
        have := tksOf_len (ns.take i) (fun m hm => (HPAR.out m (List.mem_of_mem_take hm)).2) 0
        rw [List.length_take] at this
        unfold off
        omega
      have HNI := hide hn
      have HTN : Hid (tn + n.par.toNat = off ns (i + 1)) := (show _ = _ by rw [off_succ hn, GT.out])
      have hr1 := GN.out
      rw [drop_of hn, chJ, List.length_append] at hr1
      obtain ⟨X1, hX1⟩ : ∃ X, (chJ ns (i + 1) (ns.drop (i + 1))).length = X := ⟨_, rfl⟩
      rw [hX1] at hr1
      have GN1 : Hid (cn + (chI ns i 0 (n.ins.drop 0)).length + X1 = cl) := (show _ = cl by rw [List.drop_zero]; omega)
      have HX1 := hide hX1
      have HFN := hide (fun x => (fed_next (x := x) hn))
      have HFST : Hid (∀ (k x y : Nat), n.ins[k]? = some (x : Int) → (FedTo ns i (k + 1) y ↔ (y = x ∨ FedTo ns i k y))) := fun k x y h => fed_step hn h
      have HCX : Hid (∀ (k x : Nat) (nx : Nd), ns[x]? = some nx → (chX ns i k x).length = cntX ns i x) := fun k x nx h => chX_len h hn
      have HPN := hide (parN_at hn)
      have HKDI := hide (ndAt_in hn)
      clear hn hmem hr1 hX1 GN GT nlt
      obtain ⟨pp, hpp⟩ : ∃ pp : Nat, n.par = (pp : Int) := ⟨n.par.toNat, by omega⟩
      rw [hpp, Int.toNat_natCast] at HTN HPN
      rw [hpp] at d2
      have hp5 : pp ≤ 4 := by omega
      go_wp2_with fail
      go_loopg [5, 8] (n.ins.length + 1) (fun g ck iv wr => ∃ (k cn : Nat) (fb : List Bool), iv = .int .i64 (k : Int) ∧ ck = .int .i64 (cn : Int) ∧ k ≤ n.ins.length ∧ n.ins.length + 1 ≤ g + k ∧ Hid (cn + (chI ns i k (n.ins.drop k)).length + X1 = cl) ∧ Hid (PC w wr (.slice (some ⟨nb, no, none⟩) ns.length ncp) P F (.slice ta tl tc) (.slice ca cl cc) (tksOf 0 ns) cs fb) ∧ Hid (fb.length = ns.length) ∧ Hid (∀ x : Nat, fb[x]? = some true ↔ FedTo ns i k x))
      case atStart => exact ⟨0, cn, fb, rfl, rfl, by omega, by omega, GN1, GP, GL, GF⟩
      case round =>
        clear GN1 GP GL GF d0 d1 d2 cj
        obtain ⟨k, cn, fb, rfl, rfl, hk, hgk, GN, GP, GL, GF⟩ := hrel
        obtain ⟨g2, rfl⟩ : ∃ go, gk = go + 1 := ⟨gk - 1, by omega⟩
        have cj : wr.cell? ⟨w.heap.size, 0, none⟩ = some (.slice (some ⟨nb, no, none⟩) ns.length ncp) := by rw [GP.out.jx.cellAt]; rfl
        obtain ⟨nb2, no2, hna2, nlt, d0, d1, d2, -⟩ := (HJ.out.below GP.out.bl).at_ HNI.out
        cases hna2
        rw [hpp] at d2
        by_cases hkl : k < n.ins.length
        · obtain ⟨xi, hx⟩ := get_of_lt hkl
          have bk : (k : Int) < (n.ins.length : Int) := by omega
          have hxr := HXR.out xi (List.mem_of_getElem? hx)
          obtain ⟨x, rfl⟩ : ∃ x : Nat, xi = (x : Int) := ⟨xi.toNat, by omega⟩
          obtain ⟨ib, io, hia, ilt, ci⟩ := (HII.out.below GP.out.bl).num hx
          rw [hia] at d1
          have bx : (x : Int) < (ns.length : Int) := hxr.2
          have bx0 : ¬ (x : Int) < 0 := by omega
          obtain ⟨nx, hnx⟩ := get_of_lt (l := ns) (i := x) (by omega)
          obtain ⟨nb3, no3, hna3, -, -, -, f2, -⟩ := (HJ.out.below GP.out.bl).at_ hnx
          cases hna3
          have hpx := HPAR.out nx (List.mem_of_getElem? hnx)
          obtain ⟨px, hpx0⟩ : ∃ px : Nat, nx.par = (px : Int) := ⟨nx.par.toNat, by omega⟩
          rw [hpx0] at f2
          have hpx4 : px ≤ 4 := by omega
          have hcnt : cntX ns i x = if fdAll ns (x : Int) (i : Int) = true then px * pp else px := by
            unfold cntX
            rw [parN_at hnx, HPN.out, hpx0, Int.toNat_natCast]
          have hfd : fdAll ns (x : Int) (i : Int) = (kyd ns (i : Int) || decide (px ≠ pp)) := by
            unfold fdAll
            rw [ndAt_in hnx, HKDI.out, hpx0, hpp]
            congr 1
            by_cases h : px = pp
            · subst h; simp
            · rw [decide_eq_true h, decide_eq_true (show (px : Int) ≠ (pp : Int) by omega)]
          have hr2 := GN.out
          rw [drop_of hx, chI, Int.toNat_natCast, List.length_append, HCX.out k x nx hnx, hcnt] at hr2
          obtain ⟨y0, hy0⟩ := get_of_lt (l := fb) (i := x) (by rw [GL.out]; omega)
          have cf : wr.cell? ⟨F, x, none⟩ = some (.bool y0) := by rw [GP.out.fx.cellAt]; exact map_get_bool hy0
          have ff := GP.out.fx.free x
          have GP2 := hide (GP.out.feed (x := x) hPF)
          have GL2 : Hid ((fb.set x true).length = ns.length) := (show _ = _ by rw [List.length_set]; exact GL.out)
          have GF2 : Hid (∀ y : Nat, (fb.set x true)[y]? = some true ↔ FedTo ns i (k + 1) y) := fun y => by
            rw [HFST.out k x y hx, get_set (lt_of_get hy0)]
            by_cases hyx : y = x
            · rw [if_pos hyx]; simp [hyx]
            · rw [if_neg hyx, GF.out y]; simp [hyx]
          have bz3 : nb < wr.heap.size := by have := GP.out.bl.size; omega
          have bz4 : ib < wr.heap.size := by have := GP.out.bl.size; omega
          have HBS := hide GP.out.bl.size
          have hbset : Below w.heap.size w (wr.drew.setCell ⟨F, x, none⟩ (.bool true)) := GP.out.bl.drew.setCell (p := ⟨F, x, none⟩) GP.out.wF _
          have HKY := hide (Keyed_any (w := wr.drew.setCell ⟨F, x, none⟩ (.bool true)) ((HJ.out.below hbset).mono hbset.size) (i : Int))
          have HGP3 : Hid (PC w (wr.drew.setCell ⟨F, x, none⟩ (.bool true)) (.slice (some ⟨nb, no, none⟩) ns.length ncp) P F (.slice ta tl tc) (.slice ca cl cc) (tksOf 0 ns) cs (fb.set x true)) := (GP.out.below (Below.refl _ _).drew).feed hPF
          have hFn : nb ≠ F := by have := GP.out.wF; omega
          have hFi : ib ≠ F := by have := GP.out.wF; omega
          have hFw : w.heap.size ≠ F := by have := GP.out.wP; omega
          have ck : (wr.drew.setCell ⟨F, x, none⟩ (.bool true)).cell? ⟨w.heap.size, 0, none⟩ = some (.slice (some ⟨nb, no, none⟩) ns.length ncp) := by rw [HGP3.out.jx.cellAt]; rfl
          have KC : Hid (∀ w' : World, Below wr.heap.size wr w' → w'.cell? ⟨w.heap.size, 0, none⟩ = some (.slice (some ⟨nb, no, none⟩) ns.length ncp) ∧ w'.cell? ⟨nb, no + i * 10 + 1, none⟩ = some (.slice (some ⟨ib, io, none⟩) n.ins.length n.ic) ∧ w'.cell? ⟨ib, io + k, none⟩ = some (.int .i64 (x : Int)) ∧ w'.cell? ⟨nb, no + x * 10 + 2, none⟩ = some (.int .i64 (px : Int))) := fun w' h => ⟨(by rw [h.cell (p := ⟨w.heap.size, _, none⟩) (GP.out.jx.lt)]; exact cj), (by rw [h.cell (p := ⟨nb, _, none⟩) (bz3)]; exact d1), (by rw [h.cell (p := ⟨ib, _, none⟩) (bz4)]; exact ci), (by rw [h.cell (p := ⟨nb, _, none⟩) (bz3)]; exact f2)⟩
          clear hx hnx hxr hpx hcnt hy0 hbset GN ilt nlt hia
          obtain ⟨insL, hinsL⟩ : ∃ l, n.ins.length = l := ⟨_, rfl⟩
          cases hky : kyd ns (i : Int) with
          | true =>
            rw [hky] at HKY hfd
            have hr3 : (cn + px * pp) + (chI ns i (k + 1) (n.ins.drop (k + 1))).length + X1 = cl := by rw [hfd] at hr2; simp at hr2; omega
            obtain ⟨PM0, hPM⟩ : ∃ m, px * pp = m := ⟨_, rfl⟩
            have hPM1 : (px : Int) * (pp : Int) = (PM0 : Int) := by rw [← hPM]; push_cast; rfl
            have hPM2 : PM0 ≤ 16 := by rw [← hPM]; exact Nat.le_trans (Nat.mul_le_mul hpx4 hp5) (by omega)
            rw [hPM] at hr3
            have GN2 : Hid (cn + PM0 + (chI ns i (k + 1) (n.ins.drop (k + 1))).length + X1 = cl) := hr3
            have hnew : cn + PM0 ≤ cl := by omega
            clear hPM hr2 hr3 hfd hky
            as_aux_lemma =>
            go_wp2_with fail
            have B1 : Hid (Below (wr).heap.size (wr) (wr).drew) := (Below.refl _ _).drew
            refine wp_region_M (S := fun w' => w'.cell? ⟨w.heap.size, 0, none⟩ = some (.slice (some ⟨nb, no, none⟩) ns.length ncp) ∧ w'.cell? ⟨nb, no + i * 10 + 1, none⟩ = some (.slice (some ⟨ib, io, none⟩) n.ins.length n.ic) ∧ w'.cell? ⟨ib, io + k, none⟩ = some (.int .i64 (x : Int)) ∧ w'.cell? ⟨nb, no + x * 10 + 2, none⟩ = some (.int .i64 (px : Int))) (late := []) (by kernel_rfl) (KC.out _ B1.out) (fun hHeld => ?_)
            (try simp only [List.size_toArray, List.length_cons, List.length_nil, Nat.zero_add, Nat.reduceAdd, Array.replicate, List.replicate])
            refine wpAnyM_take (i := 0) (oi := ⟨_, _, _, _, _, _⟩) (v := ?_) rfl (by kernel_rfl) (by kernel_rfl) (by kernel_rfl) (by kernel_rfl) (fun _ _ _ h => h) (Or.inl ⟨by rfl, ?_⟩) hHeld ?_
            rotate_left
            · (intro w' hSw; (try dsimp only at hSw); go_simp; try (with_reducible rfl))
            (try simp only [Act.put, List.setIfInBounds_toArray, List.set_cons_zero, List.set_cons_succ])
            refine wpAnyM_take (i := 1) (oi := ⟨_, _, _, _, _, _⟩) (v := ?_) rfl (by kernel_rfl) (by kernel_rfl) (by kernel_rfl) (by kernel_rfl) (fun _ _ _ h => h) (Or.inl ⟨by rfl, ?_⟩) hHeld ?_
            rotate_left
            · (intro w' hSw; (try dsimp only at hSw); go_simp; try (with_reducible rfl))
            (try simp only [Act.put, List.setIfInBounds_toArray, List.set_cons_zero, List.set_cons_succ])
            refine wpAnyM_take (i := 2) (oi := ⟨_, _, _, _, _, _⟩) (v := ?_) rfl (by kernel_rfl) (by kernel_rfl) (by kernel_rfl) (by kernel_rfl) (fun _ _ _ h => h) (Or.inl ⟨by rfl, ?_⟩) hHeld ?_
            rotate_left
            · (intro w' hSw; (try dsimp only at hSw); go_simp; try (with_reducible rfl))
            (try simp only [Act.put, List.setIfInBounds_toArray, List.set_cons_zero, List.set_cons_succ])
            refine wpAnyM_take (i := 3) (oi := ⟨_, _, _, _, _, _⟩) (v := ?_) rfl (by kernel_rfl) (by kernel_rfl) (by kernel_rfl) (by kernel_rfl) (fun _ _ _ h => h) (Or.inl ⟨by rfl, ?_⟩) hHeld ?_
            rotate_left
            · (intro w' hSw; (try dsimp only at hSw); go_simp; try (with_reducible rfl))
            (try simp only [Act.put, List.setIfInBounds_toArray, List.set_cons_zero, List.set_cons_succ])
            refine wpAnyM_take (i := 4) (oi := ⟨_, _, _, _, _, _⟩) (v := ?_) rfl (by kernel_rfl) (by kernel_rfl) (by kernel_rfl) (by kernel_rfl) (fun _ _ _ h => h) (Or.inl ⟨by rfl, ?_⟩) hHeld ?_
            rotate_left
            · (intro w' hSw; (try dsimp only at hSw); go_simp; try (with_reducible rfl))
            (try simp only [Act.put, List.setIfInBounds_toArray, List.set_cons_zero, List.set_cons_succ])
            refine wpAnyM_take (i := 5) (oi := ⟨_, _, _, _, _, _⟩) (v := ?_) rfl (by kernel_rfl) (by kernel_rfl) (by kernel_rfl) (by kernel_rfl) (fun _ _ _ h => h) (Or.inl ⟨by rfl, ?_⟩) hHeld ?_
            rotate_left
            · (intro w' hSw; (try dsimp only at hSw); go_simp; try (with_reducible rfl))
            (try simp only [Act.put, List.setIfInBounds_toArray, List.set_cons_zero, List.set_cons_succ])
            refine wpAnyM_take (i := 6) (oi := ⟨_, _, _, _, _, _⟩) (v := ?_) rfl (by kernel_rfl) (by kernel_rfl) (by kernel_rfl) (by kernel_rfl) (fun _ _ _ h => h) (Or.inl ⟨by rfl, ?_⟩) hHeld ?_
            rotate_left
            · (intro w' hSw; (try dsimp only at hSw); go_simp; try (with_reducible rfl))
            (try simp only [Act.put, List.setIfInBounds_toArray, List.set_cons_zero, List.set_cons_succ])
            refine wpAnyM_take (i := 7) (oi := ⟨_, _, _, _, _, _⟩) (v := ?_) rfl (by kernel_rfl) (by kernel_rfl) (by kernel_rfl) (by kernel_rfl) (fun _ _ _ h => h) (Or.inl ⟨by rfl, ?_⟩) hHeld ?_
            rotate_left
            · (intro w' hSw; (try dsimp only at hSw); go_simp; try (with_reducible rfl))
            (try simp only [Act.put, List.setIfInBounds_toArray, List.set_cons_zero, List.set_cons_succ])
            refine wpAnyM_take (i := 8) (oi := ⟨_, _, _, _, _, _⟩) (v := ?_) rfl (by kernel_rfl) (by kernel_rfl) (by kernel_rfl) (by kernel_rfl) (fun _ _ _ h => h) (Or.inl ⟨by rfl, ?_⟩) hHeld ?_
            rotate_left
            · (intro w' hSw; (try dsimp only at hSw); go_simp; try (with_reducible rfl))
            (try simp only [Act.put, List.setIfInBounds_toArray, List.set_cons_zero, List.set_cons_succ])
            refine wpAnyM_take (i := 9) (oi := ⟨_, _, _, _, _, _⟩) (v := ?_) rfl (by kernel_rfl) (by kernel_rfl) (by kernel_rfl) (by kernel_rfl) (fun _ _ _ h => h) (Or.inl ⟨by rfl, ?_⟩) hHeld ?_
            rotate_left
            · (intro w' hSw; (try dsimp only at hSw); go_simp; try (with_reducible rfl))
            (try simp only [Act.put, List.setIfInBounds_toArray, List.set_cons_zero, List.set_cons_succ])
            refine wpAnyM_take (i := 10) (oi := ⟨_, _, _, _, _, _⟩) (v := ?_) rfl (by kernel_rfl) (by kernel_rfl) (by kernel_rfl) (by kernel_rfl) (fun _ _ _ h => h) (Or.inl ⟨by rfl, ?_⟩) hHeld ?_
            rotate_left
            · (intro w' hSw; (try dsimp only at hSw); go_simp; try (with_reducible rfl))
            (try simp only [Act.put, List.setIfInBounds_toArray, List.set_cons_zero, List.set_cons_succ])
            refine wpAnyM_take (i := 11) (oi := ⟨_, _, _, _, _, _⟩) (v := ?_) rfl (by kernel_rfl) (by kernel_rfl) (by kernel_rfl) (by kernel_rfl) (fun _ _ _ h => h) (Or.inl ⟨by rfl, ?_⟩) hHeld ?_
            rotate_left
            · (intro w' hSw; (try dsimp only at hSw); go_simp; try (with_reducible rfl))
            (try simp only [Act.put, List.setIfInBounds_toArray, List.set_cons_zero, List.set_cons_succ])
            refine wpAnyM_take (i := 12) (oi := ⟨_, _, _, _, _, _⟩) (v := ?_) rfl (by kernel_rfl) (by kernel_rfl) (by kernel_rfl) (by kernel_rfl) (fun _ _ _ h => h) (Or.inl ⟨by rfl, ?_⟩) hHeld ?_
            rotate_left
            · (intro w' hSw; (try dsimp only at hSw); go_simp; try (with_reducible rfl))
            (try simp only [Act.put, List.setIfInBounds_toArray, List.set_cons_zero, List.set_cons_succ])
            refine wpAnyM_take (i := 13) (oi := ⟨_, _, _, _, _, _⟩) (v := ?_) rfl (by kernel_rfl) (by kernel_rfl) (by kernel_rfl) (by kernel_rfl) (fun _ _ _ h => h) (Or.inl ⟨by rfl, ?_⟩) hHeld ?_
            rotate_left
            · (intro w' hSw; (try dsimp only at hSw); go_simp; try (with_reducible rfl))
            (try simp only [Act.put, List.setIfInBounds_toArray, List.set_cons_zero, List.set_cons_succ])
            refine wpAnyM_take (i := 14) (oi := ⟨_, _, _, _, _, _⟩) (v := ?_) rfl (by kernel_rfl) (by kernel_rfl) (by kernel_rfl) (by kernel_rfl) (fun _ _ _ h => h) (Or.inl ⟨by rfl, ?_⟩) hHeld ?_
            rotate_left
            · (intro w' hSw; (try dsimp only at hSw); go_simp; try (with_reducible rfl))
            (try simp only [Act.put, List.setIfInBounds_toArray, List.set_cons_zero, List.set_cons_succ])
            refine wpAnyM_done (by kernel_rfl) ?_ _
            go_wp2_with (go_at_call 18; refine HKY.out.mono ?_; rintro e wK ⟨rfl, bK⟩
                         have GPK := hide (HGP3.out.below bK)
                         have cjK : wK.cell? ⟨w.heap.size, 0, none⟩ = some (.slice (some ⟨nb, no, none⟩) ns.length ncp) := (by rw [GPK.out.jx.cellAt]; rfl)
                         obtain ⟨nb4, no4, hna4, -, -, -, e2, -⟩ := (HJ.out.below GPK.out.bl).at_ HNI.out
                         cases hna4
                         rw [hpp] at e2)
            go_roundg g2
            case rel => exact ⟨k + 1, cn + PM0, _, by go_num, by go_num, by omega, by omega, GN2, GPK, GL2, GF2⟩
            case measure => omega
          | false =>
            rw [hky] at HKY hfd
            by_cases hpe : px = pp
            · have gp : ((px : Int) != (pp : Int)) = false := by simp [hpe]
              have gp2 : (px != pp) = false := by simp [hpe]
              have hr3 : (cn + px) + (chI ns i (k + 1) (n.ins.drop (k + 1))).length + X1 = cl := by rw [hfd] at hr2; simp [hpe] at hr2; omega
              have GN2 : Hid (cn + px + (chI ns i (k + 1) (n.ins.drop (k + 1))).length + X1 = cl) := hr3
              have hnew : cn + px ≤ cl := by omega
              clear hr2 hr3 hfd hky hpe
              as_aux_lemma =>
              go_wp2_with fail
              have B1 : Hid (Below (wr).heap.size (wr) (wr).drew) := (Below.refl _ _).drew
              refine wp_region_M (S := fun w' => w'.cell? ⟨w.heap.size, 0, none⟩ = some (.slice (some ⟨nb, no, none⟩) ns.length ncp) ∧ w'.cell? ⟨nb, no + i * 10 + 1, none⟩ = some (.slice (some ⟨ib, io, none⟩) n.ins.length n.ic) ∧ w'.cell? ⟨ib, io + k, none⟩ = some (.int .i64 (x : Int)) ∧ w'.cell? ⟨nb, no + x * 10 + 2, none⟩ = some (.int .i64 (px : Int))) (late := []) (by kernel_rfl) (KC.out _ B1.out) (fun hHeld => ?_)
              (try simp only [List.size_toArray, List.length_cons, List.length_nil, Nat.zero_add, Nat.reduceAdd, Array.replicate, List.replicate])
              refine wpAnyM_take (i := 0) (oi := ⟨_, _, _, _, _, _⟩) (v := ?_) rfl (by kernel_rfl) (by kernel_rfl) (by kernel_rfl) (by kernel_rfl) (fun _ _ _ h => h) (Or.inl ⟨by rfl, ?_⟩) hHeld ?_
              rotate_left
              · (intro w' hSw; (try dsimp only at hSw); go_simp; try (with_reducible rfl))
              (try simp only [Act.put, List.setIfInBounds_toArray, List.set_cons_zero, List.set_cons_succ])
              refine wpAnyM_take (i := 1) (oi := ⟨_, _, _, _, _, _⟩) (v := ?_) rfl (by kernel_rfl) (by kernel_rfl) (by kernel_rfl) (by kernel_rfl) (fun _ _ _ h => h) (Or.inl ⟨by rfl, ?_⟩) hHeld ?_
              rotate_left
              · (intro w' hSw; (try dsimp only at hSw); go_simp; try (with_reducible rfl))
              (try simp only [Act.put, List.setIfInBounds_toArray, List.set_cons_zero, List.set_cons_succ])
              refine wpAnyM_take (i := 2) (oi := ⟨_, _, _, _, _, _⟩) (v := ?_) rfl (by kernel_rfl) (by kernel_rfl) (by kernel_rfl) (by kernel_rfl) (fun _ _ _ h => h) (Or.inl ⟨by rfl, ?_⟩) hHeld ?_
              rotate_left
              · (intro w' hSw; (try dsimp only at hSw); go_simp; try (with_reducible rfl))
              (try simp only [Act.put, List.setIfInBounds_toArray, List.set_cons_zero, List.set_cons_succ])
              refine wpAnyM_take (i := 3) (oi := ⟨_, _, _, _, _, _⟩) (v := ?_) rfl (by kernel_rfl) (by kernel_rfl) (by kernel_rfl) (by kernel_rfl) (fun _ _ _ h => h) (Or.inl ⟨by rfl, ?_⟩) hHeld ?_
              rotate_left
              · (intro w' hSw; (try dsimp only at hSw); go_simp; try (with_reducible rfl))
              (try simp only [Act.put, List.setIfInBounds_toArray, List.set_cons_zero, List.set_cons_succ])
              refine wpAnyM_take (i := 4) (oi := ⟨_, _, _, _, _, _⟩) (v := ?_) rfl (by kernel_rfl) (by kernel_rfl) (by kernel_rfl) (by kernel_rfl) (fun _ _ _ h => h) (Or.inl ⟨by rfl, ?_⟩) hHeld ?_
              rotate_left
              · (intro w' hSw; (try dsimp only at hSw); go_simp; try (with_reducible rfl))
              (try simp only [Act.put, List.setIfInBounds_toArray, List.set_cons_zero, List.set_cons_succ])
              refine wpAnyM_take (i := 5) (oi := ⟨_, _, _, _, _, _⟩) (v := ?_) rfl (by kernel_rfl) (by kernel_rfl) (by kernel_rfl) (by kernel_rfl) (fun _ _ _ h => h) (Or.inl ⟨by rfl, ?_⟩) hHeld ?_
              rotate_left
              · (intro w' hSw; (try dsimp only at hSw); go_simp; try (with_reducible rfl))
              (try simp only [Act.put, List.setIfInBounds_toArray, List.set_cons_zero, List.set_cons_succ])
              refine wpAnyM_take (i := 6) (oi := ⟨_, _, _, _, _, _⟩) (v := ?_) rfl (by kernel_rfl) (by kernel_rfl) (by kernel_rfl) (by kernel_rfl) (fun _ _ _ h => h) (Or.inl ⟨by rfl, ?_⟩) hHeld ?_
              rotate_left
              · (intro w' hSw; (try dsimp only at hSw); go_simp; try (with_reducible rfl))
              (try simp only [Act.put, List.setIfInBounds_toArray, List.set_cons_zero, List.set_cons_succ])
              refine wpAnyM_take (i := 7) (oi := ⟨_, _, _, _, _, _⟩) (v := ?_) rfl (by kernel_rfl) (by kernel_rfl) (by kernel_rfl) (by kernel_rfl) (fun _ _ _ h => h) (Or.inl ⟨by rfl, ?_⟩) hHeld ?_
              rotate_left
              · (intro w' hSw; (try dsimp only at hSw); go_simp; try (with_reducible rfl))
              (try simp only [Act.put, List.setIfInBounds_toArray, List.set_cons_zero, List.set_cons_succ])
              refine wpAnyM_take (i := 8) (oi := ⟨_, _, _, _, _, _⟩) (v := ?_) rfl (by kernel_rfl) (by kernel_rfl) (by kernel_rfl) (by kernel_rfl) (fun _ _ _ h => h) (Or.inl ⟨by rfl, ?_⟩) hHeld ?_
              rotate_left
              · (intro w' hSw; (try dsimp only at hSw); go_simp; try (with_reducible rfl))
              (try simp only [Act.put, List.setIfInBounds_toArray, List.set_cons_zero, List.set_cons_succ])
              refine wpAnyM_take (i := 9) (oi := ⟨_, _, _, _, _, _⟩) (v := ?_) rfl (by kernel_rfl) (by kernel_rfl) (by kernel_rfl) (by kernel_rfl) (fun _ _ _ h => h) (Or.inl ⟨by rfl, ?_⟩) hHeld ?_
              rotate_left
              · (intro w' hSw; (try dsimp only at hSw); go_simp; try (with_reducible rfl))
              (try simp only [Act.put, List.setIfInBounds_toArray, List.set_cons_zero, List.set_cons_succ])
              refine wpAnyM_take (i := 10) (oi := ⟨_, _, _, _, _, _⟩) (v := ?_) rfl (by kernel_rfl) (by kernel_rfl) (by kernel_rfl) (by kernel_rfl) (fun _ _ _ h => h) (Or.inl ⟨by rfl, ?_⟩) hHeld ?_
              rotate_left
              · (intro w' hSw; (try dsimp only at hSw); go_simp; try (with_reducible rfl))
              (try simp only [Act.put, List.setIfInBounds_toArray, List.set_cons_zero, List.set_cons_succ])
              refine wpAnyM_take (i := 11) (oi := ⟨_, _, _, _, _, _⟩) (v := ?_) rfl (by kernel_rfl) (by kernel_rfl) (by kernel_rfl) (by kernel_rfl) (fun _ _ _ h => h) (Or.inl ⟨by rfl, ?_⟩) hHeld ?_
              rotate_left
              · (intro w' hSw; (try dsimp only at hSw); go_simp; try (with_reducible rfl))
              (try simp only [Act.put, List.setIfInBounds_toArray, List.set_cons_zero, List.set_cons_succ])
              refine wpAnyM_take (i := 12) (oi := ⟨_, _, _, _, _, _⟩) (v := ?_) rfl (by kernel_rfl) (by kernel_rfl) (by kernel_rfl) (by kernel_rfl) (fun _ _ _ h => h) (Or.inl ⟨by rfl, ?_⟩) hHeld ?_
              rotate_left
              · (intro w' hSw; (try dsimp only at hSw); go_simp; try (with_reducible rfl))
              (try simp only [Act.put, List.setIfInBounds_toArray, List.set_cons_zero, List.set_cons_succ])
              refine wpAnyM_take (i := 13) (oi := ⟨_, _, _, _, _, _⟩) (v := ?_) rfl (by kernel_rfl) (by kernel_rfl) (by kernel_rfl) (by kernel_rfl) (fun _ _ _ h => h) (Or.inl ⟨by rfl, ?_⟩) hHeld ?_
              rotate_left
              · (intro w' hSw; (try dsimp only at hSw); go_simp; try (with_reducible rfl))
              (try simp only [Act.put, List.setIfInBounds_toArray, List.set_cons_zero, List.set_cons_succ])
              refine wpAnyM_take (i := 14) (oi := ⟨_, _, _, _, _, _⟩) (v := ?_) rfl (by kernel_rfl) (by kernel_rfl) (by kernel_rfl) (by kernel_rfl) (fun _ _ _ h => h) (Or.inl ⟨by rfl, ?_⟩) hHeld ?_
              rotate_left
              · (intro w' hSw; (try dsimp only at hSw); go_simp; try (with_reducible rfl))
              (try simp only [Act.put, List.setIfInBounds_toArray, List.set_cons_zero, List.set_cons_succ])
              refine wpAnyM_done (by kernel_rfl) ?_ _
              go_wp2_with (go_at_call 18; refine HKY.out.mono ?_; rintro e wK ⟨rfl, bK⟩
                           have GPK := hide (HGP3.out.below bK)
                           have cjK : wK.cell? ⟨w.heap.size, 0, none⟩ = some (.slice (some ⟨nb, no, none⟩) ns.length ncp) := (by rw [GPK.out.jx.cellAt]; rfl)
                           obtain ⟨nb4, no4, hna4, -, -, -, e2, -⟩ := (HJ.out.below GPK.out.bl).at_ HNI.out
                           cases hna4
                           rw [hpp] at e2)
              go_roundg g2
              case rel => exact ⟨k + 1, cn + px, _, by go_num, by go_num, by omega, by omega, GN2, GPK, GL2, GF2⟩
              case measure => omega
            · have gp : ((px : Int) != (pp : Int)) = true := by simp; omega
              have gp2 : (px != pp) = true := by simp [hpe]
              have hr3 : (cn + px * pp) + (chI ns i (k + 1) (n.ins.drop (k + 1))).length + X1 = cl := by rw [hfd] at hr2; simp [hpe] at hr2; omega
              obtain ⟨PM0, hPM⟩ : ∃ m, px * pp = m := ⟨_, rfl⟩
              have hPM1 : (px : Int) * (pp : Int) = (PM0 : Int) := by rw [← hPM]; push_cast; rfl
              have hPM2 : PM0 ≤ 16 := by rw [← hPM]; exact Nat.le_trans (Nat.mul_le_mul hpx4 hp5) (by omega)
              rw [hPM] at hr3
              have GN2 : Hid (cn + PM0 + (chI ns i (k + 1) (n.ins.drop (k + 1))).length + X1 = cl) := hr3
              have hnew : cn + PM0 ≤ cl := by omega
              clear hPM hr2 hr3 hfd hky hpe
              as_aux_lemma =>
              go_wp2_with fail
              have B1 : Hid (Below (wr).heap.size (wr) (wr).drew) := (Below.refl _ _).drew
              refine wp_region_M (S := fun w' => w'.cell? ⟨w.heap.size, 0, none⟩ = some (.slice (some ⟨nb, no, none⟩) ns.length ncp) ∧ w'.cell? ⟨nb, no + i * 10 + 1, none⟩ = some (.slice (some ⟨ib, io, none⟩) n.ins.length n.ic) ∧ w'.cell? ⟨ib, io + k, none⟩ = some (.int .i64 (x : Int)) ∧ w'.cell? ⟨nb, no + x * 10 + 2, none⟩ = some (.int .i64 (px : Int))) (late := []) (by kernel_rfl) (KC.out _ B1.out) (fun hHeld => ?_)
              (try simp only [List.size_toArray, List.length_cons, List.length_nil, Nat.zero_add, Nat.reduceAdd, Array.replicate, List.replicate])
              refine wpAnyM_take (i := 0) (oi := ⟨_, _, _, _, _, _⟩) (v := ?_) rfl (by kernel_rfl) (by kernel_rfl) (by kernel_rfl) (by kernel_rfl) (fun _ _ _ h => h) (Or.inl ⟨by rfl, ?_⟩) hHeld ?_
              rotate_left
              · (intro w' hSw; (try dsimp only at hSw); go_simp; try (with_reducible rfl))
              (try simp only [Act.put, List.setIfInBounds_toArray, List.set_cons_zero, List.set_cons_succ])
              refine wpAnyM_take (i := 1) (oi := ⟨_, _, _, _, _, _⟩) (v := ?_) rfl (by kernel_rfl) (by kernel_rfl) (by kernel_rfl) (by kernel_rfl) (fun _ _ _ h => h) (Or.inl ⟨by rfl, ?_⟩) hHeld ?_
              rotate_left
              · (intro w' hSw; (try dsimp only at hSw); go_simp; try (with_reducible rfl))
              (try simp only [Act.put, List.setIfInBounds_toArray, List.set_cons_zero, List.set_cons_succ])
              refine wpAnyM_take (i := 2) (oi := ⟨_, _, _, _, _, _⟩) (v := ?_) rfl (by kernel_rfl) (by kernel_rfl) (by kernel_rfl) (by kernel_rfl) (fun _ _ _ h => h) (Or.inl ⟨by rfl, ?_⟩) hHeld ?_
              rotate_left
              · (intro w' hSw; (try dsimp only at hSw); go_simp; try (with_reducible rfl))
              (try simp only [Act.put, List.setIfInBounds_toArray, List.set_cons_zero, List.set_cons_succ])
              refine wpAnyM_take (i := 3) (oi := ⟨_, _, _, _, _, _⟩) (v := ?_) rfl (by kernel_rfl) (by kernel_rfl) (by kernel_rfl) (by kernel_rfl) (fun _ _ _ h => h) (Or.inl ⟨by rfl, ?_⟩) hHeld ?_
              rotate_left
              · (intro w' hSw; (try dsimp only at hSw); go_simp; try (with_reducible rfl))
              (try simp only [Act.put, List.setIfInBounds_toArray, List.set_cons_zero, List.set_cons_succ])
              refine wpAnyM_take (i := 4) (oi := ⟨_, _, _, _, _, _⟩) (v := ?_) rfl (by kernel_rfl) (by kernel_rfl) (by kernel_rfl) (by kernel_rfl) (fun _ _ _ h => h) (Or.inl ⟨by rfl, ?_⟩) hHeld ?_
              rotate_left
              · (intro w' hSw; (try dsimp only at hSw); go_simp; try (with_reducible rfl))
              (try simp only [Act.put, List.setIfInBounds_toArray, List.set_cons_zero, List.set_cons_succ])
              refine wpAnyM_take (i := 5) (oi := ⟨_, _, _, _, _, _⟩) (v := ?_) rfl (by kernel_rfl) (by kernel_rfl) (by kernel_rfl) (by kernel_rfl) (fun _ _ _ h => h) (Or.inl ⟨by rfl, ?_⟩) hHeld ?_
              rotate_left
              · (intro w' hSw; (try dsimp only at hSw); go_simp; try (with_reducible rfl))
              (try simp only [Act.put, List.setIfInBounds_toArray, List.set_cons_zero, List.set_cons_succ])
              refine wpAnyM_take (i := 6) (oi := ⟨_, _, _, _, _, _⟩) (v := ?_) rfl (by kernel_rfl) (by kernel_rfl) (by kernel_rfl) (by kernel_rfl) (fun _ _ _ h => h) (Or.inl ⟨by rfl, ?_⟩) hHeld ?_
              rotate_left
              · (intro w' hSw; (try dsimp only at hSw); go_simp; try (with_reducible rfl))
              (try simp only [Act.put, List.setIfInBounds_toArray, List.set_cons_zero, List.set_cons_succ])
              refine wpAnyM_take (i := 7) (oi := ⟨_, _, _, _, _, _⟩) (v := ?_) rfl (by kernel_rfl) (by kernel_rfl) (by kernel_rfl) (by kernel_rfl) (fun _ _ _ h => h) (Or.inl ⟨by rfl, ?_⟩) hHeld ?_
              rotate_left
              · (intro w' hSw; (try dsimp only at hSw); go_simp; try (with_reducible rfl))
              (try simp only [Act.put, List.setIfInBounds_toArray, List.set_cons_zero, List.set_cons_succ])
              refine wpAnyM_take (i := 8) (oi := ⟨_, _, _, _, _, _⟩) (v := ?_) rfl (by kernel_rfl) (by kernel_rfl) (by kernel_rfl) (by kernel_rfl) (fun _ _ _ h => h) (Or.inl ⟨by rfl, ?_⟩) hHeld ?_
              rotate_left
              · (intro w' hSw; (try dsimp only at hSw); go_simp; try (with_reducible rfl))
              (try simp only [Act.put, List.setIfInBounds_toArray, List.set_cons_zero, List.set_cons_succ])
              refine wpAnyM_take (i := 9) (oi := ⟨_, _, _, _, _, _⟩) (v := ?_) rfl (by kernel_rfl) (by kernel_rfl) (by kernel_rfl) (by kernel_rfl) (fun _ _ _ h => h) (Or.inl ⟨by rfl, ?_⟩) hHeld ?_
              rotate_left
              · (intro w' hSw; (try dsimp only at hSw); go_simp; try (with_reducible rfl))
              (try simp only [Act.put, List.setIfInBounds_toArray, List.set_cons_zero, List.set_cons_succ])
              refine wpAnyM_take (i := 10) (oi := ⟨_, _, _, _, _, _⟩) (v := ?_) rfl (by kernel_rfl) (by kernel_rfl) (by kernel_rfl) (by kernel_rfl) (fun _ _ _ h => h) (Or.inl ⟨by rfl, ?_⟩) hHeld ?_
              rotate_left
              · (intro w' hSw; (try dsimp only at hSw); go_simp; try (with_reducible rfl))
              (try simp only [Act.put, List.setIfInBounds_toArray, List.set_cons_zero, List.set_cons_succ])
              refine wpAnyM_take (i := 11) (oi := ⟨_, _, _, _, _, _⟩) (v := ?_) rfl (by kernel_rfl) (by kernel_rfl) (by kernel_rfl) (by kernel_rfl) (fun _ _ _ h => h) (Or.inl ⟨by rfl, ?_⟩) hHeld ?_
              rotate_left
              · (intro w' hSw; (try dsimp only at hSw); go_simp; try (with_reducible rfl))
              (try simp only [Act.put, List.setIfInBounds_toArray, List.set_cons_zero, List.set_cons_succ])
              refine wpAnyM_take (i := 12) (oi := ⟨_, _, _, _, _, _⟩) (v := ?_) rfl (by kernel_rfl) (by kernel_rfl) (by kernel_rfl) (by kernel_rfl) (fun _ _ _ h => h) (Or.inl ⟨by rfl, ?_⟩) hHeld ?_
              rotate_left
              · (intro w' hSw; (try dsimp only at hSw); go_simp; try (with_reducible rfl))
              (try simp only [Act.put, List.setIfInBounds_toArray, List.set_cons_zero, List.set_cons_succ])
              refine wpAnyM_take (i := 13) (oi := ⟨_, _, _, _, _, _⟩) (v := ?_) rfl (by kernel_rfl) (by kernel_rfl) (by kernel_rfl) (by kernel_rfl) (fun _ _ _ h => h) (Or.inl ⟨by rfl, ?_⟩) hHeld ?_
              rotate_left
              · (intro w' hSw; (try dsimp only at hSw); go_simp; try (with_reducible rfl))
              (try simp only [Act.put, List.setIfInBounds_toArray, List.set_cons_zero, List.set_cons_succ])
              refine wpAnyM_take (i := 14) (oi := ⟨_, _, _, _, _, _⟩) (v := ?_) rfl (by kernel_rfl) (by kernel_rfl) (by kernel_rfl) (by kernel_rfl) (fun _ _ _ h => h) (Or.inl ⟨by rfl, ?_⟩) hHeld ?_
              rotate_left
              · (intro w' hSw; (try dsimp only at hSw); go_simp; try (with_reducible rfl))
              (try simp only [Act.put, List.setIfInBounds_toArray, List.set_cons_zero, List.set_cons_succ])
              refine wpAnyM_done (by kernel_rfl) ?_ _
              go_wp2_with (go_at_call 18; refine HKY.out.mono ?_; rintro e wK ⟨rfl, bK⟩
                           have GPK := hide (HGP3.out.below bK)
                           have cjK : wK.cell? ⟨w.heap.size, 0, none⟩ = some (.slice (some ⟨nb, no, none⟩) ns.length ncp) := (by rw [GPK.out.jx.cellAt]; rfl)
                           obtain ⟨nb4, no4, hna4, -, -, -, e2, -⟩ := (HJ.out.below GPK.out.bl).at_ HNI.out
                           cases hna4
                           rw [hpp] at e2)
              go_roundg g2
              case rel => exact ⟨k + 1, cn + PM0, _, by go_num, by go_num, by omega, by omega, GN2, GPK, GL2, GF2⟩
              case measure => omega
        · have bk : ¬ (k : Int) < (n.ins.length : Int) := by omega
          have hke : k = n.ins.length := by omega
          have GN5 : Hid (cn + (chJ ns (i + 1) (ns.drop (i + 1))).length = cl) := (show _ = cl by
            have := GN.out
            rw [List.drop_eq_nil_of_le (by omega), chI, List.length_nil] at this
            rw [HX1.out]
            omega)
          have GF5 : Hid (∀ x : Nat, fb[x]? = some true ↔ FedTo ns (i + 1) 0 x) := fun x => by rw [HFN.out x, ← hke]; exact GF.out x
          clear hke
          go_wp2_with fail
          go_roundg g1
          case rel => exact ⟨i + 1, tn + pp, cn, fb, by go_num, by go_num, rfl, by omega, by omega, HTN, GN5, GP, GL, GF5⟩
          case measure => omega
    · have bt : ¬ (i : Int) < (ns.length : Int) := by omega
      have hie : i = ns.length := by omega
      obtain rfl : tl = tn := by rw [GT.out, hie, off_len, HTL.out]
      obtain rfl : cl = cn := by
        have := GN.out
        rw [List.drop_eq_nil_of_le (by omega), chJ, List.length_nil] at this
        omega
      have GF6 : Hid (∀ x : Nat, fb[x]? = some true ↔ Feeds ns x) := fun x => by rw [GF.out x, hie]; exact fed_all
      have p0 : wo.cell? ⟨P, 0, none⟩ = some (.slice ta tl tc) := by rw [GP.out.px.cellAt]; rfl
      have p1 : wo.cell? ⟨P, 1, none⟩ = some (.slice ca cl cc) := by rw [GP.out.px.cellAt]; rfl
      clear hie GT GN GF hi hg hil
      as_aux_lemma =>
      go_wp2_with fail
      go_loopg [10] (cl + 1) (fun g iv wr => ∃ t : Nat, iv = .int .i64 (t : Int) ∧ t ≤ cl ∧ cl + 1 ≤ g + t ∧ Hid (PC w wr (.slice na ns.length ncp) P F (.slice ta tl tc) (.slice ca cl cc) (tksOf 0 ns) cs fb))
      case atStart => exact ⟨0, rfl, by omega, by omega, GP⟩
      case round =>
        clear GP cj p0 p1
        obtain ⟨t, rfl, ht, hgt, GP⟩ := hrel
        obtain ⟨g3, rfl⟩ : ∃ go, gk = go + 1 := ⟨gk - 1, by omega⟩
        have p1 : wr.cell? ⟨P, 1, none⟩ = some (.slice ca cl cc) := by rw [GP.out.px.cellAt]; rfl
        by_cases htl : t < cl
        · obtain ⟨c, hc⟩ := get_of_lt (l := cs) (i := t) (by rw [HCL.out]; exact htl)
          have bt : (t : Int) < (cl : Int) := by omega
          obtain ⟨i, k, x, a, b, n, nx, hn, hk, hnx, ha, hb, -, hcq⟩ := HCM.out c (List.mem_of_getElem? hc)
          have htf := tks_at hnx ha
          have htg := tks_at hn hb
          obtain ⟨f, hf⟩ : ∃ f, off ns x + a = f := ⟨_, rfl⟩
          obtain ⟨g, hgg⟩ : ∃ g, off ns i + b = g := ⟨_, rfl⟩
          rw [hf] at htf hcq
          rw [hgg] at htg hcq
          have bf : (f : Int) < (tl : Int) := by have := lt_of_get htf; rw [HTL.out] at this; omega
          have bg : (g : Int) < (tl : Int) := by have := lt_of_get htg; rw [HTL.out] at this; omega
          have bf0 : decide ((f : Int) < 0) = false := by simp
          have bg0 : decide ((g : Int) < 0) = false := by simp
          have bf1 : decide ((tl : Int) ≤ (f : Int)) = false := by simp; omega
          have bg1 : decide ((tl : Int) ≤ (g : Int)) = false := by simp; omega
          have bf2 : decide (tl ≤ f) = false := by simp; omega
          have bg2 : decide (tl ≤ g) = false := by simp; omega
          have bi : (i : Int) < (ns.length : Int) := by have := lt_of_get hn; omega
          have bkk : (k : Int) < (n.ins.length : Int) := by have := lt_of_get hk; omega
          have bk0 : decide ((k : Int) < 0) = false := by simp
          have bk1 : decide ((n.ins.length : Int) ≤ (k : Int)) = false := by simp; omega
          have bk2 : decide (n.ins.length ≤ k) = false := by simp; omega
          obtain ⟨cb, co, hca, -, d0, d1, d2⟩ := seg_cn GP.out.c hc
          subst hca hcq
          simp only at d0 d1 d2
          obtain ⟨tb, to0, hta, -, -, -⟩ := seg_tk GP.out.t htf
          subst hta
          obtain ⟨nb, no, hna, -, -, -, -⟩ := (HJ.out.below GP.out.bl).at_ hn
          subst hna
          have hmem := List.mem_of_getElem? hn
          obtain ⟨ib, io, hia, -, -⟩ := ((HJ.out.ins n hmem).below GP.out.bl).num hk
          have GPA := hide (GP.out.below (below_box wr (.cells #[.int .i64 (f : Int), .int .i64 (g : Int), .int .i64 (k : Int)] 40)))
          have XC := hide (BoxT.new 40 wr #[.int .i64 (f : Int), .int .i64 (g : Int), .int .i64 (k : Int)])
          have ALL : Hid (∀ w' : World, Below (wr.alloc (.cells #[.int .i64 (f : Int), .int .i64 (g : Int), .int .i64 (k : Int)] 40)).heap.size (wr.alloc (.cells #[.int .i64 (f : Int), .int .i64 (g : Int), .int .i64 (k : Int)] 40)) w' → (w'.cell? ⟨w.heap.size, 0, none⟩ = some (.slice (some ⟨nb, no, none⟩) ns.length ncp) ∧ w'.cell? ⟨P, 0, none⟩ = some (.slice (some ⟨tb, to0, none⟩) tl tc) ∧ w'.cell? ⟨wr.heap.size, 1, none⟩ = some (.int .i64 (g : Int)) ∧ w'.cell? ⟨tb, to0 + g * 2, none⟩ = some (.int .i64 (i : Int)) ∧ w'.cell? ⟨nb, no + i * 10 + 1, none⟩ = some (.slice (some ⟨ib, io, none⟩) n.ins.length n.ic)) ∧ (w'.cell? ⟨wr.heap.size, 2, none⟩ = some (.int .i64 (k : Int)) ∧ w'.cell? ⟨wr.heap.size, 0, none⟩ = some (.int .i64 (f : Int)) ∧ w'.cell? ⟨ib, io + k, none⟩ = some (.int .i64 (x : Int)) ∧ w'.cell? ⟨P, 0, none⟩ = some (.slice (some ⟨tb, to0, none⟩) tl tc) ∧ w'.cell? ⟨tb, to0 + f * 2, none⟩ = some (.int .i64 (x : Int)))) := fun w' h => by
            have gp := GPA.out.below h
            obtain ⟨tb', to', e, _, q1, _⟩ := seg_tk gp.t htg
            cases e
            obtain ⟨tb', to', e, _, q2, _⟩ := seg_tk gp.t htf
            cases e
            obtain ⟨nb', no', e, _, _, q3, _⟩ := (HJ.out.below gp.bl).at_ hn
            cases e
            obtain ⟨ib', io', e, _, q4⟩ := ((HJ.out.ins n hmem).below gp.bl).num hk
            rw [hia] at e q3
            cases e
            have xc := XC.out.below h
            exact ⟨⟨(by rw [gp.jx.cellAt]; rfl), (by rw [gp.px.cellAt]; rfl), (by rw [xc.cellAt]; rfl), q1, q3⟩, ⟨(by rw [xc.cellAt]; rfl), (by rw [xc.cellAt]; rfl), q4, (by rw [gp.px.cellAt]; rfl), q2⟩⟩
          have KC : Hid (∀ w' : World, Below (wr.alloc (.cells #[.int .i64 (f : Int), .int .i64 (g : Int), .int .i64 (k : Int)] 40)).heap.size (wr.alloc (.cells #[.int .i64 (f : Int), .int .i64 (g : Int), .int .i64 (k : Int)] 40)) w' → w'.cell? ⟨w.heap.size, 0, none⟩ = some (.slice (some ⟨nb, no, none⟩) ns.length ncp) ∧ w'.cell? ⟨P, 0, none⟩ = some (.slice (some ⟨tb, to0, none⟩) tl tc) ∧ w'.cell? ⟨wr.heap.size, 1, none⟩ = some (.int .i64 (g : Int)) ∧ w'.cell? ⟨tb, to0 + g * 2, none⟩ = some (.int .i64 (i : Int)) ∧ w'.cell? ⟨nb, no + i * 10 + 1, none⟩ = some (.slice (some ⟨ib, io, none⟩) n.ins.length n.ic)) := fun w' h => (ALL.out w' h).1
          have KD : Hid (∀ w' : World, Below (wr.alloc (.cells #[.int .i64 (f : Int), .int .i64 (g : Int), .int .i64 (k : Int)] 40)).drew.heap.size (wr.alloc (.cells #[.int .i64 (f : Int), .int .i64 (g : Int), .int .i64 (k : Int)] 40)).drew w' → w'.cell? ⟨wr.heap.size, 2, none⟩ = some (.int .i64 (k : Int)) ∧ w'.cell? ⟨wr.heap.size, 0, none⟩ = some (.int .i64 (f : Int)) ∧ w'.cell? ⟨ib, io + k, none⟩ = some (.int .i64 (x : Int)) ∧ w'.cell? ⟨P, 0, none⟩ = some (.slice (some ⟨tb, to0, none⟩) tl tc) ∧ w'.cell? ⟨tb, to0 + f * 2, none⟩ = some (.int .i64 (x : Int))) := fun w' h => (ALL.out w' ⟨h.os, h.tape, h.output, h.size, h.block⟩).2
          clear hc hn hk hnx ha hb htf htg hf hgg hmem hia ALL XC
          as_aux_lemma =>
          go_wp2_with fail
          have B1 : Hid (Below ((wr.alloc (.cells #[.int .i64 (f : Int), .int .i64 (g : Int), .int .i64 (k : Int)] 40))).heap.size ((wr.alloc (.cells #[.int .i64 (f : Int), .int .i64 (g : Int), .int .i64 (k : Int)] 40))) ((wr.alloc (.cells #[.int .i64 (f : Int), .int .i64 (g : Int), .int .i64 (k : Int)] 40))).drew) := (Below.refl _ _).drew
          refine wp_region_M (S := fun w' => w'.cell? ⟨w.heap.size, 0, none⟩ = some (.slice (some ⟨nb, no, none⟩) ns.length ncp) ∧ w'.cell? ⟨P, 0, none⟩ = some (.slice (some ⟨tb, to0, none⟩) tl tc) ∧ w'.cell? ⟨wr.heap.size, 1, none⟩ = some (.int .i64 (g : Int)) ∧ w'.cell? ⟨tb, to0 + g * 2, none⟩ = some (.int .i64 (i : Int)) ∧ w'.cell? ⟨nb, no + i * 10 + 1, none⟩ = some (.slice (some ⟨ib, io, none⟩) n.ins.length n.ic)) (late := []) (by kernel_rfl) (KC.out _ B1.out) (fun hHeld => ?_)
          (try simp only [List.size_toArray, List.length_cons, List.length_nil, Nat.zero_add, Nat.reduceAdd, Array.replicate, List.replicate])
          refine wpAnyM_take (i := 0) (oi := ⟨_, _, _, _, _, _⟩) (v := ?_) rfl (by kernel_rfl) (by kernel_rfl) (by kernel_rfl) (by kernel_rfl) (fun _ _ _ h => h) (Or.inl ⟨by rfl, ?_⟩) hHeld ?_
          rotate_left
          · (intro w' hSw; (try dsimp only at hSw); go_simp; try (with_reducible rfl))
          (try simp only [Act.put, List.setIfInBounds_toArray, List.set_cons_zero, List.set_cons_succ])
          refine wpAnyM_take (i := 1) (oi := ⟨_, _, _, _, _, _⟩) (v := ?_) rfl (by kernel_rfl) (by kernel_rfl) (by kernel_rfl) (by kernel_rfl) (fun _ _ _ h => h) (Or.inl ⟨by rfl, ?_⟩) hHeld ?_
          rotate_left
          · (intro w' hSw; (try dsimp only at hSw); go_simp; try (with_reducible rfl))
          (try simp only [Act.put, List.setIfInBounds_toArray, List.set_cons_zero, List.set_cons_succ])
          refine wpAnyM_take (i := 2) (oi := ⟨_, _, _, _, _, _⟩) (v := ?_) rfl (by kernel_rfl) (by kernel_rfl) (by kernel_rfl) (by kernel_rfl) (fun _ _ _ h => h) (Or.inl ⟨by rfl, ?_⟩) hHeld ?_
          rotate_left
          · (intro w' hSw; (try dsimp only at hSw); go_simp; try (with_reducible rfl))
          (try simp only [Act.put, List.setIfInBounds_toArray, List.set_cons_zero, List.set_cons_succ])
          refine wpAnyM_take (i := 3) (oi := ⟨_, _, _, _, _, _⟩) (v := ?_) rfl (by kernel_rfl) (by kernel_rfl) (by kernel_rfl) (by kernel_rfl) (fun _ _ _ h => h) (Or.inl ⟨by rfl, ?_⟩) hHeld ?_
          rotate_left
          · (intro w' hSw; (try dsimp only at hSw); go_simp; try (with_reducible rfl))
          (try simp only [Act.put, List.setIfInBounds_toArray, List.set_cons_zero, List.set_cons_succ])
          refine wpAnyM_take (i := 4) (oi := ⟨_, _, _, _, _, _⟩) (v := ?_) rfl (by kernel_rfl) (by kernel_rfl) (by kernel_rfl) (by kernel_rfl) (fun _ _ _ h => h) (Or.inl ⟨by rfl, ?_⟩) hHeld ?_
          rotate_left
          · (intro w' hSw; (try dsimp only at hSw); go_simp; try (with_reducible rfl))
          (try simp only [Act.put, List.setIfInBounds_toArray, List.set_cons_zero, List.set_cons_succ])
          refine wpAnyM_take (i := 5) (oi := ⟨_, _, _, _, _, _⟩) (v := ?_) rfl (by kernel_rfl) (by kernel_rfl) (by kernel_rfl) (by kernel_rfl) (fun _ _ _ h => h) (Or.inl ⟨by rfl, ?_⟩) hHeld ?_
          rotate_left
          · (intro w' hSw; (try dsimp only at hSw); go_simp; try (with_reducible rfl))
          (try simp only [Act.put, List.setIfInBounds_toArray, List.set_cons_zero, List.set_cons_succ])
          refine wpAnyM_take (i := 6) (oi := ⟨_, _, _, _, _, _⟩) (v := ?_) rfl (by kernel_rfl) (by kernel_rfl) (by kernel_rfl) (by kernel_rfl) (fun _ _ _ h => h) (Or.inl ⟨by rfl, ?_⟩) hHeld ?_
          rotate_left
          · (intro w' hSw; (try dsimp only at hSw); go_simp; try (with_reducible rfl))
          (try simp only [Act.put, List.setIfInBounds_toArray, List.set_cons_zero, List.set_cons_succ])
          refine wpAnyM_take (i := 7) (oi := ⟨_, _, _, _, _, _⟩) (v := ?_) rfl (by kernel_rfl) (by kernel_rfl) (by kernel_rfl) (by kernel_rfl) (fun _ _ _ h => h) (Or.inl ⟨by rfl, ?_⟩) hHeld ?_
          rotate_left
          · (intro w' hSw; (try dsimp only at hSw); go_simp; try (with_reducible rfl))
          (try simp only [Act.put, List.setIfInBounds_toArray, List.set_cons_zero, List.set_cons_succ])
          refine wpAnyM_take (i := 8) (oi := ⟨_, _, _, _, _, _⟩) (v := ?_) rfl (by kernel_rfl) (by kernel_rfl) (by kernel_rfl) (by kernel_rfl) (fun _ _ _ h => h) (Or.inl ⟨by rfl, ?_⟩) hHeld ?_
          rotate_left
          · (intro w' hSw; (try dsimp only at hSw); go_simp; try (with_reducible rfl))
          (try simp only [Act.put, List.setIfInBounds_toArray, List.set_cons_zero, List.set_cons_succ])
          refine wpAnyM_take (i := 9) (oi := ⟨_, _, _, _, _, _⟩) (v := ?_) rfl (by kernel_rfl) (by kernel_rfl) (by kernel_rfl) (by kernel_rfl) (fun _ _ _ h => h) (Or.inl ⟨by rfl, ?_⟩) hHeld ?_
          rotate_left
          · (intro w' hSw; (try dsimp only at hSw); go_simp; try (with_reducible rfl))
          (try simp only [Act.put, List.setIfInBounds_toArray, List.set_cons_zero, List.set_cons_succ])
          refine wpAnyM_take (i := 10) (oi := ⟨_, _, _, _, _, _⟩) (v := ?_) rfl (by kernel_rfl) (by kernel_rfl) (by kernel_rfl) (by kernel_rfl) (fun _ _ _ h => h) (Or.inl ⟨by rfl, ?_⟩) hHeld ?_
          rotate_left
          · (intro w' hSw; (try dsimp only at hSw); go_simp; try (with_reducible rfl))
          (try simp only [Act.put, List.setIfInBounds_toArray, List.set_cons_zero, List.set_cons_succ])
          refine wpAnyM_take (i := 11) (oi := ⟨_, _, _, _, _, _⟩) (v := ?_) rfl (by kernel_rfl) (by kernel_rfl) (by kernel_rfl) (by kernel_rfl) (fun _ _ _ h => h) (Or.inl ⟨by rfl, ?_⟩) hHeld ?_
          rotate_left
          · (intro w' hSw; (try dsimp only at hSw); go_simp; try (with_reducible rfl))
          (try simp only [Act.put, List.setIfInBounds_toArray, List.set_cons_zero, List.set_cons_succ])
          refine wpAnyM_take (i := 12) (oi := ⟨_, _, _, _, _, _⟩) (v := ?_) rfl (by kernel_rfl) (by kernel_rfl) (by kernel_rfl) (by kernel_rfl) (fun _ _ _ h => h) (Or.inl ⟨by rfl, ?_⟩) hHeld ?_
          rotate_left
          · (intro w' hSw; (try dsimp only at hSw); go_simp; try (with_reducible rfl))
          (try simp only [Act.put, List.setIfInBounds_toArray, List.set_cons_zero, List.set_cons_succ])
          refine wpAnyM_done (by kernel_rfl) ?_ _
          go_wp2_with fail
          clear KC
          have KC := KD
          clear KD
          have B11 : Hid (Below ((wr.alloc (.cells #[.int .i64 (f : Int), .int .i64 (g : Int), .int .i64 (k : Int)] 40)).drew).heap.size ((wr.alloc (.cells #[.int .i64 (f : Int), .int .i64 (g : Int), .int .i64 (k : Int)] 40)).drew) ((wr.alloc (.cells #[.int .i64 (f : Int), .int .i64 (g : Int), .int .i64 (k : Int)] 40)).drew).drew) := (Below.refl _ _).drew
          refine wp_region_M (S := fun w' => w'.cell? ⟨wr.heap.size, 2, none⟩ = some (.int .i64 (k : Int)) ∧ w'.cell? ⟨wr.heap.size, 0, none⟩ = some (.int .i64 (f : Int)) ∧ w'.cell? ⟨ib, io + k, none⟩ = some (.int .i64 (x : Int)) ∧ w'.cell? ⟨P, 0, none⟩ = some (.slice (some ⟨tb, to0, none⟩) tl tc) ∧ w'.cell? ⟨tb, to0 + f * 2, none⟩ = some (.int .i64 (x : Int))) (late := []) (by kernel_rfl) (KC.out _ B11.out) (fun hHeld => ?_)
          (try simp only [List.size_toArray, List.length_cons, List.length_nil, Nat.zero_add, Nat.reduceAdd, Array.replicate, List.replicate])
          refine wpAnyM_take (i := 0) (oi := ⟨_, _, _, _, _, _⟩) (v := ?_) rfl (by kernel_rfl) (by kernel_rfl) (by kernel_rfl) (by kernel_rfl) (fun _ _ _ h => h) (Or.inl ⟨by rfl, ?_⟩) hHeld ?_
          rotate_left
          · (intro w' hSw; (try dsimp only at hSw); go_simp; try (with_reducible rfl))
          (try simp only [Act.put, List.setIfInBounds_toArray, List.set_cons_zero, List.set_cons_succ])
          refine wpAnyM_take (i := 1) (oi := ⟨_, _, _, _, _, _⟩) (v := ?_) rfl (by kernel_rfl) (by kernel_rfl) (by kernel_rfl) (by kernel_rfl) (fun _ _ _ h => h) (Or.inl ⟨by rfl, ?_⟩) hHeld ?_
          rotate_left
          · (intro w' hSw; (try dsimp only at hSw); go_simp; try (with_reducible rfl))
          (try simp only [Act.put, List.setIfInBounds_toArray, List.set_cons_zero, List.set_cons_succ])
          refine wpAnyM_take (i := 2) (oi := ⟨_, _, _, _, _, _⟩) (v := ?_) rfl (by kernel_rfl) (by kernel_rfl) (by kernel_rfl) (by kernel_rfl) (fun _ _ _ h => h) (Or.inl ⟨by rfl, ?_⟩) hHeld ?_
          rotate_left
          · (intro w' hSw; (try dsimp only at hSw); go_simp; try (with_reducible rfl))
          (try simp only [Act.put, List.setIfInBounds_toArray, List.set_cons_zero, List.set_cons_succ])
          refine wpAnyM_take (i := 3) (oi := ⟨_, _, _, _, _, _⟩) (v := ?_) rfl (by kernel_rfl) (by kernel_rfl) (by kernel_rfl) (by kernel_rfl) (fun _ _ _ h => h) (Or.inl ⟨by rfl, ?_⟩) hHeld ?_
          rotate_left
          · (intro w' hSw; (try dsimp only at hSw); go_simp; try (with_reducible rfl))
          (try simp only [Act.put, List.setIfInBounds_toArray, List.set_cons_zero, List.set_cons_succ])
          refine wpAnyM_take (i := 4) (oi := ⟨_, _, _, _, _, _⟩) (v := ?_) rfl (by kernel_rfl) (by kernel_rfl) (by kernel_rfl) (by kernel_rfl) (fun _ _ _ h => h) (Or.inl ⟨by rfl, ?_⟩) hHeld ?_
          rotate_left
          · (intro w' hSw; (try dsimp only at hSw); go_simp; try (with_reducible rfl))
          (try simp only [Act.put, List.setIfInBounds_toArray, List.set_cons_zero, List.set_cons_succ])
          refine wpAnyM_take (i := 5) (oi := ⟨_, _, _, _, _, _⟩) (v := ?_) rfl (by kernel_rfl) (by kernel_rfl) (by kernel_rfl) (by kernel_rfl) (fun _ _ _ h => h) (Or.inl ⟨by rfl, ?_⟩) hHeld ?_
          rotate_left
          · (intro w' hSw; (try dsimp only at hSw); go_simp; try (with_reducible rfl))
          (try simp only [Act.put, List.setIfInBounds_toArray, List.set_cons_zero, List.set_cons_succ])
          refine wpAnyM_take (i := 6) (oi := ⟨_, _, _, _, _, _⟩) (v := ?_) rfl (by kernel_rfl) (by kernel_rfl) (by kernel_rfl) (by kernel_rfl) (fun _ _ _ h => h) (Or.inl ⟨by rfl, ?_⟩) hHeld ?_
          rotate_left
          · (intro w' hSw; (try dsimp only at hSw); go_simp; try (with_reducible rfl))
          (try simp only [Act.put, List.setIfInBounds_toArray, List.set_cons_zero, List.set_cons_succ])
          refine wpAnyM_take (i := 7) (oi := ⟨_, _, _, _, _, _⟩) (v := ?_) rfl (by kernel_rfl) (by kernel_rfl) (by kernel_rfl) (by kernel_rfl) (fun _ _ _ h => h) (Or.inl ⟨by rfl, ?_⟩) hHeld ?_
          rotate_left
          · (intro w' hSw; (try dsimp only at hSw); go_simp; try (with_reducible rfl))
          (try simp only [Act.put, List.setIfInBounds_toArray, List.set_cons_zero, List.set_cons_succ])
          refine wpAnyM_take (i := 8) (oi := ⟨_, _, _, _, _, _⟩) (v := ?_) rfl (by kernel_rfl) (by kernel_rfl) (by kernel_rfl) (by kernel_rfl) (fun _ _ _ h => h) (Or.inl ⟨by rfl, ?_⟩) hHeld ?_
          rotate_left
          · (intro w' hSw; (try dsimp only at hSw); go_simp; try (with_reducible rfl))
          (try simp only [Act.put, List.setIfInBounds_toArray, List.set_cons_zero, List.set_cons_succ])
          refine wpAnyM_take (i := 9) (oi := ⟨_, _, _, _, _, _⟩) (v := ?_) rfl (by kernel_rfl) (by kernel_rfl) (by kernel_rfl) (by kernel_rfl) (fun _ _ _ h => h) (Or.inl ⟨by rfl, ?_⟩) hHeld ?_
          rotate_left
          · (intro w' hSw; (try dsimp only at hSw); go_simp; try (with_reducible rfl))
          (try simp only [Act.put, List.setIfInBounds_toArray, List.set_cons_zero, List.set_cons_succ])
          refine wpAnyM_take (i := 10) (oi := ⟨_, _, _, _, _, _⟩) (v := ?_) rfl (by kernel_rfl) (by kernel_rfl) (by kernel_rfl) (by kernel_rfl) (fun _ _ _ h => h) (Or.inl ⟨by rfl, ?_⟩) hHeld ?_
          rotate_left
          · (intro w' hSw; (try dsimp only at hSw); go_simp; try (with_reducible rfl))
          (try simp only [Act.put, List.setIfInBounds_toArray, List.set_cons_zero, List.set_cons_succ])
          refine wpAnyM_take (i := 11) (oi := ⟨_, _, _, _, _, _⟩) (v := ?_) rfl (by kernel_rfl) (by kernel_rfl) (by kernel_rfl) (by kernel_rfl) (fun _ _ _ h => h) (Or.inl ⟨by rfl, ?_⟩) hHeld ?_
          rotate_left
          · (intro w' hSw; (try dsimp only at hSw); go_simp; try (with_reducible rfl))
          (try simp only [Act.put, List.setIfInBounds_toArray, List.set_cons_zero, List.set_cons_succ])
          refine wpAnyM_take (i := 12) (oi := ⟨_, _, _, _, _, _⟩) (v := ?_) rfl (by kernel_rfl) (by kernel_rfl) (by kernel_rfl) (by kernel_rfl) (fun _ _ _ h => h) (Or.inl ⟨by rfl, ?_⟩) hHeld ?_
          rotate_left
          · (intro w' hSw; (try dsimp only at hSw); go_simp; try (with_reducible rfl))
          (try simp only [Act.put, List.setIfInBounds_toArray, List.set_cons_zero, List.set_cons_succ])
          refine wpAnyM_take (i := 13) (oi := ⟨_, _, _, _, _, _⟩) (v := ?_) rfl (by kernel_rfl) (by kernel_rfl) (by kernel_rfl) (by kernel_rfl) (fun _ _ _ h => h) (Or.inl ⟨by rfl, ?_⟩) hHeld ?_
          rotate_left
          · (intro w' hSw; (try dsimp only at hSw); go_simp; try (with_reducible rfl))
          (try simp only [Act.put, List.setIfInBounds_toArray, List.set_cons_zero, List.set_cons_succ])
          refine wpAnyM_take (i := 14) (oi := ⟨_, _, _, _, _, _⟩) (v := ?_) rfl (by kernel_rfl) (by kernel_rfl) (by kernel_rfl) (by kernel_rfl) (fun _ _ _ h => h) (Or.inl ⟨by rfl, ?_⟩) hHeld ?_
          rotate_left
          · (intro w' hSw; (try dsimp only at hSw); go_simp; try (with_reducible rfl))
          (try simp only [Act.put, List.setIfInBounds_toArray, List.set_cons_zero, List.set_cons_succ])
          refine wpAnyM_take (i := 15) (oi := ⟨_, _, _, _, _, _⟩) (v := ?_) rfl (by kernel_rfl) (by kernel_rfl) (by kernel_rfl) (by kernel_rfl) (fun _ _ _ h => h) (Or.inl ⟨by rfl, ?_⟩) hHeld ?_
          rotate_left
          · (intro w' hSw; (try dsimp only at hSw); go_simp; try (with_reducible rfl))
          (try simp only [Act.put, List.setIfInBounds_toArray, List.set_cons_zero, List.set_cons_succ])
          refine wpAnyM_take (i := 16) (oi := ⟨_, _, _, _, _, _⟩) (v := ?_) rfl (by kernel_rfl) (by kernel_rfl) (by kernel_rfl) (by kernel_rfl) (fun _ _ _ h => h) (Or.inl ⟨by rfl, ?_⟩) hHeld ?_
          rotate_left
          · (intro w' hSw; (try dsimp only at hSw); go_simp; try (with_reducible rfl))
          (try simp only [Act.put, List.setIfInBounds_toArray, List.set_cons_zero, List.set_cons_succ])
          refine wpAnyM_take (i := 17) (oi := ⟨_, _, _, _, _, _⟩) (v := ?_) rfl (by kernel_rfl) (by kernel_rfl) (by kernel_rfl) (by kernel_rfl) (fun _ _ _ h => h) (Or.inl ⟨by rfl, ?_⟩) hHeld ?_
          rotate_left
          · (intro w' hSw; (try dsimp only at hSw); go_simp; try (with_reducible rfl))
          (try simp only [Act.put, List.setIfInBounds_toArray, List.set_cons_zero, List.set_cons_succ])
          refine wpAnyM_take (i := 18) (oi := ⟨_, _, _, _, _, _⟩) (v := ?_) rfl (by kernel_rfl) (by kernel_rfl) (by kernel_rfl) (by kernel_rfl) (fun _ _ _ h => h) (Or.inl ⟨by rfl, ?_⟩) hHeld ?_
          rotate_left
          · (intro w' hSw; (try dsimp only at hSw); go_simp; try (with_reducible rfl))
          (try simp only [Act.put, List.setIfInBounds_toArray, List.set_cons_zero, List.set_cons_succ])
          refine wpAnyM_take (i := 19) (oi := ⟨_, _, _, _, _, _⟩) (v := ?_) rfl (by kernel_rfl) (by kernel_rfl) (by kernel_rfl) (by kernel_rfl) (fun _ _ _ h => h) (Or.inl ⟨by rfl, ?_⟩) hHeld ?_
          rotate_left
          · (intro w' hSw; (try dsimp only at hSw); go_simp; try (with_reducible rfl))
          (try simp only [Act.put, List.setIfInBounds_toArray, List.set_cons_zero, List.set_cons_succ])
          refine wpAnyM_take (i := 20) (oi := ⟨_, _, _, _, _, _⟩) (v := ?_) rfl (by kernel_rfl) (by kernel_rfl) (by kernel_rfl) (by kernel_rfl) (fun _ _ _ h => h) (Or.inl ⟨by rfl, ?_⟩) hHeld ?_
          rotate_left
          · (intro w' hSw; (try dsimp only at hSw); go_simp; try (with_reducible rfl))
          (try simp only [Act.put, List.setIfInBounds_toArray, List.set_cons_zero, List.set_cons_succ])
          refine wpAnyM_take (i := 21) (oi := ⟨_, _, _, _, _, _⟩) (v := ?_) rfl (by kernel_rfl) (by kernel_rfl) (by kernel_rfl) (by kernel_rfl) (fun _ _ _ h => h) (Or.inl ⟨by rfl, ?_⟩) hHeld ?_
          rotate_left
          · (intro w' hSw; (try dsimp only at hSw); go_simp; try (with_reducible rfl))
          (try simp only [Act.put, List.setIfInBounds_toArray, List.set_cons_zero, List.set_cons_succ])
          refine wpAnyM_take (i := 22) (oi := ⟨_, _, _, _, _, _⟩) (v := ?_) rfl (by kernel_rfl) (by kernel_rfl) (by kernel_rfl) (by kernel_rfl) (fun _ _ _ h => h) (Or.inl ⟨by rfl, ?_⟩) hHeld ?_
          rotate_left
          · (intro w' hSw; (try dsimp only at hSw); go_simp; try (with_reducible rfl))
          (try simp only [Act.put, List.setIfInBounds_toArray, List.set_cons_zero, List.set_cons_succ])
          refine wpAnyM_take (i := 23) (oi := ⟨_, _, _, _, _, _⟩) (v := ?_) rfl (by kernel_rfl) (by kernel_rfl) (by kernel_rfl) (by kernel_rfl) (fun _ _ _ h => h) (Or.inl ⟨by rfl, ?_⟩) hHeld ?_
          rotate_left
          · (intro w' hSw; (try dsimp only at hSw); go_simp; try (with_reducible rfl))
          (try simp only [Act.put, List.setIfInBounds_toArray, List.set_cons_zero, List.set_cons_succ])
          refine wpAnyM_take (i := 24) (oi := ⟨_, _, _, _, _, _⟩) (v := ?_) rfl (by kernel_rfl) (by kernel_rfl) (by kernel_rfl) (by kernel_rfl) (fun _ _ _ h => h) (Or.inl ⟨by rfl, ?_⟩) hHeld ?_
          rotate_left
          · (intro w' hSw; (try dsimp only at hSw); go_simp; try (with_reducible rfl))
          (try simp only [Act.put, List.setIfInBounds_toArray, List.set_cons_zero, List.set_cons_succ])
          refine wpAnyM_done (by kernel_rfl) ?_ _
          go_wp2_with fail
          go_roundg g3
          case rel => exact ⟨t + 1, by go_num, by omega, by omega, (GPA.out.below (Below.refl _ _).drew).below (Below.refl _ _).drew⟩
          case measure => omega
        · have bt : ¬ (t : Int) < (cl : Int) := by omega
          clear ht hgt htl
          obtain ⟨wq, hwq⟩ : ∃ wq, wq = wr := ⟨_, rfl⟩
          subst hwq
          as_aux_lemma =>
          go_wp2_with fail
          go_loopg [13] (tl + 1) (fun g iv wr => ∃ t : Nat, iv = .int .i64 (t : Int) ∧ t ≤ tl ∧ tl + 1 ≤ g + t ∧ Hid (PC w wr (.slice na ns.length ncp) P F (.slice ta tl tc) (.slice ca cl cc) (tksOf 0 ns) cs fb))
          case atStart => exact ⟨0, rfl, by omega, by omega, GP⟩
          case round =>
            clear GP p1
            obtain ⟨t, rfl, ht, hgt, GP⟩ := hrel
            obtain ⟨g4, rfl⟩ : ∃ go, gk = go + 1 := ⟨gk - 1, by omega⟩
            have p0 : wr.cell? ⟨P, 0, none⟩ = some (.slice ta tl tc) := by rw [GP.out.px.cellAt]; rfl
            by_cases htl : t < tl
            · obtain ⟨y, hy⟩ := get_of_lt (l := tksOf 0 ns) (i := t) (by rw [HTL.out]; exact htl)
              have bt : (t : Int) < (tl : Int) := by omega
              obtain ⟨i, n, b, hn, hb, hyq, hto⟩ := tk_find ns 0 t y hy
              rw [Nat.zero_add] at hyq
              have hto2 : off ns i + b = t := hto.symm
              have h1 := HTS.out i b n hn hb
              have h2 := HFS.out i b n hn hb
              rw [hto2, HCS.out] at h1 h2
              obtain ⟨tb, to0, hta, -, q1, -⟩ := seg_tk GP.out.t hy
              subst hta
              rw [hyq] at q1
              simp only at q1
              have hil := lt_of_get hn
              have bi : (i : Int) < (ns.length : Int) := by omega
              obtain ⟨bF, hbF⟩ := get_of_lt (l := fb) (i := i) (by rw [GL.out]; exact hil)
              obtain ⟨nb, no, hna, -, -, -, -⟩ := (HJ.out.below GP.out.bl).at_ hn
              subst hna
              obtain ⟨L1, hL1⟩ : ∃ l, (plc (fun c : Cn => decide (c.tg = (t : Int))) 0 cs).length = l := ⟨_, rfl⟩
              obtain ⟨L2, hL2⟩ : ∃ l, (plc (fun c : Cn => decide (c.fr = (t : Int))) 0 cs).length = l := ⟨_, rfl⟩
              rw [hL1] at h1
              rw [hL2] at h2
              have hcsl : cs.length ≤ 100000 := by rw [HCL.out]; omega
              have HT16 : Hid (∀ w', Below wr.heap.size wr w' → Calls Try.prog 16 #[.agg #[.slice (some ⟨tb, to0, none⟩) tl tc, .slice ca cl cc], .int .i64 (t : Int)] w' fun e w'' => ∃ ra rc, e = .returned (.slice ra L1 rc) ∧ Below wr.heap.size wr w'') := fun w' hb => by
                have gp := GP.out.below hb
                refine (To_any (gp.c.mono (Nat.le_of_lt gp.px.lt)) hcsl (t : Int)).mono ?_
                rintro e w'' ⟨u, rfl, o, b⟩
                obtain ⟨ra, rc, rfl⟩ := o.shape
                rw [hL1]
                exact ⟨ra, rc, rfl, hb.trans (b.mono hb.size)⟩
              have HT14 : Hid (∀ w', Below wr.heap.size wr w' → Calls Try.prog 14 #[.agg #[.slice (some ⟨tb, to0, none⟩) tl tc, .slice ca cl cc], .int .i64 (t : Int)] w' fun e w'' => ∃ ra rc, e = .returned (.slice ra L2 rc) ∧ Below wr.heap.size wr w'') := fun w' hb => by
                have gp := GP.out.below hb
                refine (From_any (gp.c.mono (Nat.le_of_lt gp.px.lt)) hcsl (t : Int)).mono ?_
                rintro e w'' ⟨u, rfl, o, b⟩
                obtain ⟨ra, rc, rfl⟩ := o.shape
                rw [hL2]
                exact ⟨ra, rc, rfl, hb.trans (b.mono hb.size)⟩
              obtain ⟨kd, hkd⟩ : ∃ k, n.kind = k := ⟨_, rfl⟩
              have h3 := HKI.out n (List.mem_of_getElem? hn)
              rw [hkd] at h3
              obtain ⟨bT, hT1, hT2⟩ : ∃ bT : Bool, decide ((0 : Int) < (L1 : Int)) = bT ∧ (kd != 1) = bT := by
                refine ⟨_, rfl, ?_⟩
                by_cases h : kd = 1
                · have : ¬ 0 < L1 := fun hh => (h3.2 (h1.1 hh)) h
                  simp [h]; omega
                · have : 0 < L1 := h1.2 (h3.1 h)
                  have h5 : decide ((0 : Int) < (L1 : Int)) = true := by simp; omega
                  rw [h5]; simp [h]
              have hT3 : decide ((0 : Int) < (L2 : Int)) = bF := by
                have h4 := GF6.out i
                rw [hbF] at h4
                cases bF with
                | true => have := h2.2 (h4.1 rfl); simp; omega
                | false =>
                  have : ¬ 0 < L2 := fun hh => by have := h4.2 (h2.1 hh); cases this
                  simp; omega
              have hT4 : decide (0 < L1) = bT := by rw [← hT1]; by_cases h : 0 < L1 <;> simp [h]
              have hT5 : decide (0 < L2) = bF := by rw [← hT3]; by_cases h : 0 < L2 <;> simp [h]
              have KC : Hid (∀ w' : World, Below wr.heap.size wr w' → w'.cell? ⟨P, 0, none⟩ = some (.slice (some ⟨tb, to0, none⟩) tl tc) ∧ w'.cell? ⟨P, 1, none⟩ = some (.slice ca cl cc) ∧ w'.cell? ⟨w.heap.size, 0, none⟩ = some (.slice (some ⟨nb, no, none⟩) ns.length ncp) ∧ w'.cell? ⟨nb, no + i * 10, none⟩ = some (.int .i64 kd) ∧ w'.cell? ⟨F, i, none⟩ = some (.bool bF)) := fun w' h => by
                have gp := GP.out.below h
                obtain ⟨nb', no', e, _, q3, _⟩ := (HJ.out.below gp.bl).at_ hn
                cases e
                rw [hkd] at q3
                exact ⟨(by rw [gp.px.cellAt]; rfl), (by rw [gp.px.cellAt]; rfl), (by rw [gp.jx.cellAt]; rfl), q3, (by rw [gp.fx.cellAt]; exact map_get_bool hbF)⟩
              clear hy hn hb hyq hto hto2 h1 h2 h3 hbF hL1 hL2 hkd hcsl
              as_aux_lemma =>
              go_wp2_with fail
              have B1 : Hid (Below (wr).heap.size (wr) (wr).drew) := (Below.refl _ _).drew
              refine wp_region_M (S := fun w' => w'.cell? ⟨P, 0, none⟩ = some (.slice (some ⟨tb, to0, none⟩) tl tc) ∧ w'.cell? ⟨P, 1, none⟩ = some (.slice ca cl cc) ∧ w'.cell? ⟨w.heap.size, 0, none⟩ = some (.slice (some ⟨nb, no, none⟩) ns.length ncp) ∧ w'.cell? ⟨nb, no + i * 10, none⟩ = some (.int .i64 kd) ∧ w'.cell? ⟨F, i, none⟩ = some (.bool bF)) (late := []) (by kernel_rfl) (KC.out _ B1.out) (fun hHeld => ?_)
              (try simp only [List.size_toArray, List.length_cons, List.length_nil, Nat.zero_add, Nat.reduceAdd, Array.replicate, List.replicate])
              refine wpAnyM_take (i := 0) (oi := ⟨_, _, _, _, _, _⟩) (v := ?_) rfl (by kernel_rfl) (by kernel_rfl) (by kernel_rfl) (by kernel_rfl) (fun _ _ _ h => h) (Or.inl ⟨by rfl, ?_⟩) hHeld ?_
              rotate_left
              · (intro w' hSw; (try dsimp only at hSw); go_simp; try (with_reducible rfl))
              (try simp only [Act.put, List.setIfInBounds_toArray, List.set_cons_zero, List.set_cons_succ])
              refine wpAnyM_take (i := 1) (oi := ⟨_, _, _, _, _, _⟩) (v := ?_) rfl (by kernel_rfl) (by kernel_rfl) (by kernel_rfl) (by kernel_rfl) (fun _ _ _ h => h) (Or.inl ⟨by rfl, ?_⟩) hHeld ?_
              rotate_left
              · (intro w' hSw; (try dsimp only at hSw); go_simp; try (with_reducible rfl))
              (try simp only [Act.put, List.setIfInBounds_toArray, List.set_cons_zero, List.set_cons_succ])
              refine wpAnyM_take (i := 5) (oi := ⟨_, _, _, _, _, _⟩) (v := ?_) rfl (by kernel_rfl) (by kernel_rfl) (by kernel_rfl) (by kernel_rfl) (fun _ _ _ h => h) (Or.inl ⟨by rfl, ?_⟩) hHeld ?_
              rotate_left
              · (intro w' hSw; (try dsimp only at hSw); go_simp; try (with_reducible rfl))
              (try simp only [Act.put, List.setIfInBounds_toArray, List.set_cons_zero, List.set_cons_succ])
              refine wpAnyM_take (i := 6) (oi := ⟨_, _, _, _, _, _⟩) (v := ?_) rfl (by kernel_rfl) (by kernel_rfl) (by kernel_rfl) (by kernel_rfl) (fun _ _ _ h => h) (Or.inl ⟨by rfl, ?_⟩) hHeld ?_
              rotate_left
              · (intro w' hSw; (try dsimp only at hSw); go_simp; try (with_reducible rfl))
              (try simp only [Act.put, List.setIfInBounds_toArray, List.set_cons_zero, List.set_cons_succ])
              refine wpAnyM_take (i := 7) (oi := ⟨_, _, _, _, _, _⟩) (v := ?_) rfl (by kernel_rfl) (by kernel_rfl) (by kernel_rfl) (by kernel_rfl) (fun _ _ _ h => h) (Or.inl ⟨by rfl, ?_⟩) hHeld ?_
              rotate_left
              · (intro w' hSw; (try dsimp only at hSw); go_simp; try (with_reducible rfl))
              (try simp only [Act.put, List.setIfInBounds_toArray, List.set_cons_zero, List.set_cons_succ])
              refine wpAnyM_take (i := 8) (oi := ⟨_, _, _, _, _, _⟩) (v := ?_) rfl (by kernel_rfl) (by kernel_rfl) (by kernel_rfl) (by kernel_rfl) (fun _ _ _ h => h) (Or.inl ⟨by rfl, ?_⟩) hHeld ?_
              rotate_left
              · (intro w' hSw; (try dsimp only at hSw); go_simp; try (with_reducible rfl))
              (try simp only [Act.put, List.setIfInBounds_toArray, List.set_cons_zero, List.set_cons_succ])
              refine wpAnyM_take (i := 9) (oi := ⟨_, _, _, _, _, _⟩) (v := ?_) rfl (by kernel_rfl) (by kernel_rfl) (by kernel_rfl) (by kernel_rfl) (fun _ _ _ h => h) (Or.inl ⟨by rfl, ?_⟩) hHeld ?_
              rotate_left
              · (intro w' hSw; (try dsimp only at hSw); go_simp; try (with_reducible rfl))
              (try simp only [Act.put, List.setIfInBounds_toArray, List.set_cons_zero, List.set_cons_succ])
              refine wpAnyM_take (i := 10) (oi := ⟨_, _, _, _, _, _⟩) (v := ?_) rfl (by kernel_rfl) (by kernel_rfl) (by kernel_rfl) (by kernel_rfl) (fun _ _ _ h => h) (Or.inl ⟨by rfl, ?_⟩) hHeld ?_
              rotate_left
              · (intro w' hSw; (try dsimp only at hSw); go_simp; try (with_reducible rfl))
              (try simp only [Act.put, List.setIfInBounds_toArray, List.set_cons_zero, List.set_cons_succ])
              refine wpAnyM_take (i := 11) (oi := ⟨_, _, _, _, _, _⟩) (v := ?_) rfl (by kernel_rfl) (by kernel_rfl) (by kernel_rfl) (by kernel_rfl) (fun _ _ _ h => h) (Or.inl ⟨by rfl, ?_⟩) hHeld ?_
              rotate_left
              · (intro w' hSw; (try dsimp only at hSw); go_simp; try (with_reducible rfl))
              (try simp only [Act.put, List.setIfInBounds_toArray, List.set_cons_zero, List.set_cons_succ])
              refine wpAnyM_one (i := 2) (o := ⟨_, _, _, _, _, _⟩) (by kernel_rfl) rfl (fun K hK => ?_)
              go_simp
              go_at_call 16
              refine (HT16.out _ B1.out).mono ?_
              rintro e w2 ⟨ra2, rc2, rfl, hb⟩
              have B2 := hide hb
              refine hK.out _ _ (KC.out _ hb) (fun hHeld => ?_)
              clear hK K hb
              (try simp only [List.setIfInBounds_toArray, List.set_cons_zero, List.set_cons_succ])
              refine wpAnyM_take (i := 3) (oi := ⟨_, _, _, _, _, _⟩) (v := ?_) rfl (by kernel_rfl) (by kernel_rfl) (by kernel_rfl) (by kernel_rfl) (fun _ _ _ h => h) (Or.inl ⟨by rfl, ?_⟩) hHeld ?_
              rotate_left
              · (intro w' hSw; (try dsimp only at hSw); go_simp; try (with_reducible rfl))
              (try simp only [Act.put, List.setIfInBounds_toArray, List.set_cons_zero, List.set_cons_succ])
              refine wpAnyM_take (i := 4) (oi := ⟨_, _, _, _, _, _⟩) (v := ?_) rfl (by kernel_rfl) (by kernel_rfl) (by kernel_rfl) (by kernel_rfl) (fun _ _ _ h => h) (Or.inl ⟨by rfl, ?_⟩) hHeld ?_
              rotate_left
              · (intro w' hSw; (try dsimp only at hSw); go_simp; try (with_reducible rfl))
              (try simp only [Act.put, List.setIfInBounds_toArray, List.set_cons_zero, List.set_cons_succ])
              refine wpAnyM_take (i := 12) (oi := ⟨_, _, _, _, _, _⟩) (v := ?_) rfl (by kernel_rfl) (by kernel_rfl) (by kernel_rfl) (by kernel_rfl) (fun _ _ _ h => h) (Or.inl ⟨by rfl, ?_⟩) hHeld ?_
              rotate_left
              · (intro w' hSw; (try dsimp only at hSw); go_simp; try (with_reducible rfl))
              (try simp only [Act.put, List.setIfInBounds_toArray, List.set_cons_zero, List.set_cons_succ])
              refine wpAnyM_take (i := 13) (oi := ⟨_, _, _, _, _, _⟩) (v := ?_) rfl (by kernel_rfl) (by kernel_rfl) (by kernel_rfl) (by kernel_rfl) (fun _ _ _ h => h) (Or.inl ⟨by rfl, ?_⟩) hHeld ?_
              rotate_left
              · (intro w' hSw; (try dsimp only at hSw); go_simp; try (with_reducible rfl))
              (try simp only [Act.put, List.setIfInBounds_toArray, List.set_cons_zero, List.set_cons_succ])
              refine wpAnyM_take (i := 14) (oi := ⟨_, _, _, _, _, _⟩) (v := ?_) rfl (by kernel_rfl) (by kernel_rfl) (by kernel_rfl) (by kernel_rfl) (fun _ _ _ h => h) (Or.inl ⟨by rfl, ?_⟩) hHeld ?_
              rotate_left
              · (intro w' hSw; (try dsimp only at hSw); go_simp; try (with_reducible rfl))
              (try simp only [Act.put, List.setIfInBounds_toArray, List.set_cons_zero, List.set_cons_succ])
              refine wpAnyM_take (i := 15) (oi := ⟨_, _, _, _, _, _⟩) (v := ?_) rfl (by kernel_rfl) (by kernel_rfl) (by kernel_rfl) (by kernel_rfl) (fun _ _ _ h => h) (Or.inl ⟨by rfl, ?_⟩) hHeld ?_
              rotate_left
              · (intro w' hSw; (try dsimp only at hSw); go_simp; try (with_reducible rfl))
              (try simp only [Act.put, List.setIfInBounds_toArray, List.set_cons_zero, List.set_cons_succ])
              refine wpAnyM_take (i := 19) (oi := ⟨_, _, _, _, _, _⟩) (v := ?_) rfl (by kernel_rfl) (by kernel_rfl) (by kernel_rfl) (by kernel_rfl) (fun _ _ _ h => h) (Or.inl ⟨by rfl, ?_⟩) hHeld ?_
              rotate_left
              · (intro w' hSw; (try dsimp only at hSw); go_simp; try (with_reducible rfl))
              (try simp only [Act.put, List.setIfInBounds_toArray, List.set_cons_zero, List.set_cons_succ])
              refine wpAnyM_take (i := 20) (oi := ⟨_, _, _, _, _, _⟩) (v := ?_) rfl (by kernel_rfl) (by kernel_rfl) (by kernel_rfl) (by kernel_rfl) (fun _ _ _ h => h) (Or.inl ⟨by rfl, ?_⟩) hHeld ?_
              rotate_left
              · (intro w' hSw; (try dsimp only at hSw); go_simp; try (with_reducible rfl))
              (try simp only [Act.put, List.setIfInBounds_toArray, List.set_cons_zero, List.set_cons_succ])
              refine wpAnyM_take (i := 21) (oi := ⟨_, _, _, _, _, _⟩) (v := ?_) rfl (by kernel_rfl) (by kernel_rfl) (by kernel_rfl) (by kernel_rfl) (fun _ _ _ h => h) (Or.inl ⟨by rfl, ?_⟩) hHeld ?_
              rotate_left
              · (intro w' hSw; (try dsimp only at hSw); go_simp; try (with_reducible rfl))
              (try simp only [Act.put, List.setIfInBounds_toArray, List.set_cons_zero, List.set_cons_succ])
              refine wpAnyM_take (i := 22) (oi := ⟨_, _, _, _, _, _⟩) (v := ?_) rfl (by kernel_rfl) (by kernel_rfl) (by kernel_rfl) (by kernel_rfl) (fun _ _ _ h => h) (Or.inl ⟨by rfl, ?_⟩) hHeld ?_
              rotate_left
              · (intro w' hSw; (try dsimp only at hSw); go_simp; try (with_reducible rfl))
              (try simp only [Act.put, List.setIfInBounds_toArray, List.set_cons_zero, List.set_cons_succ])
              refine wpAnyM_one (i := 16) (o := ⟨_, _, _, _, _, _⟩) (by kernel_rfl) rfl (fun K hK => ?_)
              go_simp
              go_at_call 14
              refine (HT14.out _ B2.out).mono ?_
              rintro e w3 ⟨ra3, rc3, rfl, hb⟩
              have B3 := hide hb
              refine hK.out _ _ (KC.out _ hb) (fun hHeld => ?_)
              clear hK K hb
              (try simp only [List.setIfInBounds_toArray, List.set_cons_zero, List.set_cons_succ])
              refine wpAnyM_take (i := 17) (oi := ⟨_, _, _, _, _, _⟩) (v := ?_) rfl (by kernel_rfl) (by kernel_rfl) (by kernel_rfl) (by kernel_rfl) (fun _ _ _ h => h) (Or.inl ⟨by rfl, ?_⟩) hHeld ?_
              rotate_left
              · (intro w' hSw; (try dsimp only at hSw); go_simp; try (with_reducible rfl))
              (try simp only [Act.put, List.setIfInBounds_toArray, List.set_cons_zero, List.set_cons_succ])
              refine wpAnyM_take (i := 18) (oi := ⟨_, _, _, _, _, _⟩) (v := ?_) rfl (by kernel_rfl) (by kernel_rfl) (by kernel_rfl) (by kernel_rfl) (fun _ _ _ h => h) (Or.inl ⟨by rfl, ?_⟩) hHeld ?_
              rotate_left
              · (intro w' hSw; (try dsimp only at hSw); go_simp; try (with_reducible rfl))
              (try simp only [Act.put, List.setIfInBounds_toArray, List.set_cons_zero, List.set_cons_succ])
              refine wpAnyM_take (i := 23) (oi := ⟨_, _, _, _, _, _⟩) (v := ?_) rfl (by kernel_rfl) (by kernel_rfl) (by kernel_rfl) (by kernel_rfl) (fun _ _ _ h => h) (Or.inl ⟨by rfl, ?_⟩) hHeld ?_
              rotate_left
              · (intro w' hSw; (try dsimp only at hSw); go_simp; try (with_reducible rfl))
              (try simp only [Act.put, List.setIfInBounds_toArray, List.set_cons_zero, List.set_cons_succ])
              refine wpAnyM_take (i := 24) (oi := ⟨_, _, _, _, _, _⟩) (v := ?_) rfl (by kernel_rfl) (by kernel_rfl) (by kernel_rfl) (by kernel_rfl) (fun _ _ _ h => h) (Or.inl ⟨by rfl, ?_⟩) hHeld ?_
              rotate_left
              · (intro w' hSw; (try dsimp only at hSw); go_simp; try (with_reducible rfl))
              (try simp only [Act.put, List.setIfInBounds_toArray, List.set_cons_zero, List.set_cons_succ])
              refine wpAnyM_done (by kernel_rfl) ?_ _
              go_wp2_with fail
              go_roundg g4
              case rel => exact ⟨t + 1, by go_num, by omega, by omega, GP.out.below B3.out⟩
              case measure => omega
            · have bt : ¬ (t : Int) < (tl : Int) := by omega
              go_wp2_with fail
              go_ret
              exact ⟨rfl, GP.out.bl⟩
end Go.Proofs.Ytfiafbfbiidnlaa
