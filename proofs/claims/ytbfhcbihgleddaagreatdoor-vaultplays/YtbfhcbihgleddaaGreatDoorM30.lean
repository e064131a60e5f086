/-
  Texts of the vault, in build order: VPut, VList, VBin, VGet, VWaste.
-/
import Derived.Test.YtbfhcbihgleddaaGreatDoorM28
import Derived.Test.YtbfhcbihgleddaaGreatDoorM29
/-
  The vault's Put, walked.
-/
namespace Go.Proofs.YtbfhcbihgleddaaGreatDoor
open Go.RowKit

theorem VAt.boxT {w0 w w' : World} {V k b n : Nat} {p : Pd} {keep : Int} {vt vw : Value} {th : List SpV} {ws : List ByteArray} (h : VAt w0 w V k b n p keep vt vw th ws) (hg : w.grownBy w' vt.ownBlock) : BoxT 81 w' V #[.pointer (some ⟨k, 0, none⟩), .int .i64 keep, vt, vw] := by
  have hb := h.box
  unfold BoxT at hb ⊢
  rw [hg.block V (Array.getElem?_eq_some_iff.1 hb).1 fun e2 => ?_]
  · exact hb
  · obtain ⟨cur2, hc2⟩ := h.tr.has V e2.symm
    unfold BoxT at hc2
    rw [hb] at hc2; simp at hc2
set_option maxHeartbeats 4000000 in
set_option maxRecDepth 100000 in
theorem Put_any {w0 w : World} {V k b nf kp : Nat} {p : Pd} {vt vw : Value} {th : List SpV} {ws : List ByteArray} (h : VAt w0 w V k b nf p kp vt vw th ws) (hg : Glob w0) (n ep : Nat) (hn : n < 18446744073709551616) (he : ep < 18446744073709551616) (vs : Value) (xs : List SnV) (hin : SnsIn w.heap.size w vs xs) (hxs : xs.length ≤ 100000)
    (hck : (pk [] [] (xs.map SnV.s)).1.length ≤ 900) (hkp : kp ≤ 1000000) (hth : th.length ≤ 900) (hx : ∀ x ∈ th, x.n < 18446744073709551616 ∧ x.parts.length ≤ 900 ∧ ∀ s ∈ x.parts, s.size ≤ 100) (hws : ws.length ≤ 90000) (hwz : ∀ s ∈ ws, s.size ≤ 100) (hnf : nf + 3000 ≤ 1000000)
    (p' : Pd) (er : Int) (sth : List Sp) (ws' : List ByteArray) (hR : pPut kp p (th.map SpV.s) ws n ep (pk [] [] (xs.map SnV.s)) = (p', er, sth, ws')) :
    Calls Tryz.prog 13 #[.pointer (some ⟨V, 0, none⟩), .int .u64 n, .int .u64 ep, vs] w fun e w' => e = .returned (.int .i64 er) ∧ ∃ vt' vw' th', th'.map SpV.s = sth ∧ VAt w0 w' V k b (nf + 3000) p' kp vt' vw' th' ws' ∧ PT V k b vt vw vt' vw' w w' := by
  have hpk := pack_any vs xs w hin (hg.below h.st.since hg.1) hxs
  have HFIT := hide (pk_fit (xs.map SnV.s) [] [] (fun l hl => by cases hl) ⟨Byts.nil, by simp⟩ (by simp))
  obtain ⟨avs, cvs, rfl, _, _⟩ := hin.row
  generalize pk [] [] (xs.map SnV.s) = r at *
  have hw0w := h.st.since.size
  have HV := hide h
  have HG := hide hg
  have HX := hide hx
  have HWZ := hide hwz
  have HR := hide hR
  clear h hg hin hx hwz hR
  go_enter_defers Tryz.func13, Tryz.ntmps13
  go_wp2_with fail
  refine hpk.mono ?_
  rintro e w1 ⟨ac, cc, cks, rfl, hr1, ocks, kcks, b1⟩
  have HV1 := hide (HV.out.below b1)
  have HP1 := hide (PT.below (V := V) (k := k) (b := b) (vt := vt) (vw := vw) b1)
  have HC1 := hide (And.intro ocks kcks)
  have HR1 := hide hr1
  have hcl : cks.length ≤ 900 := by have : r.1.length = cks.length := by rw [hr1, List.length_map]
                                    omega
  clear hpk ocks kcks b1 hr1 HV
  by_cases hr2 : r.2 = 0
  · rw [hr2]
    have HR2 := HR
    unfold pPut at HR2
    rw [if_pos hr2] at HR2
    clear HR hr2
    have hnw := newest_any HV1.out (by omega)
    rw [newest_s] at hnw
    have hnl : newestS (th.map SpV.s) < 18446744073709551616 := by
      rw [← newest_s]
      unfold newest
      cases hl : th.getLast? with
      | none => simp
      | some x => exact (HX.out x (List.mem_of_getLast? hl)).1
    go_wp2_with fail
    refine hnw.mono ?_
    rintro e w2 ⟨rfl, b2⟩
    have HV2 := hide (HV1.out.below b2)
    have HP2 := hide (PT.trans HP1.out (PT.below b2))
    have HC2 : Hid (OwnL 22 1 Ck.cs w.heap.size w2 (.slice ac cks.length cc) cks ∧ ∀ x ∈ cks, x.ok w.heap.size w2) := ⟨HC1.out.1.below b2, fun x hx => (HC1.out.2 x hx).below b2⟩
    clear hnw b2 HV1 HP1 HC1
    generalize newestS (th.map SpV.s) = nw at *
    by_cases hle : n ≤ nw
    · rw [if_pos hle] at HR2
      have hle' : (n : Int) ≤ (nw : Int) := by omega
      go_wp2
      cases HR2.out
      exact ⟨_, results_tmp rfl _ _ _, rfl, vt, vw, th, rfl, HV2.out.mono (by omega) hnf, HP2.out⟩
    · rw [if_neg hle] at HR2
      have hle' : ¬ ((n : Int) ≤ (nw : Int)) := by omega
      obtain ⟨p1, ws1, hp1⟩ : ∃ p1 ws1, pTidy p ws = (p1, ws1) := ⟨_, _, rfl⟩
      rw [hp1] at HR2
      have hsub := pTidy_sub ws p
      rw [hp1] at hsub
      have htd := tidy_any HV2.out (fun s hs => by have := HWZ.out s hs; unfold maxLen; omega) (by omega) p1 ws1 hp1
      go_wp2_with fail
      refine htd.mono ?_
      rintro e w3 ⟨rfl, vw3, hv3, t3⟩
      have HV3 := hide hv3
      have HP3 := hide (PT.trans HP2.out (PT.vt (vt := vt) t3))
      have HC3 : Hid (OwnL 22 1 Ck.cs w.heap.size w3 (.slice ac cks.length cc) cks ∧ ∀ x ∈ cks, x.ok w.heap.size w3) := ⟨HV2.out.keepsRow t3 HC2.out.1 (by decide) (by decide) (.inl (by decide)), fun x hx => HV2.out.keepsRow t3 (HC2.out.2 x hx) (by decide) (by decide) (.inl (by decide))⟩
      have HFC : Hid (∀ x ∈ cks, Byts x.l ∧ x.l.length ≤ 10000000) := fun x hx => HFIT.out x.l (by rw [HR1.out]; exact List.mem_map_of_mem hx)
      have hpn := partNames_any n hn (.slice ac cks.length cc) cks w3 HC3.out.1 HC3.out.2 HFC.out (by omega) (HG.out.below HV3.out.st.since HG.out.1)
      have hle3 := HP3.out.size
      clear htd hv3 t3 HV2 HP2 HC2 hle
      go_wp2_with fail
      refine hpn.mono ?_
      rintro e w4 ⟨v4, rfl, o4, b4⟩
      obtain ⟨a4, c4, hv4⟩ := o4.shape
      subst hv4
      rw [← HR1.out] at o4
      have hpl := pnames_len n r.1 0
      have hrl : r.1.length = cks.length := by rw [HR1.out, List.length_map]
      have HPZ := hide (pnames_size n hn r.1 0 (by omega) HFIT.out)
      rw [← HR1.out]
      have HNS : Hid (newS n ep r.1 = SpV.s ⟨n, ep, pnames n 0 r.1, a4, c4, cks, ac, cc⟩) := by show _ = _; unfold newS SpV.s; rw [← HR1.out]
      generalize pnames n 0 r.1 = pns at *
      have ba : Below w4.heap.size w4 (w4.alloc (.cells #[.int .u64 n, .int .u64 ep, .slice a4 pns.length c4, .slice ac cks.length cc] 84)) := (Below.refl _ _).alloc (Nat.le_refl _) _
      have hb5 : Below w3.heap.size w3 (w4.alloc (.cells #[.int .u64 n, .int .u64 ep, .slice a4 pns.length c4, .slice ac cks.length cc] 84)) := b4.trans (ba.mono b4.size)
      have HV5 := hide (HV3.out.below hb5)
      have HP5 := hide (PT.trans HP3.out (PT.below (V := V) (k := k) (b := b) (vt := vt) (vw := vw3) hb5))
      have HN5 : Hid (New w0.heap.size (w4.alloc (.cells #[.int .u64 n, .int .u64 ep, .slice a4 pns.length c4, .slice ac cks.length cc] 84)) ⟨n, ep, pns, a4, c4, cks, ac, cc⟩ vw3) := by
        refine ⟨⟨((o4.mono (Nat.le_trans hw0w hle3)).alloc _), (HC3.out.1.mono hw0w).below hb5, fun c hc => ?_⟩, fun g e ex => ?_⟩
        · exact Own.below (Own.mono (HC3.out.2 c hc) hw0w) hb5 (Nat.le_refl _)
        · obtain ⟨cur, hcu⟩ := HV3.out.wr.has g e
          have h1 := hcu.lt
          have h2 := (World.ownsRow.lt o4 g ex).1
          omega
      have HB5 := hide (BoxT.new 84 w4 #[.int .u64 n, .int .u64 ep, .slice a4 pns.length c4, .slice ac cks.length cc])
      obtain ⟨p2, e2, ws2, hp2⟩ : ∃ p2 e2 ws2, pLay (SpV.s ⟨n, ep, pns, a4, c4, cks, ac, cc⟩) p1 ws1 = (p2, e2, ws2) := ⟨_, _, _, rfl⟩
      have hly := lay_any HV5.out HG.out ⟨n, ep, pns, a4, c4, cks, ac, cc⟩ HN5.out (show pns.length = cks.length by omega) (show cks.length ≤ _ by omega) hnf (by omega) hn he HPZ.out HFC.out p2 e2 ws2 hp2
      have HR3 := HR2
      rw [HNS.out, hp2] at HR3
      simp only [SpV.vp, SpV.vc] at hly
      have hw2sub := pLay_sub (SpV.s ⟨n, ep, pns, a4, c4, cks, ac, cc⟩) p1 ws1
      rw [hp2] at hw2sub
      have hfsz := freshN_size hn
      have HW2 : Hid ((∀ s ∈ ws2, s.size ≤ maxLen) ∧ ws2.length ≤ 1000000) := by
        refine ⟨fun s hs => ?_, ?_⟩
        · have hh : s.size ≤ 100 := by
            rcases hw2sub.1 s hs with h1 | h1 | h1
            · exact HWZ.out s (hsub.1 s h1)
            · exact HPZ.out s h1
            · rw [h1]; exact Nat.le_trans hfsz (by omega)
          unfold maxLen; omega
        · have h1 := hw2sub.2
          have h2 : (SpV.s ⟨n, ep, pns, a4, c4, cks, ac, cc⟩).parts.length = pns.length := rfl
          have h3 := hsub.2
          simp only at h1 h3
          omega
      have HPL : Hid (pns.length = cks.length) := by show _ = _; omega
      clear hpn o4 b4 ba hb5 HV3 HP3 HC3 HR2 hpl hrl hw2sub hsub hp1
      go_wp2_with fail
      refine hly.mono ?_
      rintro e w6 ⟨rfl, vw6, hv6, t6⟩
      have HV6 := hide hv6
      have HP6 := hide (PT.trans HP5.out (PT.vt (vt := vt) t6))
      have HN6 := hide (HN5.out.keeps HV5.out t6)
      have HB6 := hide (HV5.out.keeps t6 HB5.out (by decide) (by decide) (.inl (by decide)))
      clear hly hv6 t6 HV5 HP5 HN5 HB5
      unfold pEnd at HR3
      simp only [] at HR3
      by_cases he2 : e2 = 0
      · subst he2
        rw [if_pos rfl] at HR3
        obtain ⟨atv, ctv, hvt⟩ := HV6.out.tr.shape
        subst hvt
        have ba : Below w6.heap.size w6 (w6.alloc (.cells #[.int .u64 n, .int .u64 ep, .slice a4 pns.length c4, .slice ac cks.length cc] 84)).drew := ((Below.refl _ _).alloc (Nat.le_refl _) _).drew
        have HV8 := hide (HV6.out.below ba)
        have HN8 := hide (HN6.out.below ba)
        have BA8 := hide ba
        obtain ⟨c0, c1, c2, c3⟩ := HV6.out.box.cells4
        obtain ⟨q0, q1, q2, q3⟩ := HB6.out.cells4
        have cf := HV6.out.box.free
        have d2 : w6.drew.cell? ⟨V, 2, none⟩ = some (.slice atv th.length ctv) := c2
        have e0 : w6.drew.cell? ⟨w4.heap.size, 0, none⟩ = some (.int .u64 n) := q0
        have e1 : w6.drew.cell? ⟨w4.heap.size, 1, none⟩ = some (.int .u64 ep) := q1
        have e2 : w6.drew.cell? ⟨w4.heap.size, 2, none⟩ = some (.slice a4 pns.length c4) := q2
        have e3 : w6.drew.cell? ⟨w4.heap.size, 3, none⟩ = some (.slice ac cks.length cc) := q3
        have hsz8 := HV8.out.st.since.size
        obtain ⟨-, -, f2, -⟩ := HV8.out.box.cells4
        have ff := HV8.out.box.free
        clear ba c0 c1 c3 HV6 HN6
        go_wp2_with fail
        refine wp_region_noPanic ?_
        go_region_law (refine step_row Tryz.info84 Tryz.underlying79 rfl (by decide) (by decide) (fun _ => rfl) (fun z u hu => by simp [SpV.cs, SpV.vp, SpV.vc] at hu; rcases hu with rfl | rfl | rfl | rfl <;> rfl) rfl _ _ rfl w0.heap.size (.slice atv th.length ctv) th rfl HV8.out.tr ⟨w6.heap.size, 0, none⟩ 1 ⟨n, ep, pns, a4, c4, cks, ac, cc⟩ rfl (fun j u hu => by match j, hu with | 0, hu | 1, hu | 2, hu | 3, hu => simp [SpV.cs, SpV.vp, SpV.vc] at hu; subst hu; simp [Addr.add]) (by omega) hsz8 ?_; intro v9 w9 r9 g9 at9; obtain ⟨a9, c9, hv9⟩ := r9.shape; subst hv9; have B9 := hide (HV8.out.boxT g9); obtain ⟨s0, s1, s2, s3⟩ := B9.out.cells4; have sf := B9.out.free)
        all_goals
          refine NoPanic.normal ?_
          have HT9 := hide (HV8.out.setThere r9 g9 (fun g e => (at9 g e).imp id (fun h => by simpa using h)) (fun y hy => by
            rcases List.mem_append.1 hy with hy | hy
            · exact ⟨HV8.out.oks y hy, HV8.out.far y hy⟩
            · rcases List.mem_singleton.1 hy with rfl
              exact ⟨HN8.out.ok, HN8.out.far⟩))
          rw [show (th ++ [(⟨n, ep, pns, a4, c4, cks, ac, cc⟩ : SpV)]).length = th.length + 1 from by simp] at HT9
          have HP9 := hide (PT.trans HP6.out (PT.trans (PT.below (V := V) (k := k) (b := b) (vw := vw6) BA8.out) (PT.xt HT9.out.2)))
          have HXX : Hid (∀ y ∈ th ++ [(⟨n, ep, pns, a4, c4, cks, ac, cc⟩ : SpV)], y.n < 18446744073709551616 ∧ y.parts.length ≤ 900 ∧ ∀ s ∈ y.parts, s.size ≤ 100) := fun y hy => by
            rcases List.mem_append.1 hy with hy | hy
            · exact HX.out y hy
            · rcases List.mem_singleton.1 hy with rfl
              exact ⟨hn, (by have := HPL.out; show pns.length ≤ 900; omega), HPZ.out⟩
          have hex := expire_any HT9.out.1 hkp (by simp; omega) (fun y hy => ⟨(HXX.out y hy).1, (HXX.out y hy).2.1⟩)
          rw [show (th ++ [(⟨n, ep, pns, a4, c4, cks, ac, cc⟩ : SpV)]).length = th.length + 1 from by simp] at hex
          have hszT := HP9.out.size
          have hsz0 : w0.heap.size ≤ (w9.setCell ⟨V, 2, none⟩ (.slice a9 (th.length + 1) c9)).heap.size := HT9.out.1.st.since.size
          have HFE : Hid (fls ((th ++ [(⟨n, ep, pns, a4, c4, cks, ac, cc⟩ : SpV)]).take (th.length + 1 - kp)) = flsS ((th.map SpV.s ++ [SpV.s (⟨n, ep, pns, a4, c4, cks, ac, cc⟩ : SpV)]).take ((th.map SpV.s).length + 1 - kp)) ∧ ((th ++ [(⟨n, ep, pns, a4, c4, cks, ac, cc⟩ : SpV)]).drop (th.length + 1 - kp)).map SpV.s = (th.map SpV.s ++ [SpV.s (⟨n, ep, pns, a4, c4, cks, ac, cc⟩ : SpV)]).drop ((th.map SpV.s).length + 1 - kp)) := by
            rw [fls_s, List.map_take, List.map_drop, List.map_append, List.length_map]
            exact ⟨rfl, rfl⟩
          have HWE : Hid ((∀ s ∈ fls ((th ++ [(⟨n, ep, pns, a4, c4, cks, ac, cc⟩ : SpV)]).take (th.length + 1 - kp)), s.size ≤ maxLen) ∧ (fls ((th ++ [(⟨n, ep, pns, a4, c4, cks, ac, cc⟩ : SpV)]).take (th.length + 1 - kp))).length ≤ 1000000) := by
            refine ⟨fun s hs => ?_, ?_⟩
            · unfold fls at hs
              obtain ⟨y, hy, hs⟩ := List.mem_flatMap.1 hs
              have hyy := HXX.out y (List.mem_of_mem_take hy)
              rcases List.mem_cons.1 hs with rfl | hs
              · have := wholeN_size hyy.1; unfold maxLen; omega
              · have := hyy.2.2 s hs; unfold maxLen; omega
            · have key : ∀ l : List SpV, (∀ y ∈ l, y.parts.length ≤ 900) → (fls l).length ≤ 901 * l.length := by
                intro l
                induction l with
                | nil => intro _; simp [fls]
                | cons y l ih =>
                  intro hy
                  have h1 := ih fun z hz => hy z (by simp [hz])
                  have h2 := hy y (by simp)
                  simp only [fls, List.flatMap_cons, List.length_append, List.length_cons] at *
                  omega
              have h3 := key ((th ++ [(⟨n, ep, pns, a4, c4, cks, ac, cc⟩ : SpV)]).take (th.length + 1 - kp)) fun y hy => (HXX.out y (List.mem_of_mem_take hy)).2.1
              have h4 : ((th ++ [(⟨n, ep, pns, a4, c4, cks, ac, cc⟩ : SpV)]).take (th.length + 1 - kp)).length ≤ th.length + 1 := by
                rw [List.length_take]; simp
              omega
          clear r9 g9 at9 s0 s1 s2 s3 sf B9 c2 d2 e0 e1 e2 e3 q0 q1 q2 q3 cf f2 ff HV8 HN8 BA8 HP6 HB6
          generalize fls ((th ++ [(⟨n, ep, pns, a4, c4, cks, ac, cc⟩ : SpV)]).take (th.length + 1 - kp)) = fl at *
          generalize (th ++ [(⟨n, ep, pns, a4, c4, cks, ac, cc⟩ : SpV)]).drop (th.length + 1 - kp) = th2 at *
          go_wp2_with fail
          refine hex.mono ?_
          rintro e w10 ⟨v10, vt10, rfl, hei⟩
          obtain ⟨a10, c10, hv10⟩ := hei.o.shape
          subst hv10
          have HE := hide hei
          obtain ⟨t0, t1, t2, t3⟩ := hei.v.box.cells4
          have tf := hei.v.box.free
          have HW11 := hide (hei.v.newWaste hei.o hsz0 (fun j e => (hei.ne j e).2))
          have HP11 : Hid (PT V k b (.slice atv th.length ctv) vw vt10 (.slice a10 fl.length c10) w (w10.setCell ⟨V, 3, none⟩ (.slice a10 fl.length c10))) := by
            have hP := PT.trans HP9.out (PT.xt hei.t)
            refine ⟨hP.os, hP.tape, hP.output, by have := hP.size; simpa using this, fun i hi h1 h2 h3 h4 h5 => ?_, hP.ownT, fun g e => .inr ?_⟩
            · rw [Below.heap_setCell w10 ⟨V, 3, none⟩ _ i h3]; exact hP.block i hi h1 h2 h3 h4 h5
            · have := (World.ownsRow.lt hei.o g e).1
              omega
          obtain ⟨p5, ws5, hp5⟩ : ∃ p5 ws5, pTidy p2 fl = (p5, ws5) := ⟨_, _, rfl⟩
          have htd := tidy_d .returning HW11.out HWE.out.1 HWE.out.2 p5 ws5 hp5
          have HR4 : Hid ((p5, (0 : Int), th2.map SpV.s, ws5) = (p', er, sth, ws')) := by
            have := HR3.out
            rw [← HFE.out.1, ← HFE.out.2, hp5] at this
            exact this
          clear hex hei HE HP9 HT9
          go_wp2
          refine leaves_cons (f := 38) (args := #[.pointer (some ⟨V, 0, none⟩)]) (by simp) (by simp [go_sem]) ?_
          refine htd.mono ?_
          rintro e u' w12 ⟨rfl, rfl, vw12, hv12, t12⟩
          cases HR4.out
          exact ⟨_, results_tmp rfl _ _ _, rfl, vt10, vw12, th2, rfl, hv12, PT.trans HP11.out (PT.vt t12)⟩
      · rw [if_neg he2] at HR3
        have he2' : (e2 == 0) = false := by simpa using he2
        obtain ⟨p5, ws5, hp5⟩ : ∃ p5 ws5, pTidy p2 ws2 = (p5, ws5) := ⟨_, _, rfl⟩
        rw [hp5] at HR3
        have htd := tidy_d .returning HV6.out HW2.out.1 HW2.out.2 p5 ws5 hp5
        clear he2
        go_wp2
        refine leaves_cons (f := 38) (args := #[.pointer (some ⟨V, 0, none⟩)]) (by simp) (by simp [go_sem]) ?_
        refine htd.mono ?_
        rintro e u' w7 ⟨rfl, rfl, vw7, hv7, t7⟩
        cases HR3.out
        exact ⟨_, results_tmp rfl _ _ _, rfl, vt, vw7, th, rfl, hv7, PT.trans HP6.out (PT.vt t7)⟩
  · have hr2' : (r.2 == 0) = false := by simpa using hr2
    have hpe : (p, r.2, th.map SpV.s, ws) = (p', er, sth, ws') := by
      have := HR.out
      unfold pPut at this
      rw [if_neg hr2] at this; exact this
    have HPE := hide hpe
    clear hpe HR hr2
    go_wp2
    cases HPE.out
    exact ⟨_, results_tmp rfl _ _ _, rfl, vt, vw, th, rfl, HV1.out.mono (by omega) hnf, HP1.out⟩
end Go.Proofs.YtbfhcbihgleddaaGreatDoor
/-
  The vault's List.
-/
namespace Go.Proofs.YtbfhcbihgleddaaGreatDoor
open Go.RowKit

theorem Tryz.info41 : (Tryz.prog.info? 41).map (fun i => (i.zero, i.size, i.bytes)) = some (some (.int .u64 0), 1, 8) := by kernel_rfl
theorem make_nums (w : World) (n : Nat) (hn : n ≤ 1000000) : ∃ cs : Array Value, cs.size = n ∧ (Instr.makeSlice 42 (.int .i64 (n : Int)) (.int .i64 (n : Int))).run Tryz.prog w = .ok (.slice (some ⟨w.heap.size, 0, none⟩) n n) (w.alloc (.cells cs 41)) := by
  obtain ⟨i0, hi, hz0, hz1, hz2⟩ := info_parts Tryz.info41
  have := run_make (P := Tryz.prog) w 42 41 i0 (.int .u64 0) Tryz.underlying42 hi hz0 .i64 .i64 (n : Int) (n : Int) (by omega) (Int.le_refl _) (by rw [hz2]; omega) (by omega)
  rw [hz1, Nat.mul_one, Int.toNat_natCast] at this
  exact ⟨_, by simp [size_madeCells], this⟩
/-- In the midst of List. -/
structure NI (w wr : World) (th : List SpV) (i : Nat) : Prop where
  bel : Below w.heap.size w wr
  box : ∃ cs : Array Value, BoxT 41 wr w.heap.size cs ∧ cs.size = th.length ∧ ∀ (j : Nat) (x : SpV), j < i → th[j]? = some x → cs[j]? = some (.int .u64 x.n)
theorem NI.step {w wr w' : World} {th : List SpV} {i : Nat} {x : SpV} (h : NI w wr th i) (hb : Below wr.heap.size wr w') (hx : th[i]? = some x) : NI w (w'.setCell ⟨w.heap.size, i, none⟩ (.int .u64 x.n)) th (i + 1) := by
  obtain ⟨cs, h1, h2, h3⟩ := h.box
  have h1' := h1.kept (base := 0) (Kept.of_below hb) (by decide)
  refine ⟨(h.bel.trans (hb.mono h.bel.size)).setCell (Nat.le_refl _) _, _, h1'.set i _, by simpa using h2, fun j y hj hy => ?_⟩
  have hlt : i < cs.size := by rw [h2]; exact (List.getElem?_eq_some_iff.1 hx).1
  by_cases hji : j = i
  · subst hji
    rw [hx] at hy
    cases hy
    simp [hlt]
  · rw [Array.getElem?_setIfInBounds_ne (fun e => hji e.symm)]
    exact h3 j y (by omega) hy

theorem NI.alloc {w wr : World} {th : List SpV} {i : Nat} (h : NI w wr th i) (o : Obj) : NI w (wr.alloc o) th i := by
  obtain ⟨cs, h1, h2, h3⟩ := h.box
  exact ⟨h.bel.alloc h.bel.size o, cs, h1.alloc o, h2, h3⟩
set_option maxHeartbeats 2000000 in
set_option maxRecDepth 100000 in
theorem list_any {w0 w : World} {V k b n : Nat} {p : Pd} {keep : Int} {vt vw : Value} {th : List SpV} {ws : List ByteArray} (h : VAt w0 w V k b n p keep vt vw th ws) (hth : th.length ≤ 1000000) :
    Calls Tryz.prog 14 #[.pointer (some ⟨V, 0, none⟩)] w fun e w' => e = .returned (.slice (some ⟨w.heap.size, 0, none⟩) th.length th.length) ∧ NI w w' th th.length := by
  obtain ⟨cs, hcs, hmk⟩ := make_nums w th.length hth
  obtain ⟨c0, c1, c2, c3⟩ := h.box.cells4
  obtain ⟨at1, ct1, hvt⟩ := h.tr.shape
  subst hvt
  have HT := hide h.tr
  have hVlt := h.box.lt
  have H0 : Hid (NI w (w.alloc (.cells cs 41)) th 0) := ⟨(Below.refl _ _).alloc (Nat.le_refl _) _, cs, BoxT.new _ _ _, hcs, fun j x hj => by omega⟩
  clear h hcs
  go_enter Tryz.func14, Tryz.ntmps14
  go_wp2
  go_loopw [17] (fun iv wr => ∃ i : Nat, i ≤ th.length ∧ iv = .int .i64 i ∧ Hid (NI w wr th i)) (fun iv _ => th.length - (intOf iv).toNat)
  case atStart => exact ⟨0, Nat.zero_le _, rfl, H0⟩
  case round =>
    obtain ⟨i, hi, rfl, HI⟩ := hrel
    clear H0 hmk
    by_cases hlt : i < th.length
    · obtain ⟨x, hx⟩ : ∃ x, th[i]? = some x := ⟨_, List.getElem?_eq_getElem hlt⟩
      obtain ⟨g, off, cap, e, hrd⟩ := (HT.out.below HI.out.bel).read (fun _ => rfl) hx
      cases e
      have r0 := hrd 0 _ rfl
      have r1 := hrd 1 _ rfl
      have r2 := hrd 2 _ rfl
      have r3 := hrd 3 _ rfl
      simp only [SpV.vp, SpV.vc, Nat.add_zero, ← Nat.add_assoc] at r0 r1 r2 r3
      have HN := hide ((HI.out.step (Below.refl _ _) hx).alloc (.cells #[.int .u64 x.n, .int .u64 x.ep, .slice x.ap x.parts.length x.cp, .slice x.ac x.ck.length x.cc] 84))
      obtain ⟨cs1, k1, k2, k3⟩ := HI.out.box
      have kl := k1.lt
      obtain ⟨u0, hu0⟩ : ∃ u, wr.cell? ⟨w.heap.size, i, none⟩ = some u := by
        rw [k1.cellAt]; exact ⟨_, Array.getElem?_eq_getElem (by omega)⟩
      have kf := k1.free i
      clear hrd hx k1 k2 k3
      go_wp2
      go_roundw
      case rel => exact ⟨i + 1, by omega, by go_num, HN⟩
      case measure => simp [intOf]; omega
    · obtain rfl : i = th.length := by omega
      go_wp2
      go_ret
      exact ⟨rfl, HI.out⟩
end Go.Proofs.YtbfhcbihgleddaaGreatDoor
/-
  The vault's place of a number: cmp.Compare, the binary search, at, Has.
-/
namespace Go.Proofs.YtbfhcbihgleddaaGreatDoor
open Go.RowKit

def cmpv (a t : Nat) : Int := if a < t then -1 else if t < a then 1 else 0
set_option maxRecDepth 100000 in
theorem isNaN_any (w : World) (a : Nat) : Calls Tryz.prog 60 #[.int .u64 (a : Int)] w fun e w' => e = .returned (.bool false) ∧ w' = w := by
  go_enter Tryz.func60, Tryz.ntmps60
  go_wp2
  go_ret
  exact ⟨by simp, rfl⟩
set_option maxRecDepth 100000 in
theorem Compare_any (w : World) (a t : Nat) : Calls Tryz.prog 35 #[.int .u64 (a : Int), .int .u64 (t : Int)] w fun e w' => e = .returned (.int .i64 (cmpv a t)) ∧ w' = w := by
  unfold cmpv
  by_cases h1 : a < t
  · rw [if_pos h1]
    have h1' : (a : Int) < t := by omega
    go_enter Tryz.func35, Tryz.ntmps35
    go_wp2_with (first | (go_at_call 60; refine (isNaN_any _ _).mono ?_; rintro e w1 ⟨rfl, rfl⟩) | fail)
    go_ret
    exact ⟨rfl, rfl⟩
  · rw [if_neg h1]
    have h1' : ¬ (a : Int) < t := by omega
    by_cases h2 : t < a
    · rw [if_pos h2]
      have h2' : (t : Int) < a := by omega
      go_enter Tryz.func35, Tryz.ntmps35
      go_wp2_with (first | (go_at_call 60; refine (isNaN_any _ _).mono ?_; rintro e w1 ⟨rfl, rfl⟩) | fail)
      go_ret
      exact ⟨rfl, rfl⟩
    · rw [if_neg h2]
      have h2' : ¬ (t : Int) < a := by omega
      go_enter Tryz.func35, Tryz.ntmps35
      go_wp2_with (first | (go_at_call 60; refine (isNaN_any _ _).mono ?_; rintro e w1 ⟨rfl, rfl⟩) | fail)
      go_ret
      exact ⟨rfl, rfl⟩
set_option maxRecDepth 100000 in
theorem at1_any (w : World) (a t : Nat) (e1 e2 e3 : Value) : Calls Tryz.prog 73 #[.agg #[.int .u64 (a : Int), e1, e2, e3], .int .u64 (t : Int)] w fun e w' => e = .returned (.int .i64 (cmpv a t)) ∧ Below w.heap.size w w' := by
  have ba : Below w.heap.size w (w.alloc (.cells #[.int .u64 (a : Int), e1, e2, e3] 84)) := (Below.refl _ _).alloc (Nat.le_refl _) _
  go_enter Tryz.func73, Tryz.ntmps73
  go_wp2_with fail
  refine (Compare_any _ a t).mono ?_
  rintro e w1 ⟨rfl, rfl⟩
  go_wp2
  go_ret
  exact ⟨rfl, ba⟩
/-- Numbers that rise. -/
def Srt (th : List SpV) : Prop := ∀ (i j : Nat) (x y : SpV), i < j → th[i]? = some x → th[j]? = some y → x.n < y.n
/-- i is the place of the first number that is not below t. -/
def Plc (th : List SpV) (t i : Nat) : Prop := i ≤ th.length ∧ ∀ (a : Nat) (x : SpV), th[a]? = some x → (a < i ↔ x.n < t)
def isAtN (th : List SpV) (t i : Nat) : Bool := match th[i]? with | some x => decide (x.n = t) | none => false
set_option maxHeartbeats 1000000 in
set_option maxRecDepth 100000 in
theorem bsearch_any {w : World} {base : Nat} {vt : Value} {th : List SpV} (hrow : Row 84 4 SpV.cs base w vt th) (hth : th.length ≤ 1000000) (hs : Srt th) (t : Nat) :
    Calls Tryz.prog 72 #[vt, .int .u64 (t : Int), .func (.func 73) #[] #[]] w fun e w' => (∃ i, Plc th t i ∧ e = .returned (.tuple #[.int .i64 (i : Nat), .bool (isAtN th t i)])) ∧ Below w.heap.size w w' := by
  obtain ⟨at1, ct1, hvt⟩ := hrow.shape
  subst hvt
  have HR := hide hrow
  have HS := hide hs
  clear hrow hs
  generalize hlt : th.length = m at *
  have HL := hide hlt
  clear hlt
  go_enter Tryz.func72, Tryz.ntmps72
  go_wp2_with fail
  go_loopw [9, 10, 11] (fun iv jv _ wr => ∃ (i j : Nat), i ≤ j ∧ j ≤ m ∧ iv = .int .i64 i ∧ jv = .int .i64 j ∧ Hid (Below w.heap.size w wr ∧ (∀ a x, a < i → th[a]? = some x → x.n < t) ∧ (∀ a x, j ≤ a → th[a]? = some x → t ≤ x.n))) (fun iv jv _ _ => (intOf jv).toNat - (intOf iv).toNat)
  case atStart => exact ⟨0, m, Nat.zero_le _, Nat.le_refl _, rfl, rfl, Below.refl _ _, fun a x ha => by omega, fun a x ha hx => by have := (List.getElem?_eq_some_iff.1 hx).1; have := HL.out; omega⟩
  case round =>
    obtain ⟨i, j, hij, hjm, rfl, rfl, HI⟩ := hrel
    by_cases hlt : i < j
    · obtain ⟨h, hh⟩ : ∃ h, (i + j) / 2 = h := ⟨_, rfl⟩
      have hh1 : i ≤ h := by omega
      have hh2 : h < j := by omega
      obtain ⟨x, hx⟩ : ∃ x, th[h]? = some x := ⟨_, List.getElem?_eq_getElem (by rw [HL.out]; omega)⟩
      obtain ⟨g, off, cap, e, hrd⟩ := (HR.out.below HI.out.1).read (fun _ => rfl) hx
      rw [HL.out] at e
      cases e
      have r0 := hrd 0 _ rfl
      have r1 := hrd 1 _ rfl
      have r2 := hrd 2 _ rfl
      have r3 := hrd 3 _ rfl
      simp only [SpV.vp, SpV.vc, Nat.add_zero, ← Nat.add_assoc] at r0 r1 r2 r3
      have HH := hide hh
      have HX := hide hx
      have hd : ((i : Int) + (j : Int)) / 2 = (h : Int) := by omega
      have hhm : h < m := by omega
      clear hrd hh hx
      go_wp2_with fail
      refine (at1_any wr x.n t _ _ _).mono ?_
      rintro e w2 ⟨rfl, b2⟩
      have B2 := hide (HI.out.1.trans (b2.mono HI.out.1.size))
      by_cases hc : x.n < t
      · have hcv : cmpv x.n t = -1 := by unfold cmpv; rw [if_pos hc]
        rw [hcv]
        clear r0 r1 r2 r3
        go_wp2
        go_roundw
        case rel =>
          refine ⟨h + 1, j, by omega, hjm, by go_num, rfl, B2.out, fun a y ha hy => ?_, HI.out.2.2⟩
          by_cases hah : a = h
          · subst hah
            have := HX.out
            rw [this] at hy
            cases hy
            exact hc
          · have := HS.out a h y x (by omega) hy HX.out
            omega
        case measure => simp [intOf]; omega
      · obtain ⟨cv, hcv, hc0⟩ : ∃ cv, cmpv x.n t = cv ∧ 0 ≤ cv := ⟨_, rfl, by unfold cmpv; rw [if_neg hc]; split <;> omega⟩
        rw [hcv]
        have hc1 : ¬ cv < 0 := by omega
        clear r0 r1 r2 r3 hcv
        go_wp2
        go_roundw
        case rel =>
          refine ⟨i, h, hh1, by omega, rfl, rfl, B2.out, HI.out.2.1, fun a y ha hy => ?_⟩
          by_cases hah : a = h
          · subst hah
            have := HX.out
            rw [this] at hy
            cases hy
            omega
          · have := HS.out h a x y (by omega) HX.out hy
            omega
        case measure => simp [intOf]; omega
    · obtain rfl : i = j := by omega
      have HP : Hid (Plc th t i) := ⟨by rw [HL.out]; exact hjm, fun a x hx => ⟨fun ha => HI.out.2.1 a x ha hx, fun hn => by
        by_cases ha : a < i
        · exact ha
        · have := HI.out.2.2 a x (by omega) hx; omega⟩⟩
      by_cases hlm : i < m
      · obtain ⟨x, hx⟩ : ∃ x, th[i]? = some x := ⟨_, List.getElem?_eq_getElem (by rw [HL.out]; omega)⟩
        obtain ⟨g, off, cap, e, hrd⟩ := (HR.out.below HI.out.1).read (fun _ => rfl) hx
        rw [HL.out] at e
        cases e
        have r0 := hrd 0 _ rfl
        have r1 := hrd 1 _ rfl
        have r2 := hrd 2 _ rfl
        have r3 := hrd 3 _ rfl
        simp only [SpV.vp, SpV.vc, Nat.add_zero, ← Nat.add_assoc] at r0 r1 r2 r3
        have hat : isAtN th t i = (cmpv x.n t == 0) := by
          unfold isAtN cmpv
          rw [hx]
          by_cases h1 : x.n < t
          · rw [if_pos h1]
            have : ¬ x.n = t := by omega
            simp [this]
          · rw [if_neg h1]
            by_cases h2 : t < x.n
            · rw [if_pos h2]
              have : ¬ x.n = t := by omega
              simp [this]
            · rw [if_neg h2]
              have : x.n = t := by omega
              simp [this]
        have HT := hide hat
        clear hrd hx hat
        go_wp2_with fail
        refine (at1_any wr x.n t _ _ _).mono ?_
        rintro e w2 ⟨rfl, b2⟩
        have B2 := hide (HI.out.1.trans (b2.mono HI.out.1.size))
        clear r0 r1 r2 r3
        generalize cmpv x.n t = cv at *
        go_wp2
        go_ret2
        exact ⟨⟨i, HP.out, by rw [HT.out]; rfl⟩, B2.out⟩
      · have hat : isAtN th t i = false := by
          unfold isAtN
          rw [List.getElem?_eq_none (by rw [HL.out]; omega)]
        have HT := hide hat
        clear hat
        have hge : ¬ ((i : Int) < m) := by omega
        go_wp2
        go_ret2
        exact ⟨⟨i, HP.out, by rw [HT.out]; rfl⟩, HI.out.1⟩
set_option maxRecDepth 100000 in
theorem at_any {w0 w : World} {V k b n : Nat} {p : Pd} {keep : Int} {vt vw : Value} {th : List SpV} {ws : List ByteArray} (h : VAt w0 w V k b n p keep vt vw th ws) (hth : th.length ≤ 1000000) (hs : Srt th) (t : Nat) :
    Calls Tryz.prog 42 #[.pointer (some ⟨V, 0, none⟩), .int .u64 (t : Int)] w fun e w' => (∃ i, Plc th t i ∧ e = .returned (.tuple #[.int .i64 (i : Nat), .bool (isAtN th t i)])) ∧ Below w.heap.size w w' := by
  obtain ⟨c0, c1, c2, c3⟩ := h.box.cells4
  have hb := bsearch_any h.tr hth hs t
  clear h hs
  go_enter Tryz.func42, Tryz.ntmps42
  go_wp2_with fail
  refine hb.mono ?_
  rintro e w1 ⟨⟨i, hi, rfl⟩, b1⟩
  go_wp2
  go_ret2
  exact ⟨⟨i, hi, rfl⟩, b1⟩
theorem plc_has {th : List SpV} {t i : Nat} (h : Plc th t i) (hs : Srt th) : isAtN th t i = th.any (fun x => x.n == t) := by
  unfold isAtN
  by_cases hx : ∃ x ∈ th, x.n = t
  · obtain ⟨x, hm, hn⟩ := hx
    obtain ⟨a, ha⟩ := List.getElem?_of_mem hm
    have h1 := (h.2 a x ha)
    have hal := (List.getElem?_eq_some_iff.1 ha).1
    have hil : i ≤ a := by by_cases hlt : a < i; · have := h1.1 hlt; omega
                           · omega
    obtain ⟨y, hy⟩ : ∃ y, th[i]? = some y := ⟨_, List.getElem?_eq_getElem (by omega)⟩
    have hyn := (h.2 i y hy)
    have hia : i = a := by
      by_cases e : i = a
      · exact e
      · have := hs i a y x (by omega) hy ha
        have := hyn.2 (by omega)
        omega
    subst hia
    rw [ha]
    rw [List.any_eq_true.2 ⟨x, hm, by simp [hn]⟩]
    simp [hn]
  · have h2 : th.any (fun x => x.n == t) = false := by
      rw [List.any_eq_false]
      intro x hm
      simp only [beq_iff_eq]
      exact fun e => hx ⟨x, hm, e⟩
    rw [h2]
    split
    · rename_i x hxi
      exact decide_eq_false (fun e => hx ⟨x, List.mem_of_getElem? hxi, e⟩)
    · rfl
set_option maxRecDepth 100000 in
theorem has_any {w0 w : World} {V k b n : Nat} {p : Pd} {keep : Int} {vt vw : Value} {th : List SpV} {ws : List ByteArray} (h : VAt w0 w V k b n p keep vt vw th ws) (hth : th.length ≤ 1000000) (hs : Srt th) (t : Nat) :
    Calls Tryz.prog 15 #[.pointer (some ⟨V, 0, none⟩), .int .u64 (t : Int)] w fun e w' => e = .returned (.bool (th.any (fun x => x.n == t))) ∧ Below w.heap.size w w' := by
  have hb := at_any h hth hs t
  have HS := hide hs
  clear h hs
  go_enter Tryz.func15, Tryz.ntmps15
  go_wp2_with fail
  refine hb.mono ?_
  rintro e w1 ⟨⟨i, hi, rfl⟩, b1⟩
  rw [plc_has hi HS.out]
  go_wp2
  go_ret
  exact ⟨rfl, b1⟩
end Go.Proofs.YtbfhcbihgleddaaGreatDoor
/-
  The vault's Get.
-/
namespace Go.Proofs.YtbfhcbihgleddaaGreatDoor
open Go.RowKit

/-- All parts of the chunks. -/
def gotS (ls : List (List Nat)) : List Sn := ls.flatMap fun l => (unpk l).getD []
theorem gotS_append (a b : List (List Nat)) : gotS (a ++ b) = gotS a ++ gotS b := by simp [gotS]
theorem stop_here {p : Prop} (h : Hid p) : p := h
theorem OwnL.put {α : Type} {t sz : Nat} {cs : α → List Value} {base : Nat} {w : World} {v : Value} {xs : List α} (h : OwnL t sz cs base w v xs) (hx : xs ≠ []) : ∃ g cap, v = .slice (some ⟨g, 0, none⟩) xs.length cap ∧ ∀ j u, (xs.flatMap cs)[j]? = some u → w.cell? ⟨g, j, none⟩ = some u := by
  rcases h.2 with ⟨_, h0⟩ | ⟨g, cap, cur, h1, h2, h3, h4, h5, h6, h7⟩
  · exact absurd (List.length_eq_zero_iff.1 h0) hx
  · refine ⟨g, cap, h1, fun j u hj => ?_⟩
    have hb : BoxT t w g cur := h3
    rw [hb.cellAt]
    rw [← h7, List.getElem?_take] at hj
    split at hj
    · simpa using hj
    · cases hj
/-- append's law: all of ys behind xs. -/
theorem app_ownLs {α : Type} {t sl sz by_ : Nat} {z : Value} {cs : α → List Value} (hinfo : (Tryz.prog.info? t).map (fun i => (i.zero, i.size, i.bytes)) = some (some z, sz, by_)) (hund : Tryz.prog.underlying sl = some (.slice t)) (hz : z.cells.size = sz) (hsz : 0 < sz) (hby : by_ ≤ 100)
    (hcs : ∀ x, (cs x).length = sz) (h1c : ∀ x, ∀ u ∈ cs x, u.oneCell' = true)
    {w : World} {ops : Array Oper} {rest : List Oper} {o : Oper} {a : Act} {Q : Exit → Act → World → Prop} (hgd : o.guard = none) (s x : Operand)
    (ho : o.op = .call { callee := .builtin .append, args := #[s, x], argTypes := #[sl, sl] }) (base : Nat) (v : Value) (xs : List α) (hs : a.eval s = v) (hown : OwnL t sz cs base w v xs)
    (base2 : Nat) (v2 : Value) (ys : List α) (hx : a.eval x = v2) (hown2 : OwnL t sz cs base2 w v2 ys) (hne : ys ≠ []) (hl : xs.length + ys.length ≤ 1000000) (hbase : base ≤ w.heap.size)
    (h : ∀ v' w', OwnL t sz cs base w' v' (xs ++ ys) → w.grownBy w' v.ownBlock → wpList Tryz.prog ops Q rest (a.put o.dst v') w') : wpList Tryz.prog ops Q (o :: rest) a w := by
  obtain ⟨i0, hi, hz0, hz1, hz2⟩ := info_parts hinfo
  obtain ⟨g, cap, rfl, hc⟩ := hown2.put hne
  refine wpList_append_own w hgd s x sl ho base t i0 z sz by_ hund hi hz0 hz1 hz2 hz hsz v xs.length (xs.flatMap cs) hs hown ⟨g, 0, none⟩ ys.length cap (ys.flatMap cs) hx (flat_size hcs ys) ?_ ?_ ?_ ?_ hbase ?_
  · intro j u hj
    rw [show (⟨g, 0, none⟩ : Addr).add j = ⟨g, j, none⟩ by unfold Addr.add; split <;> simp_all]
    exact hc j u hj
  · intro u hu
    simp only [List.mem_flatMap] at hu
    obtain ⟨y, _, hu⟩ := hu
    exact h1c y u hu
  · unfold maxLen; omega
  · have : (xs.length + ys.length) * by_ ≤ 1000001 * 100 := Nat.mul_le_mul (by omega) hby
    omega
  · intro v' w' h1 h2 _
    refine h v' w' ?_ h2
    show w'.ownsRow base t sz v' (xs ++ ys).length ((xs ++ ys).flatMap cs)
    rw [List.length_append, List.flatMap_append]; exact h1
/-- In the midst of Get. -/
structure GI (w wr : World) (v : Value) (xs : List SnV) (ls : List (List Nat)) : Prop where
  own : OwnL 27 6 SnV.cs w.heap.size wr v xs
  oks : ∀ x ∈ xs, x.ok w.heap.size wr
  bel : Below w.heap.size w wr
  is : xs.map SnV.s = gotS ls
set_option maxHeartbeats 2000000 in
set_option maxRecDepth 100000 in
theorem getN_any {w0 w : World} {V k b n : Nat} {p : Pd} {keep : Int} {vt vw : Value} {th : List SpV} {ws : List ByteArray} (h : VAt w0 w V k b n p keep vt vw th ws) (hth : th.length ≤ 1000000) (hs : Srt th) (t : Nat) (hno : ∀ x ∈ th, x.n ≠ t) :
    Calls Tryz.prog 25 #[.pointer (some ⟨V, 0, none⟩), .int .u64 (t : Int)] w fun e w' => e = .returned (.tuple #[.slice none 0 0, .int .u64 0, .int .i64 30]) ∧ Below w.heap.size w w' := by
  have hb := at_any h hth hs t
  have HS := hide hs
  have HN : Hid (th.any (fun x => x.n == t) = false) := by
    show _ = _
    rw [List.any_eq_false]
    intro x hm
    simp only [beq_iff_eq]
    exact hno x hm
  clear h hs hno
  go_enter Tryz.func25, Tryz.ntmps25
  go_wp2_with fail
  refine hb.mono ?_
  rintro e w1 ⟨⟨i, hi, rfl⟩, b1⟩
  rw [plc_has hi HS.out, HN.out]
  go_wp2
  go_ret3
  exact ⟨rfl, b1⟩
set_option maxHeartbeats 2000000 in
set_option maxRecDepth 100000 in
theorem get_any {w0 w : World} {V k b n : Nat} {p : Pd} {keep : Int} {vt vw : Value} {th : List SpV} {ws : List ByteArray} (h : VAt w0 w V k b n p keep vt vw th ws) (hg : Glob w0) (hth : th.length ≤ 1000000) (hs : Srt th) (x : SpV) (hx : x ∈ th) (hck : ∀ c ∈ x.ck, c.l.length ≤ 2000000 ∧ Byts c.l) (hkl : x.ck.length ≤ 1000000) (htot : (gotS (x.ck.map Ck.l)).length ≤ 1000000) :
    Calls Tryz.prog 25 #[.pointer (some ⟨V, 0, none⟩), .int .u64 (x.n : Int)] w fun e w' => ∃ v xs, e = .returned (.tuple #[v, .int .u64 x.ep, .int .i64 0]) ∧ GI w w' v xs (x.ck.map Ck.l) := by
  obtain ⟨xn, xep, xps, xap, xcp, xck, xac, xcc⟩ := x
  dsimp only at hck hkl htot ⊢
  have hb := at_any h hth hs xn
  have HS := hide hs
  have HX := hide hx
  have HV := hide h
  have HC := hide hck
  have HT := hide htot
  obtain ⟨c0, c1, c2, c3⟩ := h.box.cells4
  obtain ⟨ta, tc, hvt⟩ := h.tr.shape
  subst hvt
  have hVl := h.box.lt
  have hgw : Hid (Glob w) := hg.below h.st.since hg.1
  clear h hs hx hck htot hg
  go_enter Tryz.func25, Tryz.ntmps25
  go_wp2_with fail
  refine hb.mono ?_
  rintro e w1 ⟨⟨i, hi, rfl⟩, b1⟩
  clear hb
  have hany : th.any (fun y => y.n == xn) = true := List.any_eq_true.2 ⟨_, HX.out, by simp⟩
  have hisat := plc_has hi HS.out
  rw [hany] at hisat
  have hxi : th[i]? = some ⟨xn, xep, xps, xap, xcp, xck, xac, xcc⟩ := by
    obtain ⟨a, ha⟩ := List.getElem?_of_mem HX.out
    unfold isAtN at hisat
    split at hisat
    · rename_i y hy
      have hyn : y.n = xn := by simpa using hisat
      by_cases hia : i = a
      · subst hia; exact ha
      · rcases Nat.lt_or_gt_of_ne hia with hl | hl
        · have := HS.out i a y _ hl hy ha; dsimp only at this; omega
        · have := HS.out a i _ y hl ha hy; dsimp only at this; omega
    · cases hisat
  rw [hisat]
  have HI := hide hxi
  have hil := (List.getElem?_eq_some_iff.1 hxi).1
  clear hany hisat hi hxi
  have B1 := hide b1
  have hz1 := b1.size
  obtain ⟨g, off, cap, e, hrd⟩ := (HV.out.tr.below b1).read (fun _ => rfl) HI.out
  cases e
  have r1 := hrd 1 _ rfl
  have r3 := hrd 3 _ rfl
  simp only [SpV.vc, ← Nat.add_assoc] at r1 r3
  have d2 : w1.cell? ⟨V, 2, none⟩ = some (.slice (some ⟨g, off, none⟩) th.length tc) := (b1.cell (p := ⟨V, 2, none⟩) hVl).trans c2
  have hgl : g < w.heap.size := by
    obtain ⟨cur, hc⟩ := HV.out.tr.has g rfl
    exact hc.lt
  have HK : Hid (OwnL 22 1 Ck.cs w0.heap.size w (.slice xac xck.length xcc) xck ∧ ∀ c ∈ xck, c.ok w0.heap.size w) := ⟨(HV.out.oks _ HX.out).c, (HV.out.oks _ HX.out).ks⟩
  have H0 : Hid (GI w w1 (.slice none 0 0) [] ((xck.take 0).map Ck.l)) := ⟨OwnL.nil _ _ _ _ _, (fun x hx => by cases hx), b1, rfl⟩
  clear hrd b1 c0 c1 c2 c3
  go_wp2_with fail
  go_loopw [9, 31] (fun sv iv wr => ∃ (j : Nat) (xs : List SnV), j ≤ xck.length ∧ iv = .int .i64 j ∧ Hid (GI w wr sv xs ((xck.take j).map Ck.l))) (fun _ iv _ => xck.length - (intOf iv).toNat)
  case atStart => exact ⟨0, [], Nat.zero_le _, rfl, H0.out⟩
  case round =>
    clear H0 r1 r3 d2
    obtain ⟨j, xs, hj, rfl, HG⟩ := hrel
    by_cases hlt : j < xck.length
    · obtain ⟨c, hc⟩ : ∃ c, xck[j]? = some c := ⟨_, List.getElem?_eq_getElem hlt⟩
      have hcm := List.mem_of_getElem? hc
      obtain ⟨gc, cc, e, hcc⟩ := HK.out.1.put (by intro e; rw [e] at hlt; simp at hlt)
      cases e
      have hgc : gc < w.heap.size := HK.out.1.lt gc rfl
      have k0 : w.cell? ⟨gc, j, none⟩ = some c.v := hcc j _ (by simpa using flat_get (sz := 1) (fun _ => rfl) xck j 0 c c.v hc rfl)
      have k1 : wr.cell? ⟨gc, j, none⟩ = some (.slice c.a c.l.length c.c) := (HG.out.bel.cell (p := ⟨gc, j, none⟩) hgc).trans k0
      have hown : Own w0.heap.size wr (.slice c.a c.l.length c.c) c.l := (HK.out.2 c hcm).below HG.out.bel
      obtain ⟨hcl, hcb⟩ := HC.out c hcm
      have hun := unpack_any _ c.l wr (hown.seg (by omega)) hcb (hgw.out.below HG.out.bel hgw.out.1) hcl
      have hz := HG.out.bel.size
      have htake : (xck.take (j + 1)).map Ck.l = (xck.take j).map Ck.l ++ [c.l] := by
        rw [List.take_succ_eq_append_getElem hlt, List.map_append]
        have : xck[j] = c := by rw [List.getElem?_eq_getElem hlt] at hc; exact Option.some.inj hc
        rw [this]; rfl
      have hgs : gotS ((xck.take (j + 1)).map Ck.l) = gotS ((xck.take j).map Ck.l) ++ (unpk c.l).getD [] := by
        rw [htake]; simp [gotS]
      have hpre : (gotS ((xck.take (j + 1)).map Ck.l)).length ≤ 1000000 := by
        have h1 := HT.out
        have h2 : (gotS (xck.map Ck.l)).length = (gotS ((xck.take (j + 1)).map Ck.l)).length + (gotS ((xck.drop (j + 1)).map Ck.l)).length := by
          conv => lhs; rw [← List.take_append_drop (j + 1) xck]
          rw [List.map_append, gotS_append, List.length_append]
        omega
      rw [hgs, List.length_append] at hpre
      obtain ⟨sa, sc, hsv⟩ := HG.out.own.shape
      subst hsv
      have hxl : xs.length = (gotS ((xck.take j).map Ck.l)).length := by rw [← HG.out.is, List.length_map]
      have HGS := hide hgs
      have HXL := hide hxl
      clear hc hcm hcc k0 hown hcl hcb htake hgs hxl
      go_wp2_with fail
      refine hun.mono ?_
      rintro e w2 h2
      rcases h2 with ⟨ys, v', hr, hne, rfl, ho, hoks, b2⟩ | ⟨hr, rfl, b2⟩
      · have hyl : ys.length = ((unpk c.l).getD []).length := by rw [hr]; simp
        have hsum : xs.length + ys.length ≤ 1000000 := by rw [HXL.out, hyl]; exact hpre
        obtain ⟨ya, yc, hyv⟩ := ho.shape
        subst hyv
        have HO := hide (HG.out.own.below b2)
        have HY := hide ho
        have HOK := hide hoks
        have HB2 := hide (HG.out.bel.trans (b2.mono hz))
        have HXO : Hid (∀ x ∈ xs, x.ok w.heap.size w2) := fun x hx => (HG.out.oks x hx).below b2
        have HR := hide hr
        have hz2 := HB2.out.size
        clear hun ho hoks b2 hr k1 hyl
        go_wp2_with (first | (at_builtin; refine stop_here ?_) | fail)
        refine app_ownLs Tryz.info27 Tryz.underlying30 rfl (by decide) (by decide) (fun _ => rfl) (fun z u hu => by simp [SnV.cs] at hu; rcases hu with h | h | h | h | h | h <;> subst h <;> rfl) rfl _ _ rfl w.heap.size (.slice sa xs.length sc) xs rfl HO.out wr.heap.size (.slice ya ys.length yc) ys rfl HY.out hne hsum hz2 ?_
        intro v3 w3 o3 g3
        obtain ⟨va, vc, hv3⟩ := o3.shape
        have HN : Hid (GI w w3 v3 (xs ++ ys) ((xck.take (j + 1)).map Ck.l)) := by
          refine ⟨o3, fun x hx => ?_, HO.out.bel HB2.out g3 hz2, ?_⟩
          · rcases List.mem_append.1 hx with hx | hx
            · exact (HXO.out x hx).rowed HO.out g3
            · exact OwnSn.mono ((HOK.out x hx).rowed HO.out g3) hz
          · rw [List.map_append, HG.out.is, HGS.out, HR.out]; rfl
        clear o3 g3 HO HY HOK HXO HR
        subst hv3
        rw [List.length_append] at HN
        go_wp2
        go_roundw
        case rel => exact ⟨j + 1, xs ++ ys, by omega, by go_num, HN.out⟩
        case measure => simp [intOf]; omega
      · have HR : Hid ((unpk c.l).getD [] = []) := by
          show _ = _
          rcases hr with hr | hr <;> rw [hr] <;> rfl
        have HO := hide (HG.out.own.below b2)
        have HB2 := hide (HG.out.bel.trans (b2.mono hz))
        have HN : Hid (GI w w2 (.slice sa xs.length sc) xs ((xck.take (j + 1)).map Ck.l)) :=
          ⟨HO.out, fun x hx => (HG.out.oks x hx).below b2, HB2.out, by rw [HG.out.is, HGS.out, HR.out, List.append_nil]⟩
        clear hun b2 hr k1 HG
        go_wp2_with (first | (at_builtin; refine wpList_append_none_any rfl _ _ 30 rfl w.heap.size 27 _ 6 Tryz.underlying30 (info_parts Tryz.info27).choose_spec.1 (.slice sa xs.length sc) xs.length _ rfl HO.out 0 rfl ?_) | fail)
        go_roundw
        case rel => exact ⟨j + 1, xs, by omega, by go_num, HN.out⟩
        case measure => simp [intOf]; omega
    · obtain rfl : j = xck.length := by omega
      rw [List.take_length] at HG
      obtain ⟨sa, sc, hsv⟩ := HG.out.own.shape
      subst hsv
      obtain ⟨g2, off2, cap2, e, hrd⟩ := (HV.out.tr.below HG.out.bel).read (fun _ => rfl) HI.out
      cases e
      have r1 := hrd 1 _ rfl
      simp only [← Nat.add_assoc] at r1
      have d2 : wr.cell? ⟨V, 2, none⟩ = some (.slice (some ⟨g, off, none⟩) th.length tc) := (HG.out.bel.cell (p := ⟨V, 2, none⟩) hVl).trans HV.out.box.cells4.2.2.1
      clear hrd
      go_wp2
      go_quiet (fail)
      go_wp2
      go_ret3
      have hq := below_drewN' (Below.refl wr.heap.size wr) nq
      exact ⟨_, xs, rfl, HG.out.own.below hq, fun x hx => (HG.out.oks x hx).below hq, below_drewN' HG.out.bel nq, HG.out.is⟩
end Go.Proofs.YtbfhcbihgleddaaGreatDoor
/-
  The vault's wasted: names that are held, as a map; the names that are waste.
-/
namespace Go.Proofs.YtbfhcbihgleddaaGreatDoor
open Go.RowKit Go.Maps

/-- How nothing reads. -/
def unitR (v : Value) : Option (DataW Unit × List MemPlace) := match v with | .agg ⟨[]⟩ => some (.agg [], []) | _ => none
theorem unitR_mk : unitR (.agg #[]) = some (.agg [], []) := rfl
theorem unitR_inv {v : Value} {d : DataW Unit} {ps : List MemPlace} (h : unitR v = some (d, ps)) : v = .agg #[] := by
  unfold unitR at h
  split at h
  · rfl
  · cases h
/-- Is a name among these? -/
def inH (hd : List ByteArray) (s : ByteArray) : Bool := hd.any fun x => nm x == nm s
/-- A variable c that has a map of just the names hd. -/
structure HS (w : World) (c mb n : Nat) (hd : List ByteArray) : Prop where
  box : BoxT 119 w c #[.map (some mb)]
  map : ∃ D, w.ownsMap Tryz.prog 9 unitR mb n D ∧ ∀ s : ByteArray, s.size ≤ maxLen → has D (key s) = inH hd s
theorem HS.lt {w : World} {c mb n : Nat} {hd : List ByteArray} (h : HS w c mb n hd) : mb < w.heap.size := by
  obtain ⟨D, h1, _⟩ := h.map
  exact h1.lt
theorem HS.back {w w' : World} {c mb n : Nat} {hd : List ByteArray} (h : HS w c mb n hd) (hc : w'.heap[c]? = w.heap[c]?) (hm : w'.heap[mb]? = w.heap[mb]?) : HS w' c mb n hd := by
  obtain ⟨D, ⟨es, clock, h1, h2⟩, h3⟩ := h.map
  exact ⟨by have := h.box; unfold BoxT at *; rw [hc]; exact this, D, ⟨es, clock, hm.trans h1, h2⟩, h3⟩
theorem HS.below {w w' : World} {c mb n : Nat} {hd : List ByteArray} (h : HS w c mb n hd) (hb : Below w.heap.size w w') : HS w' c mb n hd := h.back (hb.block c h.box.lt) (hb.block mb h.lt)
theorem Tryz.zero120 (w : World) : (zeroValue 120).run Tryz.prog w = .ok (.agg #[]) w := by
  have h : (Tryz.prog.info? 120).map (fun i => i.zero) = some (some (.agg #[])) := by kernel_rfl
  obtain ⟨i, hi, hz⟩ := Option.map_eq_some_iff.1 h
  simp [zeroValue, typeInfo, hi, hz]
/-- Is it waste? -/
def isW (hd : List ByteArray) (s : ByteArray) : Bool := inH hd s || !ownN (nm s)
set_option maxHeartbeats 1000000 in
set_option maxRecDepth 100000 in
theorem keep_any {w : World} {c mb n : Nat} {hd : List ByteArray} (h : HS w c mb n hd) (s : ByteArray) (hs : s.size ≤ maxLen) :
    Calls Tryz.prog 63 #[.string s, .pointer (some ⟨c, 0, none⟩)] w fun e w' => e = .returned (.bool (isW hd s)) ∧ Below w.heap.size w w' := by
  obtain ⟨D, hm, hD⟩ := h.map
  obtain ⟨v, ps, hlk, hv⟩ := hm.look_ok (string_keyed Tryz.underlying9) Tryz.underlying119 (Tryz.zero120 w) unitR_mk (keyOf_name hs)
  have hv' := unitR_inv hv
  subst hv'
  rw [hD s hs] at hlk
  have c0 : w.cell? ⟨c, 0, none⟩ = some (.map (some mb)) := by
    have := h.box
    unfold BoxT at this
    simp [World.cell?, this]
  have ba : Below w.heap.size w (w.alloc (.cells #[] 120)) := (Below.refl _ _).alloc (Nat.le_refl _) _
  have BA := hide ba
  clear h hm hD hv ba
  unfold isW
  cases hin : inH hd s
  · rw [hin] at hlk
    go_enter Tryz.func63, Tryz.ntmps63
    go_wp2_with fail
    generalize w.alloc (.cells #[] 120) = w1 at *
    go_at_call 64
    refine (own_any s hs w1).mono ?_
    rintro e w2 ⟨rfl, rfl⟩
    go_wp2
    go_ret
    exact ⟨by simp, BA.out⟩
  · rw [hin] at hlk
    go_enter Tryz.func63, Tryz.ntmps63
    go_wp2
    go_ret
    exact ⟨rfl, BA.out⟩
end Go.Proofs.YtbfhcbihgleddaaGreatDoor
