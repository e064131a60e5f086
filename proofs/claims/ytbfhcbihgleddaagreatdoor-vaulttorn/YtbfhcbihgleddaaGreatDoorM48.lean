/-
  Texts of the vault, in build order: VLawT.
-/
import Derived.Test.YtbfhcbihgleddaaGreatDoorM47
import Derived.Test.YtbfhcbihgleddaaGreatDoorM42
import Derived.Test.YtbfhcbihgleddaaGreatDoorM45
import Derived.Test.YtbfhcbihgleddaaGreatDoorM46
import Derived.Deep.CutBlock
import Derived.Deep.CutRange
import Derived.Deep.RegionHeld3
/-
  The law VaultTorn, walked.
-/
namespace Go.Proofs.YtbfhcbihgleddaaGreatDoor
open Go.RowKit
set_option maxHeartbeats 16000000 in
set_option maxRecDepth 100000 in
theorem VaultTorn_walk (w : World) (hg : Glob w) (ao : Option Addr) (cap : Nat) (tl : List TnV) (hrow : LSeg 1 TnV.cs w.heap.size w (.slice ao tl.length cap) tl) (hok : ∀ t ∈ tl, SnsIn w.heap.size w (.slice t.a t.l.length t.c) t.l ∧ ∀ x ∈ t.l, x.s.ok) (which at_ how : Int) (hw1 : I64 which) (hw2 : I64 at_) (hw3 : I64 how) (by_ : Nat) (hby : by_ < 256) :
    Calls Tryz.prog 8 #[.slice ao tl.length cap, .int .i64 which, .int .i64 at_, .int .u8 by_, .int .i64 how] w fun e w' => e = .returned (.bool true) ∧ Below w.heap.size w w' := by
  have hkn := hide (known_any w hg)
  have HR := hide hrow
  have HO := hide hok
  have hll := hrow.len
  clear hrow hok
  go_enter Tryz.func8, Tryz.ntmps8
  go_wp2_with fail
  go_at_call 9
  refine hkn.out.mono ?_
  rintro e w2 ⟨rfl, b2⟩
  have B2 := hide b2
  clear b2 hkn
  by_cases h6 : tl.length ≤ 6
  rotate_left
  · go_wp2
    go_ret
    exact ⟨rfl, B2.out⟩
  by_cases hb0 : by_ = 0
  · subst hb0
    go_wp2
    go_ret
    exact ⟨rfl, B2.out⟩
  have hb00 : by_ ≠ 0 := hb0
  have hb1 : ((by_ : Int) == 0) = false := by simp; omega
  go_wp2_with fail
  go_at_call 11
  refine (kNew w w2 B2.out 1048576 rfl).mono ?_
  rintro e w3 ⟨k, b, rfl, h3, lk, lb, b3⟩
  have H3 := hide h3
  clear h3 b3
  go_wp2_with fail
  go_at_call 12
  refine (VOpen_any H3.out hg 9 (by decide) (by simp) (by simp) (by simp [foundS])).mono ?_
  rintro e w4 ⟨V, vt, vw, th, rfl, h4, hperm, _, b4⟩
  have hth : th = [] := by simpa [foundS] using hperm
  subst hth
  have H4 : Hid (TV w w4 k V b 0 [] (.slice none 0 0)) := ⟨⟨vt, vw, [], _, rfl, by have h := h4; rw [show (max 9 1 : Int) = 9 from rfl] at h; simpa [wst, fls] using h, ⟨List.Perm.refl _, rfl, List.nodup_nil⟩, rfl⟩, Row.nil _ _ _ _ _, fun t ht => by cases ht⟩
  clear h4 hperm b4 H3
  go_wp2_with fail
  go_loopw [14, 15] (fun lv iv wr => ∃ (i : Nat) (ls : List TnV) (la : Option Addr) (lc : Nat), i ≤ tl.length ∧ ls.length ≤ i ∧ iv = .int .i64 i ∧ lv = .slice la ls.length lc ∧ Hid (TV w wr k V b (3000 * i) ls lv)) (fun _ iv _ => tl.length - (intOf iv).toNat)
  case atStart => exact ⟨0, [], none, 0, Nat.zero_le _, Nat.le_refl _, rfl, rfl, H4.out⟩
  case round =>
    clear H4
    obtain ⟨i, ls, la, lc, hi, hls, rfl, rfl, HI⟩ := hrel
    by_cases hlt : i < tl.length
    · as_aux_lemma =>
        obtain ⟨t, ht⟩ : ∃ t, tl[i]? = some t := ⟨_, List.getElem?_eq_getElem hlt⟩
        obtain ⟨bb, off, rfl, hbb, hcell⟩ := HR.out.at_ ht
        have hsi := HI.out.since
        have c0 : wr.cell? ⟨bb, off + i, none⟩ = some (.slice t.a t.l.length t.c) := (hsi.cell (p := ⟨bb, off + i, none⟩) hbb).trans (by simpa using hcell i t ht 0 _ rfl)
        have HC0 : Hid (∀ w' : World, Below w.heap.size w w' → w'.cell? ⟨bb, off + i, none⟩ = some (.slice t.a t.l.length t.c)) := fun w' hb' => (hb'.cell (p := ⟨bb, off + i, none⟩) hbb).trans (by simpa using hcell i t ht 0 _ rfl)
        obtain ⟨hsn, hsok⟩ := HO.out t (List.mem_of_getElem? ht)
        have hl1 := hsn.row.len
        have ba : Below wr.heap.size wr (wr.alloc (.cells #[.int .i64 0, .int .i64 0, .slice t.a t.l.length t.c, .slice none 0 0, .slice none 0 0] 33)) := (Below.refl _ _).alloc (Nat.le_refl _) _
        have hS : SnsIn (wr.alloc (.cells #[.int .i64 0, .int .i64 0, .slice t.a t.l.length t.c, .slice none 0 0, .slice none 0 0] 33)).heap.size (wr.alloc (.cells #[.int .i64 0, .int .i64 0, .slice t.a t.l.length t.c, .slice none 0 0, .slice none 0 0] 33)) (.slice t.a t.l.length t.c) t.l := by
          have hq := hsi.trans (ba.mono hsi.size)
          have := hsn.below hq
          exact ⟨this.row.mono hq.size, fun x hx => (this.each x hx).mono hq.size, this.pos⟩
        have hlg : Hid (Calls Tryz.prog 10 #[.slice (some ⟨wr.heap.size, 0, none⟩) 1 1] (wr.alloc (.cells #[.int .i64 0, .int .i64 0, .slice t.a t.l.length t.c, .slice none 0 0, .slice none 0 0] 33)) fun e w' => LtPost [stOf t] e ∧ Below (wr.alloc (.cells #[.int .i64 0, .int .i64 0, .slice t.a t.l.length t.c, .slice none 0 0, .slice none 0 0] 33)).heap.size (wr.alloc (.cells #[.int .i64 0, .int .i64 0, .slice t.a t.l.length t.c, .slice none 0 0, .slice none 0 0] 33)) w') := light_any (sts_one (BoxT.new _ _ _) hS)
        have HA := hide (HI.out.below ba)
        have BA := hide ba
        have HSN := hide (And.intro hsn hsok)
        clear hcell ht hS ba hsn hsok
        go_wp2_with fail
        go_at_call 10
        refine hlg.out.mono ?_
        rintro e w5 ⟨⟨bl, rfl, hbl⟩, b5⟩
        have H5 := hide (HA.out.below b5)
        have HBL := hide hbl
        have y0 := HC0.out w5 H5.out.since
        clear b5 hbl
        cases bl
        · go_wp2
          go_ret
          exact ⟨rfl, H5.out.since⟩
        have hwS : (t.l.map wSn).sum ≤ 20000 := by
          have := (HBL.out rfl).2
          simpa [wSt, stOf] using this
        have hwv : IntKind.u64.wrap ((ls.length : Int) + 1) = (ls.length : Int) + 1 := by unfold IntKind.wrap; simp [IntKind.bits]; omega
        have hwi : IntKind.i64.wrap ((ls.length : Int) + 1) = (ls.length : Int) + 1 := by rw [IntKind.wrap_i64]; omega
        by_cases her : ∀ x ∈ t.l, sEr x.s = 0
        · have hT : TnOk w.heap.size w t := ⟨HSN.out.1, fun x hx => ⟨her x hx, HSN.out.2 x hx⟩, hwS⟩
          have hput := hide (H5.out.put hg hT (by omega) (by omega) (vn := (ls.length : Int) + 1) (by omega))
          have HT := hide hT
          have HK := hide H5.out.ok
          clear hT her hwS HBL HSN hlg
          go_wp2_with (first
            | (go_at_call 13; refine hput.out.mono ?_; rintro e w6 ⟨rfl, v6, r6⟩; obtain ⟨vt6, vw6, th6, p6, q1, q2, q3⟩ := id v6; have x0 := HC0.out w6 q2.st.since; have hb6 := q2.st.since.size; have H6 := hide (And.intro v6 r6); clear v6 r6 q1 q2 q3)
            | (at_builtin; refine stop_here ?_)
            | fail)
          have ba6 : Below w6.heap.size w6 (w6.alloc (.cells #[.slice t.a t.l.length t.c] 30)) := (Below.refl _ _).alloc (Nat.le_refl _) _
          have gx : BoxT 30 (w6.alloc (.cells #[.slice t.a t.l.length t.c] 30)) w6.heap.size #[.slice t.a t.l.length t.c] := BoxT.new _ _ _
          have hs7 := ba6.size
          refine app_row Tryz.info30' Tryz.underlying68 rfl (by decide) (by decide) TnV.cs_len TnV.cs_one rfl _ _ rfl w.heap.size (.slice la ls.length lc) ls rfl (H6.out.2.below ba6) ⟨w6.heap.size, 0, none⟩ 1 t rfl (fun j u hu => by match j, hu with | 0, hu => simp [TnV.cs] at hu; subst hu; exact (gx.cellAt 0).trans rfl) (by omega) (by omega) ?_
          intro v7 w7 r7 g7 _
          have H7 := hide (TV.app H6.out.1 HK.out HT.out ba6 (H6.out.2.below ba6) r7 g7)
          obtain ⟨a7, c7, hv7⟩ := r7.shape
          rw [List.length_append, List.length_singleton] at hv7
          subst hv7
          clear r7 g7 ba6 gx H6
          go_wp2
          go_roundw
          case rel => exact ⟨i + 1, ls ++ [t], a7, c7, by omega, by simp; omega, by go_num, by simp, by rw [Nat.mul_add]; exact H7.out⟩
          case measure => simp [intOf]; omega
        · have her2 : ∃ x ∈ t.l, sEr x.s ≠ 0 := by
            apply Classical.byContradiction
            intro hn
            exact her (fun x hx => Classical.byContradiction fun h => hn ⟨x, hx, h⟩)
          have hlt2 : t.l.length ≤ 100000 := by
            have h1 : t.l.length * 10 ≤ (t.l.map wSn).sum := len_w t.l
            omega
          have hput := hide (H5.out.bad hg HSN.out.1 her2 hlt2 (by omega) (by omega) (vn := (ls.length : Int) + 1) (by omega))
          clear her her2 hwS HBL HSN hlg
          go_wp2_with fail
          go_at_call 13
          refine hput.out.mono ?_
          rintro e w6 ⟨er, he, rfl, h6⟩
          have H6 := hide h6
          clear h6
          rcases he with rfl | rfl
          all_goals
            go_wp2
            go_roundw
            case rel => exact ⟨i + 1, ls, la, lc, by omega, by omega, by go_num, rfl, by rw [Nat.mul_add]; exact H6.out⟩
            case measure => simp [intOf]; omega
    · have hl6 : ls.length ≤ 6 := by omega
      clear HR HO
      obtain ⟨hv, hrw, hokl⟩ := HI.out
      obtain ⟨vt, vw, th, p, hth, hva, hhas, hroom⟩ := hv
      have hone := xsT_one hokl (by omega)
      have hsum := xsT_sum hokl 1 (by decide) (by omega)
      have hlf : p.left ≠ 0 := by rw [hhas.left]; decide
      have hlist := ListO_any hva.st.d
      rw [show pList p = p.l.map Fi.n by unfold pList; rw [if_neg hlf]] at hlist
      have hlist := hide hlist
      have HV := hide (And.intro hva (And.intro hhas (And.intro hone hsum)))
      have HW := hide (And.intro hrw hokl)
      have hln : p.l.length ≤ 1000000 := Nat.le_trans hva.st.d.ok.len hva.st.d.ok.many
      have hpn : p.l = [] → ls = [] := fun e => by
        have h1 := hhas.perm.length_eq
        rw [e] at h1
        have h2 := FX_zero (List.length_eq_zero_iff.1 h1.symm)
        have h3 := congrArg List.length h2
        rw [xsT_len] at h3
        exact List.length_eq_zero_iff.1 h3
      clear hva hhas hone hsum hrw hokl HI
      go_wp2_with fail
      go_at_call 27
      refine hlist.out.mono ?_
      rintro e w5 ⟨v5, rfl, o5, b5⟩
      have B5 := hide b5
      have O5 := hide (o5.sseg (B := w5.heap.size) (by rw [List.length_map, List.length_map]; omega) (Nat.le_refl _))
      obtain ⟨a5, c5, hv5⟩ := o5.shape
      rw [List.length_map, List.length_map] at hv5
      obtain ⟨np, hnp⟩ : ∃ np, p.l.length = np := ⟨_, rfl⟩
      rw [hnp] at hv5 hln
      have HNP := hide hnp
      subst hv5
      clear hnp
      clear b5 o5 hlist
      by_cases hp0 : p.l = []
      · have hls0 := hpn hp0
        subst hls0
        have hl0 : np = 0 := by rw [← HNP.out, hp0]; rfl
        have hfin := (HV.out.1.below B5.out).st.since
        have HFI := hide hfin
        clear hfin hpn HV HW O5 hp0
        go_wp2
        go_ret
        exact ⟨rfl, HFI.out⟩
      have hpl : 0 < np := by
        rcases Nat.eq_zero_or_pos np with h | h
        · exact absurd (List.length_eq_zero_iff.1 (HNP.out.trans h)) hp0
        · exact h
      have hpl2 : ((np : Int) == 0) = false := by simp; omega
      have hplc := hide (Place_any which (np : Int) w5 hw1 (by omega) (by omega))
      clear hpn hp0
      go_wp2_with fail
      go_at_call 20
      refine hplc.out.mono ?_
      rintro e w6 ⟨j, rfl, hj, hw6⟩
      rw [hw6]
      clear hw6 w6
      have hjl : j < p.l.length := by rw [HNP.out]; omega
      obtain ⟨f, hf⟩ : ∃ f, p.l[j]? = some f := ⟨_, List.getElem?_eq_getElem hjl⟩
      obtain ⟨ao5, cp5, e5, -, hc5⟩ := O5.out
      obtain ⟨e6, -, e7⟩ := Value.slice.inj e5
      subst e6
      subst e7
      clear e5
      rcases hc5 with hc5 | ⟨g5, o5, rfl, hg5, hc5⟩
      · have := congrArg List.length hc5
        rw [List.length_map, List.length_map, List.length_nil] at this
        omega
      have x5 := hc5 j (mkS f.n) (by simp [hf])
      have HFM := hide (List.mem_of_getElem? hf)
      have HTH := hide (And.intro hth hroom)
      have HL6 := hide hl6
      have hnfi : 3000 * i ≤ 20000 := by omega
      have hj0 : (0 : Int) ≤ (j : Int) := by omega
      clear hc5 hplc hf hth hroom hlf hl6 hpl2 hpl hln hlt hi hls h6 hb0 hb1 hjl HNP
      have hfF : f ∈ FX (xsT 1 ls) := HV.out.2.1.perm.subset HFM.out
      have hfn := FX_name (fun y hy => (HV.out.2.2.1 y hy).1) f.n (List.mem_map.2 ⟨f, hfF, rfl⟩)
      have hfs : (mkS f.n).size ≤ 100 := by
        have := hfn.1
        rw [← nm_length, mkS, nm_ba]; exact this
      have hrd := Read_n (HV.out.1.below B5.out).st.d (mkS f.n) (by unfold maxLen; omega)
      rw [show nm (mkS f.n) = f.n from nm_ba _, show pFind p f.n = (some f, 0) by unfold pFind; rw [if_neg (by rw [HV.out.2.1.left]; decide), HV.out.2.1.get hfF]] at hrd
      have hrd := hide hrd
      have HFF := hide hfF
      clear hfF hfn
      go_wp2_with fail
      go_at_call 28
      refine hrd.out.mono ?_
      rintro e w6 ⟨v6, rfl, sg6, b6, so6⟩
      have H6 := hide (And.intro sg6 (And.intro b6 so6))
      obtain ⟨a6, c6, hv6, _⟩ := id sg6
      rw [show fData (some f) = f.x from rfl] at hv6
      subst hv6
      clear sg6 b6 so6 hrd
      have hsl := FX_sealed (fun y hy => (HV.out.2.2.1 y hy).1) HFF.out
      obtain ⟨bl, hbx, hbb2, hbl1, hbl2⟩ := hsl
      have hfl : 8 ≤ f.x.length := by rw [hbx, sealed_len]; omega
      have hfm : f.x.length ≤ 1048576 := by rw [hbx]; exact hbl2
      have HBX := hide (show Byts f.x by rw [hbx]; exact sealed_byts' bl hbb2)
      obtain ⟨nx, hnx⟩ : ∃ nx, f.x.length = nx := ⟨_, rfl⟩
      rw [hnx] at hfl hfm ⊢
      have HNX := hide hnx
      clear hnx hbx hbb2 hbl1 hbl2
      go_upto_block 2 with fail
      go_cut [13] from 100 to 138 (fun ev wx => ev = .int .i64 0 ∧ ∃ q nf s, nf ≤ 100000 ∧ Hid (St w wx k b nf q ∧ After p q (xsT 1 ls) s ∧ Row 30 1 TnV.cs w.heap.size wx (.slice la ls.length lc) ls))
      case rest => as_aux_lemma =>
          obtain ⟨rfl, q, nf, s, hnf, HQ⟩ := hcut
          have hones : ∀ y ∈ xsT 1 ls, One y := fun y hy => (HV.out.2.2.1 y hy).1
          have hlx : (xsT 1 ls).length ≤ 400 := by rw [xsT_len]; have := HL6.out; omega
          have hop := hide (open_found HQ.out.1 hg 9 (by rw [HQ.out.2.1.left]; decide) hones hlx HQ.out.2.1.names HQ.out.2.1.found (fun x hx => (List.mem_filter.1 hx).1) ((xsT_rise 1 ls).filter _))
          have HOK := hide HW.out.2
          clear hones hlx HV HW HFF HFM H6 HBX HNX B5 hnfi hfl hfm x5 hfs hg5
          go_wp2_with fail
          go_at_call 12
          refine hop.out.mono ?_
          rintro e w7 ⟨V2, vt2, vw2, th2, ws2, rfl, hv2, hth2, hsrt, b7⟩
          have hl2 : th2.length ≤ ls.length := by
            have h1 := congrArg List.length hth2
            rw [List.length_map] at h1
            have h2 := List.length_filter_le (fun x => !hasF x s) (xsT 1 ls)
            rw [xsT_len] at h2
            omega
          have hin2 : ∀ x ∈ th2, ∃ m t, ls[m]? = some t ∧ x.s = newS (1 + m) 7 (chunksOf (t.l.map SnV.s)) := fun x hx => by
            have h1 : x.s ∈ (xsT 1 ls).filter fun x => !hasF x s := by rw [← hth2]; exact List.mem_map.2 ⟨x, hx, rfl⟩
            exact xsT_mem ((List.mem_filter.1 h1).1)
          have HR7 := hide (HQ.out.2.2.below b7)
          have H7 := hide hv2
          have HIN := hide (And.intro hin2 hsrt)
          have hlsl := hide (list_any hv2 (by have := HL6.out; omega))
          clear hv2 hth2 hsrt b7 HQ hop hin2
          have hl6 := HL6.out
          have hnl2 : ¬ ((ls.length : Int) < (th2.length : Int)) := by omega
          go_wp2_with fail
          go_at_call 14
          refine hlsl.out.mono ?_
          rintro e w8 ⟨rfl, hni⟩
          obtain ⟨ncs, hnb, hnz, hnc⟩ := hni.box
          have H8 := hide (H7.out.below hni.bel)
          have HR8 := hide (HR7.out.below hni.bel)
          have HNC := hide (And.intro hnb hnc)
          have hnl := hnb.lt
          clear hni hlsl hnb hnc H7 HR7
          generalize w7.heap.size = gn at *
          go_wp2_with fail
          generalize decide (ls.length < th2.length) = bb at *
          clear hnl2
          go_loopw [21] (fun iv wr => ∃ i2 : Nat, i2 ≤ th2.length ∧ iv = .int .i64 i2 ∧ Hid (Below w8.heap.size w8 wr)) (fun iv _ => th2.length - (intOf iv).toNat)
          case atStart => exact ⟨0, Nat.zero_le _, rfl, Below.refl _ _⟩
          case round =>
            obtain ⟨i2, hi2, rfl, HI2⟩ := hrel
            by_cases hlt2 : i2 < th2.length
            rotate_left
            · have HFI := hide (H8.out.below HI2.out).st.since
              go_wp2
              go_ret
              exact ⟨rfl, HFI.out⟩
            obtain ⟨x, hx⟩ : ∃ x, th2[i2]? = some x := ⟨_, List.getElem?_eq_getElem hlt2⟩
            obtain ⟨m, t, hm, hxs⟩ := HIN.out.1 x (List.mem_of_getElem? hx)
            have hml := (List.getElem?_eq_some_iff.1 hm).1
            have hxn : x.n = 1 + m := congrArg Sp.n hxs
            have hxe : x.ep = 7 := congrArg Sp.ep hxs
            have hxc : x.ck.map Ck.l = chunksOf (t.l.map SnV.s) := congrArg Sp.chunks hxs
            have ht := HOK.out t (List.mem_of_getElem? hm)
            obtain ⟨_, hone, _, hgot, _⟩ := One.light ht.er ht.wg (n := 1 + m) (ep := 7) (by omega) (by omega) (by decide)
            have d0 : wr.cell? ⟨gn, i2, none⟩ = some (.int .u64 ((m : Int) + 1)) := by
              have h1 := HNC.out.2 i2 x hlt2 hx
              have h2 := (HI2.out.cell (p := ⟨gn, i2, none⟩) hnl).trans ((HNC.out.1.cellAt i2).trans h1)
              rw [hxn] at h2
              rw [h2]
              congr 2
              omega
            obtain ⟨gl, ol, cl, el, hcl⟩ := (HR8.out.below HI2.out).read TnV.cs_len hm
            have e1 := (Value.slice.inj el).1
            have e3 := (Value.slice.inj el).2.2
            subst e1
            subst e3
            have d1 : wr.cell? ⟨gl, ol + m, none⟩ = some (.slice t.a t.l.length t.c) := by simpa using hcl 0 _ rfl
            have hck : ∀ c ∈ x.ck, c.l.length ≤ 2000000 ∧ Byts c.l := fun c hc => by
              have hcm : c.l ∈ chunksOf (t.l.map SnV.s) := by rw [← hxc]; exact List.mem_map.2 ⟨c, hc, rfl⟩
              obtain ⟨q1, q2⟩ := hone.ck c.l hcm
              refine ⟨?_, q1⟩
              rw [sealed_len] at q2
              omega
            have hkl : x.ck.length ≤ 1000000 := by
              have h1 := congrArg List.length hxc
              have h2 := hone.len
              rw [List.length_map] at h1
              have h3 : (newS (1 + m) 7 (chunksOf (t.l.map SnV.s))).chunks = chunksOf (t.l.map SnV.s) := rfl
              rw [h3] at h2
              omega
            have htl : t.l.length * 10 ≤ 20000 := Nat.le_trans (len_w t.l) ht.wg
            have hget := get_any (H8.out.below HI2.out) hg (by omega) HIN.out.2 x (List.mem_of_getElem? hx) hck hkl (by rw [hxc, hgot, List.length_map]; omega)
            rw [hxc, hxe, show (x.n : Int) = (m : Int) + 1 by rw [hxn]; omega] at hget
            have hget := hide hget
            have hwl : IntKind.u64.wrap (ls.length : Int) = (ls.length : Int) := by unfold IntKind.wrap; simp [IntKind.bits]; omega
            have hwm : IntKind.u64.wrap ((m : Int) + 1 - 1) = (m : Int) := by unfold IntKind.wrap; simp [IntKind.bits]; omega
            have hm1 : ¬ ((m : Int) + 1 < 1) := by omega
            have hm2 : ¬ ((ls.length : Int) < (m : Int) + 1) := by omega
            have hm3 : ¬ ((ls.length : Int) ≤ (m : Int)) := by omega
            have HD1 : Hid (∀ w', Below wr.heap.size wr w' → w'.cell? ⟨gl, ol + m, none⟩ = some (.slice t.a t.l.length t.c) ∧ w'.cell? ⟨gn, i2, none⟩ = some (.int .u64 ((m : Int) + 1))) := fun w' hb' => by
              have hgl2 : gl < wr.heap.size := by
                obtain ⟨cur, hcur⟩ := (HR8.out.below HI2.out).has gl rfl
                exact hcur.lt
              have hgn2 : gn < wr.heap.size := Nat.lt_of_lt_of_le hnl HI2.out.size
              exact ⟨(hb'.cell (p := ⟨gl, ol + m, none⟩) hgl2).trans d1, (hb'.cell (p := ⟨gn, i2, none⟩) hgn2).trans d0⟩
            have HTK := hide (And.intro ht hgot)
            clear hck hkl hone hgot hxs hxn hxe hxc hx hm ht hcl
            go_wp2_with fail
            go_at_call 25
            refine hget.out.mono ?_
            rintro e w9 ⟨v9, xs9, rfl, gi⟩
            have hxl : xs9.length = t.l.length := by
              have h1 := congrArg List.length gi.is
              rw [HTK.out.2, List.length_map, List.length_map] at h1
              exact h1
            obtain ⟨a9, c9, hv9⟩ := gi.own.shape
            rw [hxl] at hv9
            subst hv9
            have HG9 := hide gi
            have B9 := hide gi.bel
            obtain ⟨k1, k2⟩ := HD1.out w9 gi.bel
            have HXL := hide hxl
            clear gi hget d0 d1 hxl
            go_wp2_with fail
            go_loopw [25] (fun kv wq => ∃ k3 : Nat, k3 ≤ t.l.length ∧ kv = .int .i64 k3 ∧ Hid (Below w9.heap.size w9 wq)) (fun kv _ => t.l.length - (intOf kv).toNat)
            case atStart => exact ⟨0, Nat.zero_le _, rfl, Below.refl _ _⟩
            case round =>
              obtain ⟨k3, hk3, rfl, HI3⟩ := hrel
              by_cases hlt3 : k3 < t.l.length
              rotate_left
              · have HEN := hide (HI2.out.trans ((B9.out.trans (HI3.out.mono B9.out.size)).mono HI2.out.size))
                go_wp2
                go_roundw
                case rel => exact ⟨i2 + 1, by omega, by go_num, HEN.out⟩
                case measure => simp [intOf]; omega
              have hlt3i : (k3 : Int) < (t.l.length : Int) := by omega
              obtain ⟨z, hz⟩ : ∃ z, t.l[k3]? = some z := ⟨_, List.getElem?_eq_getElem hlt3⟩
              obtain ⟨y, hy⟩ : ∃ y, xs9[k3]? = some y := ⟨_, List.getElem?_eq_getElem (by rw [HXL.out]; exact hlt3)⟩
              have hyz : y.s = z.s := by
                have h1 := congrArg (fun l => l[k3]?) HG9.out.is
                rw [HTK.out.2] at h1
                simpa [hy, hz] using h1
              have bq := B9.out.trans (HI3.out.mono B9.out.size)
              obtain ⟨q1, q2⟩ := HD1.out wr bq
              have hsw : Below w.heap.size w wr := by
                have h1 := (H8.out.below HI2.out).st.since
                exact h1.trans (bq.mono h1.size)
              have hzs : SnSeg wr.heap.size wr (.slice z.am z.s.marks.length z.cm) (.slice z.ap z.s.panes.length z.cp) (.slice z.ac z.s.outs.length z.cc) z.s := ((HTK.out.1.sn.each z (List.mem_of_getElem? hz)).below hsw).mono hsw.size
              have hlz := hzs.lens
              have hys : SnSeg wr.heap.size wr (.slice y.am y.s.marks.length y.cm) (.slice y.ap y.s.panes.length y.cp) (.slice y.ac y.s.outs.length y.cc) y.s := OwnSn.segG ((HG9.out.oks y (List.mem_of_getElem? hy)).below HI3.out) (by rw [hyz]; exact hlz)
              have hdr : Below wr.heap.size wr wr.drew := (Below.refl _ _).drew
              have hhs := @helpSnap_any decPn decOt decSn y.s z.s _ _ _ _ _ _ wr.drew (hys.below hdr) (hzs.below hdr)
              rw [show (@decide (y.s = z.s) (decSn y.s z.s)) = true from @decide_eq_true _ (decSn y.s z.s) hyz] at hhs
              have hhs2 := hide hhs
              clear hhs
              obtain ⟨g9, o9, p9, e9, hc9⟩ := (Row.of_own HG9.out.own).read (fun _ => rfl) hy
              have e91 := (Value.slice.inj e9).1
              have e93 := (Value.slice.inj e9).2.2
              subst e91
              subst e93
              have hgl9 : g9 < w9.heap.size := by
                obtain ⟨cur, hcur⟩ := (Row.of_own HG9.out.own).has g9 rfl
                exact hcur.lt
              have cy : ∀ j u, (SnV.cs y)[j]? = some u → wr.cell? ⟨g9, o9 + k3 * 6 + j, none⟩ = some u := fun j u hu => by
                rw [Nat.add_assoc]
                exact (HI3.out.cell (p := ⟨g9, o9 + (k3 * 6 + j), none⟩) hgl9).trans (hc9 j u hu)
              obtain ⟨gz, oz, ez, hgz, hcz⟩ := HTK.out.1.sn.row.at_ hz
              have cz : ∀ j u, (SnV.cs z)[j]? = some u → wr.cell? ⟨gz, oz + k3 * 6 + j, none⟩ = some u := fun j u hu => (hsw.cell (p := ⟨gz, oz + k3 * 6 + j, none⟩) hgz).trans (hcz k3 z hz j u hu)
              have y0 := cy 0 _ rfl
              have y1 := cy 1 _ rfl
              have y2 := cy 2 _ rfl
              have y3 := cy 3 _ rfl
              have y4 := cy 4 _ rfl
              have y5 := cy 5 _ rfl
              have z0 := cz 0 _ rfl
              have z1 := cz 1 _ rfl
              have z2 := cz 2 _ rfl
              have z3 := cz 3 _ rfl
              have z4 := cz 4 _ rfl
              have z5 := cz 5 _ rfl
              simp only [Nat.add_zero] at y0 z0
              have BQ := hide bq
              have HDR := hide hdr
              clear hdr
              rw [ez] at q1
              clear ez
              clear cy cz hc9 hcz hys hzs hyz hz hy bq hsw hlz e9
              go_wp2_with fail
              have hwm2 : IntKind.u64.wrap (m : Int) = (m : Int) := by unfold IntKind.wrap; simp [IntKind.bits]; omega
              have hmn : m < ls.length := by omega
              have hmi0 : (0 : Int) ≤ (m : Int) := by omega
              go_region_held3 (fun w' => w'.cell? ⟨g9, o9 + k3 * 6, none⟩ = some (.int .i64 y.s.task) ∧ w'.cell? ⟨g9, o9 + k3 * 6 + 1, none⟩ = some (.int .i64 y.s.off) ∧ w'.cell? ⟨g9, o9 + k3 * 6 + 2, none⟩ = some (.int .i64 y.s.mark) ∧ w'.cell? ⟨g9, o9 + k3 * 6 + 3, none⟩ = some (.slice y.am y.s.marks.length y.cm) ∧ w'.cell? ⟨g9, o9 + k3 * 6 + 4, none⟩ = some (.slice y.ap y.s.panes.length y.cp) ∧ w'.cell? ⟨g9, o9 + k3 * 6 + 5, none⟩ = some (.slice y.ac y.s.outs.length y.cc) ∧ w'.cell? ⟨gz, oz + k3 * 6, none⟩ = some (.int .i64 z.s.task) ∧ w'.cell? ⟨gz, oz + k3 * 6 + 1, none⟩ = some (.int .i64 z.s.off) ∧ w'.cell? ⟨gz, oz + k3 * 6 + 2, none⟩ = some (.int .i64 z.s.mark) ∧ w'.cell? ⟨gz, oz + k3 * 6 + 3, none⟩ = some (.slice z.am z.s.marks.length z.cm) ∧ w'.cell? ⟨gz, oz + k3 * 6 + 4, none⟩ = some (.slice z.ap z.s.panes.length z.cp) ∧ w'.cell? ⟨gz, oz + k3 * 6 + 5, none⟩ = some (.slice z.ac z.s.outs.length z.cc) ∧ w'.cell? ⟨gl, ol + m, none⟩ = some (.slice (some ⟨gz, oz, none⟩) t.l.length t.c) ∧ w'.cell? ⟨gn, i2, none⟩ = some (.int .u64 ((m : Int) + 1))) (first | exact ⟨y0, y1, y2, y3, y4, y5, z0, z1, z2, z3, z4, z5, q1, q2⟩ | exact HC.out) (first | (go_at_call 26; refine hhs2.out.mono ?_; rintro e w10 ⟨rfl, b10⟩; have b10 : Below wr.heap.size wr w10 := HDR.out.trans b10; have B10 := hide b10; have HC : Hid ((fun w' => w'.cell? ⟨g9, o9 + k3 * 6, none⟩ = some (.int .i64 y.s.task) ∧ w'.cell? ⟨g9, o9 + k3 * 6 + 1, none⟩ = some (.int .i64 y.s.off) ∧ w'.cell? ⟨g9, o9 + k3 * 6 + 2, none⟩ = some (.int .i64 y.s.mark) ∧ w'.cell? ⟨g9, o9 + k3 * 6 + 3, none⟩ = some (.slice y.am y.s.marks.length y.cm) ∧ w'.cell? ⟨g9, o9 + k3 * 6 + 4, none⟩ = some (.slice y.ap y.s.panes.length y.cp) ∧ w'.cell? ⟨g9, o9 + k3 * 6 + 5, none⟩ = some (.slice y.ac y.s.outs.length y.cc) ∧ w'.cell? ⟨gz, oz + k3 * 6, none⟩ = some (.int .i64 z.s.task) ∧ w'.cell? ⟨gz, oz + k3 * 6 + 1, none⟩ = some (.int .i64 z.s.off) ∧ w'.cell? ⟨gz, oz + k3 * 6 + 2, none⟩ = some (.int .i64 z.s.mark) ∧ w'.cell? ⟨gz, oz + k3 * 6 + 3, none⟩ = some (.slice z.am z.s.marks.length z.cm) ∧ w'.cell? ⟨gz, oz + k3 * 6 + 4, none⟩ = some (.slice z.ap z.s.panes.length z.cp) ∧ w'.cell? ⟨gz, oz + k3 * 6 + 5, none⟩ = some (.slice z.ac z.s.outs.length z.cc) ∧ w'.cell? ⟨gl, ol + m, none⟩ = some (.slice (some ⟨gz, oz, none⟩) t.l.length t.c) ∧ w'.cell? ⟨gn, i2, none⟩ = some (.int .u64 ((m : Int) + 1))) w10) := ⟨(Below.cell b10 (p := ⟨g9, o9 + k3 * 6, none⟩) (World.block_lt_of_cell? wr ⟨g9, o9 + k3 * 6, none⟩ y0)).trans y0, (Below.cell b10 (p := ⟨g9, o9 + k3 * 6 + 1, none⟩) (World.block_lt_of_cell? wr ⟨g9, o9 + k3 * 6 + 1, none⟩ y1)).trans y1, (Below.cell b10 (p := ⟨g9, o9 + k3 * 6 + 2, none⟩) (World.block_lt_of_cell? wr ⟨g9, o9 + k3 * 6 + 2, none⟩ y2)).trans y2, (Below.cell b10 (p := ⟨g9, o9 + k3 * 6 + 3, none⟩) (World.block_lt_of_cell? wr ⟨g9, o9 + k3 * 6 + 3, none⟩ y3)).trans y3, (Below.cell b10 (p := ⟨g9, o9 + k3 * 6 + 4, none⟩) (World.block_lt_of_cell? wr ⟨g9, o9 + k3 * 6 + 4, none⟩ y4)).trans y4, (Below.cell b10 (p := ⟨g9, o9 + k3 * 6 + 5, none⟩) (World.block_lt_of_cell? wr ⟨g9, o9 + k3 * 6 + 5, none⟩ y5)).trans y5, (Below.cell b10 (p := ⟨gz, oz + k3 * 6, none⟩) (World.block_lt_of_cell? wr ⟨gz, oz + k3 * 6, none⟩ z0)).trans z0, (Below.cell b10 (p := ⟨gz, oz + k3 * 6 + 1, none⟩) (World.block_lt_of_cell? wr ⟨gz, oz + k3 * 6 + 1, none⟩ z1)).trans z1, (Below.cell b10 (p := ⟨gz, oz + k3 * 6 + 2, none⟩) (World.block_lt_of_cell? wr ⟨gz, oz + k3 * 6 + 2, none⟩ z2)).trans z2, (Below.cell b10 (p := ⟨gz, oz + k3 * 6 + 3, none⟩) (World.block_lt_of_cell? wr ⟨gz, oz + k3 * 6 + 3, none⟩ z3)).trans z3, (Below.cell b10 (p := ⟨gz, oz + k3 * 6 + 4, none⟩) (World.block_lt_of_cell? wr ⟨gz, oz + k3 * 6 + 4, none⟩ z4)).trans z4, (Below.cell b10 (p := ⟨gz, oz + k3 * 6 + 5, none⟩) (World.block_lt_of_cell? wr ⟨gz, oz + k3 * 6 + 5, none⟩ z5)).trans z5, (Below.cell b10 (p := ⟨gl, ol + m, none⟩) (World.block_lt_of_cell? wr ⟨gl, ol + m, none⟩ q1)).trans q1, (Below.cell b10 (p := ⟨gn, i2, none⟩) (World.block_lt_of_cell? wr ⟨gn, i2, none⟩ q2)).trans q2⟩; clear b10))
              go_wp2_with fail
              go_roundw
              case rel => exact ⟨k3 + 1, by omega, by go_num, HI3.out.trans (B10.out.mono HI3.out.size)⟩
              case measure => simp [intOf]; omega
      case first => as_aux_lemma =>
        have hp1 := hide (Place_any how 3 w6 hw3 (by decide) (by decide))
        have hst := (HV.out.1.below B5.out).st.below H6.out.2.1
        have hrw6 := (HW.out.1.below B5.out).below H6.out.2.1
        have hones : ∀ y ∈ xsT 1 ls, One y := fun y hy => (HV.out.2.2.1 y hy).1
        have hups : ∀ y ∈ xsT 1 ls, ∀ c ∈ y.chunks, upOk c = true := fun y hy => (HV.out.2.2.1 y hy).2.1
        have hrm : (fSum (FX (xsT 1 ls)) : Int) ≤ p.room := by rw [HTH.out.2]; have h1 := HV.out.2.2.2; have h2 := HL6.out; omega
        have HS := hide (And.intro hst (And.intro hrw6 (And.intro hones (And.intro hups hrm))))
        clear hst hrw6 hones hups hrm
        go_wp2_with fail
        go_at_call 20
        refine hp1.out.mono ?_
        rintro e w7 ⟨j1, rfl, hj1, hw7⟩
        rw [hw7]
        clear hw7 w7
        by_cases h10 : j1 = 0
        · subst h10
          obtain ⟨q, hq, haf⟩ := after_delete HV.out.2.1 HS.out.2.2.1 HS.out.2.2.2.1 HFF.out
          have hdel := hide (kDelete HS.out.1 (mkS f.n) (by unfold maxLen; omega) q 0 (by rw [show nm (mkS f.n) = f.n from nm_ba _]; exact hq))
          have HAF := hide haf
          clear hq haf
          go_wp2_with (first | (go_at_call 29; refine hdel.out.mono ?_; rintro e w8 ⟨rfl, st8, t8⟩; have H8 := hide (And.intro st8 (Row.kb HS.out.1 t8 HS.out.2.1 (by decide))); clear st8 t8) | fail)
          go_meet
          exact ⟨rfl, q, 3000 * i, f.n, by omega, H8.out.1, HAF.out, H8.out.2⟩
        have h10i : ((j1 : Int) == 0) = false := by simp; omega
        have hnx0 : ((nx : Int) == 0) = false := by simp; omega
        have hp2 := hide (Place_any how 3 w6 hw3 (by decide) (by decide))
        go_wp2_with fail
        go_at_call 20
        refine hp2.out.mono ?_
        rintro e w7 ⟨j2, rfl, hj2, hw7⟩
        rw [hw7]
        clear hw7 w7
        have hp3 := hide (Place_any at_ (nx : Int) w6 hw2 (by omega) (by omega))
        obtain ⟨g6, o6, ha6, hgl6, hc6⟩ : ∃ g6 o6, a6 = some ⟨g6, o6, none⟩ ∧ g6 < w6.heap.size ∧ ∀ (i x : Nat), f.x[i]? = some x → w6.cell? ⟨g6, o6 + i, none⟩ = some (.int .u8 (x : Int)) := by
          obtain ⟨ao', cap', e', _, _, _, hs'⟩ := H6.out.1
          obtain ⟨e1, _, _⟩ := Value.slice.inj e'
          rcases hs' with h | ⟨b', off', e2, h3, h4⟩
          · have := congrArg List.length h
            rw [show fData (some f) = f.x from rfl, HNX.out] at this
            simp at this
            omega
          · exact ⟨b', off', e1.trans e2, h3, h4⟩
        subst ha6
        obtain ⟨hg65, hfz⟩ : w5.heap.size ≤ g6 ∧ ∀ j, j < nx → w6.frozen? ⟨g6, o6 + j, none⟩ = false := by
          obtain ⟨ao', n', c', e', _, hs'⟩ := H6.out.2.2
          obtain ⟨e1, e2, _⟩ := Value.slice.inj e'
          rw [HNX.out] at e2
          rcases hs' with h | ⟨g', off', e3, h4, h5⟩
          · omega
          · have e4 := Option.some.inj (e1.trans e3)
            cases e4
            exact ⟨h4, fun j hj => (h5 j (by omega)).2⟩
        have HFZ := hide hfz
        clear hfz
        have HC6 := hide hc6
        clear hc6
        by_cases h21 : j2 = 1
        · subst h21
          go_wp2_with fail
          go_at_call 20
          refine hp3.out.mono ?_
          rintro e w7 ⟨j3, rfl, hj3, hw7⟩
          rw [hw7]
          clear hw7 w7
          have hj3n : j3 < f.x.length := by rw [HNX.out]; omega
          obtain ⟨q, hq, haf⟩ := after_cut HV.out.2.1 HS.out.2.2.1 HS.out.2.2.2.1 HFF.out HS.out.2.2.2.2 hj3n
          have hsg : Seg w6 (.slice (some ⟨g6, o6, none⟩) j3 c6) (f.x.take j3) := Seg.cut H6.out.1 (Nat.le_of_lt hj3n)
          have hwri := hide (kWrite HS.out.1 (by omega) (mkS f.n) (by unfold maxLen; omega) _ _ hsg (fun i x hx => HBX.out i x (by rw [List.getElem?_take] at hx; split at hx; exact hx; cases hx)) q 0 (by rw [show nm (mkS f.n) = f.n from nm_ba _]; exact hq))
          have HAF := hide haf
          have hj3c : (j3 : Int) ≤ c6 := by
            obtain ⟨ao', cap', e', h2, _⟩ := H6.out.1
            obtain ⟨_, _, e3⟩ := Value.slice.inj e'
            rw [show fData (some f) = f.x from rfl] at h2
            omega
          clear hq haf hsg hj3n
          go_wp2_with (first | (go_at_call 30; refine hwri.out.mono ?_; rintro e w8 ⟨rfl, st8, t8⟩; have H8 := hide (And.intro st8 (Row.kb HS.out.1 t8 HS.out.2.1 (by decide))); clear st8 t8) | fail)
          go_meet
          exact ⟨rfl, q, 3000 * i + 1, f.n, by omega, H8.out.1, HAF.out, H8.out.2⟩
        · have h21i : ((j2 : Int) == 1) = false := by simp; omega
          go_wp2_with fail
          go_at_call 20
          refine hp3.out.mono ?_
          rintro e w7 ⟨j3, rfl, hj3, hw7⟩
          rw [hw7]
          clear hw7 w7
          have hj3n : j3 < f.x.length := by rw [HNX.out]; omega
          obtain ⟨x3, hx3⟩ : ∃ x3, f.x[j3]? = some x3 := ⟨_, List.getElem?_eq_getElem hj3n⟩
          have d3 := HC6.out j3 x3 hx3
          have hxl : x3 < 256 := HBX.out j3 x3 hx3
          have hfz3 := HFZ.out j3 (by omega)
          have hxe := bits_xor8 hxl hby
          have hyl : x3 ^^^ by_ < 256 := Nat.xor_lt_two_pow (n := 8) hxl hby
          have hyn : x3 ^^^ by_ ≠ x3 := fun h => hb00 (xor_cancel' (c := x3) (h.trans (Nat.xor_zero x3).symm))
          obtain ⟨q, hq, haf⟩ := after_turned HV.out.2.1 HS.out.2.2.1 HS.out.2.2.2.1 HFF.out HS.out.2.2.2.2 hx3 hyl hyn
          obtain ⟨y3, hy3⟩ : ∃ y3, x3 ^^^ by_ = y3 := ⟨_, rfl⟩
          rw [hy3] at hxe hyl hq
          have hbel : Below w5.heap.size w5 (w6.setCell ⟨g6, o6 + j3, none⟩ (.int .u8 (y3 : Int))) := H6.out.2.1.setCell (p := ⟨g6, o6 + j3, none⟩) hg65 _
          have hst8 := (HV.out.1.below B5.out).st.below hbel
          have hrw8 := (HW.out.1.below B5.out).below hbel
          have hcap : f.x.length ≤ c6 ∧ c6 ≤ 9223372036854775807 := by
            obtain ⟨ao', cap', e', h2, h3, _⟩ := H6.out.1
            obtain ⟨_, _, e3⟩ := Value.slice.inj e'
            rw [show fData (some f) = f.x from rfl] at h2
            omega
          have hsg : Seg (w6.setCell ⟨g6, o6 + j3, none⟩ (.int .u8 (y3 : Int))) (.slice (some ⟨g6, o6, none⟩) nx c6) (f.x.set j3 y3) := by
            have hn := HNX.out
            refine ⟨some ⟨g6, o6, none⟩, c6, by rw [List.length_set, hn], by rw [List.length_set]; omega, by omega, by rw [List.length_set]; omega, .inr ⟨g6, o6, rfl, by simpa using hgl6, fun m z hz => ?_⟩⟩
            by_cases hm : j3 = m
            · subst hm
              rw [List.getElem?_set_self hj3n] at hz
              cases hz
              exact World.cell?_setCell_same _ _ _ d3
            · rw [List.getElem?_set_ne hm] at hz
              have e2 : (⟨g6, o6 + j3, none⟩ : Addr) ≠ ⟨g6, o6 + m, none⟩ := fun h => hm (by have := congrArg Addr.off h; simp at this; exact this)
              exact (World.cell?_setCell_other _ _ _ _ e2).trans (HC6.out m z hz)
          have hwri := hide (kWrite hst8 (by omega) (mkS f.n) (by unfold maxLen; omega) _ _ hsg (fun m z hz => by
            by_cases hm : j3 = m
            · subst hm
              rw [List.getElem?_set_self hj3n] at hz
              cases hz
              exact hyl
            · rw [List.getElem?_set_ne hm] at hz
              exact HBX.out m z hz) q 0 (by rw [show nm (mkS f.n) = f.n from nm_ba _]; exact hq))
          have HAF := hide haf
          have HS8 := hide (And.intro hst8 hrw8)
          clear hq haf hsg hst8 hrw8 hbel hcap hx3 hj3n hyl hyn
          go_wp2_with (first | (go_at_call 30; refine hwri.out.mono ?_; rintro e w8 ⟨rfl, st8, t8⟩; have H8 := hide (And.intro st8 (Row.kb HS8.out.1 t8 HS8.out.2 (by decide))); clear st8 t8) | fail)
          go_meet
          exact ⟨rfl, q, 3000 * i + 1, f.n, by omega, H8.out.1, HAF.out, H8.out.2⟩
end Go.Proofs.YtbfhcbihgleddaaGreatDoor
