/-
  The document's Outs; it is the program's; PlanOuts, walked.
-/
import Derived.Test.YtfiafbfbiidnlaaPRMake
import Derived.Test.YtfiafbfbiidnlaaPCountP
import Derived.Test.YtfiafbfbiidnlaaPKnown
namespace Go.Proofs.Ytfiafbfbiidnlaa
open Go.RowKit

def cn0 : Cn := ⟨0, 0, 0⟩
/-- The channel at place k of a list of numbers. -/
def chA (cs : List Cn) (L : List Nat) (k : Nat) : Cn := cs.getD (L.getD k 0) cn0
def sameB (ts : List Tk) (cs : List Cn) (L : List Nat) (i k : Nat) : Bool := decide ((chA cs L k).inp = (chA cs L i).inp) && decide ((tkAt ts (chA cs L k).tg).nd = (tkAt ts (chA cs L i).tg).nd)
/-- Of the first m none other is to the same node and input. -/
def oneB (ts : List Tk) (cs : List Cn) (L : List Nat) (i : Nat) : Nat → Bool
  | 0 => true
  | m + 1 => oneB ts cs L i m && !(decide (m ≠ i) && sameB ts cs L i m)
theorem oneB_succ (ts : List Tk) (cs : List Cn) (L : List Nat) (i m : Nat) : oneB ts cs L i (m + 1) = (oneB ts cs L i m && !(decide (m ≠ i) && sameB ts cs L i m)) := rfl
def okB (ns : List Nd) (ts : List Tk) (cs : List Cn) (L : List Nat) (g : Int) (i : Nat) : Bool := oneB ts cs L i L.length || decide ((tkAt ts (chA cs L i).tg).pt = prt g (ndAt ns (tkAt ts (chA cs L i).tg).nd).par)
/-- What the document's Outs tells of the first m. -/
def outR (ns : List Nd) (ts : List Tk) (cs : List Cn) (L : List Nat) (g : Int) (m : Nat) : List Nat := ((List.range m).filter (okB ns ts cs L g)).map fun i => L.getD i 0
theorem outR_succ (ns : List Nd) (ts : List Tk) (cs : List Cn) (L : List Nat) (g : Int) (m : Nat) : outR ns ts cs L g (m + 1) = outR ns ts cs L g m ++ (if okB ns ts cs L g m = true then [L.getD m 0] else []) := by
  unfold outR
  rw [List.range_succ, List.filter_append, List.map_append]
  congr 1
  by_cases h : okB ns ts cs L g m = true <;> simp [h]
theorem outR_len (ns : List Nd) (ts : List Tk) (cs : List Cn) (L : List Nat) (g : Int) (m : Nat) : (outR ns ts cs L g m).length ≤ m := by
  unfold outR
  rw [List.length_map]
  exact Nat.le_trans (List.length_filter_le _ _) (by rw [List.length_range]; omega)
set_option maxHeartbeats 8000000 in
set_option maxRecDepth 100000 in
theorem ROuts_any {w : World} {v tv cv : Value} {ns : List Nd} {ts : List Tk} {cs : List Cn} (hj : JobIn w.heap.size w v ns) (ht : LSeg 2 Tk.cs w.heap.size w tv ts) (hc : LSeg 3 Cn.cs w.heap.size w cv cs) (hl : cs.length ≤ 1000)
    (hct : ∀ c ∈ cs, 0 ≤ c.tg ∧ c.tg < (ts.length : Int)) (htn : ∀ t ∈ ts, 0 ≤ t.nd ∧ t.nd < (ns.length : Int)) (task key : Int) :
    Calls Try.prog 21 #[.agg #[v], .agg #[tv, cv], .int .i64 task, .int .i64 key] w fun e w' => ∃ u, e = .returned u ∧ OwnN w.heap.size w' u (outR ns ts cs (plc (fun c : Cn => decide (c.fr = task)) 0 cs) (grp key) (plc (fun c : Cn => decide (c.fr = task)) 0 cs).length) ∧ Below w.heap.size w w' := by
  obtain ⟨na, ncp, rfl⟩ := hj.shape
  obtain ⟨ta, tc, rfl⟩ := ht.shape
  obtain ⟨ca, cc, rfl⟩ := hc.shape
  have hb : Below w.heap.size w ((w.alloc (.cells #[.slice na ns.length ncp] 24)).alloc (.cells #[.slice ta ts.length tc, .slice ca cs.length cc] 30)) := ((Below.refl _ _).alloc (Nat.le_refl _) _).alloc (by simp) _
  have HX2 := hide (two2 w (.cells #[.slice na ns.length ncp] 24) (.cells #[.slice ta ts.length tc, .slice ca cs.length cc] 30))
  have HFR := hide (RFrom_any (ta := ta) (tn := ts.length) (tc := tc) ((hc.below hb).mono hb.size) (by omega) task)
  have HB := hide hb
  have HJ := hide hj
  have HT := hide ht
  have HC := hide hc
  have HCT := hide hct
  have HTN := hide htn
  have hLL : (plc (fun c : Cn => decide (c.fr = task)) 0 cs).length ≤ 1000 := Nat.le_trans (plc_len _ _ _) hl
  have hLM : ∀ x ∈ plc (fun c : Cn => decide (c.fr = task)) 0 cs, x < cs.length := fun x hx => by
    obtain ⟨_, y, h1, _⟩ := plc_mem _ _ _ x hx
    simpa using lt_of_get h1
  obtain ⟨L, hL⟩ : ∃ L, plc (fun c : Cn => decide (c.fr = task)) 0 cs = L := ⟨_, rfl⟩
  rw [hL] at hLL hLM HFR ⊢
  have HLM := hide hLM
  have HGK := hide (fun w => RGroup_any w key)
  obtain ⟨gk0, hgk0⟩ : ∃ g, grp key = g := ⟨_, rfl⟩
  rw [hgk0] at HGK ⊢
  clear hj ht hc hb hct htn hL hLM hgk0
  as_aux_lemma =>
  go_enter Try.func21, Try.ntmps21
  go_wp2_with fail
  refine HFR.out.mono ?_
  rintro e w2 ⟨lv, rfl, o2, b2⟩
  have HLS := hide (OwnN.lseg o2 hLL)
  obtain ⟨la, lc, rfl⟩ := o2.shape
  have B2 := hide (HB.out.trans (b2.mono HB.out.size))
  have X24 := hide ((show BoxT 24 _ _ _ from HX2.out.1).below b2)
  have X30 := hide ((show BoxT 30 _ _ _ from HX2.out.2).below b2)
  clear o2 b2 HFR HX2 HB
  go_wp2_with fail
  go_loopg [9, 11] (L.length + 1) (fun gh uv iv wr => ∃ i : Nat, iv = .int .i64 (i : Int) ∧ i ≤ L.length ∧ L.length + 1 ≤ gh + i ∧ Hid (OwnN w2.heap.size wr uv (outR ns ts cs L (gk0 : Int) i)) ∧ Hid (Below w2.heap.size w2 wr))
  case atStart => exact ⟨0, rfl, by omega, by omega, OwnL.nil _ _ _ _ _, Below.refl _ _⟩
  case round =>
    obtain ⟨i, rfl, hi, hg, GO, GB⟩ := hrel
    obtain ⟨g1, rfl⟩ : ∃ go, gk = go + 1 := ⟨gk - 1, by omega⟩
    obtain ⟨wo, hwo⟩ : ∃ wo, wo = wr := ⟨_, rfl⟩
    subst hwo
    have k0 : wo.cell? ⟨w.heap.size, 0, none⟩ = some (.slice na ns.length ncp) := by rw [(X24.out.below GB.out).cellAt]; rfl
    have k1 : wo.cell? ⟨w.heap.size + 1, 0, none⟩ = some (.slice ta ts.length tc) := by rw [(X30.out.below GB.out).cellAt]; rfl
    have k2 : wo.cell? ⟨w.heap.size + 1, 1, none⟩ = some (.slice ca cs.length cc) := by rw [(X30.out.below GB.out).cellAt]; rfl
    by_cases hil : i < L.length
    · obtain ⟨x, hx⟩ := get_of_lt hil
      have bi : (i : Int) < (L.length : Int) := by omega
      have hxl := HLM.out x (List.mem_of_getElem? hx)
      obtain ⟨c, hc⟩ := get_of_lt hxl
      have hcg := HCT.out c (List.mem_of_getElem? hc)
      obtain ⟨g, hgq⟩ : ∃ g : Nat, c.tg = (g : Int) := ⟨c.tg.toNat, by omega⟩
      obtain ⟨t, ht⟩ := get_of_lt (l := ts) (i := g) (by omega)
      have htq := HTN.out t (List.mem_of_getElem? ht)
      obtain ⟨nt, hnq⟩ : ∃ n : Nat, t.nd = (n : Int) := ⟨t.nd.toNat, by omega⟩
      obtain ⟨n, hn⟩ := get_of_lt (l := ns) (i := nt) (by omega)
      have bO := B2.out.trans (GB.out.mono B2.out.size)
      obtain ⟨lb, lo, hla, llt, cl⟩ := (HLS.out.below GB.out).num (k := i) (x := (x : Int)) (by rw [List.getElem?_map, hx]; rfl)
      obtain ⟨cb, co, hca, clt, d0, d1, d2⟩ := seg_cn (HC.out.below bO) hc
      obtain ⟨tb, to0, hta, tlt, e0, e1⟩ := seg_tk (HT.out.below bO) ht
      obtain ⟨nb, no, hna, nlt, -, -, f2, -⟩ := (HJ.out.below bO).at_ hn
      subst hla hca hta hna
      have HCI : Hid (chA cs L i = c) := (show _ = c by unfold chA; rw [getD_of hx, getD_of hc])
      have HTI : Hid (tkAt ts c.tg = t) := (show _ = t by rw [hgq]; exact tkAt_in ht)
      have HNI : Hid (ndAt ns t.nd = n) := (show _ = n by rw [hnq]; exact ndAt_in hn)
      have HTND := hide hnq
      have HGX : Hid (L.getD i 0 = x) := getD_of hx
      rw [hgq] at d1
      rw [hnq] at e0
      have bx : (x : Int) < (cs.length : Int) := by omega
      have bg : (g : Int) < (ts.length : Int) := by omega
      have bn : (nt : Int) < (ns.length : Int) := by omega
      have hs2 := GB.out.size
      have hsO := bO.size
      have bz1 : lb < wo.heap.size := by omega
      have bz2 : cb < wo.heap.size := by omega
      have bz3 : tb < wo.heap.size := by omega
      have bz4 : nb < wo.heap.size := by omega
      have bz5 : w.heap.size < wo.heap.size := (X24.out.below GB.out).lt
      have bz6 : w.heap.size + 1 < wo.heap.size := (X30.out.below GB.out).lt
      have B5 : Hid (Below wo.heap.size wo ((wo.drew.alloc (.cells #[.int .i64 c.fr, .int .i64 (g : Int), .int .i64 c.inp] 40)).alloc (.cells #[.int .i64 (nt : Int), .int .i64 t.pt] 42))) := ((Below.refl _ _).drew.alloc (Nat.le_refl _) _).alloc (by simp) _
      have h2 := two2 wo.drew (.cells #[.int .i64 c.fr, .int .i64 (g : Int), .int .i64 c.inp] 40) (.cells #[.int .i64 (nt : Int), .int .i64 t.pt] 42)
      have XC5 : Hid (BoxT 40 ((wo.drew.alloc (.cells #[.int .i64 c.fr, .int .i64 (g : Int), .int .i64 c.inp] 40)).alloc (.cells #[.int .i64 (nt : Int), .int .i64 t.pt] 42)) wo.heap.size #[.int .i64 c.fr, .int .i64 (g : Int), .int .i64 c.inp]) := h2.1
      have XT5 : Hid (BoxT 42 ((wo.drew.alloc (.cells #[.int .i64 c.fr, .int .i64 (g : Int), .int .i64 c.inp] 40)).alloc (.cells #[.int .i64 (nt : Int), .int .i64 t.pt] 42)) (wo.heap.size + 1) #[.int .i64 (nt : Int), .int .i64 t.pt]) := h2.2
      have HBW : Hid (∀ w', Below ((wo.drew.alloc (.cells #[.int .i64 c.fr, .int .i64 (g : Int), .int .i64 c.inp] 40)).alloc (.cells #[.int .i64 (nt : Int), .int .i64 t.pt] 42)).heap.size ((wo.drew.alloc (.cells #[.int .i64 c.fr, .int .i64 (g : Int), .int .i64 c.inp] 40)).alloc (.cells #[.int .i64 (nt : Int), .int .i64 t.pt] 42)) w' → Below w2.heap.size w2 w' ∧ Below w.heap.size w w' ∧ Below wo.heap.size wo w') := fun w' h => by
        have h1 := B5.out.trans (h.mono B5.out.size)
        have h3 := GB.out.trans (h1.mono GB.out.size)
        exact ⟨h3, B2.out.trans (h3.mono B2.out.size), h1⟩
      have HNR : Hid (∀ w', Below w.heap.size w w' → w'.cell? ⟨nb, no + nt * 10 + 2, none⟩ = some (.int .i64 n.par)) := fun w' h => by
        obtain ⟨nb', no', e, _, _, _, q, _⟩ := (HJ.out.below h).at_ hn
        cases e
        exact q
      clear hx hc ht hn hgq hnq hcg htq hxl hs2 hsO bO h2
      have HLX : Hid (∀ w', Below w2.heap.size w2 w' → w'.cell? ⟨lb, lo + i, none⟩ = some (.int .i64 (x : Int))) := fun w' h => by rw [← cl, h.cell (p := ⟨lb, _, none⟩) llt, GB.out.cell (p := ⟨lb, _, none⟩) llt]
      have OKB : Hid (okB ns ts cs L (gk0 : Int) i = (oneB ts cs L i L.length || decide (t.pt = prt (gk0 : Int) n.par))) := (show _ = _ by unfold okB; rw [HCI.out, HTI.out, HNI.out])
      as_aux_lemma =>
      go_wp2_with fail
      go_region
      all_goals
        go_wp2_with fail
        go_loopg [14, 15] (L.length + 1) (fun gh bv iv wr => ∃ (k : Nat) (b0 : Bool), iv = .int .i64 (k : Int) ∧ bv = .bool b0 ∧ k ≤ L.length ∧ L.length + 1 ≤ gh + k ∧ Hid (oneB ts cs L i k = b0) ∧ Hid (Below ((wo.drew.alloc (.cells #[.int .i64 c.fr, .int .i64 (g : Int), .int .i64 c.inp] 40)).alloc (.cells #[.int .i64 (nt : Int), .int .i64 t.pt] 42)).heap.size ((wo.drew.alloc (.cells #[.int .i64 c.fr, .int .i64 (g : Int), .int .i64 c.inp] 40)).alloc (.cells #[.int .i64 (nt : Int), .int .i64 t.pt] 42)) wr))
        case atStart => exact ⟨0, true, rfl, rfl, by omega, by omega, rfl, Below.refl _ _⟩
        case round =>
          clear k0 k1 k2 d0 d1 d2 e0 e1 f2 cl
          obtain ⟨k, b0, rfl, rfl, hk, hgk, GB1, GW⟩ := hrel
          obtain ⟨g2, rfl⟩ : ∃ go, gk = go + 1 := ⟨gk - 1, by omega⟩
          obtain ⟨bw2, bw, bwo⟩ := HBW.out _ GW.out
          have k0 : wr.cell? ⟨w.heap.size, 0, none⟩ = some (.slice (some ⟨nb, no, none⟩) ns.length ncp) := by rw [(X24.out.below bw2).cellAt]; rfl
          have k1 : wr.cell? ⟨w.heap.size + 1, 0, none⟩ = some (.slice (some ⟨tb, to0, none⟩) ts.length tc) := by rw [(X30.out.below bw2).cellAt]; rfl
          have k2 : wr.cell? ⟨w.heap.size + 1, 1, none⟩ = some (.slice (some ⟨cb, co, none⟩) cs.length cc) := by rw [(X30.out.below bw2).cellAt]; rfl
          have BW2 := hide bw2
          have BW := hide bw
          have BWO := hide bwo
          have hsz := bwo.size
          have yz1 : lb < wr.heap.size := by omega
          have yz2 : cb < wr.heap.size := by omega
          have yz3 : tb < wr.heap.size := by omega
          have yz5 : w.heap.size < wr.heap.size := by omega
          have yz6 : w.heap.size + 1 < wr.heap.size := by omega
          have yz7 : wo.heap.size + 1 < wr.heap.size := (XT5.out.below GW.out).lt
          clear bw2 bw bwo hsz
          by_cases hkl : k < L.length
          · obtain ⟨y, hy⟩ := get_of_lt hkl
            have bk : (k : Int) < (L.length : Int) := by omega
            have hyl := HLM.out y (List.mem_of_getElem? hy)
            obtain ⟨d, hd⟩ := get_of_lt hyl
            have hdg := HCT.out d (List.mem_of_getElem? hd)
            obtain ⟨gd, hgd⟩ : ∃ g : Nat, d.tg = (g : Int) := ⟨d.tg.toNat, by omega⟩
            obtain ⟨td, htd⟩ := get_of_lt (l := ts) (i := gd) (by omega)
            obtain ⟨lb', lo', e, -, cl2⟩ := (HLS.out.below BW2.out).num (k := k) (x := (y : Int)) (by rw [List.getElem?_map, hy]; rfl)
            cases e
            obtain ⟨cb', co', e, -, q0, q1, q2⟩ := seg_cn (HC.out.below BW.out) hd
            cases e
            rw [hgd] at q1
            have HTC : Hid (∀ w', Below w.heap.size w w' → w'.cell? ⟨tb, to0 + gd * 2, none⟩ = some (.int .i64 td.nd)) := fun w' h => by
              obtain ⟨tb', to', e, _, q, _⟩ := seg_tk (HT.out.below h) htd
              cases e
              exact q
            have HCK : Hid (chA cs L k = d) := (show _ = d by unfold chA; rw [getD_of hy, getD_of hd])
            have HTD : Hid (tkAt ts d.tg = td) := (show _ = td by rw [hgd]; exact tkAt_in htd)
            have byy : (y : Int) < (cs.length : Int) := by omega
            have bgd : (gd : Int) < (ts.length : Int) := by omega
            have BD : Hid (Below wr.heap.size wr (wr.drew.alloc (.cells #[.int .i64 d.fr, .int .i64 (gd : Int), .int .i64 d.inp] 40))) := (Below.refl _ _).drew.alloc (Nat.le_refl _) _
            have XD : Hid (BoxT 40 (wr.drew.alloc (.cells #[.int .i64 d.fr, .int .i64 (gd : Int), .int .i64 d.inp] 40)) wr.heap.size #[.int .i64 d.fr, .int .i64 (gd : Int), .int .i64 d.inp]) := BoxT.new 40 wr.drew _
            have KC : Hid (∀ w' : World, Below (wr.drew.alloc (.cells #[.int .i64 d.fr, .int .i64 (gd : Int), .int .i64 d.inp] 40)).heap.size (wr.drew.alloc (.cells #[.int .i64 d.fr, .int .i64 (gd : Int), .int .i64 d.inp] 40)) w' → w'.cell? ⟨wr.heap.size, 2, none⟩ = some (.int .i64 d.inp) ∧ w'.cell? ⟨wo.heap.size, 2, none⟩ = some (.int .i64 c.inp) ∧ w'.cell? ⟨w.heap.size + 1, 0, none⟩ = some (.slice (some ⟨tb, to0, none⟩) ts.length tc) ∧ w'.cell? ⟨wr.heap.size, 1, none⟩ = some (.int .i64 (gd : Int)) ∧ w'.cell? ⟨tb, to0 + gd * 2, none⟩ = some (.int .i64 td.nd) ∧ w'.cell? ⟨wo.heap.size + 1, 0, none⟩ = some (.int .i64 (nt : Int))) := fun w' h => by
              have hd1 := BD.out.trans (h.mono BD.out.size)
              have h5 := GW.out.trans (hd1.mono GW.out.size)
              obtain ⟨z2, z, _⟩ := HBW.out _ h5
              exact ⟨(by rw [(XD.out.below h).cellAt]; rfl), (by rw [(XC5.out.below h5).cellAt]; rfl), (by rw [(X30.out.below z2).cellAt]; rfl), (by rw [(XD.out.below h).cellAt]; rfl), HTC.out _ z, (by rw [(XT5.out.below h5).cellAt]; rfl)⟩
            clear hy hd htd hgd hdg hyl
            go_wp2_with fail
            go_region
            all_goals
              go_wp2_with fail
              clear q0 q1 q2 cl2 k0 k1 k2
              by_cases hki : k = i
              · have gk : ((k : Int) != (i : Int)) = false := by simp [hki]
                have gk2 : (k != i) = false := by simp [hki]
                have HS : Hid (oneB ts cs L i (k + 1) = b0) := (show _ = b0 by rw [oneB_succ, GB1.out]; simp [hki])
                clear hki
                as_aux_lemma =>
                have B1 : Hid (Below ((wr.drew.alloc (.cells #[.int .i64 d.fr, .int .i64 (gd : Int), .int .i64 d.inp] 40))).heap.size ((wr.drew.alloc (.cells #[.int .i64 d.fr, .int .i64 (gd : Int), .int .i64 d.inp] 40))) ((wr.drew.alloc (.cells #[.int .i64 d.fr, .int .i64 (gd : Int), .int .i64 d.inp] 40))).drew) := (Below.refl _ _).drew
                refine wp_region_M (S := fun w' => w'.cell? ⟨wr.heap.size, 2, none⟩ = some (.int .i64 d.inp) ∧ w'.cell? ⟨wo.heap.size, 2, none⟩ = some (.int .i64 c.inp) ∧ w'.cell? ⟨w.heap.size + 1, 0, none⟩ = some (.slice (some ⟨tb, to0, none⟩) ts.length tc) ∧ w'.cell? ⟨wr.heap.size, 1, none⟩ = some (.int .i64 (gd : Int)) ∧ w'.cell? ⟨tb, to0 + gd * 2, none⟩ = some (.int .i64 td.nd) ∧ w'.cell? ⟨wo.heap.size + 1, 0, none⟩ = some (.int .i64 (nt : Int))) (late := []) (by kernel_rfl) (KC.out _ B1.out) (fun hHeld => ?_)
                (try simp only [List.size_toArray, List.length_cons, List.length_nil, Nat.zero_add, Nat.reduceAdd, Array.replicate, List.replicate])
                refine wpAnyM_take (i := 0) (oi := ⟨_, _, _, _, _, _⟩) (v := ?_) rfl (by kernel_rfl) (by kernel_rfl) (by kernel_rfl) (by kernel_rfl) (fun _ _ _ h => h) (Or.inl ⟨by rfl, ?_⟩) hHeld ?_
                rotate_left
                · (intro w' hSw; (try dsimp only at hSw); go_simp; try (with_reducible rfl))
                (try simp only [Act.put, List.setIfInBounds_toArray, List.set_cons_zero, List.set_cons_succ])
                refine wpAnyM_take (i := 1) (oi := ⟨_, _, _, _, _, _⟩) (v := ?_) rfl (by kernel_rfl) (by kernel_rfl) (by kernel_rfl) (by kernel_rfl) (fun _ _ _ h => h) (Or.inl ⟨by rfl, ?_⟩) hHeld ?_
                rotate_left
                · (intro w' hSw; (try dsimp only at hSw); go_simp; try (with_reducible rfl))
                (try simp only [Act.put, List.setIfInBounds_toArray, List.set_cons_zero, List.set_cons_succ])
                refine wpAnyM_take (i := 2) (oi := ⟨_, _, _, _, _, _⟩) (v := ?_) rfl (by kernel_rfl) (by kernel_rfl) (by kernel_rfl) (by kernel_rfl) (fun _ _ _ h => h) (Or.inl ⟨by rfl, ?_⟩) hHeld ?_
                rotate_left
                · (intro w' hSw; (try dsimp only at hSw); go_simp; try (with_reducible rfl))
                (try simp only [Act.put, List.setIfInBounds_toArray, List.set_cons_zero, List.set_cons_succ])
                refine wpAnyM_take (i := 3) (oi := ⟨_, _, _, _, _, _⟩) (v := ?_) rfl (by kernel_rfl) (by kernel_rfl) (by kernel_rfl) (by kernel_rfl) (fun _ _ _ h => h) (Or.inl ⟨by rfl, ?_⟩) hHeld ?_
                rotate_left
                · (intro w' hSw; (try dsimp only at hSw); go_simp; try (with_reducible rfl))
                (try simp only [Act.put, List.setIfInBounds_toArray, List.set_cons_zero, List.set_cons_succ])
                refine wpAnyM_take (i := 4) (oi := ⟨_, _, _, _, _, _⟩) (v := undef) rfl (by kernel_rfl) (by kernel_rfl) (by kernel_rfl) (by kernel_rfl) (fun _ _ _ h => h) (Or.inr ⟨by rfl, rfl⟩) hHeld ?_
                (try simp only [Act.put, List.setIfInBounds_toArray, List.set_cons_zero, List.set_cons_succ])
                refine wpAnyM_take (i := 5) (oi := ⟨_, _, _, _, _, _⟩) (v := undef) rfl (by kernel_rfl) (by kernel_rfl) (by kernel_rfl) (by kernel_rfl) (fun _ _ _ h => h) (Or.inr ⟨by rfl, rfl⟩) hHeld ?_
                (try simp only [Act.put, List.setIfInBounds_toArray, List.set_cons_zero, List.set_cons_succ])
                refine wpAnyM_take (i := 6) (oi := ⟨_, _, _, _, _, _⟩) (v := undef) rfl (by kernel_rfl) (by kernel_rfl) (by kernel_rfl) (by kernel_rfl) (fun _ _ _ h => h) (Or.inr ⟨by rfl, rfl⟩) hHeld ?_
                (try simp only [Act.put, List.setIfInBounds_toArray, List.set_cons_zero, List.set_cons_succ])
                refine wpAnyM_take (i := 7) (oi := ⟨_, _, _, _, _, _⟩) (v := undef) rfl (by kernel_rfl) (by kernel_rfl) (by kernel_rfl) (by kernel_rfl) (fun _ _ _ h => h) (Or.inr ⟨by rfl, rfl⟩) hHeld ?_
                (try simp only [Act.put, List.setIfInBounds_toArray, List.set_cons_zero, List.set_cons_succ])
                refine wpAnyM_take (i := 8) (oi := ⟨_, _, _, _, _, _⟩) (v := undef) rfl (by kernel_rfl) (by kernel_rfl) (by kernel_rfl) (by kernel_rfl) (fun _ _ _ h => h) (Or.inr ⟨by rfl, rfl⟩) hHeld ?_
                (try simp only [Act.put, List.setIfInBounds_toArray, List.set_cons_zero, List.set_cons_succ])
                refine wpAnyM_take (i := 9) (oi := ⟨_, _, _, _, _, _⟩) (v := ?_) rfl (by kernel_rfl) (by kernel_rfl) (by kernel_rfl) (by kernel_rfl) (fun _ _ _ h => h) (Or.inl ⟨by rfl, ?_⟩) hHeld ?_
                rotate_left
                · (intro w' hSw; (try dsimp only at hSw); go_simp; try (with_reducible rfl))
                (try simp only [Act.put, List.setIfInBounds_toArray, List.set_cons_zero, List.set_cons_succ])
                refine wpAnyM_take (i := 10) (oi := ⟨_, _, _, _, _, _⟩) (v := ?_) rfl (by kernel_rfl) (by kernel_rfl) (by kernel_rfl) (by kernel_rfl) (fun _ _ _ h => h) (Or.inl ⟨by rfl, ?_⟩) hHeld ?_
                rotate_left
                · (intro w' hSw; (try dsimp only at hSw); go_simp; try (with_reducible rfl))
                (try simp only [Act.put, List.setIfInBounds_toArray, List.set_cons_zero, List.set_cons_succ])
                refine wpAnyM_take (i := 11) (oi := ⟨_, _, _, _, _, _⟩) (v := undef) rfl (by kernel_rfl) (by kernel_rfl) (by kernel_rfl) (by kernel_rfl) (fun _ _ _ h => h) (Or.inr ⟨by rfl, rfl⟩) hHeld ?_
                (try simp only [Act.put, List.setIfInBounds_toArray, List.set_cons_zero, List.set_cons_succ])
                refine wpAnyM_take (i := 12) (oi := ⟨_, _, _, _, _, _⟩) (v := undef) rfl (by kernel_rfl) (by kernel_rfl) (by kernel_rfl) (by kernel_rfl) (fun _ _ _ h => h) (Or.inr ⟨by rfl, rfl⟩) hHeld ?_
                (try simp only [Act.put, List.setIfInBounds_toArray, List.set_cons_zero, List.set_cons_succ])
                refine wpAnyM_take (i := 13) (oi := ⟨_, _, _, _, _, _⟩) (v := undef) rfl (by kernel_rfl) (by kernel_rfl) (by kernel_rfl) (by kernel_rfl) (fun _ _ _ h => h) (Or.inr ⟨by rfl, rfl⟩) hHeld ?_
                (try simp only [Act.put, List.setIfInBounds_toArray, List.set_cons_zero, List.set_cons_succ])
                refine wpAnyM_take (i := 14) (oi := ⟨_, _, _, _, _, _⟩) (v := undef) rfl (by kernel_rfl) (by kernel_rfl) (by kernel_rfl) (by kernel_rfl) (fun _ _ _ h => h) (Or.inr ⟨by rfl, rfl⟩) hHeld ?_
                (try simp only [Act.put, List.setIfInBounds_toArray, List.set_cons_zero, List.set_cons_succ])
                refine wpAnyM_take (i := 15) (oi := ⟨_, _, _, _, _, _⟩) (v := undef) rfl (by kernel_rfl) (by kernel_rfl) (by kernel_rfl) (by kernel_rfl) (fun _ _ _ h => h) (Or.inr ⟨by rfl, rfl⟩) hHeld ?_
                (try simp only [Act.put, List.setIfInBounds_toArray, List.set_cons_zero, List.set_cons_succ])
                refine wpAnyM_take (i := 16) (oi := ⟨_, _, _, _, _, _⟩) (v := undef) rfl (by kernel_rfl) (by kernel_rfl) (by kernel_rfl) (by kernel_rfl) (fun _ _ _ h => h) (Or.inr ⟨by rfl, rfl⟩) hHeld ?_
                (try simp only [Act.put, List.setIfInBounds_toArray, List.set_cons_zero, List.set_cons_succ])
                refine wpAnyM_take (i := 17) (oi := ⟨_, _, _, _, _, _⟩) (v := undef) rfl (by kernel_rfl) (by kernel_rfl) (by kernel_rfl) (by kernel_rfl) (fun _ _ _ h => h) (Or.inr ⟨by rfl, rfl⟩) hHeld ?_
                (try simp only [Act.put, List.setIfInBounds_toArray, List.set_cons_zero, List.set_cons_succ])
                refine wpAnyM_take (i := 18) (oi := ⟨_, _, _, _, _, _⟩) (v := undef) rfl (by kernel_rfl) (by kernel_rfl) (by kernel_rfl) (by kernel_rfl) (fun _ _ _ h => h) (Or.inr ⟨by rfl, rfl⟩) hHeld ?_
                (try simp only [Act.put, List.setIfInBounds_toArray, List.set_cons_zero, List.set_cons_succ])
                refine wpAnyM_take (i := 19) (oi := ⟨_, _, _, _, _, _⟩) (v := undef) rfl (by kernel_rfl) (by kernel_rfl) (by kernel_rfl) (by kernel_rfl) (fun _ _ _ h => h) (Or.inr ⟨by rfl, rfl⟩) hHeld ?_
                (try simp only [Act.put, List.setIfInBounds_toArray, List.set_cons_zero, List.set_cons_succ])
                refine wpAnyM_take (i := 20) (oi := ⟨_, _, _, _, _, _⟩) (v := undef) rfl (by kernel_rfl) (by kernel_rfl) (by kernel_rfl) (by kernel_rfl) (fun _ _ _ h => h) (Or.inr ⟨by rfl, rfl⟩) hHeld ?_
                (try simp only [Act.put, List.setIfInBounds_toArray, List.set_cons_zero, List.set_cons_succ])
                refine wpAnyM_take (i := 21) (oi := ⟨_, _, _, _, _, _⟩) (v := ?_) rfl (by kernel_rfl) (by kernel_rfl) (by kernel_rfl) (by kernel_rfl) (fun _ _ _ h => h) (Or.inl ⟨by rfl, ?_⟩) hHeld ?_
                rotate_left
                · (intro w' hSw; (try dsimp only at hSw); go_simp; try (with_reducible rfl))
                (try simp only [Act.put, List.setIfInBounds_toArray, List.set_cons_zero, List.set_cons_succ])
                refine wpAnyM_done (by kernel_rfl) ?_ _
                go_wp2_with fail
                go_roundg g2
                case rel => exact ⟨k + 1, b0, by go_num, rfl, by omega, by omega, HS, (GW.out.trans (BD.out.mono GW.out.size)).drew⟩
                case measure => omega
              have gk : ((k : Int) != (i : Int)) = true := by simp; omega
              have gk2 : (k != i) = true := by simp [hki]
              by_cases hin : d.inp = c.inp
              rotate_left
              · have gi : (d.inp == c.inp) = false := by simp [hin]
                have HS : Hid (oneB ts cs L i (k + 1) = b0) := (show _ = b0 by rw [oneB_succ, GB1.out, sameB, HCK.out, HCI.out]; simp [hin])
                clear hki hin
                as_aux_lemma =>
                have B1 : Hid (Below ((wr.drew.alloc (.cells #[.int .i64 d.fr, .int .i64 (gd : Int), .int .i64 d.inp] 40))).heap.size ((wr.drew.alloc (.cells #[.int .i64 d.fr, .int .i64 (gd : Int), .int .i64 d.inp] 40))) ((wr.drew.alloc (.cells #[.int .i64 d.fr, .int .i64 (gd : Int), .int .i64 d.inp] 40))).drew) := (Below.refl _ _).drew
                refine wp_region_M (S := fun w' => w'.cell? ⟨wr.heap.size, 2, none⟩ = some (.int .i64 d.inp) ∧ w'.cell? ⟨wo.heap.size, 2, none⟩ = some (.int .i64 c.inp) ∧ w'.cell? ⟨w.heap.size + 1, 0, none⟩ = some (.slice (some ⟨tb, to0, none⟩) ts.length tc) ∧ w'.cell? ⟨wr.heap.size, 1, none⟩ = some (.int .i64 (gd : Int)) ∧ w'.cell? ⟨tb, to0 + gd * 2, none⟩ = some (.int .i64 td.nd) ∧ w'.cell? ⟨wo.heap.size + 1, 0, none⟩ = some (.int .i64 (nt : Int))) (late := []) (by kernel_rfl) (KC.out _ B1.out) (fun hHeld => ?_)
                (try simp only [List.size_toArray, List.length_cons, List.length_nil, Nat.zero_add, Nat.reduceAdd, Array.replicate, List.replicate])
                refine wpAnyM_take (i := 0) (oi := ⟨_, _, _, _, _, _⟩) (v := ?_) rfl (by kernel_rfl) (by kernel_rfl) (by kernel_rfl) (by kernel_rfl) (fun _ _ _ h => h) (Or.inl ⟨by rfl, ?_⟩) hHeld ?_
                rotate_left
                · (intro w' hSw; (try dsimp only at hSw); go_simp; try (with_reducible rfl))
                (try simp only [Act.put, List.setIfInBounds_toArray, List.set_cons_zero, List.set_cons_succ])
                refine wpAnyM_take (i := 1) (oi := ⟨_, _, _, _, _, _⟩) (v := ?_) rfl (by kernel_rfl) (by kernel_rfl) (by kernel_rfl) (by kernel_rfl) (fun _ _ _ h => h) (Or.inl ⟨by rfl, ?_⟩) hHeld ?_
                rotate_left
                · (intro w' hSw; (try dsimp only at hSw); go_simp; try (with_reducible rfl))
                (try simp only [Act.put, List.setIfInBounds_toArray, List.set_cons_zero, List.set_cons_succ])
                refine wpAnyM_take (i := 2) (oi := ⟨_, _, _, _, _, _⟩) (v := ?_) rfl (by kernel_rfl) (by kernel_rfl) (by kernel_rfl) (by kernel_rfl) (fun _ _ _ h => h) (Or.inl ⟨by rfl, ?_⟩) hHeld ?_
                rotate_left
                · (intro w' hSw; (try dsimp only at hSw); go_simp; try (with_reducible rfl))
                (try simp only [Act.put, List.setIfInBounds_toArray, List.set_cons_zero, List.set_cons_succ])
                refine wpAnyM_take (i := 3) (oi := ⟨_, _, _, _, _, _⟩) (v := ?_) rfl (by kernel_rfl) (by kernel_rfl) (by kernel_rfl) (by kernel_rfl) (fun _ _ _ h => h) (Or.inl ⟨by rfl, ?_⟩) hHeld ?_
                rotate_left
                · (intro w' hSw; (try dsimp only at hSw); go_simp; try (with_reducible rfl))
                (try simp only [Act.put, List.setIfInBounds_toArray, List.set_cons_zero, List.set_cons_succ])
                refine wpAnyM_take (i := 4) (oi := ⟨_, _, _, _, _, _⟩) (v := ?_) rfl (by kernel_rfl) (by kernel_rfl) (by kernel_rfl) (by kernel_rfl) (fun _ _ _ h => h) (Or.inl ⟨by rfl, ?_⟩) hHeld ?_
                rotate_left
                · (intro w' hSw; (try dsimp only at hSw); go_simp; try (with_reducible rfl))
                (try simp only [Act.put, List.setIfInBounds_toArray, List.set_cons_zero, List.set_cons_succ])
                refine wpAnyM_take (i := 5) (oi := ⟨_, _, _, _, _, _⟩) (v := ?_) rfl (by kernel_rfl) (by kernel_rfl) (by kernel_rfl) (by kernel_rfl) (fun _ _ _ h => h) (Or.inl ⟨by rfl, ?_⟩) hHeld ?_
                rotate_left
                · (intro w' hSw; (try dsimp only at hSw); go_simp; try (with_reducible rfl))
                (try simp only [Act.put, List.setIfInBounds_toArray, List.set_cons_zero, List.set_cons_succ])
                refine wpAnyM_take (i := 6) (oi := ⟨_, _, _, _, _, _⟩) (v := ?_) rfl (by kernel_rfl) (by kernel_rfl) (by kernel_rfl) (by kernel_rfl) (fun _ _ _ h => h) (Or.inl ⟨by rfl, ?_⟩) hHeld ?_
                rotate_left
                · (intro w' hSw; (try dsimp only at hSw); go_simp; try (with_reducible rfl))
                (try simp only [Act.put, List.setIfInBounds_toArray, List.set_cons_zero, List.set_cons_succ])
                refine wpAnyM_take (i := 7) (oi := ⟨_, _, _, _, _, _⟩) (v := ?_) rfl (by kernel_rfl) (by kernel_rfl) (by kernel_rfl) (by kernel_rfl) (fun _ _ _ h => h) (Or.inl ⟨by rfl, ?_⟩) hHeld ?_
                rotate_left
                · (intro w' hSw; (try dsimp only at hSw); go_simp; try (with_reducible rfl))
                (try simp only [Act.put, List.setIfInBounds_toArray, List.set_cons_zero, List.set_cons_succ])
                refine wpAnyM_take (i := 8) (oi := ⟨_, _, _, _, _, _⟩) (v := ?_) rfl (by kernel_rfl) (by kernel_rfl) (by kernel_rfl) (by kernel_rfl) (fun _ _ _ h => h) (Or.inl ⟨by rfl, ?_⟩) hHeld ?_
                rotate_left
                · (intro w' hSw; (try dsimp only at hSw); go_simp; try (with_reducible rfl))
                (try simp only [Act.put, List.setIfInBounds_toArray, List.set_cons_zero, List.set_cons_succ])
                refine wpAnyM_take (i := 9) (oi := ⟨_, _, _, _, _, _⟩) (v := ?_) rfl (by kernel_rfl) (by kernel_rfl) (by kernel_rfl) (by kernel_rfl) (fun _ _ _ h => h) (Or.inl ⟨by rfl, ?_⟩) hHeld ?_
                rotate_left
                · (intro w' hSw; (try dsimp only at hSw); go_simp; try (with_reducible rfl))
                (try simp only [Act.put, List.setIfInBounds_toArray, List.set_cons_zero, List.set_cons_succ])
                refine wpAnyM_take (i := 10) (oi := ⟨_, _, _, _, _, _⟩) (v := ?_) rfl (by kernel_rfl) (by kernel_rfl) (by kernel_rfl) (by kernel_rfl) (fun _ _ _ h => h) (Or.inl ⟨by rfl, ?_⟩) hHeld ?_
                rotate_left
                · (intro w' hSw; (try dsimp only at hSw); go_simp; try (with_reducible rfl))
                (try simp only [Act.put, List.setIfInBounds_toArray, List.set_cons_zero, List.set_cons_succ])
                refine wpAnyM_take (i := 11) (oi := ⟨_, _, _, _, _, _⟩) (v := undef) rfl (by kernel_rfl) (by kernel_rfl) (by kernel_rfl) (by kernel_rfl) (fun _ _ _ h => h) (Or.inr ⟨by rfl, rfl⟩) hHeld ?_
                (try simp only [Act.put, List.setIfInBounds_toArray, List.set_cons_zero, List.set_cons_succ])
                refine wpAnyM_take (i := 12) (oi := ⟨_, _, _, _, _, _⟩) (v := undef) rfl (by kernel_rfl) (by kernel_rfl) (by kernel_rfl) (by kernel_rfl) (fun _ _ _ h => h) (Or.inr ⟨by rfl, rfl⟩) hHeld ?_
                (try simp only [Act.put, List.setIfInBounds_toArray, List.set_cons_zero, List.set_cons_succ])
                refine wpAnyM_take (i := 13) (oi := ⟨_, _, _, _, _, _⟩) (v := undef) rfl (by kernel_rfl) (by kernel_rfl) (by kernel_rfl) (by kernel_rfl) (fun _ _ _ h => h) (Or.inr ⟨by rfl, rfl⟩) hHeld ?_
                (try simp only [Act.put, List.setIfInBounds_toArray, List.set_cons_zero, List.set_cons_succ])
                refine wpAnyM_take (i := 14) (oi := ⟨_, _, _, _, _, _⟩) (v := undef) rfl (by kernel_rfl) (by kernel_rfl) (by kernel_rfl) (by kernel_rfl) (fun _ _ _ h => h) (Or.inr ⟨by rfl, rfl⟩) hHeld ?_
                (try simp only [Act.put, List.setIfInBounds_toArray, List.set_cons_zero, List.set_cons_succ])
                refine wpAnyM_take (i := 15) (oi := ⟨_, _, _, _, _, _⟩) (v := undef) rfl (by kernel_rfl) (by kernel_rfl) (by kernel_rfl) (by kernel_rfl) (fun _ _ _ h => h) (Or.inr ⟨by rfl, rfl⟩) hHeld ?_
                (try simp only [Act.put, List.setIfInBounds_toArray, List.set_cons_zero, List.set_cons_succ])
                refine wpAnyM_take (i := 16) (oi := ⟨_, _, _, _, _, _⟩) (v := undef) rfl (by kernel_rfl) (by kernel_rfl) (by kernel_rfl) (by kernel_rfl) (fun _ _ _ h => h) (Or.inr ⟨by rfl, rfl⟩) hHeld ?_
                (try simp only [Act.put, List.setIfInBounds_toArray, List.set_cons_zero, List.set_cons_succ])
                refine wpAnyM_take (i := 17) (oi := ⟨_, _, _, _, _, _⟩) (v := undef) rfl (by kernel_rfl) (by kernel_rfl) (by kernel_rfl) (by kernel_rfl) (fun _ _ _ h => h) (Or.inr ⟨by rfl, rfl⟩) hHeld ?_
                (try simp only [Act.put, List.setIfInBounds_toArray, List.set_cons_zero, List.set_cons_succ])
                refine wpAnyM_take (i := 18) (oi := ⟨_, _, _, _, _, _⟩) (v := undef) rfl (by kernel_rfl) (by kernel_rfl) (by kernel_rfl) (by kernel_rfl) (fun _ _ _ h => h) (Or.inr ⟨by rfl, rfl⟩) hHeld ?_
                (try simp only [Act.put, List.setIfInBounds_toArray, List.set_cons_zero, List.set_cons_succ])
                refine wpAnyM_take (i := 19) (oi := ⟨_, _, _, _, _, _⟩) (v := undef) rfl (by kernel_rfl) (by kernel_rfl) (by kernel_rfl) (by kernel_rfl) (fun _ _ _ h => h) (Or.inr ⟨by rfl, rfl⟩) hHeld ?_
                (try simp only [Act.put, List.setIfInBounds_toArray, List.set_cons_zero, List.set_cons_succ])
                refine wpAnyM_take (i := 20) (oi := ⟨_, _, _, _, _, _⟩) (v := undef) rfl (by kernel_rfl) (by kernel_rfl) (by kernel_rfl) (by kernel_rfl) (fun _ _ _ h => h) (Or.inr ⟨by rfl, rfl⟩) hHeld ?_
                (try simp only [Act.put, List.setIfInBounds_toArray, List.set_cons_zero, List.set_cons_succ])
                refine wpAnyM_take (i := 21) (oi := ⟨_, _, _, _, _, _⟩) (v := ?_) rfl (by kernel_rfl) (by kernel_rfl) (by kernel_rfl) (by kernel_rfl) (fun _ _ _ h => h) (Or.inl ⟨by rfl, ?_⟩) hHeld ?_
                rotate_left
                · (intro w' hSw; (try dsimp only at hSw); go_simp; try (with_reducible rfl))
                (try simp only [Act.put, List.setIfInBounds_toArray, List.set_cons_zero, List.set_cons_succ])
                refine wpAnyM_done (by kernel_rfl) ?_ _
                go_wp2_with fail
                go_roundg g2
                case rel => exact ⟨k + 1, b0, by go_num, rfl, by omega, by omega, HS, (GW.out.trans (BD.out.mono GW.out.size)).drew⟩
                case measure => omega
              have gi : (d.inp == c.inp) = true := by simp [hin]
              by_cases hnd : td.nd = (nt : Int)
              · have gn : (td.nd == (nt : Int)) = true := by simp [hnd]
                have HS : Hid (oneB ts cs L i (k + 1) = false) := (show _ = false by rw [oneB_succ, GB1.out, sameB, HCK.out, HCI.out, HTD.out, HTI.out, HTND.out]; simp [hin, hnd, hki])
                clear hki hin hnd
                as_aux_lemma =>
                have B1 : Hid (Below ((wr.drew.alloc (.cells #[.int .i64 d.fr, .int .i64 (gd : Int), .int .i64 d.inp] 40))).heap.size ((wr.drew.alloc (.cells #[.int .i64 d.fr, .int .i64 (gd : Int), .int .i64 d.inp] 40))) ((wr.drew.alloc (.cells #[.int .i64 d.fr, .int .i64 (gd : Int), .int .i64 d.inp] 40))).drew) := (Below.refl _ _).drew
                refine wp_region_M (S := fun w' => w'.cell? ⟨wr.heap.size, 2, none⟩ = some (.int .i64 d.inp) ∧ w'.cell? ⟨wo.heap.size, 2, none⟩ = some (.int .i64 c.inp) ∧ w'.cell? ⟨w.heap.size + 1, 0, none⟩ = some (.slice (some ⟨tb, to0, none⟩) ts.length tc) ∧ w'.cell? ⟨wr.heap.size, 1, none⟩ = some (.int .i64 (gd : Int)) ∧ w'.cell? ⟨tb, to0 + gd * 2, none⟩ = some (.int .i64 td.nd) ∧ w'.cell? ⟨wo.heap.size + 1, 0, none⟩ = some (.int .i64 (nt : Int))) (late := []) (by kernel_rfl) (KC.out _ B1.out) (fun hHeld => ?_)
                (try simp only [List.size_toArray, List.length_cons, List.length_nil, Nat.zero_add, Nat.reduceAdd, Array.replicate, List.replicate])
                refine wpAnyM_take (i := 0) (oi := ⟨_, _, _, _, _, _⟩) (v := ?_) rfl (by kernel_rfl) (by kernel_rfl) (by kernel_rfl) (by kernel_rfl) (fun _ _ _ h => h) (Or.inl ⟨by rfl, ?_⟩) hHeld ?_
                rotate_left
                · (intro w' hSw; (try dsimp only at hSw); go_simp; try (with_reducible rfl))
                (try simp only [Act.put, List.setIfInBounds_toArray, List.set_cons_zero, List.set_cons_succ])
                refine wpAnyM_take (i := 1) (oi := ⟨_, _, _, _, _, _⟩) (v := ?_) rfl (by kernel_rfl) (by kernel_rfl) (by kernel_rfl) (by kernel_rfl) (fun _ _ _ h => h) (Or.inl ⟨by rfl, ?_⟩) hHeld ?_
                rotate_left
                · (intro w' hSw; (try dsimp only at hSw); go_simp; try (with_reducible rfl))
                (try simp only [Act.put, List.setIfInBounds_toArray, List.set_cons_zero, List.set_cons_succ])
                refine wpAnyM_take (i := 2) (oi := ⟨_, _, _, _, _, _⟩) (v := ?_) rfl (by kernel_rfl) (by kernel_rfl) (by kernel_rfl) (by kernel_rfl) (fun _ _ _ h => h) (Or.inl ⟨by rfl, ?_⟩) hHeld ?_
                rotate_left
                · (intro w' hSw; (try dsimp only at hSw); go_simp; try (with_reducible rfl))
                (try simp only [Act.put, List.setIfInBounds_toArray, List.set_cons_zero, List.set_cons_succ])
                refine wpAnyM_take (i := 3) (oi := ⟨_, _, _, _, _, _⟩) (v := ?_) rfl (by kernel_rfl) (by kernel_rfl) (by kernel_rfl) (by kernel_rfl) (fun _ _ _ h => h) (Or.inl ⟨by rfl, ?_⟩) hHeld ?_
                rotate_left
                · (intro w' hSw; (try dsimp only at hSw); go_simp; try (with_reducible rfl))
                (try simp only [Act.put, List.setIfInBounds_toArray, List.set_cons_zero, List.set_cons_succ])
                refine wpAnyM_take (i := 4) (oi := ⟨_, _, _, _, _, _⟩) (v := ?_) rfl (by kernel_rfl) (by kernel_rfl) (by kernel_rfl) (by kernel_rfl) (fun _ _ _ h => h) (Or.inl ⟨by rfl, ?_⟩) hHeld ?_
                rotate_left
                · (intro w' hSw; (try dsimp only at hSw); go_simp; try (with_reducible rfl))
                (try simp only [Act.put, List.setIfInBounds_toArray, List.set_cons_zero, List.set_cons_succ])
                refine wpAnyM_take (i := 5) (oi := ⟨_, _, _, _, _, _⟩) (v := ?_) rfl (by kernel_rfl) (by kernel_rfl) (by kernel_rfl) (by kernel_rfl) (fun _ _ _ h => h) (Or.inl ⟨by rfl, ?_⟩) hHeld ?_
                rotate_left
                · (intro w' hSw; (try dsimp only at hSw); go_simp; try (with_reducible rfl))
                (try simp only [Act.put, List.setIfInBounds_toArray, List.set_cons_zero, List.set_cons_succ])
                refine wpAnyM_take (i := 6) (oi := ⟨_, _, _, _, _, _⟩) (v := ?_) rfl (by kernel_rfl) (by kernel_rfl) (by kernel_rfl) (by kernel_rfl) (fun _ _ _ h => h) (Or.inl ⟨by rfl, ?_⟩) hHeld ?_
                rotate_left
                · (intro w' hSw; (try dsimp only at hSw); go_simp; try (with_reducible rfl))
                (try simp only [Act.put, List.setIfInBounds_toArray, List.set_cons_zero, List.set_cons_succ])
                refine wpAnyM_take (i := 7) (oi := ⟨_, _, _, _, _, _⟩) (v := ?_) rfl (by kernel_rfl) (by kernel_rfl) (by kernel_rfl) (by kernel_rfl) (fun _ _ _ h => h) (Or.inl ⟨by rfl, ?_⟩) hHeld ?_
                rotate_left
                · (intro w' hSw; (try dsimp only at hSw); go_simp; try (with_reducible rfl))
                (try simp only [Act.put, List.setIfInBounds_toArray, List.set_cons_zero, List.set_cons_succ])
                refine wpAnyM_take (i := 8) (oi := ⟨_, _, _, _, _, _⟩) (v := ?_) rfl (by kernel_rfl) (by kernel_rfl) (by kernel_rfl) (by kernel_rfl) (fun _ _ _ h => h) (Or.inl ⟨by rfl, ?_⟩) hHeld ?_
                rotate_left
                · (intro w' hSw; (try dsimp only at hSw); go_simp; try (with_reducible rfl))
                (try simp only [Act.put, List.setIfInBounds_toArray, List.set_cons_zero, List.set_cons_succ])
                refine wpAnyM_take (i := 9) (oi := ⟨_, _, _, _, _, _⟩) (v := ?_) rfl (by kernel_rfl) (by kernel_rfl) (by kernel_rfl) (by kernel_rfl) (fun _ _ _ h => h) (Or.inl ⟨by rfl, ?_⟩) hHeld ?_
                rotate_left
                · (intro w' hSw; (try dsimp only at hSw); go_simp; try (with_reducible rfl))
                (try simp only [Act.put, List.setIfInBounds_toArray, List.set_cons_zero, List.set_cons_succ])
                refine wpAnyM_take (i := 10) (oi := ⟨_, _, _, _, _, _⟩) (v := ?_) rfl (by kernel_rfl) (by kernel_rfl) (by kernel_rfl) (by kernel_rfl) (fun _ _ _ h => h) (Or.inl ⟨by rfl, ?_⟩) hHeld ?_
                rotate_left
                · (intro w' hSw; (try dsimp only at hSw); go_simp; try (with_reducible rfl))
                (try simp only [Act.put, List.setIfInBounds_toArray, List.set_cons_zero, List.set_cons_succ])
                refine wpAnyM_take (i := 11) (oi := ⟨_, _, _, _, _, _⟩) (v := ?_) rfl (by kernel_rfl) (by kernel_rfl) (by kernel_rfl) (by kernel_rfl) (fun _ _ _ h => h) (Or.inl ⟨by rfl, ?_⟩) hHeld ?_
                rotate_left
                · (intro w' hSw; (try dsimp only at hSw); go_simp; try (with_reducible rfl))
                (try simp only [Act.put, List.setIfInBounds_toArray, List.set_cons_zero, List.set_cons_succ])
                refine wpAnyM_take (i := 12) (oi := ⟨_, _, _, _, _, _⟩) (v := ?_) rfl (by kernel_rfl) (by kernel_rfl) (by kernel_rfl) (by kernel_rfl) (fun _ _ _ h => h) (Or.inl ⟨by rfl, ?_⟩) hHeld ?_
                rotate_left
                · (intro w' hSw; (try dsimp only at hSw); go_simp; try (with_reducible rfl))
                (try simp only [Act.put, List.setIfInBounds_toArray, List.set_cons_zero, List.set_cons_succ])
                refine wpAnyM_take (i := 13) (oi := ⟨_, _, _, _, _, _⟩) (v := ?_) rfl (by kernel_rfl) (by kernel_rfl) (by kernel_rfl) (by kernel_rfl) (fun _ _ _ h => h) (Or.inl ⟨by rfl, ?_⟩) hHeld ?_
                rotate_left
                · (intro w' hSw; (try dsimp only at hSw); go_simp; try (with_reducible rfl))
                (try simp only [Act.put, List.setIfInBounds_toArray, List.set_cons_zero, List.set_cons_succ])
                refine wpAnyM_take (i := 14) (oi := ⟨_, _, _, _, _, _⟩) (v := ?_) rfl (by kernel_rfl) (by kernel_rfl) (by kernel_rfl) (by kernel_rfl) (fun _ _ _ h => h) (Or.inl ⟨by rfl, ?_⟩) hHeld ?_
                rotate_left
                · (intro w' hSw; (try dsimp only at hSw); go_simp; try (with_reducible rfl))
                (try simp only [Act.put, List.setIfInBounds_toArray, List.set_cons_zero, List.set_cons_succ])
                refine wpAnyM_take (i := 15) (oi := ⟨_, _, _, _, _, _⟩) (v := ?_) rfl (by kernel_rfl) (by kernel_rfl) (by kernel_rfl) (by kernel_rfl) (fun _ _ _ h => h) (Or.inl ⟨by rfl, ?_⟩) hHeld ?_
                rotate_left
                · (intro w' hSw; (try dsimp only at hSw); go_simp; try (with_reducible rfl))
                (try simp only [Act.put, List.setIfInBounds_toArray, List.set_cons_zero, List.set_cons_succ])
                refine wpAnyM_take (i := 16) (oi := ⟨_, _, _, _, _, _⟩) (v := ?_) rfl (by kernel_rfl) (by kernel_rfl) (by kernel_rfl) (by kernel_rfl) (fun _ _ _ h => h) (Or.inl ⟨by rfl, ?_⟩) hHeld ?_
                rotate_left
                · (intro w' hSw; (try dsimp only at hSw); go_simp; try (with_reducible rfl))
                (try simp only [Act.put, List.setIfInBounds_toArray, List.set_cons_zero, List.set_cons_succ])
                refine wpAnyM_take (i := 17) (oi := ⟨_, _, _, _, _, _⟩) (v := ?_) rfl (by kernel_rfl) (by kernel_rfl) (by kernel_rfl) (by kernel_rfl) (fun _ _ _ h => h) (Or.inl ⟨by rfl, ?_⟩) hHeld ?_
                rotate_left
                · (intro w' hSw; (try dsimp only at hSw); go_simp; try (with_reducible rfl))
                (try simp only [Act.put, List.setIfInBounds_toArray, List.set_cons_zero, List.set_cons_succ])
                refine wpAnyM_take (i := 18) (oi := ⟨_, _, _, _, _, _⟩) (v := ?_) rfl (by kernel_rfl) (by kernel_rfl) (by kernel_rfl) (by kernel_rfl) (fun _ _ _ h => h) (Or.inl ⟨by rfl, ?_⟩) hHeld ?_
                rotate_left
                · (intro w' hSw; (try dsimp only at hSw); go_simp; try (with_reducible rfl))
                (try simp only [Act.put, List.setIfInBounds_toArray, List.set_cons_zero, List.set_cons_succ])
                refine wpAnyM_take (i := 19) (oi := ⟨_, _, _, _, _, _⟩) (v := ?_) rfl (by kernel_rfl) (by kernel_rfl) (by kernel_rfl) (by kernel_rfl) (fun _ _ _ h => h) (Or.inl ⟨by rfl, ?_⟩) hHeld ?_
                rotate_left
                · (intro w' hSw; (try dsimp only at hSw); go_simp; try (with_reducible rfl))
                (try simp only [Act.put, List.setIfInBounds_toArray, List.set_cons_zero, List.set_cons_succ])
                refine wpAnyM_take (i := 20) (oi := ⟨_, _, _, _, _, _⟩) (v := ?_) rfl (by kernel_rfl) (by kernel_rfl) (by kernel_rfl) (by kernel_rfl) (fun _ _ _ h => h) (Or.inl ⟨by rfl, ?_⟩) hHeld ?_
                rotate_left
                · (intro w' hSw; (try dsimp only at hSw); go_simp; try (with_reducible rfl))
                (try simp only [Act.put, List.setIfInBounds_toArray, List.set_cons_zero, List.set_cons_succ])
                refine wpAnyM_take (i := 21) (oi := ⟨_, _, _, _, _, _⟩) (v := ?_) rfl (by kernel_rfl) (by kernel_rfl) (by kernel_rfl) (by kernel_rfl) (fun _ _ _ h => h) (Or.inl ⟨by rfl, ?_⟩) hHeld ?_
                rotate_left
                · (intro w' hSw; (try dsimp only at hSw); go_simp; try (with_reducible rfl))
                (try simp only [Act.put, List.setIfInBounds_toArray, List.set_cons_zero, List.set_cons_succ])
                refine wpAnyM_done (by kernel_rfl) ?_ _
                go_wp2_with fail
                go_roundg g2
                case rel => exact ⟨k + 1, false, by go_num, rfl, by omega, by omega, HS, (GW.out.trans (BD.out.mono GW.out.size)).drew⟩
                case measure => omega
              · have gn : (td.nd == (nt : Int)) = false := by simp [hnd]
                have HS : Hid (oneB ts cs L i (k + 1) = b0) := (show _ = b0 by rw [oneB_succ, GB1.out, sameB, HCK.out, HCI.out, HTD.out, HTI.out, HTND.out]; simp [hnd])
                clear hki hin hnd
                as_aux_lemma =>
                have B1 : Hid (Below ((wr.drew.alloc (.cells #[.int .i64 d.fr, .int .i64 (gd : Int), .int .i64 d.inp] 40))).heap.size ((wr.drew.alloc (.cells #[.int .i64 d.fr, .int .i64 (gd : Int), .int .i64 d.inp] 40))) ((wr.drew.alloc (.cells #[.int .i64 d.fr, .int .i64 (gd : Int), .int .i64 d.inp] 40))).drew) := (Below.refl _ _).drew
                refine wp_region_M (S := fun w' => w'.cell? ⟨wr.heap.size, 2, none⟩ = some (.int .i64 d.inp) ∧ w'.cell? ⟨wo.heap.size, 2, none⟩ = some (.int .i64 c.inp) ∧ w'.cell? ⟨w.heap.size + 1, 0, none⟩ = some (.slice (some ⟨tb, to0, none⟩) ts.length tc) ∧ w'.cell? ⟨wr.heap.size, 1, none⟩ = some (.int .i64 (gd : Int)) ∧ w'.cell? ⟨tb, to0 + gd * 2, none⟩ = some (.int .i64 td.nd) ∧ w'.cell? ⟨wo.heap.size + 1, 0, none⟩ = some (.int .i64 (nt : Int))) (late := []) (by kernel_rfl) (KC.out _ B1.out) (fun hHeld => ?_)
                (try simp only [List.size_toArray, List.length_cons, List.length_nil, Nat.zero_add, Nat.reduceAdd, Array.replicate, List.replicate])
                refine wpAnyM_take (i := 0) (oi := ⟨_, _, _, _, _, _⟩) (v := ?_) rfl (by kernel_rfl) (by kernel_rfl) (by kernel_rfl) (by kernel_rfl) (fun _ _ _ h => h) (Or.inl ⟨by rfl, ?_⟩) hHeld ?_
                rotate_left
                · (intro w' hSw; (try dsimp only at hSw); go_simp; try (with_reducible rfl))
                (try simp only [Act.put, List.setIfInBounds_toArray, List.set_cons_zero, List.set_cons_succ])
                refine wpAnyM_take (i := 1) (oi := ⟨_, _, _, _, _, _⟩) (v := ?_) rfl (by kernel_rfl) (by kernel_rfl) (by kernel_rfl) (by kernel_rfl) (fun _ _ _ h => h) (Or.inl ⟨by rfl, ?_⟩) hHeld ?_
                rotate_left
                · (intro w' hSw; (try dsimp only at hSw); go_simp; try (with_reducible rfl))
                (try simp only [Act.put, List.setIfInBounds_toArray, List.set_cons_zero, List.set_cons_succ])
                refine wpAnyM_take (i := 2) (oi := ⟨_, _, _, _, _, _⟩) (v := ?_) rfl (by kernel_rfl) (by kernel_rfl) (by kernel_rfl) (by kernel_rfl) (fun _ _ _ h => h) (Or.inl ⟨by rfl, ?_⟩) hHeld ?_
                rotate_left
                · (intro w' hSw; (try dsimp only at hSw); go_simp; try (with_reducible rfl))
                (try simp only [Act.put, List.setIfInBounds_toArray, List.set_cons_zero, List.set_cons_succ])
                refine wpAnyM_take (i := 3) (oi := ⟨_, _, _, _, _, _⟩) (v := ?_) rfl (by kernel_rfl) (by kernel_rfl) (by kernel_rfl) (by kernel_rfl) (fun _ _ _ h => h) (Or.inl ⟨by rfl, ?_⟩) hHeld ?_
                rotate_left
                · (intro w' hSw; (try dsimp only at hSw); go_simp; try (with_reducible rfl))
                (try simp only [Act.put, List.setIfInBounds_toArray, List.set_cons_zero, List.set_cons_succ])
                refine wpAnyM_take (i := 4) (oi := ⟨_, _, _, _, _, _⟩) (v := ?_) rfl (by kernel_rfl) (by kernel_rfl) (by kernel_rfl) (by kernel_rfl) (fun _ _ _ h => h) (Or.inl ⟨by rfl, ?_⟩) hHeld ?_
                rotate_left
                · (intro w' hSw; (try dsimp only at hSw); go_simp; try (with_reducible rfl))
                (try simp only [Act.put, List.setIfInBounds_toArray, List.set_cons_zero, List.set_cons_succ])
                refine wpAnyM_take (i := 5) (oi := ⟨_, _, _, _, _, _⟩) (v := ?_) rfl (by kernel_rfl) (by kernel_rfl) (by kernel_rfl) (by kernel_rfl) (fun _ _ _ h => h) (Or.inl ⟨by rfl, ?_⟩) hHeld ?_
                rotate_left
                · (intro w' hSw; (try dsimp only at hSw); go_simp; try (with_reducible rfl))
                (try simp only [Act.put, List.setIfInBounds_toArray, List.set_cons_zero, List.set_cons_succ])
                refine wpAnyM_take (i := 6) (oi := ⟨_, _, _, _, _, _⟩) (v := ?_) rfl (by kernel_rfl) (by kernel_rfl) (by kernel_rfl) (by kernel_rfl) (fun _ _ _ h => h) (Or.inl ⟨by rfl, ?_⟩) hHeld ?_
                rotate_left
                · (intro w' hSw; (try dsimp only at hSw); go_simp; try (with_reducible rfl))
                (try simp only [Act.put, List.setIfInBounds_toArray, List.set_cons_zero, List.set_cons_succ])
                refine wpAnyM_take (i := 7) (oi := ⟨_, _, _, _, _, _⟩) (v := ?_) rfl (by kernel_rfl) (by kernel_rfl) (by kernel_rfl) (by kernel_rfl) (fun _ _ _ h => h) (Or.inl ⟨by rfl, ?_⟩) hHeld ?_
                rotate_left
                · (intro w' hSw; (try dsimp only at hSw); go_simp; try (with_reducible rfl))
                (try simp only [Act.put, List.setIfInBounds_toArray, List.set_cons_zero, List.set_cons_succ])
                refine wpAnyM_take (i := 8) (oi := ⟨_, _, _, _, _, _⟩) (v := ?_) rfl (by kernel_rfl) (by kernel_rfl) (by kernel_rfl) (by kernel_rfl) (fun _ _ _ h => h) (Or.inl ⟨by rfl, ?_⟩) hHeld ?_
                rotate_left
                · (intro w' hSw; (try dsimp only at hSw); go_simp; try (with_reducible rfl))
                (try simp only [Act.put, List.setIfInBounds_toArray, List.set_cons_zero, List.set_cons_succ])
                refine wpAnyM_take (i := 9) (oi := ⟨_, _, _, _, _, _⟩) (v := ?_) rfl (by kernel_rfl) (by kernel_rfl) (by kernel_rfl) (by kernel_rfl) (fun _ _ _ h => h) (Or.inl ⟨by rfl, ?_⟩) hHeld ?_
                rotate_left
                · (intro w' hSw; (try dsimp only at hSw); go_simp; try (with_reducible rfl))
                (try simp only [Act.put, List.setIfInBounds_toArray, List.set_cons_zero, List.set_cons_succ])
                refine wpAnyM_take (i := 10) (oi := ⟨_, _, _, _, _, _⟩) (v := ?_) rfl (by kernel_rfl) (by kernel_rfl) (by kernel_rfl) (by kernel_rfl) (fun _ _ _ h => h) (Or.inl ⟨by rfl, ?_⟩) hHeld ?_
                rotate_left
                · (intro w' hSw; (try dsimp only at hSw); go_simp; try (with_reducible rfl))
                (try simp only [Act.put, List.setIfInBounds_toArray, List.set_cons_zero, List.set_cons_succ])
                refine wpAnyM_take (i := 11) (oi := ⟨_, _, _, _, _, _⟩) (v := ?_) rfl (by kernel_rfl) (by kernel_rfl) (by kernel_rfl) (by kernel_rfl) (fun _ _ _ h => h) (Or.inl ⟨by rfl, ?_⟩) hHeld ?_
                rotate_left
                · (intro w' hSw; (try dsimp only at hSw); go_simp; try (with_reducible rfl))
                (try simp only [Act.put, List.setIfInBounds_toArray, List.set_cons_zero, List.set_cons_succ])
                refine wpAnyM_take (i := 12) (oi := ⟨_, _, _, _, _, _⟩) (v := ?_) rfl (by kernel_rfl) (by kernel_rfl) (by kernel_rfl) (by kernel_rfl) (fun _ _ _ h => h) (Or.inl ⟨by rfl, ?_⟩) hHeld ?_
                rotate_left
                · (intro w' hSw; (try dsimp only at hSw); go_simp; try (with_reducible rfl))
                (try simp only [Act.put, List.setIfInBounds_toArray, List.set_cons_zero, List.set_cons_succ])
                refine wpAnyM_take (i := 13) (oi := ⟨_, _, _, _, _, _⟩) (v := ?_) rfl (by kernel_rfl) (by kernel_rfl) (by kernel_rfl) (by kernel_rfl) (fun _ _ _ h => h) (Or.inl ⟨by rfl, ?_⟩) hHeld ?_
                rotate_left
                · (intro w' hSw; (try dsimp only at hSw); go_simp; try (with_reducible rfl))
                (try simp only [Act.put, List.setIfInBounds_toArray, List.set_cons_zero, List.set_cons_succ])
                refine wpAnyM_take (i := 14) (oi := ⟨_, _, _, _, _, _⟩) (v := ?_) rfl (by kernel_rfl) (by kernel_rfl) (by kernel_rfl) (by kernel_rfl) (fun _ _ _ h => h) (Or.inl ⟨by rfl, ?_⟩) hHeld ?_
                rotate_left
                · (intro w' hSw; (try dsimp only at hSw); go_simp; try (with_reducible rfl))
                (try simp only [Act.put, List.setIfInBounds_toArray, List.set_cons_zero, List.set_cons_succ])
                refine wpAnyM_take (i := 15) (oi := ⟨_, _, _, _, _, _⟩) (v := ?_) rfl (by kernel_rfl) (by kernel_rfl) (by kernel_rfl) (by kernel_rfl) (fun _ _ _ h => h) (Or.inl ⟨by rfl, ?_⟩) hHeld ?_
                rotate_left
                · (intro w' hSw; (try dsimp only at hSw); go_simp; try (with_reducible rfl))
                (try simp only [Act.put, List.setIfInBounds_toArray, List.set_cons_zero, List.set_cons_succ])
                refine wpAnyM_take (i := 16) (oi := ⟨_, _, _, _, _, _⟩) (v := ?_) rfl (by kernel_rfl) (by kernel_rfl) (by kernel_rfl) (by kernel_rfl) (fun _ _ _ h => h) (Or.inl ⟨by rfl, ?_⟩) hHeld ?_
                rotate_left
                · (intro w' hSw; (try dsimp only at hSw); go_simp; try (with_reducible rfl))
                (try simp only [Act.put, List.setIfInBounds_toArray, List.set_cons_zero, List.set_cons_succ])
                refine wpAnyM_take (i := 17) (oi := ⟨_, _, _, _, _, _⟩) (v := ?_) rfl (by kernel_rfl) (by kernel_rfl) (by kernel_rfl) (by kernel_rfl) (fun _ _ _ h => h) (Or.inl ⟨by rfl, ?_⟩) hHeld ?_
                rotate_left
                · (intro w' hSw; (try dsimp only at hSw); go_simp; try (with_reducible rfl))
                (try simp only [Act.put, List.setIfInBounds_toArray, List.set_cons_zero, List.set_cons_succ])
                refine wpAnyM_take (i := 18) (oi := ⟨_, _, _, _, _, _⟩) (v := ?_) rfl (by kernel_rfl) (by kernel_rfl) (by kernel_rfl) (by kernel_rfl) (fun _ _ _ h => h) (Or.inl ⟨by rfl, ?_⟩) hHeld ?_
                rotate_left
                · (intro w' hSw; (try dsimp only at hSw); go_simp; try (with_reducible rfl))
                (try simp only [Act.put, List.setIfInBounds_toArray, List.set_cons_zero, List.set_cons_succ])
                refine wpAnyM_take (i := 19) (oi := ⟨_, _, _, _, _, _⟩) (v := ?_) rfl (by kernel_rfl) (by kernel_rfl) (by kernel_rfl) (by kernel_rfl) (fun _ _ _ h => h) (Or.inl ⟨by rfl, ?_⟩) hHeld ?_
                rotate_left
                · (intro w' hSw; (try dsimp only at hSw); go_simp; try (with_reducible rfl))
                (try simp only [Act.put, List.setIfInBounds_toArray, List.set_cons_zero, List.set_cons_succ])
                refine wpAnyM_take (i := 20) (oi := ⟨_, _, _, _, _, _⟩) (v := ?_) rfl (by kernel_rfl) (by kernel_rfl) (by kernel_rfl) (by kernel_rfl) (fun _ _ _ h => h) (Or.inl ⟨by rfl, ?_⟩) hHeld ?_
                rotate_left
                · (intro w' hSw; (try dsimp only at hSw); go_simp; try (with_reducible rfl))
                (try simp only [Act.put, List.setIfInBounds_toArray, List.set_cons_zero, List.set_cons_succ])
                refine wpAnyM_take (i := 21) (oi := ⟨_, _, _, _, _, _⟩) (v := ?_) rfl (by kernel_rfl) (by kernel_rfl) (by kernel_rfl) (by kernel_rfl) (fun _ _ _ h => h) (Or.inl ⟨by rfl, ?_⟩) hHeld ?_
                rotate_left
                · (intro w' hSw; (try dsimp only at hSw); go_simp; try (with_reducible rfl))
                (try simp only [Act.put, List.setIfInBounds_toArray, List.set_cons_zero, List.set_cons_succ])
                refine wpAnyM_done (by kernel_rfl) ?_ _
                go_wp2_with fail
                go_roundg g2
                case rel => exact ⟨k + 1, b0, by go_num, rfl, by omega, by omega, HS, (GW.out.trans (BD.out.mono GW.out.size)).drew⟩
                case measure => omega
          · have bk : ¬ (k : Int) < (L.length : Int) := by omega
            have hke : k = L.length := by omega
            rw [hke] at GB1
            clear hke
            have KC : Hid (∀ w' : World, Below wr.heap.size wr w' → w'.cell? ⟨wo.heap.size + 1, 1, none⟩ = some (.int .i64 t.pt) ∧ w'.cell? ⟨w.heap.size, 0, none⟩ = some (.slice (some ⟨nb, no, none⟩) ns.length ncp) ∧ w'.cell? ⟨wo.heap.size + 1, 0, none⟩ = some (.int .i64 (nt : Int)) ∧ w'.cell? ⟨nb, no + nt * 10 + 2, none⟩ = some (.int .i64 n.par)) := fun w' h => by
              have h5 := GW.out.trans (h.mono GW.out.size)
              obtain ⟨z2, z, _⟩ := HBW.out _ h5
              exact ⟨(by rw [(XT5.out.below h5).cellAt]; rfl), (by rw [(X24.out.below z2).cellAt]; rfl), (by rw [(XT5.out.below h5).cellAt]; rfl), HNR.out _ z⟩
            have HG23 : Hid (∀ w', Below wr.heap.size wr w' → Calls Try.prog 23 #[.int .i64 key] w' fun e w'' => e = .returned (.int .i64 (gk0 : Int)) ∧ Below wr.heap.size wr w'') := fun w' h => (HGK.out w').mono (fun _ _ ⟨h1, h2⟩ => ⟨h1, h2 ▸ h⟩)
            obtain ⟨pr, hpr⟩ : ∃ p, prt (gk0 : Int) n.par = p := ⟨_, rfl⟩
            have HP25 : Hid (∀ w', Below wr.heap.size wr w' → Calls Try.prog 25 #[.int .i64 (gk0 : Int), .int .i64 n.par] w' fun e w'' => e = .returned (.int .i64 pr) ∧ Below wr.heap.size wr w'') := fun w' h => (RPart_any w' (gk0 : Int) n.par).mono (fun _ _ ⟨h1, h2⟩ => ⟨by rw [← hpr]; exact h1, h2 ▸ h⟩)
            rw [GB1.out, hpr] at OKB
            have HSU := hide (outR_succ ns ts cs L (gk0 : Int) i)
            rw [HGX.out] at HSU
            clear hpr k0 k1 k2
            cases b0 with
            | true =>
              have ho : okB ns ts cs L (gk0 : Int) i = true := by rw [OKB.out]; rfl
              rw [ho, if_pos rfl] at HSU
              clear ho
              as_aux_lemma =>
              go_wp2_with fail
              have B1 : Hid (Below (wr).heap.size (wr) (wr).drew) := (Below.refl _ _).drew
              refine wp_region_M (S := fun w' => w'.cell? ⟨wo.heap.size + 1, 1, none⟩ = some (.int .i64 t.pt) ∧ w'.cell? ⟨w.heap.size, 0, none⟩ = some (.slice (some ⟨nb, no, none⟩) ns.length ncp) ∧ w'.cell? ⟨wo.heap.size + 1, 0, none⟩ = some (.int .i64 (nt : Int)) ∧ w'.cell? ⟨nb, no + nt * 10 + 2, none⟩ = some (.int .i64 n.par)) (late := []) (by kernel_rfl) (KC.out _ B1.out) (fun hHeld => ?_)
              (try simp only [List.size_toArray, List.length_cons, List.length_nil, Nat.zero_add, Nat.reduceAdd, Array.replicate, List.replicate])
              refine wpAnyM_take (i := 0) (oi := ⟨_, _, _, _, _, _⟩) (v := ?_) rfl (by kernel_rfl) (by kernel_rfl) (by kernel_rfl) (by kernel_rfl) (fun _ _ _ h => h) (Or.inl ⟨by rfl, ?_⟩) hHeld ?_
              rotate_left
              · (intro w' hSw; (try dsimp only at hSw); go_simp; try (with_reducible rfl))
              (try simp only [Act.put, List.setIfInBounds_toArray, List.set_cons_zero, List.set_cons_succ])
              refine wpAnyM_take (i := 1) (oi := ⟨_, _, _, _, _, _⟩) (v := ?_) rfl (by kernel_rfl) (by kernel_rfl) (by kernel_rfl) (by kernel_rfl) (fun _ _ _ h => h) (Or.inl ⟨by rfl, ?_⟩) hHeld ?_
              rotate_left
              · (intro w' hSw; (try dsimp only at hSw); go_simp; try (with_reducible rfl))
              (try simp only [Act.put, List.setIfInBounds_toArray, List.set_cons_zero, List.set_cons_succ])
              refine wpAnyM_take (i := 2) (oi := ⟨_, _, _, _, _, _⟩) (v := undef) rfl (by kernel_rfl) (by kernel_rfl) (by kernel_rfl) (by kernel_rfl) (fun _ _ _ h => h) (Or.inr ⟨by rfl, rfl⟩) hHeld ?_
              (try simp only [Act.put, List.setIfInBounds_toArray, List.set_cons_zero, List.set_cons_succ])
              refine wpAnyM_take (i := 3) (oi := ⟨_, _, _, _, _, _⟩) (v := undef) rfl (by kernel_rfl) (by kernel_rfl) (by kernel_rfl) (by kernel_rfl) (fun _ _ _ h => h) (Or.inr ⟨by rfl, rfl⟩) hHeld ?_
              (try simp only [Act.put, List.setIfInBounds_toArray, List.set_cons_zero, List.set_cons_succ])
              refine wpAnyM_take (i := 4) (oi := ⟨_, _, _, _, _, _⟩) (v := undef) rfl (by kernel_rfl) (by kernel_rfl) (by kernel_rfl) (by kernel_rfl) (fun _ _ _ h => h) (Or.inr ⟨by rfl, rfl⟩) hHeld ?_
              (try simp only [Act.put, List.setIfInBounds_toArray, List.set_cons_zero, List.set_cons_succ])
              refine wpAnyM_take (i := 5) (oi := ⟨_, _, _, _, _, _⟩) (v := undef) rfl (by kernel_rfl) (by kernel_rfl) (by kernel_rfl) (by kernel_rfl) (fun _ _ _ h => h) (Or.inr ⟨by rfl, rfl⟩) hHeld ?_
              (try simp only [Act.put, List.setIfInBounds_toArray, List.set_cons_zero, List.set_cons_succ])
              refine wpAnyM_take (i := 6) (oi := ⟨_, _, _, _, _, _⟩) (v := undef) rfl (by kernel_rfl) (by kernel_rfl) (by kernel_rfl) (by kernel_rfl) (fun _ _ _ h => h) (Or.inr ⟨by rfl, rfl⟩) hHeld ?_
              (try simp only [Act.put, List.setIfInBounds_toArray, List.set_cons_zero, List.set_cons_succ])
              refine wpAnyM_take (i := 7) (oi := ⟨_, _, _, _, _, _⟩) (v := undef) rfl (by kernel_rfl) (by kernel_rfl) (by kernel_rfl) (by kernel_rfl) (fun _ _ _ h => h) (Or.inr ⟨by rfl, rfl⟩) hHeld ?_
              (try simp only [Act.put, List.setIfInBounds_toArray, List.set_cons_zero, List.set_cons_succ])
              refine wpAnyM_take (i := 8) (oi := ⟨_, _, _, _, _, _⟩) (v := undef) rfl (by kernel_rfl) (by kernel_rfl) (by kernel_rfl) (by kernel_rfl) (fun _ _ _ h => h) (Or.inr ⟨by rfl, rfl⟩) hHeld ?_
              (try simp only [Act.put, List.setIfInBounds_toArray, List.set_cons_zero, List.set_cons_succ])
              refine wpAnyM_take (i := 9) (oi := ⟨_, _, _, _, _, _⟩) (v := undef) rfl (by kernel_rfl) (by kernel_rfl) (by kernel_rfl) (by kernel_rfl) (fun _ _ _ h => h) (Or.inr ⟨by rfl, rfl⟩) hHeld ?_
              (try simp only [Act.put, List.setIfInBounds_toArray, List.set_cons_zero, List.set_cons_succ])
              refine wpAnyM_take (i := 10) (oi := ⟨_, _, _, _, _, _⟩) (v := undef) rfl (by kernel_rfl) (by kernel_rfl) (by kernel_rfl) (by kernel_rfl) (fun _ _ _ h => h) (Or.inr ⟨by rfl, rfl⟩) hHeld ?_
              (try simp only [Act.put, List.setIfInBounds_toArray, List.set_cons_zero, List.set_cons_succ])
              refine wpAnyM_take (i := 11) (oi := ⟨_, _, _, _, _, _⟩) (v := undef) rfl (by kernel_rfl) (by kernel_rfl) (by kernel_rfl) (by kernel_rfl) (fun _ _ _ h => h) (Or.inr ⟨by rfl, rfl⟩) hHeld ?_
              (try simp only [Act.put, List.setIfInBounds_toArray, List.set_cons_zero, List.set_cons_succ])
              refine wpAnyM_take (i := 12) (oi := ⟨_, _, _, _, _, _⟩) (v := undef) rfl (by kernel_rfl) (by kernel_rfl) (by kernel_rfl) (by kernel_rfl) (fun _ _ _ h => h) (Or.inr ⟨by rfl, rfl⟩) hHeld ?_
              (try simp only [Act.put, List.setIfInBounds_toArray, List.set_cons_zero, List.set_cons_succ])
              refine wpAnyM_take (i := 13) (oi := ⟨_, _, _, _, _, _⟩) (v := undef) rfl (by kernel_rfl) (by kernel_rfl) (by kernel_rfl) (by kernel_rfl) (fun _ _ _ h => h) (Or.inr ⟨by rfl, rfl⟩) hHeld ?_
              (try simp only [Act.put, List.setIfInBounds_toArray, List.set_cons_zero, List.set_cons_succ])
              refine wpAnyM_take (i := 14) (oi := ⟨_, _, _, _, _, _⟩) (v := undef) rfl (by kernel_rfl) (by kernel_rfl) (by kernel_rfl) (by kernel_rfl) (fun _ _ _ h => h) (Or.inr ⟨by rfl, rfl⟩) hHeld ?_
              (try simp only [Act.put, List.setIfInBounds_toArray, List.set_cons_zero, List.set_cons_succ])
              refine wpAnyM_take (i := 15) (oi := ⟨_, _, _, _, _, _⟩) (v := ?_) rfl (by kernel_rfl) (by kernel_rfl) (by kernel_rfl) (by kernel_rfl) (fun _ _ _ h => h) (Or.inl ⟨by rfl, ?_⟩) hHeld ?_
              rotate_left
              · (intro w' hSw; (try dsimp only at hSw); go_simp; try (with_reducible rfl))
              (try simp only [Act.put, List.setIfInBounds_toArray, List.set_cons_zero, List.set_cons_succ])
              refine wpAnyM_done (by kernel_rfl) ?_ _
              have bz0 : Below wr.heap.size wr wr.drew := (Below.refl _ _).drew
              have bz2' := BW2.out.trans (bz0.mono BW2.out.size)
              have cl3 := HLX.out _ bz2'
              have OZ := hide (OwnL.below GO.out (BWO.out.trans (bz0.mono BWO.out.size)))
              have BZ := hide bz2'
              have HNW : Hid ((wr.drew.alloc (.cells #[.int .i64 (x : Int)] 3)).cell? ⟨wr.drew.heap.size, 0, none⟩ = some (.int .i64 (x : Int))) := (show _ = _ by rw [(BoxT.new 3 (wr.drew) _).cellAt]; rfl)
              have HBS : Hid (w2.heap.size ≤ (wr.drew.alloc (.cells #[.int .i64 (x : Int)] 3)).heap.size) := Nat.le_trans BZ.out.size (by first | (simp; done) | (simp; omega))
              have HPL : Hid ((outR ns ts cs L (gk0 : Int) i).length ≤ 1000000) := Nat.le_trans (outR_len _ _ _ _ _ _) (by omega)
              clear bz0 bz2'
              go_wp2_with (at_builtin; refine app_ownN (by kernel_rfl) rfl _ _ rfl w2.heap.size u9 _ rfl (OwnL.alloc OZ.out _) ⟨wr.drew.heap.size, 0, none⟩ 1 x rfl HNW.out HPL.out HBS.out ?_; intro v4 w4 h4 q4 n4)
              go_roundg g1
              case rel => exact ⟨i + 1, by go_num, by omega, by omega, (show OwnN _ _ _ _ by rw [HSU.out]; exact h4), (BZ.out.alloc BZ.out.size _).grown q4 HBS.out (fun k e => OZ.out.at k e)⟩
              case measure => omega
            | false =>
              by_cases hpt : t.pt = pr
              · have gp : (t.pt == pr) = true := by simp [hpt]
                have ho : okB ns ts cs L (gk0 : Int) i = true := by rw [OKB.out]; simp [hpt]
                rw [ho, if_pos rfl] at HSU
                clear ho hpt
                as_aux_lemma =>
                go_wp2_with fail
                have B1 : Hid (Below (wr).heap.size (wr) (wr).drew) := (Below.refl _ _).drew
                refine wp_region_M (S := fun w' => w'.cell? ⟨wo.heap.size + 1, 1, none⟩ = some (.int .i64 t.pt) ∧ w'.cell? ⟨w.heap.size, 0, none⟩ = some (.slice (some ⟨nb, no, none⟩) ns.length ncp) ∧ w'.cell? ⟨wo.heap.size + 1, 0, none⟩ = some (.int .i64 (nt : Int)) ∧ w'.cell? ⟨nb, no + nt * 10 + 2, none⟩ = some (.int .i64 n.par)) (late := []) (by kernel_rfl) (KC.out _ B1.out) (fun hHeld => ?_)
                (try simp only [List.size_toArray, List.length_cons, List.length_nil, Nat.zero_add, Nat.reduceAdd, Array.replicate, List.replicate])
                refine wpAnyM_take (i := 0) (oi := ⟨_, _, _, _, _, _⟩) (v := ?_) rfl (by kernel_rfl) (by kernel_rfl) (by kernel_rfl) (by kernel_rfl) (fun _ _ _ h => h) (Or.inl ⟨by rfl, ?_⟩) hHeld ?_
                rotate_left
                · (intro w' hSw; (try dsimp only at hSw); go_simp; try (with_reducible rfl))
                (try simp only [Act.put, List.setIfInBounds_toArray, List.set_cons_zero, List.set_cons_succ])
                refine wpAnyM_take (i := 1) (oi := ⟨_, _, _, _, _, _⟩) (v := ?_) rfl (by kernel_rfl) (by kernel_rfl) (by kernel_rfl) (by kernel_rfl) (fun _ _ _ h => h) (Or.inl ⟨by rfl, ?_⟩) hHeld ?_
                rotate_left
                · (intro w' hSw; (try dsimp only at hSw); go_simp; try (with_reducible rfl))
                (try simp only [Act.put, List.setIfInBounds_toArray, List.set_cons_zero, List.set_cons_succ])
                refine wpAnyM_take (i := 2) (oi := ⟨_, _, _, _, _, _⟩) (v := ?_) rfl (by kernel_rfl) (by kernel_rfl) (by kernel_rfl) (by kernel_rfl) (fun _ _ _ h => h) (Or.inl ⟨by rfl, ?_⟩) hHeld ?_
                rotate_left
                · (intro w' hSw; (try dsimp only at hSw); go_simp; try (with_reducible rfl))
                (try simp only [Act.put, List.setIfInBounds_toArray, List.set_cons_zero, List.set_cons_succ])
                refine wpAnyM_take (i := 3) (oi := ⟨_, _, _, _, _, _⟩) (v := ?_) rfl (by kernel_rfl) (by kernel_rfl) (by kernel_rfl) (by kernel_rfl) (fun _ _ _ h => h) (Or.inl ⟨by rfl, ?_⟩) hHeld ?_
                rotate_left
                · (intro w' hSw; (try dsimp only at hSw); go_simp; try (with_reducible rfl))
                (try simp only [Act.put, List.setIfInBounds_toArray, List.set_cons_zero, List.set_cons_succ])
                refine wpAnyM_take (i := 4) (oi := ⟨_, _, _, _, _, _⟩) (v := ?_) rfl (by kernel_rfl) (by kernel_rfl) (by kernel_rfl) (by kernel_rfl) (fun _ _ _ h => h) (Or.inl ⟨by rfl, ?_⟩) hHeld ?_
                rotate_left
                · (intro w' hSw; (try dsimp only at hSw); go_simp; try (with_reducible rfl))
                (try simp only [Act.put, List.setIfInBounds_toArray, List.set_cons_zero, List.set_cons_succ])
                refine wpAnyM_take (i := 6) (oi := ⟨_, _, _, _, _, _⟩) (v := ?_) rfl (by kernel_rfl) (by kernel_rfl) (by kernel_rfl) (by kernel_rfl) (fun _ _ _ h => h) (Or.inl ⟨by rfl, ?_⟩) hHeld ?_
                rotate_left
                · (intro w' hSw; (try dsimp only at hSw); go_simp; try (with_reducible rfl))
                (try simp only [Act.put, List.setIfInBounds_toArray, List.set_cons_zero, List.set_cons_succ])
                refine wpAnyM_take (i := 7) (oi := ⟨_, _, _, _, _, _⟩) (v := ?_) rfl (by kernel_rfl) (by kernel_rfl) (by kernel_rfl) (by kernel_rfl) (fun _ _ _ h => h) (Or.inl ⟨by rfl, ?_⟩) hHeld ?_
                rotate_left
                · (intro w' hSw; (try dsimp only at hSw); go_simp; try (with_reducible rfl))
                (try simp only [Act.put, List.setIfInBounds_toArray, List.set_cons_zero, List.set_cons_succ])
                refine wpAnyM_take (i := 8) (oi := ⟨_, _, _, _, _, _⟩) (v := ?_) rfl (by kernel_rfl) (by kernel_rfl) (by kernel_rfl) (by kernel_rfl) (fun _ _ _ h => h) (Or.inl ⟨by rfl, ?_⟩) hHeld ?_
                rotate_left
                · (intro w' hSw; (try dsimp only at hSw); go_simp; try (with_reducible rfl))
                (try simp only [Act.put, List.setIfInBounds_toArray, List.set_cons_zero, List.set_cons_succ])
                refine wpAnyM_take (i := 9) (oi := ⟨_, _, _, _, _, _⟩) (v := ?_) rfl (by kernel_rfl) (by kernel_rfl) (by kernel_rfl) (by kernel_rfl) (fun _ _ _ h => h) (Or.inl ⟨by rfl, ?_⟩) hHeld ?_
                rotate_left
                · (intro w' hSw; (try dsimp only at hSw); go_simp; try (with_reducible rfl))
                (try simp only [Act.put, List.setIfInBounds_toArray, List.set_cons_zero, List.set_cons_succ])
                refine wpAnyM_take (i := 10) (oi := ⟨_, _, _, _, _, _⟩) (v := ?_) rfl (by kernel_rfl) (by kernel_rfl) (by kernel_rfl) (by kernel_rfl) (fun _ _ _ h => h) (Or.inl ⟨by rfl, ?_⟩) hHeld ?_
                rotate_left
                · (intro w' hSw; (try dsimp only at hSw); go_simp; try (with_reducible rfl))
                (try simp only [Act.put, List.setIfInBounds_toArray, List.set_cons_zero, List.set_cons_succ])
                refine wpAnyM_take (i := 11) (oi := ⟨_, _, _, _, _, _⟩) (v := ?_) rfl (by kernel_rfl) (by kernel_rfl) (by kernel_rfl) (by kernel_rfl) (fun _ _ _ h => h) (Or.inl ⟨by rfl, ?_⟩) hHeld ?_
                rotate_left
                · (intro w' hSw; (try dsimp only at hSw); go_simp; try (with_reducible rfl))
                (try simp only [Act.put, List.setIfInBounds_toArray, List.set_cons_zero, List.set_cons_succ])
                refine wpAnyM_take (i := 12) (oi := ⟨_, _, _, _, _, _⟩) (v := ?_) rfl (by kernel_rfl) (by kernel_rfl) (by kernel_rfl) (by kernel_rfl) (fun _ _ _ h => h) (Or.inl ⟨by rfl, ?_⟩) hHeld ?_
                rotate_left
                · (intro w' hSw; (try dsimp only at hSw); go_simp; try (with_reducible rfl))
                (try simp only [Act.put, List.setIfInBounds_toArray, List.set_cons_zero, List.set_cons_succ])
                refine wpAnyM_one (i := 5) (o := ⟨_, _, _, _, _, _⟩) (by kernel_rfl) rfl (fun K hK => ?_)
                go_simp
                go_at_call 23
                refine (HG23.out _ B1.out).mono ?_
                rintro e w9 ⟨rfl, hb⟩
                have B2 := hide hb
                refine hK.out _ _ (KC.out _ hb) (fun hHeld => ?_)
                clear hK K hb
                (try simp only [List.setIfInBounds_toArray, List.set_cons_zero, List.set_cons_succ])
                refine wpAnyM_one (i := 13) (o := ⟨_, _, _, _, _, _⟩) (by kernel_rfl) rfl (fun K hK => ?_)
                go_simp
                go_at_call 25
                refine (HP25.out _ B2.out).mono ?_
                rintro e w3 ⟨rfl, hb⟩
                have B3 := hide hb
                refine hK.out _ _ (KC.out _ hb) (fun hHeld => ?_)
                clear hK K hb
                (try simp only [List.setIfInBounds_toArray, List.set_cons_zero, List.set_cons_succ])
                refine wpAnyM_take (i := 14) (oi := ⟨_, _, _, _, _, _⟩) (v := ?_) rfl (by kernel_rfl) (by kernel_rfl) (by kernel_rfl) (by kernel_rfl) (fun _ _ _ h => h) (Or.inl ⟨by rfl, ?_⟩) hHeld ?_
                rotate_left
                · (intro w' hSw; (try dsimp only at hSw); go_simp; try (with_reducible rfl))
                (try simp only [Act.put, List.setIfInBounds_toArray, List.set_cons_zero, List.set_cons_succ])
                refine wpAnyM_take (i := 15) (oi := ⟨_, _, _, _, _, _⟩) (v := ?_) rfl (by kernel_rfl) (by kernel_rfl) (by kernel_rfl) (by kernel_rfl) (fun _ _ _ h => h) (Or.inl ⟨by rfl, ?_⟩) hHeld ?_
                rotate_left
                · (intro w' hSw; (try dsimp only at hSw); go_simp; try (with_reducible rfl))
                (try simp only [Act.put, List.setIfInBounds_toArray, List.set_cons_zero, List.set_cons_succ])
                refine wpAnyM_done (by kernel_rfl) ?_ _
                have bz0 : Below wr.heap.size wr w3 := B3.out
                have bz2' := BW2.out.trans (bz0.mono BW2.out.size)
                have cl3 := HLX.out _ bz2'
                have OZ := hide (OwnL.below GO.out (BWO.out.trans (bz0.mono BWO.out.size)))
                have BZ := hide bz2'
                have HNW : Hid ((w3.alloc (.cells #[.int .i64 (x : Int)] 3)).cell? ⟨w3.heap.size, 0, none⟩ = some (.int .i64 (x : Int))) := (show _ = _ by rw [(BoxT.new 3 (w3) _).cellAt]; rfl)
                have HBS : Hid (w2.heap.size ≤ (w3.alloc (.cells #[.int .i64 (x : Int)] 3)).heap.size) := Nat.le_trans BZ.out.size (by first | (simp; done) | (simp; omega))
                have HPL : Hid ((outR ns ts cs L (gk0 : Int) i).length ≤ 1000000) := Nat.le_trans (outR_len _ _ _ _ _ _) (by omega)
                clear bz0 bz2'
                go_wp2_with (at_builtin; refine app_ownN (by kernel_rfl) rfl _ _ rfl w2.heap.size u9 _ rfl (OwnL.alloc OZ.out _) ⟨w3.heap.size, 0, none⟩ 1 x rfl HNW.out HPL.out HBS.out ?_; intro v4 w4 h4 q4 n4)
                go_roundg g1
                case rel => exact ⟨i + 1, by go_num, by omega, by omega, (show OwnN _ _ _ _ by rw [HSU.out]; exact h4), (BZ.out.alloc BZ.out.size _).grown q4 HBS.out (fun k e => OZ.out.at k e)⟩
                case measure => omega
              · have gp : (t.pt == pr) = false := by simp [hpt]
                have ho : okB ns ts cs L (gk0 : Int) i = false := by rw [OKB.out]; simp [hpt]
                rw [ho, if_neg (by decide), List.append_nil] at HSU
                clear ho hpt
                as_aux_lemma =>
                go_wp2_with fail
                have B1 : Hid (Below (wr).heap.size (wr) (wr).drew) := (Below.refl _ _).drew
                refine wp_region_M (S := fun w' => w'.cell? ⟨wo.heap.size + 1, 1, none⟩ = some (.int .i64 t.pt) ∧ w'.cell? ⟨w.heap.size, 0, none⟩ = some (.slice (some ⟨nb, no, none⟩) ns.length ncp) ∧ w'.cell? ⟨wo.heap.size + 1, 0, none⟩ = some (.int .i64 (nt : Int)) ∧ w'.cell? ⟨nb, no + nt * 10 + 2, none⟩ = some (.int .i64 n.par)) (late := []) (by kernel_rfl) (KC.out _ B1.out) (fun hHeld => ?_)
                (try simp only [List.size_toArray, List.length_cons, List.length_nil, Nat.zero_add, Nat.reduceAdd, Array.replicate, List.replicate])
                refine wpAnyM_take (i := 0) (oi := ⟨_, _, _, _, _, _⟩) (v := ?_) rfl (by kernel_rfl) (by kernel_rfl) (by kernel_rfl) (by kernel_rfl) (fun _ _ _ h => h) (Or.inl ⟨by rfl, ?_⟩) hHeld ?_
                rotate_left
                · (intro w' hSw; (try dsimp only at hSw); go_simp; try (with_reducible rfl))
                (try simp only [Act.put, List.setIfInBounds_toArray, List.set_cons_zero, List.set_cons_succ])
                refine wpAnyM_take (i := 1) (oi := ⟨_, _, _, _, _, _⟩) (v := ?_) rfl (by kernel_rfl) (by kernel_rfl) (by kernel_rfl) (by kernel_rfl) (fun _ _ _ h => h) (Or.inl ⟨by rfl, ?_⟩) hHeld ?_
                rotate_left
                · (intro w' hSw; (try dsimp only at hSw); go_simp; try (with_reducible rfl))
                (try simp only [Act.put, List.setIfInBounds_toArray, List.set_cons_zero, List.set_cons_succ])
                refine wpAnyM_take (i := 2) (oi := ⟨_, _, _, _, _, _⟩) (v := ?_) rfl (by kernel_rfl) (by kernel_rfl) (by kernel_rfl) (by kernel_rfl) (fun _ _ _ h => h) (Or.inl ⟨by rfl, ?_⟩) hHeld ?_
                rotate_left
                · (intro w' hSw; (try dsimp only at hSw); go_simp; try (with_reducible rfl))
                (try simp only [Act.put, List.setIfInBounds_toArray, List.set_cons_zero, List.set_cons_succ])
                refine wpAnyM_take (i := 3) (oi := ⟨_, _, _, _, _, _⟩) (v := ?_) rfl (by kernel_rfl) (by kernel_rfl) (by kernel_rfl) (by kernel_rfl) (fun _ _ _ h => h) (Or.inl ⟨by rfl, ?_⟩) hHeld ?_
                rotate_left
                · (intro w' hSw; (try dsimp only at hSw); go_simp; try (with_reducible rfl))
                (try simp only [Act.put, List.setIfInBounds_toArray, List.set_cons_zero, List.set_cons_succ])
                refine wpAnyM_take (i := 4) (oi := ⟨_, _, _, _, _, _⟩) (v := ?_) rfl (by kernel_rfl) (by kernel_rfl) (by kernel_rfl) (by kernel_rfl) (fun _ _ _ h => h) (Or.inl ⟨by rfl, ?_⟩) hHeld ?_
                rotate_left
                · (intro w' hSw; (try dsimp only at hSw); go_simp; try (with_reducible rfl))
                (try simp only [Act.put, List.setIfInBounds_toArray, List.set_cons_zero, List.set_cons_succ])
                refine wpAnyM_take (i := 6) (oi := ⟨_, _, _, _, _, _⟩) (v := ?_) rfl (by kernel_rfl) (by kernel_rfl) (by kernel_rfl) (by kernel_rfl) (fun _ _ _ h => h) (Or.inl ⟨by rfl, ?_⟩) hHeld ?_
                rotate_left
                · (intro w' hSw; (try dsimp only at hSw); go_simp; try (with_reducible rfl))
                (try simp only [Act.put, List.setIfInBounds_toArray, List.set_cons_zero, List.set_cons_succ])
                refine wpAnyM_take (i := 7) (oi := ⟨_, _, _, _, _, _⟩) (v := ?_) rfl (by kernel_rfl) (by kernel_rfl) (by kernel_rfl) (by kernel_rfl) (fun _ _ _ h => h) (Or.inl ⟨by rfl, ?_⟩) hHeld ?_
                rotate_left
                · (intro w' hSw; (try dsimp only at hSw); go_simp; try (with_reducible rfl))
                (try simp only [Act.put, List.setIfInBounds_toArray, List.set_cons_zero, List.set_cons_succ])
                refine wpAnyM_take (i := 8) (oi := ⟨_, _, _, _, _, _⟩) (v := ?_) rfl (by kernel_rfl) (by kernel_rfl) (by kernel_rfl) (by kernel_rfl) (fun _ _ _ h => h) (Or.inl ⟨by rfl, ?_⟩) hHeld ?_
                rotate_left
                · (intro w' hSw; (try dsimp only at hSw); go_simp; try (with_reducible rfl))
                (try simp only [Act.put, List.setIfInBounds_toArray, List.set_cons_zero, List.set_cons_succ])
                refine wpAnyM_take (i := 9) (oi := ⟨_, _, _, _, _, _⟩) (v := ?_) rfl (by kernel_rfl) (by kernel_rfl) (by kernel_rfl) (by kernel_rfl) (fun _ _ _ h => h) (Or.inl ⟨by rfl, ?_⟩) hHeld ?_
                rotate_left
                · (intro w' hSw; (try dsimp only at hSw); go_simp; try (with_reducible rfl))
                (try simp only [Act.put, List.setIfInBounds_toArray, List.set_cons_zero, List.set_cons_succ])
                refine wpAnyM_take (i := 10) (oi := ⟨_, _, _, _, _, _⟩) (v := ?_) rfl (by kernel_rfl) (by kernel_rfl) (by kernel_rfl) (by kernel_rfl) (fun _ _ _ h => h) (Or.inl ⟨by rfl, ?_⟩) hHeld ?_
                rotate_left
                · (intro w' hSw; (try dsimp only at hSw); go_simp; try (with_reducible rfl))
                (try simp only [Act.put, List.setIfInBounds_toArray, List.set_cons_zero, List.set_cons_succ])
                refine wpAnyM_take (i := 11) (oi := ⟨_, _, _, _, _, _⟩) (v := ?_) rfl (by kernel_rfl) (by kernel_rfl) (by kernel_rfl) (by kernel_rfl) (fun _ _ _ h => h) (Or.inl ⟨by rfl, ?_⟩) hHeld ?_
                rotate_left
                · (intro w' hSw; (try dsimp only at hSw); go_simp; try (with_reducible rfl))
                (try simp only [Act.put, List.setIfInBounds_toArray, List.set_cons_zero, List.set_cons_succ])
                refine wpAnyM_take (i := 12) (oi := ⟨_, _, _, _, _, _⟩) (v := ?_) rfl (by kernel_rfl) (by kernel_rfl) (by kernel_rfl) (by kernel_rfl) (fun _ _ _ h => h) (Or.inl ⟨by rfl, ?_⟩) hHeld ?_
                rotate_left
                · (intro w' hSw; (try dsimp only at hSw); go_simp; try (with_reducible rfl))
                (try simp only [Act.put, List.setIfInBounds_toArray, List.set_cons_zero, List.set_cons_succ])
                refine wpAnyM_one (i := 5) (o := ⟨_, _, _, _, _, _⟩) (by kernel_rfl) rfl (fun K hK => ?_)
                go_simp
                go_at_call 23
                refine (HG23.out _ B1.out).mono ?_
                rintro e w9 ⟨rfl, hb⟩
                have B2 := hide hb
                refine hK.out _ _ (KC.out _ hb) (fun hHeld => ?_)
                clear hK K hb
                (try simp only [List.setIfInBounds_toArray, List.set_cons_zero, List.set_cons_succ])
                refine wpAnyM_one (i := 13) (o := ⟨_, _, _, _, _, _⟩) (by kernel_rfl) rfl (fun K hK => ?_)
                go_simp
                go_at_call 25
                refine (HP25.out _ B2.out).mono ?_
                rintro e w3 ⟨rfl, hb⟩
                have B3 := hide hb
                refine hK.out _ _ (KC.out _ hb) (fun hHeld => ?_)
                clear hK K hb
                (try simp only [List.setIfInBounds_toArray, List.set_cons_zero, List.set_cons_succ])
                refine wpAnyM_take (i := 14) (oi := ⟨_, _, _, _, _, _⟩) (v := ?_) rfl (by kernel_rfl) (by kernel_rfl) (by kernel_rfl) (by kernel_rfl) (fun _ _ _ h => h) (Or.inl ⟨by rfl, ?_⟩) hHeld ?_
                rotate_left
                · (intro w' hSw; (try dsimp only at hSw); go_simp; try (with_reducible rfl))
                (try simp only [Act.put, List.setIfInBounds_toArray, List.set_cons_zero, List.set_cons_succ])
                refine wpAnyM_take (i := 15) (oi := ⟨_, _, _, _, _, _⟩) (v := ?_) rfl (by kernel_rfl) (by kernel_rfl) (by kernel_rfl) (by kernel_rfl) (fun _ _ _ h => h) (Or.inl ⟨by rfl, ?_⟩) hHeld ?_
                rotate_left
                · (intro w' hSw; (try dsimp only at hSw); go_simp; try (with_reducible rfl))
                (try simp only [Act.put, List.setIfInBounds_toArray, List.set_cons_zero, List.set_cons_succ])
                refine wpAnyM_done (by kernel_rfl) ?_ _
                go_wp2_with fail
                go_roundg g1
                case rel => exact ⟨i + 1, by go_num, by omega, by omega, (show OwnN _ _ _ _ by rw [HSU.out]; exact OwnL.below GO.out (BWO.out.trans (B3.out.mono BWO.out.size))), BW2.out.trans (B3.out.mono BW2.out.size)⟩
                case measure => omega
    · have bi : ¬ (i : Int) < (L.length : Int) := by omega
      have hie : i = L.length := by omega
      have HE : Hid (OwnN w2.heap.size wo u9 (outR ns ts cs L (gk0 : Int) L.length)) := (show OwnN _ _ _ _ by rw [← hie]; exact GO.out)
      clear hie
      go_wp2_with fail
      go_ret
      exact ⟨_, rfl, OwnN.mono' HE.out B2.out.size, B2.out.trans (GB.out.mono B2.out.size)⟩
theorem nodup_map {α β : Type} {f : α → β} (hf : ∀ a b, f a = f b → a = b) {l : List α} (h : l.Nodup) : (l.map f).Nodup := by
  induction l with
  | nil => simp
  | cons x r ih =>
    rw [List.map_cons, List.nodup_cons]
    rw [List.nodup_cons] at h
    refine ⟨fun hm => ?_, ih h.2⟩
    obtain ⟨y, hy, he⟩ := List.mem_map.1 hm
    exact h.1 (hf _ _ he ▸ hy)
theorem nodup_flat {α β : Type} {f : α → List β} {l : List α} (hl : l.Nodup) (h1 : ∀ a ∈ l, (f a).Nodup) (h2 : ∀ a ∈ l, ∀ b ∈ l, a ≠ b → ∀ x ∈ f a, x ∉ f b) : (l.flatMap f).Nodup := by
  induction l with
  | nil => simp
  | cons x r ih =>
    rw [List.nodup_cons] at hl
    rw [List.flatMap_cons, List.nodup_append]
    refine ⟨h1 x (by simp), ih hl.2 (fun a ha => h1 a (by simp [ha])) (fun a ha b hb => h2 a (by simp [ha]) b (by simp [hb])), ?_⟩
    intro y hy z hz e
    subst e
    obtain ⟨b, hb, hz⟩ := List.mem_flatMap.1 hz
    exact h2 x (by simp) b (by simp [hb]) (fun e => hl.1 (e ▸ hb)) y hy hz
theorem nodup_filter {α : Type} (p : α → Bool) {l : List α} (h : l.Nodup) : (l.filter p).Nodup := List.Pairwise.sublist List.filter_sublist h
theorem chX_nodup (ns : List Nd) (i k x : Nat) : (chX ns i k x).Nodup := by
  unfold chX
  refine nodup_flat List.nodup_range (fun a _ => nodup_map (fun b c e => ?_) (nodup_filter _ List.nodup_range)) (fun a _ b _ hab y hy hz => ?_)
  · have := Cn.mk.inj e
    omega
  · obtain ⟨_, _, rfl⟩ := List.mem_map.1 hy
    obtain ⟨_, _, e⟩ := List.mem_map.1 hz
    have := Cn.mk.inj e
    omega
theorem chX_inp {ns : List Nd} {i k x : Nat} {c : Cn} (h : c ∈ chX ns i k x) : c.inp = (k : Int) := by
  obtain ⟨_, _, _, _, _, rfl⟩ := chX_mem.1 h
  rfl
theorem chI_nodup (ns : List Nd) (i : Nat) : ∀ (l : List Int) (k : Nat), (chI ns i k l).Nodup
  | [], _ => by simp [chI]
  | x :: r, k => by
    rw [chI, List.nodup_append]
    refine ⟨chX_nodup _ _ _ _, chI_nodup ns i r (k + 1), fun a ha b hb e => ?_⟩
    subst e
    obtain ⟨m, y, _, h2⟩ := (chI_mem r (k + 1)).1 hb
    have h3 := chX_inp ha
    have h4 := chX_inp h2
    omega
theorem chI_tg {ns : List Nd} {i : Nat} {n : Nd} (hi : ns[i]? = some n) {l : List Int} {k : Nat} {c : Cn} (h : c ∈ chI ns i k l) : ∃ b, b < n.par.toNat ∧ c.tg = ((off ns i + b : Nat) : Int) := by
  obtain ⟨m, y, _, h2⟩ := (chI_mem l k).1 h
  obtain ⟨_, b, _, hb, _, rfl⟩ := chX_mem.1 h2
  rw [parN_at hi] at hb
  exact ⟨b, hb, rfl⟩
theorem chJ_nodup {ns : List Nd} : ∀ (l : List Nd) (i : Nat), ns.drop i = l → (chJ ns i l).Nodup
  | [], _, _ => by simp [chJ]
  | n :: r, i, hd => by
    have hi : ns[i]? = some n := by
      have := congrArg (fun l : List Nd => l[0]?) hd
      simpa using this
    have hr : ns.drop (i + 1) = r := by rw [drop_of hi] at hd; exact (List.cons.inj hd).2
    rw [chJ, List.nodup_append]
    refine ⟨chI_nodup _ _ _ _, chJ_nodup r (i + 1) hr, fun a ha b hb e => ?_⟩
    subst e
    obtain ⟨m, n', h1, h2⟩ := (chJ_mem r (i + 1)).1 hb
    have hi' : ns[i + 1 + m]? = some n' := by rw [← hr] at h1; rwa [List.getElem?_drop] at h1
    obtain ⟨b1, hb1, e1⟩ := chI_tg hi ha
    obtain ⟨b2, hb2, e2⟩ := chI_tg hi' h2
    have := off_inj hi hi' hb1 hb2 (by omega)
    omega
theorem ch_nodup (ns : List Nd) : (chJ ns 0 ns).Nodup := chJ_nodup ns 0 rfl
theorem nodup_at {α : Type} {l : List α} (h : l.Nodup) {i j : Nat} {x : α} (hi : l[i]? = some x) (hj : l[j]? = some x) : i = j := by
  have h1 := lt_of_get hi
  exact (List.getElem?_inj h1 h).1 (hi.trans hj.symm)
/-- plc's places. -/
theorem plc_iff {α : Type} (p : α → Bool) (l : List α) : ∀ k x, x ∈ plc p k l ↔ k ≤ x ∧ ∃ y, l[x - k]? = some y ∧ p y = true := by
  intro k x
  refine ⟨fun h => plc_mem p l k x h, ?_⟩
  induction l generalizing k with
  | nil => rintro ⟨_, y, h, _⟩; simp at h
  | cons z l ih =>
    rintro ⟨h1, y, h2, h3⟩
    rw [plc]
    by_cases he : x = k
    · subst he
      rw [Nat.sub_self] at h2
      obtain rfl : z = y := by simpa using h2
      rw [if_pos h3]
      simp
    · have : x ∈ plc p (k + 1) l := ih (k + 1) ⟨by omega, y, by rw [show x - k = (x - (k + 1)) + 1 by omega] at h2; simpa using h2, h3⟩
      split
      · exact List.mem_cons_of_mem _ this
      · exact this
theorem plc_nodup {α : Type} (p : α → Bool) (l : List α) : ∀ k, (plc p k l).Nodup := by
  induction l with
  | nil => intro k; simp [plc]
  | cons z l ih =>
    intro k
    rw [plc]
    split
    · rw [List.nodup_cons]
      refine ⟨fun h => ?_, ih _⟩
      have := (plc_mem p l (k + 1) k h).1
      omega
    · exact ih _
theorem plc_and {α : Type} (p : α → Bool) (q : Nat → Bool) (r : α → Bool) (l : List α) : ∀ k, (∀ j y, l[j]? = some y → p y = true → q (k + j) = r y) → (plc p k l).filter q = plc (fun y => p y && r y) k l := by
  induction l with
  | nil => intro k _; rfl
  | cons z l ih =>
    intro k h
    have h0 := h 0 z (by simp)
    have hs := ih (k + 1) (fun j y hj hp => by rw [show k + 1 + j = k + (j + 1) by omega]; exact h (j + 1) y (by simpa using hj) hp)
    rw [plc, plc]
    by_cases hp : p z = true
    · have hq := h0 hp
      rw [Nat.add_zero] at hq
      rw [if_pos hp, List.filter_cons, hq, hp, hs, Bool.true_and]
    · rw [if_neg hp, if_neg (by simp [hp]), hs]
theorem filt_at (L : List Nat) (q : Nat → Bool) : ((List.range L.length).filter fun i => q (L.getD i 0)).map (fun i => L.getD i 0) = L.filter q := by
  have e : L = (List.range L.length).map fun i => L.getD i 0 := by
    apply List.ext_getElem?
    intro i
    rw [List.getElem?_map]
    by_cases hi : i < L.length
    · rw [List.getElem?_range hi]
      simp [List.getElem?_eq_getElem hi]
    · rw [List.getElem?_eq_none (by omega), List.getElem?_eq_none (by simp; omega)]
      rfl
  conv => rhs; rw [e, List.filter_map]
  rfl
theorem filter_ext {α : Type} {p q : α → Bool} {l : List α} (h : ∀ x ∈ l, p x = q x) : l.filter p = l.filter q := by
  induction l with
  | nil => rfl
  | cons x r ih => rw [List.filter_cons, List.filter_cons, h x (by simp), ih (fun y hy => h y (by simp [hy]))]
theorem oneB_iff (ts : List Tk) (cs : List Cn) (L : List Nat) (i : Nat) : ∀ m, oneB ts cs L i m = true ↔ ∀ k, k < m → k ≠ i → sameB ts cs L i k = false
  | 0 => by simp [oneB]
  | m + 1 => by
    rw [oneB_succ, Bool.and_eq_true, oneB_iff ts cs L i m]
    constructor
    · rintro ⟨h1, h2⟩ k hk hne
      by_cases he : k = m
      · subst he
        simpa [hne] using h2
      · exact h1 k (by omega) hne
    · intro h
      refine ⟨fun k hk => h k (by omega), ?_⟩
      by_cases he : m = i
      · simp [he]
      · simp [he, h m (by omega) he]
theorem prt_one {g : Nat} (hg : g < 16) : prt (g : Int) 1 = 0 := by
  unfold prt
  rw [if_neg (by omega)]
  omega
section
variable {ns : List Nd} (hin : ∀ n ∈ ns, ∀ x ∈ n.ins, 0 ≤ x ∧ x < (ns.length : Int)) (hpar : ∀ n ∈ ns, 1 ≤ n.par ∧ n.par ≤ 4)
include hin hpar
/-- The i-th channel from a task is taken by the document just where the program takes it. -/
theorem ok_same {t : Nat} {g : Nat} (hg : g < 16) {i : Nat} (hi : i < (plc (fun c : Cn => decide (c.fr = (t : Int))) 0 (chJ ns 0 ns)).length) :
    okB ns (tksOf 0 ns) (chJ ns 0 ns) (plc (fun c : Cn => decide (c.fr = (t : Int))) 0 (chJ ns 0 ns)) (g : Int) i = tks ns (tkAt (tksOf 0 ns) (t : Int)) (tkAt (tksOf 0 ns) (chA (chJ ns 0 ns) (plc (fun c : Cn => decide (c.fr = (t : Int))) 0 (chJ ns 0 ns)) i).tg) (g : Int) := by
  have hnd := ch_nodup ns
  have hmem := fun c => (ch_mem hin (c := c))
  have hLn := plc_nodup (fun c : Cn => decide (c.fr = (t : Int))) (chJ ns 0 ns) 0
  have hLi := plc_iff (fun c : Cn => decide (c.fr = (t : Int))) (chJ ns 0 ns) 0
  generalize plc (fun c : Cn => decide (c.fr = (t : Int))) 0 (chJ ns 0 ns) = L at *
  generalize chJ ns 0 ns = cs at *
  have each : ∀ k, k < L.length → ∃ j c, L[k]? = some j ∧ cs[j]? = some c ∧ c.fr = (t : Int) ∧ chA cs L k = c := by
    intro k hk
    obtain ⟨j, hj⟩ := get_of_lt hk
    obtain ⟨_, c, h1, h2⟩ := (hLi j).1 (List.mem_of_getElem? hj)
    rw [Nat.sub_zero] at h1
    exact ⟨j, c, hj, h1, by simpa using h2, by unfold chA; rw [getD_of hj, getD_of h1]⟩
  obtain ⟨j, c, hj, hc, hfr, hA⟩ := each i hi
  obtain ⟨i', k, x, a, b, n, nx, h1, h2, h3, h4, h5, h6, rfl⟩ := (hmem c).1 (List.mem_of_getElem? hc)
  simp only at hfr
  have htk : tkAt (tksOf 0 ns) (t : Int) = ⟨(x : Int), (a : Int)⟩ := by rw [← hfr]; exact tkAt_in (tks_at h3 h4)
  have htg : tkAt (tksOf 0 ns) ((off ns i' + b : Nat) : Int) = ⟨(i' : Int), (b : Int)⟩ := tkAt_in (tks_at h1 h5)
  unfold okB tks
  rw [hA, htk]
  simp only [htg]
  rw [ndAt_in h1]
  by_cases hf : fdAll ns (x : Int) (i' : Int) = true
  · rw [hf, Bool.not_true, Bool.false_or]
    by_cases hp1 : n.par = 1
    · have hb0 : b = 0 := by omega
      subst hb0
      rw [hp1, prt_one hg]
      simp
    · have hp := hpar n (List.mem_of_getElem? h1)
      obtain ⟨b', hb', hne⟩ : ∃ b' : Nat, b' < n.par.toNat ∧ b' ≠ b := by
        by_cases hb0 : b = 0
        · exact ⟨1, by omega, by omega⟩
        · exact ⟨0, by omega, by omega⟩
      have hc' : (⟨((off ns x + a : Nat) : Int), ((off ns i' + b' : Nat) : Int), (k : Int)⟩ : Cn) ∈ cs := (hmem _).2 ⟨i', k, x, a, b', n, nx, h1, h2, h3, h4, hb', .inl hf, rfl⟩
      obtain ⟨j', hj'⟩ := List.mem_iff_getElem?.1 hc'
      have hjL : j' ∈ L := (hLi j').2 ⟨Nat.zero_le _, _, hj', by simpa using hfr⟩
      obtain ⟨m, hm⟩ := List.mem_iff_getElem?.1 hjL
      have hml := lt_of_get hm
      have hmi : m ≠ i := by
        rintro rfl
        rw [hm] at hj
        cases hj
        rw [hc] at hj'
        have := Cn.mk.inj (Option.some.inj hj')
        omega
      have hone : oneB (tksOf 0 ns) cs L i L.length = false := by
        cases ho : oneB (tksOf 0 ns) cs L i L.length with
        | false => rfl
        | true =>
          have := (oneB_iff _ _ _ _ _).1 ho m hml hmi
          have hAm : chA cs L m = ⟨((off ns x + a : Nat) : Int), ((off ns i' + b' : Nat) : Int), (k : Int)⟩ := by unfold chA; rw [getD_of hm, getD_of hj']
          unfold sameB at this
          rw [hAm, hA] at this
          simp only [tkAt_in (tks_at h1 hb'), htg] at this
          simp at this
      rw [hone, Bool.false_or]
  · rw [Bool.not_eq_true] at hf
    rw [hf, Bool.not_false, Bool.true_or]
    have hone : oneB (tksOf 0 ns) cs L i L.length = true := by
      rw [oneB_iff]
      intro m hm hmi
      obtain ⟨jm, cm, hjm, hcm, hfrm, hAm⟩ := each m hm
      cases hs : sameB (tksOf 0 ns) cs L i m with
      | false => rfl
      | true =>
        exfalso
        unfold sameB at hs
        rw [hAm, hA] at hs
        obtain ⟨i2, k2, x2, a2, b2, n2, nx2, g1, g2, g3, g4, g5, g6, rfl⟩ := (hmem cm).1 (List.mem_of_getElem? hcm)
        simp only [tkAt_in (tks_at g1 g5), htg] at hs
        simp only [Bool.and_eq_true, decide_eq_true_eq] at hs
        obtain ⟨e1, e2⟩ := hs
        obtain rfl : i2 = i' := by omega
        obtain rfl : k2 = k := by omega
        rw [h1] at g1
        cases g1
        rw [h2] at g2
        obtain rfl : x = x2 := by
          have := Option.some.inj g2
          omega
        rw [h3] at g3
        cases g3
        simp only at hfrm
        obtain rfl : a2 = a := by omega
        obtain rfl : a2 = b := by
          rcases h6 with h6 | h6
          · rw [hf] at h6; cases h6
          · exact h6
        obtain rfl : a2 = b2 := by
          rcases g6 with g6 | g6
          · rw [hf] at g6; cases g6
          · exact g6
        have hjj := nodup_at hnd hcm hc
        rw [hjj] at hjm
        exact hmi (nodup_at hLn hjm hj)
    rw [hone, Bool.true_or]
theorem outR_eq {t : Nat} {g : Nat} (hg : g < 16) :
    outR ns (tksOf 0 ns) (chJ ns 0 ns) (plc (fun c : Cn => decide (c.fr = (t : Int))) 0 (chJ ns 0 ns)) (g : Int) (plc (fun c : Cn => decide (c.fr = (t : Int))) 0 (chJ ns 0 ns)).length = plc (outsP ns (tksOf 0 ns) (t : Int) (g : Int)) 0 (chJ ns 0 ns) := by
  have hok := fun i hi => ok_same hin hpar (t := t) (g := g) hg (i := i) hi
  have hpa := plc_and (fun c : Cn => decide (c.fr = (t : Int))) (fun j => tks ns (tkAt (tksOf 0 ns) (t : Int)) (tkAt (tksOf 0 ns) ((chJ ns 0 ns).getD j cn0).tg) (g : Int)) (fun c => tks ns (tkAt (tksOf 0 ns) (t : Int)) (tkAt (tksOf 0 ns) c.tg) (g : Int)) (chJ ns 0 ns) 0 (fun j y hj _ => by
    rw [Nat.zero_add, getD_of hj])
  unfold outR
  rw [filter_ext (q := fun i => tks ns (tkAt (tksOf 0 ns) (t : Int)) (tkAt (tksOf 0 ns) ((chJ ns 0 ns).getD ((plc (fun c : Cn => decide (c.fr = (t : Int))) 0 (chJ ns 0 ns)).getD i 0) cn0).tg) (g : Int)) (fun i hi => hok i (List.mem_range.1 hi))]
  rw [filt_at (plc (fun c : Cn => decide (c.fr = (t : Int))) 0 (chJ ns 0 ns)) (fun j => tks ns (tkAt (tksOf 0 ns) (t : Int)) (tkAt (tksOf 0 ns) ((chJ ns 0 ns).getD j cn0).tg) (g : Int)), hpa]
  rfl
omit hpar in
/-- Where a keyed node takes a group. -/
theorem out_home {t : Nat} {g : Nat} {j : Nat} (hj : j ∈ plc (outsP ns (tksOf 0 ns) (t : Int) (g : Int)) 0 (chJ ns 0 ns)) :
    ∃ (c : Cn) (i b : Nat) (n : Nd), (chJ ns 0 ns)[j]? = some c ∧ c.fr = (t : Int) ∧ ns[i]? = some n ∧ b < n.par.toNat ∧ c.tg = ((off ns i + b : Nat) : Int) ∧ (kyd ns (i : Int) = true → (b : Int) = prt (g : Int) n.par) := by
  obtain ⟨_, c, h1, h2⟩ := plc_mem _ _ _ _ hj
  rw [Nat.sub_zero] at h1
  unfold outsP at h2
  rw [Bool.and_eq_true, decide_eq_true_eq] at h2
  obtain ⟨h2, h3⟩ := h2
  obtain ⟨i, k, x, a, b, n, nx, g1, g2, g3, g4, g5, g6, rfl⟩ := (ch_mem hin).1 (List.mem_of_getElem? h1)
  refine ⟨_, i, b, n, h1, h2, g1, g5, rfl, fun hk => ?_⟩
  simp only at h2
  rw [← h2] at h3
  simp only [tkAt_in (tks_at g3 g4), tkAt_in (tks_at g1 g5)] at h3
  unfold tks at h3
  simp only at h3
  rw [ndAt_in g1, show fdAll ns (x : Int) (i : Int) = true by unfold fdAll; rw [hk, Bool.true_or], Bool.not_true, Bool.false_or, decide_eq_true_eq] at h3
  exact h3
end
/-- A plan, in a law. -/
structure PO (w wr : World) (v : Value) (P : Nat) (tv cv : Value) (ts : List Tk) (cs : List Cn) : Prop where
  jx : BoxT 24 wr w.heap.size #[v]
  px : BoxT 30 wr P #[tv, cv]
  t : LSeg 2 Tk.cs P wr tv ts
  c : LSeg 3 Cn.cs P wr cv cs
  bl : Below w.heap.size w wr
  wP : w.heap.size ≤ P
section
variable {w wr w' : World} {v tv cv : Value} {P : Nat} {ts : List Tk} {cs : List Cn}
theorem PO.below (h : PO w wr v P tv cv ts cs) (hb : Below wr.heap.size wr w') : PO w w' v P tv cv ts cs :=
  ⟨h.jx.below hb, h.px.below hb, h.t.below (hb.mono (Nat.le_of_lt h.px.lt)), h.c.below (hb.mono (Nat.le_of_lt h.px.lt)), h.bl.trans (hb.mono h.bl.size), h.wP⟩
theorem PO.set {F x : Nat} {u : Value} (h : PO w wr v P tv cv ts cs) (hPF : P < F) : PO w (wr.setCell ⟨F, x, none⟩ u) v P tv cv ts cs := by
  have hb : Below P wr (wr.setCell ⟨F, x, none⟩ u) := (Below.refl _ _).setCell (p := ⟨F, x, none⟩) (Nat.le_of_lt hPF) _
  have := h.wP
  exact ⟨h.jx.other _ _ (by omega), h.px.other _ _ (by omega), h.t.below hb, h.c.below hb, h.bl.setCell (p := ⟨F, x, none⟩) (show w.heap.size ≤ F by omega) _, h.wP⟩
theorem PO.tk (h : PO w wr v P tv cv ts cs) : LSeg 2 Tk.cs wr.heap.size wr tv ts := h.t.mono (Nat.le_of_lt h.px.lt)
theorem PO.cn (h : PO w wr v P tv cv ts cs) : LSeg 3 Cn.cs wr.heap.size wr cv cs := h.c.mono (Nat.le_of_lt h.px.lt)
end
theorem map_get_int {l : List Int} {i : Nat} {x : Int} (h : l[i]? = some x) : (l.map (Value.int .i64)).toArray[i]? = some (.int .i64 x) := by simp [h]
theorem rep_step (n k : Nat) (h : k < n) : (List.replicate k (-1 : Int) ++ List.replicate (n - k) 0).set k (-1) = List.replicate (k + 1) (-1) ++ List.replicate (n - (k + 1)) 0 := by
  rw [List.set_append_right _ _ (by simp), List.length_replicate, Nat.sub_self, show n - k = (n - (k + 1)) + 1 by omega, List.replicate_succ, List.set_cons_zero, List.replicate_succ', List.append_assoc]
  rfl
theorem rep_at (n k : Nat) (h : k < n) : (List.replicate k (-1 : Int) ++ List.replicate (n - k) 0)[k]? = some 0 := by
  rw [List.getElem?_append_right (by simp), List.length_replicate, Nat.sub_self, List.getElem?_replicate, if_pos (by omega)]
theorem rep_get {n i : Nat} {h : Int} (h1 : (List.replicate n (-1 : Int))[i]? = some h) : h = -1 := by
  rw [List.getElem?_replicate] at h1
  split at h1
  · simpa using h1.symm
  · cases h1
theorem OwnN.setOther {base : Nat} {w : World} {v x : Value} {l : List Nat} {F i : Nat} (h : OwnN base w v l) (hF : F < base) : OwnN base (w.setCell ⟨F, i, none⟩ x) v l := by
  refine OwnL.back h (fun g e => ?_)
  have := OwnL.at h g e
  exact Below.heap_setCell w ⟨F, i, none⟩ x g (show g ≠ F by omega)
set_option maxHeartbeats 8000000 in
set_option maxRecDepth 100000 in
theorem PlanOuts_walk {w : World} {v kv : Value} {ns : List Nd} {keys : List Int} (hj : JobIn w.heap.size w v ns) (hE : ExIn w ns) (hks : LSeg 1 ic w.heap.size w kv keys) :
    Calls Try.prog 4 #[.agg #[v], kv] w fun e w' => e = .returned (.bool true) ∧ Below w.heap.size w w' := by
  obtain ⟨na, ncp, rfl⟩ := hj.shape
  obtain ⟨ka, kcp, hka, hklen, -⟩ := id hks
  subst hka
  have hkz : (keys.length : Int) ≤ 140737488355328 := by omega
  have hb0 := below_box w (.cells #[.slice na ns.length ncp] 24)
  have HB0 := hide hb0
  have HX0 := hide (BoxT.new 24 w #[.slice na ns.length ncp])
  have HKN := hide (known_any (w.alloc (.cells #[.slice na ns.length ncp] 24)))
  have HJ := hide hj
  have HEX := hide hE
  have HKS := hide hks
  clear hj hE hb0 hks hklen
  go_enter Try.func4, Try.ntmps4
  go_wp2_with fail
  refine HKN.out.mono ?_
  rintro e w1 ⟨rfl, b1⟩
  have B1 := hide (HB0.out.trans (b1.mono HB0.out.size))
  have X1 := hide (HX0.out.below b1)
  have c1 : w1.cell? ⟨w.heap.size, 0, none⟩ = some (.slice na ns.length ncp) := by rw [X1.out.cellAt]; rfl
  have HFT := hide (fit_any ((HJ.out.below B1.out).mono B1.out.size) (HEX.out.below B1.out))
  clear b1
  go_wp2_with fail
  refine HFT.out.mono ?_
  rintro e w2 ⟨u, rfl, hu, b2⟩
  have B2 := hide (B1.out.trans (b2.mono B1.out.size))
  have X2 := hide (X1.out.below b2)
  have c2 : w2.cell? ⟨w.heap.size, 0, none⟩ = some (.slice na ns.length ncp) := by rw [X2.out.cellAt]; rfl
  clear b2 c1 HFT HKN HB0 HX0
  rcases hu with rfl | ⟨rfl, -, -, hok⟩
  · as_aux_lemma =>
    go_wp2_with fail
    go_ret
    exact ⟨rfl, B2.out⟩
  by_cases hk40 : (40 : Int) < (keys.length : Int)
  · clear hok
    as_aux_lemma =>
    go_wp2_with fail
    go_ret
    exact ⟨rfl, B2.out⟩
  have hpar : ∀ n ∈ ns, 1 ≤ n.par ∧ n.par ≤ 4 := fun n hn => ck_par (hok.lt.ck n hn)
  have hin : ∀ n ∈ ns, ∀ x ∈ n.ins, 0 ≤ x ∧ x < (ns.length : Int) := fun n hn => (ck_fine (hok.lt.ck n hn)).ins
  have hin4 : ∀ n ∈ ns, n.ins.length ≤ 4 ∧ ∀ x ∈ n.ins, 0 ≤ x ∧ x < (ns.length : Int) := fun n hn => ⟨(ck_fine (hok.lt.ck n hn)).len, hin n hn⟩
  have hl12 := hok.lt.l2
  have hclen : (chJ ns 0 ns).length ≤ 768 := by
    have := chJ_len hpar hin4 ns 0 rfl
    omega
  have htlen : (tksOf 0 ns).length ≤ 48 := by have := tksOf_len ns (fun n hn => (hpar n hn).2) 0; omega
  have HMK := hide (RMake_any ((HJ.out.below B2.out).mono B2.out.size) (by omega) (fun n hn => ⟨by have := (hpar n hn).1; omega, (hpar n hn).2⟩) hin (by omega))
  have HPAR := hide hpar
  have HIN := hide hin
  have HCT : Hid (∀ c ∈ chJ ns 0 ns, 0 ≤ c.tg ∧ c.tg < ((tksOf 0 ns).length : Int)) := fun c hc => by
    obtain ⟨i, k, x, a, b, n, nx, h1, _, _, _, h5, _, rfl⟩ := (ch_mem hin).1 hc
    have := lt_of_get (tks_at h1 h5)
    simp only
    omega
  have HTN : Hid (∀ t ∈ tksOf 0 ns, 0 ≤ t.nd ∧ t.nd < (ns.length : Int)) := fun t ht => by
    have := tksOf_nd ns 0 t ht
    omega
  clear hok hin4 hpar hin
  go_wp2_with fail
  refine HMK.out.mono ?_
  rintro e w3 ⟨tv, cv, rfl, ot, oc, b3⟩
  have lt := OwnL.lsegA' Tk.cs_len ot (by omega)
  have lc := OwnL.lsegA' Cn.cs_len oc (by omega)
  obtain ⟨ta, tc, rfl⟩ := ot.shape
  obtain ⟨ca, cc, rfl⟩ := oc.shape
  obtain ⟨tl, htl⟩ : ∃ l, (tksOf 0 ns).length = l := ⟨_, rfl⟩
  obtain ⟨cl, hcl⟩ : ∃ l, (chJ ns 0 ns).length = l := ⟨_, rfl⟩
  rw [htl] at lt htlen ⊢
  rw [hcl] at lc hclen ⊢
  have HTL := hide htl
  have HCL := hide hcl
  have hx := below_box w3 (.cells #[.slice ta tl tc, .slice ca cl cc] 30)
  have hbb := B2.out.trans ((b3.trans (hx.mono b3.size)).mono B2.out.size)
  have GP0 : Hid (PO w (w3.alloc (.cells #[.slice ta tl tc, .slice ca cl cc] 30)) (.slice na ns.length ncp) w3.heap.size (.slice ta tl tc) (.slice ca cl cc) (tksOf 0 ns) (chJ ns 0 ns)) := by
    have hs := B2.out.size
    have hs3 := b3.size
    exact ⟨(X2.out.below b3).below hx, BoxT.new 30 w3 _, lt.below hx, lc.below hx, hbb, by omega⟩
  clear ot oc lt lc htl hcl hx hbb b3 c2 HMK
  as_aux_lemma =>
  go_wp2_with fail
  obtain ⟨P, hP⟩ : ∃ P, w3.heap.size = P := ⟨_, rfl⟩
  rw [hP] at GP0 ⊢
  clear hP
  have HKW : Hid (∀ w', Below w.heap.size w w' → LSeg 1 ic w.heap.size w' (.slice ka keys.length kcp) keys) := fun w' h => HKS.out.below h
  go_loopg [6] (keys.length + 1) (fun gh iv wr => ∃ i : Nat, iv = .int .i64 (i : Int) ∧ i ≤ keys.length ∧ keys.length + 1 ≤ gh + i ∧ Hid (PO w wr (.slice na ns.length ncp) P (.slice ta tl tc) (.slice ca cl cc) (tksOf 0 ns) (chJ ns 0 ns)))
  case atStart => exact ⟨0, rfl, by omega, by omega, GP0⟩
  case round =>
    clear GP0
    obtain ⟨i, rfl, hi, hg, GP⟩ := hrel
    obtain ⟨g1, rfl⟩ : ∃ go, gk = go + 1 := ⟨gk - 1, by omega⟩
    obtain ⟨wo, hwo⟩ : ∃ wo, wo = wr := ⟨_, rfl⟩
    subst hwo
    by_cases hil : i < keys.length
    rotate_left
    · have bi : ¬ (i : Int) < (keys.length : Int) := by omega
      as_aux_lemma =>
      go_wp2_with fail
      go_ret
      exact ⟨rfl, GP.out.bl⟩
    obtain ⟨key, hkey⟩ := get_of_lt hil
    have bi : (i : Int) < (keys.length : Int) := by omega
    obtain ⟨kb, ko, hka, klt, -⟩ := (HKW.out _ GP.out.bl).num hkey
    subst hka
    have HKC : Hid (∀ w', Below w.heap.size w w' → w'.cell? ⟨kb, ko + i, none⟩ = some (.int .i64 key)) := fun w' h => by
      obtain ⟨kb', ko', e, _, q⟩ := (HKW.out _ h).num hkey
      cases e
      exact q
    have HOUT : Hid (∀ t : Nat, outR ns (tksOf 0 ns) (chJ ns 0 ns) (plc (fun c : Cn => decide (c.fr = (t : Int))) 0 (chJ ns 0 ns)) (grp key : Int) (plc (fun c : Cn => decide (c.fr = (t : Int))) 0 (chJ ns 0 ns)).length = plc (outsP ns (tksOf 0 ns) (t : Int) (grp key : Int)) 0 (chJ ns 0 ns)) := fun t => outR_eq HIN.out HPAR.out (grp_lt key)
    have HHOME : Hid (∀ (t j : Nat), j ∈ plc (outsP ns (tksOf 0 ns) (t : Int) (grp key : Int)) 0 (chJ ns 0 ns) → ∃ (c : Cn) (i b : Nat) (n : Nd), (chJ ns 0 ns)[j]? = some c ∧ c.fr = (t : Int) ∧ ns[i]? = some n ∧ b < n.par.toNat ∧ c.tg = ((off ns i + b : Nat) : Int) ∧ (kyd ns (i : Int) = true → (b : Int) = prt (grp key : Int) n.par)) := fun t j h => out_home HIN.out h
    have m2 : ∀ W : World, (Instr.makeSlice 34 (.int .i64 (ns.length : Int)) (.int .i64 (ns.length : Int))).run Try.prog W = _ := fun W => mkN W ns.length (by omega)
    have ecH : ((List.replicate ns.length 0).map fun x : Nat => Value.int .i64 (x : Int)).toArray = ((List.replicate 0 (-1 : Int) ++ List.replicate (ns.length - 0) 0).map (Value.int .i64)).toArray := by simp
    rw [ecH] at m2
    obtain ⟨cH, hcH⟩ : ∃ c, ((List.replicate 0 (-1 : Int) ++ List.replicate (ns.length - 0) 0).map (Value.int .i64)).toArray = c := ⟨_, rfl⟩
    rw [hcH] at m2
    have c4 : wo.cell? ⟨w.heap.size, 0, none⟩ = some (.slice na ns.length ncp) := by rw [GP.out.jx.cellAt]; rfl
    have hPo : P < wo.heap.size := GP.out.px.lt
    have hy := below_box wo (.cells cH 3)
    have GPA := hide (GP.out.below hy)
    have GHA : Hid (BoxT 3 (wo.alloc (.cells cH 3)) wo.heap.size ((List.replicate 0 (-1 : Int) ++ List.replicate (ns.length - 0) 0).map (Value.int .i64)).toArray) := (show BoxT _ _ _ _ by rw [hcH]; exact BoxT.new 3 wo cH)
    clear hcH hkey hy ecH
    as_aux_lemma =>
    go_wp2_with fail
    obtain ⟨F, hF⟩ : ∃ F, wo.heap.size = F := ⟨_, rfl⟩
    rw [hF] at GHA hPo ⊢
    clear hF c4 m2
    go_loopg [8] (ns.length + 1) (fun gh kv wr => ∃ k : Nat, kv = .int .i64 (k : Int) ∧ k ≤ ns.length ∧ ns.length + 1 ≤ gh + k ∧ Hid (BoxT 3 wr F ((List.replicate k (-1 : Int) ++ List.replicate (ns.length - k) 0).map (Value.int .i64)).toArray) ∧ Hid (PO w wr (.slice na ns.length ncp) P (.slice ta tl tc) (.slice ca cl cc) (tksOf 0 ns) (chJ ns 0 ns)))
    case atStart => exact ⟨0, rfl, by omega, by omega, GHA, GPA⟩
    case round =>
      clear GHA GPA
      obtain ⟨k, rfl, hk, hgk, GH, GQ⟩ := hrel
      obtain ⟨g2, rfl⟩ : ∃ go, gk = go + 1 := ⟨gk - 1, by omega⟩
      by_cases hkl : k < ns.length
      · have bk : (k : Int) < (ns.length : Int) := by omega
        have cf : wr.cell? ⟨F, k, none⟩ = some (.int .i64 0) := by rw [GH.out.cellAt]; exact map_get_int (rep_at _ _ hkl)
        have ff := GH.out.free k
        have GH2 : Hid (BoxT 3 (wr.setCell ⟨F, k, none⟩ (.int .i64 (-1))) F ((List.replicate (k + 1) (-1 : Int) ++ List.replicate (ns.length - (k + 1)) 0).map (Value.int .i64)).toArray) := (show BoxT _ _ _ _ by
          have := GH.out.set k (.int .i64 (-1))
          rwa [map_set (Value.int .i64), rep_step _ _ hkl] at this)
        have GQ2 := hide (GQ.out.set (F := F) (x := k) (u := .int .i64 (-1)) hPo)
        as_aux_lemma =>
        go_wp2_with fail
        go_roundg g2
        case rel => exact ⟨k + 1, by go_num, by omega, by omega, GH2, GQ2⟩
        case measure => omega
      · have bk : ¬ (k : Int) < (ns.length : Int) := by omega
        have hke : k = ns.length := by omega
        rw [hke, Nat.sub_self, List.replicate_zero, List.append_nil] at GH
        clear hke hgk hk hkl
        have GHX : Hid (∃ hs : List Int, hs.length = ns.length ∧ BoxT 3 wr F (hs.map (Value.int .i64)).toArray ∧ ∀ (i : Nat) (h : Int) (n : Nd), hs[i]? = some h → ns[i]? = some n → h = -1 ∨ h = (off ns i : Int) + prt (grp key : Int) n.par) := ⟨_, by simp, GH.out, fun i h n h1 _ => .inl (rep_get h1)⟩
        have p0 : wr.cell? ⟨P, 0, none⟩ = some (.slice ta tl tc) := by rw [GQ.out.px.cellAt]; rfl
        clear GH
        as_aux_lemma =>
        go_wp2_with fail
        have hFr : F < wr.heap.size := by
          obtain ⟨hs, _, hh, _⟩ := GHX.out
          exact hh.lt
        go_loopg [9] (tl + 1) (fun gh tv wr => ∃ t : Nat, tv = .int .i64 (t : Int) ∧ t ≤ tl ∧ tl + 1 ≤ gh + t ∧ Hid (∃ hs : List Int, hs.length = ns.length ∧ BoxT 3 wr F (hs.map (Value.int .i64)).toArray ∧ ∀ (i : Nat) (h : Int) (n : Nd), hs[i]? = some h → ns[i]? = some n → h = -1 ∨ h = (off ns i : Int) + prt (grp key : Int) n.par) ∧ Hid (PO w wr (.slice na ns.length ncp) P (.slice ta tl tc) (.slice ca cl cc) (tksOf 0 ns) (chJ ns 0 ns)))
        case atStart => exact ⟨0, rfl, by omega, by omega, GHX, GQ⟩
        case round =>
          clear GHX GQ p0 hFr
          obtain ⟨t, rfl, ht, hgt, GHX, GQ⟩ := hrel
          obtain ⟨g3, rfl⟩ : ∃ go, gk = go + 1 := ⟨gk - 1, by omega⟩
          obtain ⟨wt, hwt⟩ : ∃ wt, wt = wr := ⟨_, rfl⟩
          subst hwt
          have p0 : wt.cell? ⟨P, 0, none⟩ = some (.slice ta tl tc) := by rw [GQ.out.px.cellAt]; rfl
          by_cases htt : t < tl
          rotate_left
          · have bt : ¬ (t : Int) < (tl : Int) := by omega
            as_aux_lemma =>
            go_wp2_with fail
            go_roundg g1
            case rel => exact ⟨i + 1, by go_num, by omega, by omega, GQ⟩
            case measure => omega
          have bt : (t : Int) < (tl : Int) := by omega
          have p1 : wt.cell? ⟨P, 1, none⟩ = some (.slice ca cl cc) := by rw [GQ.out.px.cellAt]; rfl
          have j0 : wt.cell? ⟨w.heap.size, 0, none⟩ = some (.slice na ns.length ncp) := by rw [GQ.out.jx.cellAt]; rfl
          have q0 := HKC.out _ GQ.out.bl
          obtain ⟨L, hL⟩ : ∃ L, plc (outsP ns (tksOf 0 ns) (t : Int) (grp key : Int)) 0 (chJ ns 0 ns) = L := ⟨_, rfl⟩
          have HLL : Hid (L.length ≤ 768) := (show _ ≤ _ by rw [← hL]; have := plc_len (outsP ns (tksOf 0 ns) (t : Int) (grp key : Int)) (chJ ns 0 ns) 0; rw [HCL.out] at this; omega)
          have HO : Hid (∀ w', Below wt.heap.size wt w' → Calls Try.prog 20 #[.agg #[.slice na ns.length ncp], .agg #[.slice ta tl tc, .slice ca cl cc], .int .i64 (t : Int), .int .i64 key] w' fun e w'' => ∃ la lc, e = .returned (.slice la L.length lc) ∧ OwnN w'.heap.size w'' (.slice la L.length lc) L ∧ Below w'.heap.size w' w'') := fun w' h => by
            have gq := GQ.out.below h
            refine (Outs_any ((HJ.out.below gq.bl).mono gq.bl.size) gq.tk gq.cn (by rw [HCL.out]; omega) (t : Int) key).mono (fun e w'' ⟨u, h1, h2, h3⟩ => ?_)
            rw [hL] at h2
            obtain ⟨la, lc, rfl⟩ := h2.shape
            exact ⟨la, lc, h1, h2, h3⟩
          have HRO : Hid (∀ w', Below wt.heap.size wt w' → Calls Try.prog 21 #[.agg #[.slice na ns.length ncp], .agg #[.slice ta tl tc, .slice ca cl cc], .int .i64 (t : Int), .int .i64 key] w' fun e w'' => ∃ la lc, e = .returned (.slice la L.length lc) ∧ OwnN w'.heap.size w'' (.slice la L.length lc) L ∧ Below w'.heap.size w' w'') := fun w' h => by
            have gq := GQ.out.below h
            refine (ROuts_any ((HJ.out.below gq.bl).mono gq.bl.size) gq.tk gq.cn (by rw [HCL.out]; omega) HCT.out HTN.out (t : Int) key).mono (fun e w'' ⟨u, h1, h2, h3⟩ => ?_)
            rw [HOUT.out t, hL] at h2
            obtain ⟨la, lc, rfl⟩ := h2.shape
            exact ⟨la, lc, h1, h2, h3⟩
          have HHM : Hid (∀ j : Nat, j ∈ L → ∃ (c : Cn) (i b : Nat) (n : Nd), (chJ ns 0 ns)[j]? = some c ∧ c.fr = (t : Int) ∧ ns[i]? = some n ∧ b < n.par.toNat ∧ c.tg = ((off ns i + b : Nat) : Int) ∧ (kyd ns (i : Int) = true → (b : Int) = prt (grp key : Int) n.par)) := fun j hj => HHOME.out t j (by rw [hL]; exact hj)
          have KC : Hid (∀ w' : World, Below wt.heap.size wt w' → w'.cell? ⟨w.heap.size, 0, none⟩ = some (.slice na ns.length ncp) ∧ w'.cell? ⟨P, 0, none⟩ = some (.slice ta tl tc) ∧ w'.cell? ⟨P, 1, none⟩ = some (.slice ca cl cc) ∧ w'.cell? ⟨kb, ko + i, none⟩ = some (.int .i64 key)) := fun w' h => by
            have gq := GQ.out.below h
            exact ⟨(by rw [gq.jx.cellAt]; rfl), (by rw [gq.px.cellAt]; rfl), (by rw [gq.px.cellAt]; rfl), HKC.out _ gq.bl⟩
          clear hL HOUT HHOME
          have D0 : Hid (Below wt.heap.size wt wt.drew) := (Below.refl _ _).drew
          as_aux_lemma =>
          go_wp2_with fail
          go_region_held3 (fun w' => w'.cell? ⟨w.heap.size, 0, none⟩ = some (.slice na ns.length ncp) ∧ w'.cell? ⟨P, 0, none⟩ = some (.slice ta tl tc) ∧ w'.cell? ⟨P, 1, none⟩ = some (.slice ca cl cc) ∧ w'.cell? ⟨kb, ko + i, none⟩ = some (.int .i64 key)) (first | go_keep | exact ⟨j0, p0, p1, q0⟩ | exact KC.out _ D1.out) (first | (go_at_call 20; refine (HO.out _ D0.out).mono ?_; rintro e w4 ⟨la, lc, rfl, o4, b4⟩; have D1 := hide (D0.out.trans (b4.mono D0.out.size)); have O4 := hide o4; clear o4 b4))
          have O4' : Hid (OwnN wt.heap.size w4 (.slice la L.length lc) L) := O4.out
          have D2 : Hid (Below wt.heap.size wt w4.drew) := D1.out.drew
          obtain ⟨j1, p2, p3, q1⟩ := KC.out _ D1.out
          clear O4 D0 j0 p0 p1 q0
          go_wp2_with fail
          go_region_held3 (fun w' => w'.cell? ⟨w.heap.size, 0, none⟩ = some (.slice na ns.length ncp) ∧ w'.cell? ⟨P, 0, none⟩ = some (.slice ta tl tc) ∧ w'.cell? ⟨P, 1, none⟩ = some (.slice ca cl cc) ∧ w'.cell? ⟨kb, ko + i, none⟩ = some (.int .i64 key)) (first | go_keep | exact ⟨j1, p2, p3, q1⟩ | exact KC.out _ D3.out | exact KC.out _ D4.out) (first
            | (go_at_call 21; refine (HRO.out _ D2.out).mono ?_; rintro e w5 ⟨lb, ld, rfl, o5, b5⟩; have D3 := hide (D2.out.trans (b5.mono D2.out.size)); have B5 : Hid (Below w4.heap.size w4 w5) := ⟨b5.os, b5.tape, b5.output, b5.size, b5.block⟩; have O5 := hide o5; clear o5 b5)
            | (go_at_call 13; refine (Ints_any (OwnN.lseg (O4'.out.below B5.out) (by have := HLL.out; omega)) (OwnN.lseg O5.out (by have := HLL.out; omega))).mono ?_; rintro e w6 ⟨rfl, b6⟩; have D4 := hide (D3.out.trans (b6.mono D3.out.size)); have B6 := hide (B5.out.trans (b6.mono B5.out.size)); clear b6))
          have GL := hide (O4'.out.below B6.out)
          have GQ6 := hide (GQ.out.below D4.out)
          have GHX6 : Hid (∃ hs : List Int, hs.length = ns.length ∧ BoxT 3 w6 F (hs.map (Value.int .i64)).toArray ∧ ∀ (i : Nat) (h : Int) (n : Nd), hs[i]? = some h → ns[i]? = some n → h = -1 ∨ h = (off ns i : Int) + prt (grp key : Int) n.par) := by
            obtain ⟨hs, h1, h2, h3⟩ := GHX.out
            exact ⟨hs, h1, h2.below D4.out, h3⟩
          have hFt : F < wt.heap.size := by
            obtain ⟨hs, _, hh, _⟩ := GHX.out
            exact hh.lt
          clear O4' O5 B5 B6 D1 D2 D3 D4 HO HRO j1 p2 p3 q1 KC GHX GQ
          go_wp2_with fail
          go_loopg [11] (L.length + 1) (fun gh mv wr => ∃ m : Nat, mv = .int .i64 (m : Int) ∧ m ≤ L.length ∧ L.length + 1 ≤ gh + m ∧ Hid (OwnN wt.heap.size wr (.slice la L.length lc) L) ∧ Hid (∃ hs : List Int, hs.length = ns.length ∧ BoxT 3 wr F (hs.map (Value.int .i64)).toArray ∧ ∀ (i : Nat) (h : Int) (n : Nd), hs[i]? = some h → ns[i]? = some n → h = -1 ∨ h = (off ns i : Int) + prt (grp key : Int) n.par) ∧ Hid (PO w wr (.slice na ns.length ncp) P (.slice ta tl tc) (.slice ca cl cc) (tksOf 0 ns) (chJ ns 0 ns)))
          case atStart => exact ⟨0, rfl, by omega, by omega, GL, GHX6, GQ6⟩
          case round =>
            clear GHX6 GQ6 GL
            obtain ⟨m, rfl, hm, hgm, GL, GHX, GQ⟩ := hrel
            obtain ⟨g4, rfl⟩ : ∃ go, gk = go + 1 := ⟨gk - 1, by omega⟩
            by_cases hml : m < L.length
            rotate_left
            · have bm : ¬ (m : Int) < (L.length : Int) := by omega
              as_aux_lemma =>
              go_wp2_with fail
              go_roundg g3
              case rel => exact ⟨t + 1, by go_num, by omega, by omega, GHX, GQ⟩
              case measure => omega
            have bm : (m : Int) < (L.length : Int) := by omega
            have hLLn : L.length ≤ 768 := HLL.out
            obtain ⟨j, hj⟩ := get_of_lt hml
            obtain ⟨c, x, b, n, hc, hfr, hn, hb, htg, hky⟩ := HHM.out j (List.mem_of_getElem? hj)
            have hts := tks_at hn hb
            obtain ⟨g, hgq⟩ : ∃ g, off ns x + b = g := ⟨_, rfl⟩
            rw [hgq] at hts htg
            have bj : (j : Int) < (cl : Int) := by have := lt_of_get hc; rw [HCL.out] at this; omega
            have bg : (g : Int) < (tl : Int) := by have := lt_of_get hts; rw [HTL.out] at this; omega
            have bx : (x : Int) < (ns.length : Int) := by have := lt_of_get hn; omega
            obtain ⟨lb, lo, hla, llt, cl0⟩ := (OwnN.lseg GL.out (by have := HLL.out; omega)).num (k := m) (x := (j : Int)) (by rw [List.getElem?_map, hj]; rfl)
            obtain ⟨cb, co, hca, clt, d0, d1, d2⟩ := seg_cn GQ.out.c hc
            obtain ⟨tb, to0, hta, tlt, e0, e1⟩ := seg_tk GQ.out.t hts
            subst hla hca hta
            rw [hfr] at d0
            rw [htg] at d1
            simp only at e0 e1
            obtain ⟨hs, hsl, hH, hI⟩ := GHX.out
            obtain ⟨h, hh⟩ := get_of_lt (l := hs) (i := x) (by rw [hsl]; exact lt_of_get hn)
            have p0 : wr.cell? ⟨P, 0, none⟩ = some (.slice (some ⟨tb, to0, none⟩) tl tc) := by rw [GQ.out.px.cellAt]; rfl
            have p1 : wr.cell? ⟨P, 1, none⟩ = some (.slice (some ⟨cb, co, none⟩) cl cc) := by rw [GQ.out.px.cellAt]; rfl
            have j0 : wr.cell? ⟨w.heap.size, 0, none⟩ = some (.slice na ns.length ncp) := by rw [GQ.out.jx.cellAt]; rfl
            have hPr : P < wr.heap.size := GQ.out.px.lt
            have bz1 : cb < wr.heap.size := by omega
            have bz2 : tb < wr.heap.size := by omega
            have bz3 : w.heap.size < wr.heap.size := GQ.out.jx.lt
            have hFr : F < wr.heap.size := hH.lt
            have B5 : Hid (Below wr.heap.size wr ((wr.drew.alloc (.cells #[.int .i64 (t : Int), .int .i64 (g : Int), .int .i64 c.inp] 40)).alloc (.cells #[.int .i64 (x : Int), .int .i64 (b : Int)] 42))) := ((Below.refl _ _).drew.alloc (Nat.le_refl _) _).alloc (by simp) _
            have h2 := two2 wr.drew (.cells #[.int .i64 (t : Int), .int .i64 (g : Int), .int .i64 c.inp] 40) (.cells #[.int .i64 (x : Int), .int .i64 (b : Int)] 42)
            have XC5 : Hid (BoxT 40 ((wr.drew.alloc (.cells #[.int .i64 (t : Int), .int .i64 (g : Int), .int .i64 c.inp] 40)).alloc (.cells #[.int .i64 (x : Int), .int .i64 (b : Int)] 42)) wr.heap.size #[.int .i64 (t : Int), .int .i64 (g : Int), .int .i64 c.inp]) := h2.1
            have XT5 : Hid (BoxT 42 ((wr.drew.alloc (.cells #[.int .i64 (t : Int), .int .i64 (g : Int), .int .i64 c.inp] 40)).alloc (.cells #[.int .i64 (x : Int), .int .i64 (b : Int)] 42)) (wr.heap.size + 1) #[.int .i64 (x : Int), .int .i64 (b : Int)]) := h2.2
            have hbl := GQ.out.bl.trans (B5.out.mono GQ.out.bl.size)
            have HKY := hide (RKeyed_any ((HJ.out.below hbl).mono hbl.size) (x : Int))
            obtain ⟨ky, hkq⟩ : ∃ k, kyd ns (x : Int) = k := ⟨_, rfl⟩
            rw [hkq] at HKY hky
            have HIV : Hid (ky = true → (h = -1 ∨ h = (g : Int)) ∧ ∀ (i : Nat) (h : Int) (n : Nd), (hs.set x (g : Int))[i]? = some h → ns[i]? = some n → h = -1 ∨ h = (off ns i : Int) + prt (grp key : Int) n.par) := fun hk => by
              have hbp := hky hk
              have hgo : (g : Int) = (off ns x : Int) + prt (grp key : Int) n.par := by rw [← hbp, ← hgq]; push_cast; rfl
              refine ⟨?_, fun i h' n' h1 h3 => ?_⟩
              · rw [hgo]; exact hI x h n hh hn
              · rw [get_set (lt_of_get hh)] at h1
                by_cases hix : i = x
                · rw [if_pos hix] at h1
                  cases h1
                  subst hix
                  rw [hn] at h3
                  cases h3
                  exact .inr hgo
                · rw [if_neg hix] at h1
                  exact hI i h' n' h1 h3
            have hsl2 : (hs.set x (g : Int)).length = ns.length := by rw [List.length_set]; exact hsl
            have HSL := hide hsl2
            have HH := hide hH
            have HHH := hide hh
            clear hj hc hfr hn hb htg hky hts hgq hI hsl hsl2 hbl h2 hkq hH hh
            cases ky with
            | false =>
              clear HIV HSL HH HHH hs XC5 XT5 hFr
              as_aux_lemma =>
              go_wp2_with fail
              go_region
              all_goals
                go_wp2_with (go_at_call 19; refine HKY.out.mono ?_; rintro e w7 ⟨rfl, b7⟩; have D7 := hide (B5.out.trans (b7.mono B5.out.size)); clear b7)
                go_roundg g4
                case rel =>
                  refine ⟨m + 1, by go_num, by omega, by omega, GL.out.below D7.out, ?_, GQ.out.below D7.out⟩
                  obtain ⟨hs, h1, h2, h3⟩ := GHX.out
                  exact ⟨hs, h1, h2.below D7.out, h3⟩
                case measure => omega
            | true =>
              obtain ⟨hor, hset⟩ := HIV.out rfl
              have HSET := hide hset
              clear hset HIV GHX
              rcases hor with rfl | rfl
              · as_aux_lemma =>
                go_wp2_with fail
                go_region
                all_goals
                  go_wp2_with (go_at_call 19; refine HKY.out.mono ?_; rintro e w7 ⟨rfl, b7⟩; have D7 := hide (B5.out.trans (b7.mono B5.out.size)); have XC7 := hide (XC5.out.below b7); have XT7 := hide (XT5.out.below b7); clear b7)
                  have KC : Hid (∀ w' : World, Below w7.heap.size w7 w' → w'.cell? ⟨wr.heap.size + 1, 0, none⟩ = some (.int .i64 (x : Int)) ∧ w'.cell? ⟨F, x, none⟩ = some (.int .i64 (-1)) ∧ w'.cell? ⟨wr.heap.size, 1, none⟩ = some (.int .i64 (g : Int))) := fun w' h => ⟨(by rw [(XT7.out.below h).cellAt]; rfl), (by rw [((HH.out.below D7.out).below h).cellAt]; exact map_get_int HHH.out), (by rw [(XC7.out.below h).cellAt]; rfl)⟩
                  clear p0 p1 j0 d0 d1 d2 e0 e1 cl0
                  have B1 : Hid (Below (w7).heap.size (w7) (w7).drew) := (Below.refl _ _).drew
                  refine wp_region_M (S := fun w' => w'.cell? ⟨wr.heap.size + 1, 0, none⟩ = some (.int .i64 (x : Int)) ∧ w'.cell? ⟨F, x, none⟩ = some (.int .i64 (-1)) ∧ w'.cell? ⟨wr.heap.size, 1, none⟩ = some (.int .i64 (g : Int))) (late := []) (by kernel_rfl) (KC.out _ B1.out) (fun hHeld => ?_)
                  (try simp only [List.size_toArray, List.length_cons, List.length_nil, Nat.zero_add, Nat.reduceAdd, Array.replicate, List.replicate])
                  refine wpAnyM_take (i := 0) (oi := ⟨_, _, _, _, _, _⟩) (v := ?_) rfl (by kernel_rfl) (by kernel_rfl) (by kernel_rfl) (by kernel_rfl) (fun _ _ _ h => h) (Or.inl ⟨by rfl, ?_⟩) hHeld ?_
                  rotate_left
                  · (intro w' hSw; (try dsimp only at hSw); go_simp; try (with_reducible rfl))
                  (try simp only [Act.put, List.setIfInBounds_toArray, List.set_cons_zero, List.set_cons_succ])
                  refine wpAnyM_take (i := 1) (oi := ⟨_, _, _, _, _, _⟩) (v := ?_) rfl (by kernel_rfl) (by kernel_rfl) (by kernel_rfl) (by kernel_rfl) (fun _ _ _ h => h) (Or.inl ⟨by rfl, ?_⟩) hHeld ?_
                  rotate_left
                  · (intro w' hSw; (try dsimp only at hSw); go_simp; try (with_reducible rfl))
                  (try simp only [Act.put, List.setIfInBounds_toArray, List.set_cons_zero, List.set_cons_succ])
                  refine wpAnyM_take (i := 2) (oi := ⟨_, _, _, _, _, _⟩) (v := ?_) rfl (by kernel_rfl) (by kernel_rfl) (by kernel_rfl) (by kernel_rfl) (fun _ _ _ h => h) (Or.inl ⟨by rfl, ?_⟩) hHeld ?_
                  rotate_left
                  · (intro w' hSw; (try dsimp only at hSw); go_simp; try (with_reducible rfl))
                  (try simp only [Act.put, List.setIfInBounds_toArray, List.set_cons_zero, List.set_cons_succ])
                  refine wpAnyM_take (i := 3) (oi := ⟨_, _, _, _, _, _⟩) (v := ?_) rfl (by kernel_rfl) (by kernel_rfl) (by kernel_rfl) (by kernel_rfl) (fun _ _ _ h => h) (Or.inl ⟨by rfl, ?_⟩) hHeld ?_
                  rotate_left
                  · (intro w' hSw; (try dsimp only at hSw); go_simp; try (with_reducible rfl))
                  (try simp only [Act.put, List.setIfInBounds_toArray, List.set_cons_zero, List.set_cons_succ])
                  refine wpAnyM_take (i := 4) (oi := ⟨_, _, _, _, _, _⟩) (v := ?_) rfl (by kernel_rfl) (by kernel_rfl) (by kernel_rfl) (by kernel_rfl) (fun _ _ _ h => h) (Or.inl ⟨by rfl, ?_⟩) hHeld ?_
                  rotate_left
                  · (intro w' hSw; (try dsimp only at hSw); go_simp; try (with_reducible rfl))
                  (try simp only [Act.put, List.setIfInBounds_toArray, List.set_cons_zero, List.set_cons_succ])
                  refine wpAnyM_take (i := 5) (oi := ⟨_, _, _, _, _, _⟩) (v := ?_) rfl (by kernel_rfl) (by kernel_rfl) (by kernel_rfl) (by kernel_rfl) (fun _ _ _ h => h) (Or.inl ⟨by rfl, ?_⟩) hHeld ?_
                  rotate_left
                  · (intro w' hSw; (try dsimp only at hSw); go_simp; try (with_reducible rfl))
                  (try simp only [Act.put, List.setIfInBounds_toArray, List.set_cons_zero, List.set_cons_succ])
                  refine wpAnyM_take (i := 6) (oi := ⟨_, _, _, _, _, _⟩) (v := ?_) rfl (by kernel_rfl) (by kernel_rfl) (by kernel_rfl) (by kernel_rfl) (fun _ _ _ h => h) (Or.inl ⟨by rfl, ?_⟩) hHeld ?_
                  rotate_left
                  · (intro w' hSw; (try dsimp only at hSw); go_simp; try (with_reducible rfl))
                  (try simp only [Act.put, List.setIfInBounds_toArray, List.set_cons_zero, List.set_cons_succ])
                  refine wpAnyM_take (i := 7) (oi := ⟨_, _, _, _, _, _⟩) (v := undef) rfl (by kernel_rfl) (by kernel_rfl) (by kernel_rfl) (by kernel_rfl) (fun _ _ _ h => h) (Or.inr ⟨by rfl, rfl⟩) hHeld ?_
                  (try simp only [Act.put, List.setIfInBounds_toArray, List.set_cons_zero, List.set_cons_succ])
                  refine wpAnyM_take (i := 8) (oi := ⟨_, _, _, _, _, _⟩) (v := undef) rfl (by kernel_rfl) (by kernel_rfl) (by kernel_rfl) (by kernel_rfl) (fun _ _ _ h => h) (Or.inr ⟨by rfl, rfl⟩) hHeld ?_
                  (try simp only [Act.put, List.setIfInBounds_toArray, List.set_cons_zero, List.set_cons_succ])
                  refine wpAnyM_take (i := 9) (oi := ⟨_, _, _, _, _, _⟩) (v := undef) rfl (by kernel_rfl) (by kernel_rfl) (by kernel_rfl) (by kernel_rfl) (fun _ _ _ h => h) (Or.inr ⟨by rfl, rfl⟩) hHeld ?_
                  (try simp only [Act.put, List.setIfInBounds_toArray, List.set_cons_zero, List.set_cons_succ])
                  refine wpAnyM_take (i := 10) (oi := ⟨_, _, _, _, _, _⟩) (v := undef) rfl (by kernel_rfl) (by kernel_rfl) (by kernel_rfl) (by kernel_rfl) (fun _ _ _ h => h) (Or.inr ⟨by rfl, rfl⟩) hHeld ?_
                  (try simp only [Act.put, List.setIfInBounds_toArray, List.set_cons_zero, List.set_cons_succ])
                  refine wpAnyM_take (i := 11) (oi := ⟨_, _, _, _, _, _⟩) (v := undef) rfl (by kernel_rfl) (by kernel_rfl) (by kernel_rfl) (by kernel_rfl) (fun _ _ _ h => h) (Or.inr ⟨by rfl, rfl⟩) hHeld ?_
                  (try simp only [Act.put, List.setIfInBounds_toArray, List.set_cons_zero, List.set_cons_succ])
                  refine wpAnyM_take (i := 12) (oi := ⟨_, _, _, _, _, _⟩) (v := undef) rfl (by kernel_rfl) (by kernel_rfl) (by kernel_rfl) (by kernel_rfl) (fun _ _ _ h => h) (Or.inr ⟨by rfl, rfl⟩) hHeld ?_
                  (try simp only [Act.put, List.setIfInBounds_toArray, List.set_cons_zero, List.set_cons_succ])
                  refine wpAnyM_take (i := 13) (oi := ⟨_, _, _, _, _, _⟩) (v := undef) rfl (by kernel_rfl) (by kernel_rfl) (by kernel_rfl) (by kernel_rfl) (fun _ _ _ h => h) (Or.inr ⟨by rfl, rfl⟩) hHeld ?_
                  (try simp only [Act.put, List.setIfInBounds_toArray, List.set_cons_zero, List.set_cons_succ])
                  refine wpAnyM_take (i := 14) (oi := ⟨_, _, _, _, _, _⟩) (v := undef) rfl (by kernel_rfl) (by kernel_rfl) (by kernel_rfl) (by kernel_rfl) (fun _ _ _ h => h) (Or.inr ⟨by rfl, rfl⟩) hHeld ?_
                  (try simp only [Act.put, List.setIfInBounds_toArray, List.set_cons_zero, List.set_cons_succ])
                  refine wpAnyM_take (i := 15) (oi := ⟨_, _, _, _, _, _⟩) (v := ?_) rfl (by kernel_rfl) (by kernel_rfl) (by kernel_rfl) (by kernel_rfl) (fun _ _ _ h => h) (Or.inl ⟨by rfl, ?_⟩) hHeld ?_
                  rotate_left
                  · (intro w' hSw; (try dsimp only at hSw); go_simp; try (with_reducible rfl))
                  (try simp only [Act.put, List.setIfInBounds_toArray, List.set_cons_zero, List.set_cons_succ])
                  refine wpAnyM_done (by kernel_rfl) ?_ _
                  have cf : w7.cell? ⟨F, x, none⟩ = some (.int .i64 (-1)) := by rw [(HH.out.below D7.out).cellAt]; exact map_get_int HHH.out
                  have ff := (HH.out.below D7.out).free x
                  have ct0 : w7.cell? ⟨wr.heap.size + 1, 0, none⟩ = some (.int .i64 (x : Int)) := by rw [XT7.out.cellAt]; rfl
                  have cc1 : w7.cell? ⟨wr.heap.size, 1, none⟩ = some (.int .i64 (g : Int)) := by rw [XC7.out.cellAt]; rfl
                  have GZ : Hid (BoxT 3 (w7.drew.setCell ⟨F, x, none⟩ (.int .i64 (g : Int))) F ((hs.set x (g : Int)).map (Value.int .i64)).toArray) := (show BoxT _ _ _ _ by
                    have := (HH.out.below D7.out.drew).set x (.int .i64 (g : Int))
                    rwa [map_set (Value.int .i64)] at this)
                  have GQ8 := hide ((GQ.out.below D7.out.drew).set (F := F) (x := x) (u := .int .i64 (g : Int)) hPo)
                  have GL8 : Hid (OwnN wt.heap.size (w7.drew.setCell ⟨F, x, none⟩ (.int .i64 (g : Int))) _ L) := OwnN.setOther (GL.out.below D7.out.drew) hFt
                  go_wp2_with fail
                  go_roundg g4
                  case rel => exact ⟨m + 1, by go_num, by omega, by omega, GL8, ⟨hs.set x (g : Int), HSL.out, GZ.out, HSET.out⟩, GQ8⟩
                  case measure => omega
              · as_aux_lemma =>
                go_wp2_with fail
                go_region
                all_goals
                  go_wp2_with (go_at_call 19; refine HKY.out.mono ?_; rintro e w7 ⟨rfl, b7⟩; have D7 := hide (B5.out.trans (b7.mono B5.out.size)); have XC7 := hide (XC5.out.below b7); have XT7 := hide (XT5.out.below b7); clear b7)
                  have KC : Hid (∀ w' : World, Below w7.heap.size w7 w' → w'.cell? ⟨wr.heap.size + 1, 0, none⟩ = some (.int .i64 (x : Int)) ∧ w'.cell? ⟨F, x, none⟩ = some (.int .i64 (g : Int)) ∧ w'.cell? ⟨wr.heap.size, 1, none⟩ = some (.int .i64 (g : Int))) := fun w' h => ⟨(by rw [(XT7.out.below h).cellAt]; rfl), (by rw [((HH.out.below D7.out).below h).cellAt]; exact map_get_int HHH.out), (by rw [(XC7.out.below h).cellAt]; rfl)⟩
                  clear p0 p1 j0 d0 d1 d2 e0 e1 cl0
                  have B1 : Hid (Below (w7).heap.size (w7) (w7).drew) := (Below.refl _ _).drew
                  refine wp_region_M (S := fun w' => w'.cell? ⟨wr.heap.size + 1, 0, none⟩ = some (.int .i64 (x : Int)) ∧ w'.cell? ⟨F, x, none⟩ = some (.int .i64 (g : Int)) ∧ w'.cell? ⟨wr.heap.size, 1, none⟩ = some (.int .i64 (g : Int))) (late := []) (by kernel_rfl) (KC.out _ B1.out) (fun hHeld => ?_)
                  (try simp only [List.size_toArray, List.length_cons, List.length_nil, Nat.zero_add, Nat.reduceAdd, Array.replicate, List.replicate])
                  refine wpAnyM_take (i := 0) (oi := ⟨_, _, _, _, _, _⟩) (v := ?_) rfl (by kernel_rfl) (by kernel_rfl) (by kernel_rfl) (by kernel_rfl) (fun _ _ _ h => h) (Or.inl ⟨by rfl, ?_⟩) hHeld ?_
                  rotate_left
                  · (intro w' hSw; (try dsimp only at hSw); go_simp; try (with_reducible rfl))
                  (try simp only [Act.put, List.setIfInBounds_toArray, List.set_cons_zero, List.set_cons_succ])
                  refine wpAnyM_take (i := 1) (oi := ⟨_, _, _, _, _, _⟩) (v := ?_) rfl (by kernel_rfl) (by kernel_rfl) (by kernel_rfl) (by kernel_rfl) (fun _ _ _ h => h) (Or.inl ⟨by rfl, ?_⟩) hHeld ?_
                  rotate_left
                  · (intro w' hSw; (try dsimp only at hSw); go_simp; try (with_reducible rfl))
                  (try simp only [Act.put, List.setIfInBounds_toArray, List.set_cons_zero, List.set_cons_succ])
                  refine wpAnyM_take (i := 2) (oi := ⟨_, _, _, _, _, _⟩) (v := ?_) rfl (by kernel_rfl) (by kernel_rfl) (by kernel_rfl) (by kernel_rfl) (fun _ _ _ h => h) (Or.inl ⟨by rfl, ?_⟩) hHeld ?_
                  rotate_left
                  · (intro w' hSw; (try dsimp only at hSw); go_simp; try (with_reducible rfl))
                  (try simp only [Act.put, List.setIfInBounds_toArray, List.set_cons_zero, List.set_cons_succ])
                  refine wpAnyM_take (i := 3) (oi := ⟨_, _, _, _, _, _⟩) (v := ?_) rfl (by kernel_rfl) (by kernel_rfl) (by kernel_rfl) (by kernel_rfl) (fun _ _ _ h => h) (Or.inl ⟨by rfl, ?_⟩) hHeld ?_
                  rotate_left
                  · (intro w' hSw; (try dsimp only at hSw); go_simp; try (with_reducible rfl))
                  (try simp only [Act.put, List.setIfInBounds_toArray, List.set_cons_zero, List.set_cons_succ])
                  refine wpAnyM_take (i := 4) (oi := ⟨_, _, _, _, _, _⟩) (v := ?_) rfl (by kernel_rfl) (by kernel_rfl) (by kernel_rfl) (by kernel_rfl) (fun _ _ _ h => h) (Or.inl ⟨by rfl, ?_⟩) hHeld ?_
                  rotate_left
                  · (intro w' hSw; (try dsimp only at hSw); go_simp; try (with_reducible rfl))
                  (try simp only [Act.put, List.setIfInBounds_toArray, List.set_cons_zero, List.set_cons_succ])
                  refine wpAnyM_take (i := 5) (oi := ⟨_, _, _, _, _, _⟩) (v := ?_) rfl (by kernel_rfl) (by kernel_rfl) (by kernel_rfl) (by kernel_rfl) (fun _ _ _ h => h) (Or.inl ⟨by rfl, ?_⟩) hHeld ?_
                  rotate_left
                  · (intro w' hSw; (try dsimp only at hSw); go_simp; try (with_reducible rfl))
                  (try simp only [Act.put, List.setIfInBounds_toArray, List.set_cons_zero, List.set_cons_succ])
                  refine wpAnyM_take (i := 6) (oi := ⟨_, _, _, _, _, _⟩) (v := ?_) rfl (by kernel_rfl) (by kernel_rfl) (by kernel_rfl) (by kernel_rfl) (fun _ _ _ h => h) (Or.inl ⟨by rfl, ?_⟩) hHeld ?_
                  rotate_left
                  · (intro w' hSw; (try dsimp only at hSw); go_simp; try (with_reducible rfl))
                  (try simp only [Act.put, List.setIfInBounds_toArray, List.set_cons_zero, List.set_cons_succ])
                  refine wpAnyM_take (i := 7) (oi := ⟨_, _, _, _, _, _⟩) (v := ?_) rfl (by kernel_rfl) (by kernel_rfl) (by kernel_rfl) (by kernel_rfl) (fun _ _ _ h => h) (Or.inl ⟨by rfl, ?_⟩) hHeld ?_
                  rotate_left
                  · (intro w' hSw; (try dsimp only at hSw); go_simp; try (with_reducible rfl))
                  (try simp only [Act.put, List.setIfInBounds_toArray, List.set_cons_zero, List.set_cons_succ])
                  refine wpAnyM_take (i := 8) (oi := ⟨_, _, _, _, _, _⟩) (v := ?_) rfl (by kernel_rfl) (by kernel_rfl) (by kernel_rfl) (by kernel_rfl) (fun _ _ _ h => h) (Or.inl ⟨by rfl, ?_⟩) hHeld ?_
                  rotate_left
                  · (intro w' hSw; (try dsimp only at hSw); go_simp; try (with_reducible rfl))
                  (try simp only [Act.put, List.setIfInBounds_toArray, List.set_cons_zero, List.set_cons_succ])
                  refine wpAnyM_take (i := 9) (oi := ⟨_, _, _, _, _, _⟩) (v := ?_) rfl (by kernel_rfl) (by kernel_rfl) (by kernel_rfl) (by kernel_rfl) (fun _ _ _ h => h) (Or.inl ⟨by rfl, ?_⟩) hHeld ?_
                  rotate_left
                  · (intro w' hSw; (try dsimp only at hSw); go_simp; try (with_reducible rfl))
                  (try simp only [Act.put, List.setIfInBounds_toArray, List.set_cons_zero, List.set_cons_succ])
                  refine wpAnyM_take (i := 10) (oi := ⟨_, _, _, _, _, _⟩) (v := ?_) rfl (by kernel_rfl) (by kernel_rfl) (by kernel_rfl) (by kernel_rfl) (fun _ _ _ h => h) (Or.inl ⟨by rfl, ?_⟩) hHeld ?_
                  rotate_left
                  · (intro w' hSw; (try dsimp only at hSw); go_simp; try (with_reducible rfl))
                  (try simp only [Act.put, List.setIfInBounds_toArray, List.set_cons_zero, List.set_cons_succ])
                  refine wpAnyM_take (i := 11) (oi := ⟨_, _, _, _, _, _⟩) (v := ?_) rfl (by kernel_rfl) (by kernel_rfl) (by kernel_rfl) (by kernel_rfl) (fun _ _ _ h => h) (Or.inl ⟨by rfl, ?_⟩) hHeld ?_
                  rotate_left
                  · (intro w' hSw; (try dsimp only at hSw); go_simp; try (with_reducible rfl))
                  (try simp only [Act.put, List.setIfInBounds_toArray, List.set_cons_zero, List.set_cons_succ])
                  refine wpAnyM_take (i := 12) (oi := ⟨_, _, _, _, _, _⟩) (v := ?_) rfl (by kernel_rfl) (by kernel_rfl) (by kernel_rfl) (by kernel_rfl) (fun _ _ _ h => h) (Or.inl ⟨by rfl, ?_⟩) hHeld ?_
                  rotate_left
                  · (intro w' hSw; (try dsimp only at hSw); go_simp; try (with_reducible rfl))
                  (try simp only [Act.put, List.setIfInBounds_toArray, List.set_cons_zero, List.set_cons_succ])
                  refine wpAnyM_take (i := 13) (oi := ⟨_, _, _, _, _, _⟩) (v := ?_) rfl (by kernel_rfl) (by kernel_rfl) (by kernel_rfl) (by kernel_rfl) (fun _ _ _ h => h) (Or.inl ⟨by rfl, ?_⟩) hHeld ?_
                  rotate_left
                  · (intro w' hSw; (try dsimp only at hSw); go_simp; try (with_reducible rfl))
                  (try simp only [Act.put, List.setIfInBounds_toArray, List.set_cons_zero, List.set_cons_succ])
                  refine wpAnyM_take (i := 14) (oi := ⟨_, _, _, _, _, _⟩) (v := ?_) rfl (by kernel_rfl) (by kernel_rfl) (by kernel_rfl) (by kernel_rfl) (fun _ _ _ h => h) (Or.inl ⟨by rfl, ?_⟩) hHeld ?_
                  rotate_left
                  · (intro w' hSw; (try dsimp only at hSw); go_simp; try (with_reducible rfl))
                  (try simp only [Act.put, List.setIfInBounds_toArray, List.set_cons_zero, List.set_cons_succ])
                  refine wpAnyM_take (i := 15) (oi := ⟨_, _, _, _, _, _⟩) (v := ?_) rfl (by kernel_rfl) (by kernel_rfl) (by kernel_rfl) (by kernel_rfl) (fun _ _ _ h => h) (Or.inl ⟨by rfl, ?_⟩) hHeld ?_
                  rotate_left
                  · (intro w' hSw; (try dsimp only at hSw); go_simp; try (with_reducible rfl))
                  (try simp only [Act.put, List.setIfInBounds_toArray, List.set_cons_zero, List.set_cons_succ])
                  refine wpAnyM_done (by kernel_rfl) ?_ _
                  have cf : w7.cell? ⟨F, x, none⟩ = some (.int .i64 (g : Int)) := by rw [(HH.out.below D7.out).cellAt]; exact map_get_int HHH.out
                  have ff := (HH.out.below D7.out).free x
                  have ct0 : w7.cell? ⟨wr.heap.size + 1, 0, none⟩ = some (.int .i64 (x : Int)) := by rw [XT7.out.cellAt]; rfl
                  have cc1 : w7.cell? ⟨wr.heap.size, 1, none⟩ = some (.int .i64 (g : Int)) := by rw [XC7.out.cellAt]; rfl
                  have GZ : Hid (BoxT 3 (w7.drew.setCell ⟨F, x, none⟩ (.int .i64 (g : Int))) F ((hs.set x (g : Int)).map (Value.int .i64)).toArray) := (show BoxT _ _ _ _ by
                    have := (HH.out.below D7.out.drew).set x (.int .i64 (g : Int))
                    rwa [map_set (Value.int .i64)] at this)
                  have GQ8 := hide ((GQ.out.below D7.out.drew).set (F := F) (x := x) (u := .int .i64 (g : Int)) hPo)
                  have GL8 : Hid (OwnN wt.heap.size (w7.drew.setCell ⟨F, x, none⟩ (.int .i64 (g : Int))) _ L) := OwnN.setOther (GL.out.below D7.out.drew) hFt
                  go_wp2_with fail
                  go_roundg g4
                  case rel => exact ⟨m + 1, by go_num, by omega, by omega, GL8, ⟨hs.set x (g : Int), HSL.out, GZ.out, HSET.out⟩, GQ8⟩
                  case measure => omega
end Go.Proofs.Ytfiafbfbiidnlaa
