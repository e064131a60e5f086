/-
  Check where what it tells of an expression is left open: weigh and Check.
-/
import Derived.Test.YtecaghjddoajmaaJCkOpen
namespace Go.Proofs.Ytecaghjddoajmaa
open Go.RowKit

/-- What weigh hands back, its number r. -/
def WghO (w' : World) (ns : List Nd) (r : Int) (v : Value) : Prop :=
  r ≠ 0 ∨ (r = 0 ∧ (1 ≤ ns.length ∧ ns.length ≤ 12) ∧ ns.length ≤ (ordC (ns.map Nd.ins)).length ∧ ∃ G, v = .slice (some ⟨G, 0, none⟩) ns.length ns.length ∧ BoxT 3 w' G ((wts ns).map fun x : Nat => Value.int .i64 (x : Int)).toArray)
set_option maxHeartbeats 4000000 in
set_option maxRecDepth 100000 in
theorem weigh_open {w : World} {v : Value} {ns : List Nd} (hj : JobIn w.heap.size w v ns) (hE : ∀ n ∈ ns, Some52 w n) :
    Calls Try.prog 24 #[.agg #[v]] w fun e w' => ∃ (u : Value) (r : Int), e = .returned (.tuple #[u, .int .i64 r]) ∧ WghO w' ns r u ∧ Below w.heap.size w w' := by
  obtain ⟨na, ncp, rfl⟩ := hj.shape
  have hb : Below w.heap.size w (w.alloc (.cells #[.slice na ns.length ncp] 24)) := (Below.refl _ _).alloc (Nat.le_refl _) _
  have HB := hide hb
  have HBX := hide (BoxT.new 24 w #[.slice na ns.length ncp])
  have HJ := hide hj
  have HE := hide hE
  clear hb hj hE
  by_cases h0 : ns.length < 1 ∨ 12 < ns.length
  · by_cases h1 : ns.length < 1
    · have h2 : (ns.length : Int) < 1 := by omega
      clear h0
      go_enter Try.func24, Try.ntmps24
      go_wp2_with fail
      go_ret2
      exact ⟨_, _, rfl, .inl (by decide), HB.out⟩
    · have h2 : ¬ (ns.length : Int) < 1 := by omega
      have h3 : ¬ (ns.length : Int) ≤ 12 := by omega
      clear h0
      go_enter Try.func24, Try.ntmps24
      go_wp2_with fail
      go_ret2
      exact ⟨_, _, rfl, .inl (by decide), HB.out⟩
  · have h2 : ¬ (ns.length : Int) < 1 := by omega
    have h3 : (ns.length : Int) ≤ 12 := by omega
    have HLB : Hid (1 ≤ ns.length ∧ ns.length ≤ 12) := (show _ ∧ _ by omega)
    clear h0
    go_enter Try.func24, Try.ntmps24
    go_wp2_with fail
    go_loopg [24] (ns.length + 1) (fun g iv wr => ∃ t : Nat, iv = .int .i64 (t : Int) ∧ t ≤ ns.length ∧ ns.length + 1 ≤ g + t ∧ Hid (∀ n ∈ ns.take t, Fine ns n) ∧ Hid (Below w.heap.size w wr) ∧ Hid (BoxT 24 wr w.heap.size #[.slice na ns.length ncp]))
    case atStart => exact ⟨0, rfl, by omega, by omega, (fun n hn => by simp at hn), HB, HBX⟩
    case round =>
      obtain ⟨t, rfl, ht, hg, GF, GB, GX⟩ := hrel
      obtain ⟨go, rfl⟩ : ∃ go, gk = go + 1 := ⟨gk - 1, by omega⟩
      have cx : wr.cell? ⟨w.heap.size, 0, none⟩ = some (.slice na ns.length ncp) := by rw [GX.out.cellAt]; rfl
      by_cases hlt : t < ns.length
      · obtain ⟨n, hn⟩ := get_of_lt hlt
        have bt : (t : Int) < (ns.length : Int) := by omega
        obtain ⟨nb, no, rfl, nlt, d0, d1, d2, d3, d4, d5, d6, d7, d8, d9⟩ := (HJ.out.below GB.out).at_ hn
        have hnm := List.mem_of_getElem? hn
        have hb1 : Below wr.heap.size wr (wr.alloc (.cells n.cs.toArray 49)) := (Below.refl _ _).alloc (Nat.le_refl _) _
        have hb2 : Below w.heap.size w (wr.alloc (.cells n.cs.toArray 49)) := GB.out.trans (hb1.mono GB.out.size)
        have HCK := hide (checkNode_open n (HJ.out.below hb2) ((HJ.out.ins n hnm).below hb2) hb2.size (fun hk w' hb' => HE.out n hnm hk w' (hb2.trans (hb'.mono hb2.size))))
        have HB2 := hide hb2
        have hcx2 : (wr.alloc (.cells n.cs.toArray 49)).cell? ⟨w.heap.size, 0, none⟩ = some (.slice (some ⟨nb, no, none⟩) ns.length ncp) := by rw [(GX.out.below hb1).cellAt]; rfl
        have HX2 := hide (GX.out.below hb1)
        have HFN : Hid (∀ c, ckN (ns.map Nd.kind) n c = 0 → ∀ m ∈ ns.take (t + 1), Fine ns m) := fun c hc m hm => by
          rw [List.take_add_one, hn] at hm
          rcases List.mem_append.1 hm with hm | hm
          · exact GF.out m hm
          · have : m = n := by simpa using hm
            rw [this]; exact ck_fineC hc
        obtain ⟨CK, hCK⟩ : ∃ CK : Int → Int, ∀ c, ckN (ns.map Nd.kind) n c = CK c := ⟨_, fun _ => rfl⟩
        simp only [hCK] at HCK HFN
        clear hb1 hb2 hnm hn hCK
        obtain ⟨kd, ia, icp, ins, par, ⟨eo, en, ea, ec, el⟩, ag, wk, ws, wl⟩ := n
        unfold Nd.val at *
        unfold Nd.cs at *
        simp only at d0 d1 d2 d3 d4 d5 d6 d7 d8 d9 HCK HB2 hcx2 HX2
        go_wp2_with fail
        refine HCK.out.mono ?_
        rintro e w1 ⟨c, rfl, b1⟩
        obtain ⟨c', hc'⟩ : ∃ c', CK c = c' := ⟨_, rfl⟩
        have HFC := hide (HFN.out c)
        rw [hc'] at HFC ⊢
        clear hc' HFN
        by_cases hc0 : c' = 0
        · subst hc0
          have HF2 := hide (HFC.out rfl)
          clear HFC
          go_wp2_with fail
          go_roundg go
          case rel => exact ⟨t + 1, by go_num, by omega, by omega, HF2, HB2.out.trans (b1.mono HB2.out.size), HX2.out.below b1⟩
          case measure => omega
        · have hcn : (c' != 0) = true := by simp [hc0]
          have HC0 := hide hc0
          clear hc0 HFC
          go_wp2_with fail
          go_ret2
          exact ⟨_, _, rfl, .inl HC0.out, HB2.out.trans (b1.mono HB2.out.size)⟩
      · have bt : ¬ (t : Int) < (ns.length : Int) := by omega
        have hal : Hid (∀ n ∈ ns, Fine ns n) := by
          have := GF.out
          rw [List.take_of_length_le (by omega)] at this
          exact this
        have HOR := hide (Order_any (w := wr) ((HJ.out.below GB.out).mono GB.out.size) (by omega))
        obtain ⟨ord, hord⟩ : ∃ ord, ordC (ns.map Nd.ins) = ord := ⟨_, rfl⟩
        have HORD := hide hord
        rw [hord] at HOR
        have HWT : Hid (wtsL ns (ord.drop 0) (List.replicate ns.length 0) = wts ns) := by unfold wts; rw [hord]; rfl
        have hol : ord.length ≤ 140737488355328 := by
          have := ordC_len (ns.map Nd.ins)
          rw [hord, List.length_map] at this
          omega
        have HOL : Hid (∀ x ∈ ord, x < ns.length) := by
          have := ordC_lt (ns.map Nd.ins)
          rw [hord, List.length_map] at this
          exact this
        clear hord GF
        by_cases hlt2 : ord.length < ns.length
        · have hc2 : (ord.length : Int) < (ns.length : Int) := by omega
          go_wp2_with (go_at_call 13; refine HOR.out.mono ?_; rintro e w1 ⟨rv, rfl, o1, b1⟩; obtain ⟨oa, oc, rfl⟩ := o1.shape; have c1 : w1.cell? ⟨w.heap.size, 0, none⟩ = some (.slice na ns.length ncp) := (by rw [(GX.out.below b1).cellAt]; rfl); have B1 := hide (GB.out.trans (b1.mono GB.out.size)); clear o1 b1)
          go_ret2
          exact ⟨_, _, rfl, .inl (by decide), B1.out⟩
        · have hc2 : ¬ (ord.length : Int) < (ns.length : Int) := by omega
          have HGE : Hid (ns.length ≤ (ordC (ns.map Nd.ins)).length) := (show _ ≤ _ by rw [HORD.out]; omega)
          have m2 : ∀ W : World, (Instr.makeSlice 31 (.int .i64 (ns.length : Int)) (.int .i64 (ns.length : Int))).run Try.prog W = _ := fun W => mkN W ns.length (by omega)
          obtain ⟨cP, hcP⟩ : ∃ c, ((List.replicate ns.length 0).map fun x : Nat => Value.int .i64 (x : Int)).toArray = c := ⟨_, rfl⟩
          rw [hcP] at m2
          have HP := hide hcP
          clear hcP
          go_wp2_with (go_at_call 13; refine HOR.out.mono ?_; rintro e w1 ⟨rv, rfl, o1, b1⟩; obtain ⟨oa, oc, rfl⟩ := o1.shape; have X1 := hide (GX.out.below b1); have c1 : w1.cell? ⟨w.heap.size, 0, none⟩ = some (.slice na ns.length ncp) := (by rw [X1.out.cellAt]; rfl); have B1 := hide (GB.out.trans (b1.mono GB.out.size)); have O1 := hide o1; clear o1 b1)
          go_loopg [50] (ord.length + 1) (fun g iv w5 => ∃ (t : Nat) (ws : List Nat), iv = .int .i64 (t : Int) ∧ t ≤ ord.length ∧ ord.length + 1 ≤ g + t ∧ ws.length = ns.length ∧ Hid (∀ x ∈ ws, x ≤ 65) ∧ Hid (BoxT 3 w5 w1.heap.size (ws.map fun x : Nat => Value.int .i64 (x : Int)).toArray) ∧ Hid (wtsL ns (ord.drop t) ws = wts ns) ∧ Hid (Below w1.heap.size w1 w5))
          case atStart => exact ⟨0, List.replicate ns.length 0, rfl, by omega, by omega, by simp, (fun x hx => by rw [List.eq_of_mem_replicate hx]; omega), by rw [HP.out]; exact BoxT.new 3 w1 cP, HWT, (Below.refl _ _).alloc (Nat.le_refl _) _⟩
          case round =>
            clear bt ht hlt hg
            obtain ⟨t, ws, rfl, ht, hg, hwl, H65, HG, HWS, HBL⟩ := hrel
            obtain ⟨gi, rfl⟩ : ∃ gi, gk = gi + 1 := ⟨gk - 1, by omega⟩
            clear cx c1
            have cx : wr.cell? ⟨w.heap.size, 0, none⟩ = some (.slice na ns.length ncp) := by rw [(X1.out.below HBL.out).cellAt]; rfl
            have HB4 := hide (B1.out.trans (HBL.out.mono B1.out.size))
            by_cases hlt : t < ord.length
            · obtain ⟨i, hi⟩ := get_of_lt hlt
              have hin := HOL.out i (List.mem_of_getElem? hi)
              obtain ⟨n, hn⟩ := get_of_lt (l := ns) (i := i) hin
              have hnm := List.mem_of_getElem? hn
              have hfine := hal.out n hnm
              obtain ⟨g, cap, cur, e, h2', h3', h4', h5', h6', h7'⟩ := OwnN.row O1.out (by intro e; rw [e] at hi; simp at hi)
              cases e
              have ci : wr.cell? ⟨g, t, none⟩ = some (.int .i64 (i : Int)) := by rw [(h3'.below HBL.out).cellAt]; exact h7' t i hi
              obtain ⟨nb, no, rfl, nlt, d0, d1, d2, d3, d4, d5, d6, d7, d8, d9⟩ := (HJ.out.below HB4.out).at_ hn
              have HWG := hide (weight_any n ws ((HJ.out.ins n hnm).below HB4.out) HB4.out.size hfine.len (by rw [hwl]; exact hfine.ins) H65.out HG.out hfine.win)
              rw [hwl] at HWG
              have HWS2 := HWS.out
              rw [wtsL_at hi hn] at HWS2
              have HWS3 := hide HWS2
              have hle := wt1_le n ws
              obtain ⟨y, hy⟩ : ∃ y, wt1 n ws = y := ⟨_, rfl⟩
              rw [hy] at HWG HWS3 hle
              have b1 : (t : Int) < (ord.length : Int) := by omega
              have b2 : (i : Int) < (ns.length : Int) := by omega
              have HWL := hide hwl
              clear hy HWS2 HWS hi hn hnm hfine h2' h3' h4' h5' h6' h7' hwl
              obtain ⟨kd, ia, icp, ins, par, ⟨eo, en, ea, ec, el⟩, ag, wk, wz, wl⟩ := n
              unfold Nd.val at HWG
              simp only at d0 d1 d2 d3 d4 d5 d6 d7 d8 d9 HWG
              go_wp2_with (go_at_call 35; refine HWG.out.mono ?_; rintro e w7 ⟨rfl, b7⟩; have G7 := hide (HG.out.below b7); have hcc : ∃ u, w7.cell? ⟨w1.heap.size, i, none⟩ = some u := (by rw [G7.out.cellAt]; exact ⟨_, Array.getElem?_eq_getElem (by simp [HWL.out]; omega)⟩); obtain ⟨uu, hcc⟩ := hcc; have ff := G7.out.free i)
              go_roundg gi
              case rel =>
                refine ⟨t + 1, ws.set i y, by go_num, by omega, by omega, by rw [List.length_set]; exact HWL.out, set_le H65.out hle, ?_, HWS3, (HBL.out.trans (b7.mono HBL.out.size)).setCell (Nat.le_refl _) _⟩
                have := G7.out.set i (.int .i64 (y : Int))
                rw [map_set (fun x : Nat => Value.int .i64 (x : Int))] at this
                exact this
              case measure => omega
            · have b1 : ¬ (t : Int) < (ord.length : Int) := by omega
              have HWE : Hid (ws = wts ns) := by
                have := HWS.out
                rw [List.drop_eq_nil_of_le (by omega)] at this
                exact this
              go_wp2_with fail
              go_ret2
              exact ⟨_, _, rfl, .inr ⟨rfl, HLB.out, HGE.out, w1.heap.size, rfl, by rw [← HWE.out]; exact HG.out⟩, HB4.out⟩
set_option maxHeartbeats 1000000 in
set_option maxRecDepth 100000 in
theorem Check_open {w : World} {v : Value} {ns : List Nd} (hj : JobIn w.heap.size w v ns) (hE : ∀ n ∈ ns, Some52 w n) :
    Calls Try.prog 10 #[.agg #[v]] w fun e w' => ∃ r : Int, e = .returned (.int .i64 r) ∧ (r = 0 → ns.length ≤ (ordC (ns.map Nd.ins)).length) ∧ Below w.heap.size w w' := by
  have hb : Below w.heap.size w (w.alloc (.cells #[v] 24)) := (Below.refl _ _).alloc (Nat.le_refl _) _
  have HW := hide (weigh_open ((hj.below hb).mono hb.size) (fun n hn hk w' h => hE n hn hk w' (hb.trans (h.mono hb.size))))
  have HB := hide hb
  have HBX := hide (BoxT.new 24 w #[v])
  have HJ := hide hj
  obtain ⟨na, ncp, rfl⟩ := hj.shape
  clear hb hj hE
  have HSK : Hid (∀ w', Below w.heap.size w w' → Calls Try.prog 26 #[.slice na ns.length ncp, .func (.func 27) #[] #[]] w' fun e w'' => e = .returned (.bool (ns.any fun n => decide (n.kind = 8))) ∧ Below w'.heap.size w' w'') := fun w' hb => hasSink_any ((HJ.out.below hb).mono hb.size)
  obtain ⟨bs, hbs⟩ : ∃ bs, (ns.any fun n => decide (n.kind = 8)) = bs := ⟨_, rfl⟩
  rw [hbs] at HSK
  clear hbs
  go_enter Try.func10, Try.ntmps10
  go_wp2_with fail
  refine HW.out.mono ?_
  rintro e w1 ⟨u, r, rfl, hw, b1⟩
  have B1 := hide (HB.out.trans (b1.mono HB.out.size))
  have cx : w1.cell? ⟨w.heap.size, 0, none⟩ = some (.slice na ns.length ncp) := by rw [(HBX.out.below b1).cellAt]; rfl
  clear b1
  rcases hw with hr | ⟨rfl, hlb, hge, G, rfl, hbx⟩
  · have hn : (r != 0) = true := by simp [hr]
    have HR := hide hr
    clear hr
    go_wp2_with fail
    go_ret
    exact ⟨_, rfl, fun h => absurd h HR.out, B1.out⟩
  · have HMA := hide (max_any (wts_len ns) hlb.1 (by omega) hbx)
    have HGE := hide hge
    obtain ⟨M, hM⟩ : ∃ M, mxN (wts ns) = M := ⟨_, rfl⟩
    rw [hM] at HMA
    clear hM hbx hge hlb
    by_cases hc : (M : Int) ≤ 64
    · cases bs with
      | false =>
        go_wp2_with (first
          | (go_at_call 25; refine HMA.out.mono ?_; rintro e w2 ⟨rfl, rfl⟩)
          | (go_at_call 26; refine (HSK.out _ B1.out).mono ?_; rintro e w3 ⟨rfl, b3⟩))
        go_ret
        exact ⟨_, rfl, fun _ => HGE.out, B1.out.trans (b3.mono B1.out.size)⟩
      | true =>
        go_wp2_with (first
          | (go_at_call 25; refine HMA.out.mono ?_; rintro e w2 ⟨rfl, rfl⟩)
          | (go_at_call 26; refine (HSK.out _ B1.out).mono ?_; rintro e w3 ⟨rfl, b3⟩))
        go_ret
        exact ⟨_, rfl, fun _ => HGE.out, B1.out.trans (b3.mono B1.out.size)⟩
    · go_wp2_with (go_at_call 25; refine HMA.out.mono ?_; rintro e w2 ⟨rfl, rfl⟩)
      go_ret
      exact ⟨_, rfl, fun _ => HGE.out, B1.out⟩
end Go.Proofs.Ytecaghjddoajmaa
