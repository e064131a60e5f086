/-
  The law WindowPlays, walked.
-/
import Derived.Test.YtlikikiglicdlaaWRPut
import Derived.Test.YtlikikiglicdlaaWRFire
import Derived.Test.YtlikikiglicdlaaWPutW
namespace Go.Proofs.Ytlikikiglicdlaa
open Go.RowKit

theorem below_none {a b : World} (h : a.grownBy b none) : Below a.heap.size a b := ⟨h.os, h.tape, h.output, h.size, fun i hi => h.block i hi (by simp)⟩
/-- The panes that both sides have. -/
structure PlI (k : Int) (i : Nat) (P : List Pn) : Prop where
  ap : Apart (sess k) P
  fu : sess k = true → ∀ x ∈ P, Full x
  le : P.length ≤ 64 * i
theorem PlI.put {k size slide a : Int} {i : Nat} {P : List Pn} {r : Rc} (h : PlI k i P) (hw : FitW k size slide) (ha : 1 ≤ a ∧ a ≤ 5) (hr : RcOk r) : PlI k (i + 1) (pPut k size slide a P r) := by
  have h1 := put_comes hw ha hr h.ap h.fu
  refine ⟨h1.2, fun hs => h1.1.keeps (fun x y => jp_full) (fun x hx => ?_), ?_⟩
  · rcases List.mem_append.1 hx with hx | hx
    · exact frs_full hw hr hs x hx
    · exact h.fu hs x hx
  · have h2 := pPut_len k size slide a P r
    have := h.le
    omega
theorem PlI.fire {k : Int} {i : Nat} {P : List Pn} (h : PlI k i P) (mk : Int) : PlI k i (leftF mk (srt P)) := by
  refine ⟨List.Pairwise.filter _ (h.ap.perm (srt_perm P).symm), fun hs x hx => h.fu hs x ((srt_perm P).mem_iff.1 (List.mem_filter.1 hx).1), ?_⟩
  have h1 := left_len mk (srt P)
  rw [srt_len] at h1
  exact Nat.le_trans h1 h.le
set_option maxHeartbeats 32000000 in
set_option maxRecDepth 100000 in
theorem WindowPlays_walk {w : World} {v v2 : Value} {rs : List Rc} {ms : List Int} (hl : LSeg 3 Rc.cs w.heap.size w v rs) (hrs : ∀ r ∈ rs, In64 r.v) (hl2 : LSeg 1 i64cs w.heap.size w v2 ms) {k size slide : Int} (hs : In64 size) (hsl : In64 slide) (a : Int) :
    Calls Try.prog 4 #[.agg #[.int .i64 k, .int .i64 size, .int .i64 slide], .int .i64 a, v, v2] w fun e w' => e = .returned (.bool true) ∧ Below w.heap.size w w' := by
  obtain ⟨ao, cap, rfl⟩ := hl.shapeOf
  obtain ⟨bo, bcap, rfl⟩ := hl2.shapeOf
  have HB0 := hide (below_box w (.cells #[.int .i64 k, .int .i64 size, .int .i64 slide] 23))
  have HBX := hide (BoxT.new 23 w #[.int .i64 k, .int .i64 size, .int .i64 slide])
  have HK := hide (fun W => known_any W)
  by_cases hF : FitW k size slide
  case neg =>
    have HFT := hide (fit_no hF)
    clear hl hl2 hF
    go_enter Try.func4, Try.ntmps4
    go_wp2_with (first
      | (go_at_call 9; refine (HK.out _).mono ?_; rintro e w1 ⟨rfl, b1⟩; have HB1 := hide (HB0.out.trans (b1.mono HB0.out.size)); have HX1 := hide (BoxT.below (t := 23) HBX.out b1); obtain ⟨y0, y1, y2⟩ := HX1.out.cells3; clear b1)
      | (go_at_call 10; refine (HFT.out _).mono ?_; rintro e w2 ⟨rfl, b2⟩; have HB2 := hide (HB1.out.trans (b2.mono HB1.out.size)); clear b2 y0 y1 y2)
      | fail)
    go_ret
    exact ⟨rfl, HB2.out⟩
  have HFT := hide (fit_yes hF)
  have HF := hide hF
  clear hF
  by_cases hn : (60 : Int) < (rs.length : Int)
  · clear hl hl2
    go_enter Try.func4, Try.ntmps4
    go_wp2_with (first
      | (go_at_call 9; refine (HK.out _).mono ?_; rintro e w1 ⟨rfl, b1⟩; have HB1 := hide (HB0.out.trans (b1.mono HB0.out.size)); have HX1 := hide (BoxT.below (t := 23) HBX.out b1); obtain ⟨y0, y1, y2⟩ := HX1.out.cells3; clear b1)
      | (go_at_call 10; refine (HFT.out _).mono ?_; rintro e w2 ⟨rfl, b2⟩; have HB2 := hide (HB1.out.trans (b2.mono HB1.out.size)); clear b2 y0 y1 y2)
      | fail)
    go_ret
    exact ⟨rfl, HB2.out⟩
  by_cases hm : (60 : Int) < (ms.length : Int)
  · clear hl hl2
    go_enter Try.func4, Try.ntmps4
    go_wp2_with (first
      | (go_at_call 9; refine (HK.out _).mono ?_; rintro e w1 ⟨rfl, b1⟩; have HB1 := hide (HB0.out.trans (b1.mono HB0.out.size)); have HX1 := hide (BoxT.below (t := 23) HBX.out b1); obtain ⟨y0, y1, y2⟩ := HX1.out.cells3; clear b1)
      | (go_at_call 10; refine (HFT.out _).mono ?_; rintro e w2 ⟨rfl, b2⟩; have HB2 := hide (HB1.out.trans (b2.mono HB1.out.size)); clear b2 y0 y1 y2)
      | fail)
    go_ret
    exact ⟨rfl, HB2.out⟩
  by_cases ha1 : a < 1
  · clear hl hl2
    go_enter Try.func4, Try.ntmps4
    go_wp2_with (first
      | (go_at_call 9; refine (HK.out _).mono ?_; rintro e w1 ⟨rfl, b1⟩; have HB1 := hide (HB0.out.trans (b1.mono HB0.out.size)); have HX1 := hide (BoxT.below (t := 23) HBX.out b1); obtain ⟨y0, y1, y2⟩ := HX1.out.cells3; clear b1)
      | (go_at_call 10; refine (HFT.out _).mono ?_; rintro e w2 ⟨rfl, b2⟩; have HB2 := hide (HB1.out.trans (b2.mono HB1.out.size)); clear b2 y0 y1 y2)
      | fail)
    go_ret
    exact ⟨rfl, HB2.out⟩
  by_cases ha5 : 5 < a
  · clear hl hl2
    go_enter Try.func4, Try.ntmps4
    go_wp2_with (first
      | (go_at_call 9; refine (HK.out _).mono ?_; rintro e w1 ⟨rfl, b1⟩; have HB1 := hide (HB0.out.trans (b1.mono HB0.out.size)); have HX1 := hide (BoxT.below (t := 23) HBX.out b1); obtain ⟨y0, y1, y2⟩ := HX1.out.cells3; clear b1)
      | (go_at_call 10; refine (HFT.out _).mono ?_; rintro e w2 ⟨rfl, b2⟩; have HB2 := hide (HB1.out.trans (b2.mono HB1.out.size)); clear b2 y0 y1 y2)
      | fail)
    go_ret
    exact ⟨rfl, HB2.out⟩
  have HA : Hid (1 ≤ a ∧ a ≤ 5) := (show _ ∧ _ by omega)
  have HL := hide hl
  have HL2 := hide hl2
  have HRS := hide hrs
  have HS := hide hs
  have HSL := hide hsl
  have hn60 : rs.length ≤ 60 := by omega
  clear hl hl2 hrs hs hsl
  go_enter Try.func4, Try.ntmps4
  go_upto_region 5 with (first
    | (go_at_call 9; refine (HK.out _).mono ?_; rintro e w1 ⟨rfl, b1⟩; have HB1 := hide (HB0.out.trans (b1.mono HB0.out.size)); have HX1 := hide (BoxT.below (t := 23) HBX.out b1); obtain ⟨y0, y1, y2⟩ := HX1.out.cells3; clear b1)
    | (go_at_call 10; refine (HFT.out _).mono ?_; rintro e w2 ⟨rfl, b2⟩; have HB2 := hide (HB1.out.trans (b2.mono HB1.out.size)); have HX2 := hide (BoxT.below (t := 23) HX1.out b2); clear b2 y0 y1 y2)
    | fail)
  clear HK HFT HB1 HX1 HBX HB0
  go_wp2_with fail
  go_loopg [9, 10, 11, 12, 13, 14, 15, 16, 17] (rs.length + 1) (fun gh pv qv iv _ _ _ _ _ _ wr => ∃ (i : Nat) (P : List Pn), iv = .int .i64 (i : Int) ∧ i ≤ rs.length ∧ rs.length + 1 ≤ gh + i ∧ Hid (LSeg 4 Pn.cs wr.heap.size wr pv P) ∧ Hid (LSeg 4 Pn.cs wr.heap.size wr qv P) ∧ Hid (Below w.heap.size w wr) ∧ Hid (BoxT 23 wr w.heap.size #[.int .i64 k, .int .i64 size, .int .i64 slide]) ∧ Hid (PlI k i P))
  case atStart => exact ⟨0, [], rfl, by omega, by omega, LSeg.nil' _ _ _ _, LSeg.nil' _ _ _ _, HB2, HX2, (show PlI _ _ _ from ⟨.nil, fun _ x hx => by simp at hx, by simp⟩)⟩
  case round =>
    clear HB2 HX2
    obtain ⟨i, P, rfl, hi, hg, GP, GQ, GB, GX, GI⟩ := hrel
    obtain ⟨go, rfl⟩ : ∃ go, gk = go + 1 := ⟨gk - 1, by omega⟩
    obtain ⟨pa, pc, rfl⟩ := GP.out.shapeOf
    obtain ⟨qa, qc, rfl⟩ := GQ.out.shapeOf
    by_cases hlt : i < rs.length
    · obtain ⟨r, hx⟩ := get_of_lt hlt
      have bt : (i : Int) < (rs.length : Int) := by omega
      obtain ⟨nb, no, rfl, nlt, e0, e1, e2⟩ := (HL.out.below GB.out).rec hx
      have HRV := hide (HRS.out r (List.mem_of_getElem? hx))
      have HE := hide (And.intro e0 (And.intro e1 e2))
      have HNB := hide nlt
      have HPL : Hid (P.length ≤ 3840) := (show _ ≤ _ by have := GI.out.le; omega)
      obtain ⟨rk, rt, rv⟩ := r
      simp only at HE HRV e0 e1 e2
      by_cases hT : TimeOk rt
      · have HTI := hide (time_yes hT)
        have HRO : Hid (RcOk ⟨rk, rt, rv⟩) := (show RcOk _ from ⟨hT, HRV.out⟩)
        have HI1 := hide (GI.out.put (r := ⟨rk, rt, rv⟩) HF.out HA.out HRO.out)
        have KC0 : Hid (∀ w' : World, Below wr.heap.size wr w' → w'.cell? ⟨w.heap.size, 0, none⟩ = some (.int .i64 k) ∧ w'.cell? ⟨w.heap.size, 1, none⟩ = some (.int .i64 size) ∧ w'.cell? ⟨w.heap.size, 2, none⟩ = some (.int .i64 slide) ∧ w'.cell? ⟨nb, no + i * 3, none⟩ = some (.int .i64 rk) ∧ w'.cell? ⟨nb, no + i * 3 + 1, none⟩ = some (.int .i64 rt) ∧ w'.cell? ⟨nb, no + i * 3 + 2, none⟩ = some (.int .i64 rv)) := (show ∀ w' : World, _ from fun w' h => by
          have h2 := BoxT.below (t := 23) GX.out h
          have hl2 : nb < wr.heap.size := Nat.lt_of_lt_of_le HNB.out GB.out.size
          exact ⟨by rw [h2.cellAt]; rfl, by rw [h2.cellAt]; rfl, by rw [h2.cellAt]; rfl, (h.cell (p := ⟨nb, no + i * 3, none⟩) hl2).trans HE.out.1, (h.cell (p := ⟨nb, no + i * 3 + 1, none⟩) hl2).trans HE.out.2.1, (h.cell (p := ⟨nb, no + i * 3 + 2, none⟩) hl2).trans HE.out.2.2⟩)
        obtain ⟨PP, hPP⟩ : ∃ PP, pPut k size slide a P ⟨rk, rt, rv⟩ = PP := ⟨_, rfl⟩
        have HPU0 : Hid (∀ W, Below wr.heap.size wr W → Calls Try.prog 15 #[.agg #[.int .i64 k, .int .i64 size, .int .i64 slide], .int .i64 a, .slice pa P.length pc, .agg #[.int .i64 rk, .int .i64 rt, .int .i64 rv]] W fun e w' => ∃ u, e = .returned u ∧ LSeg 4 Pn.cs w'.heap.size w' u PP ∧ Below W.heap.size W w') := (show ∀ W, _ from fun W h => by
          refine (Put_any (GP.out.on h) (by have := HPL.out; omega) k HS.out HSL.out a ⟨rk, rt, rv⟩).mono ?_
          rintro e w' ⟨u, h1, h2, h3⟩
          rw [hPP] at h2
          exact ⟨u, h1, h2.seg Pn.cs_len (by rw [← hPP]; have h4 := pPut_len k size slide a P ⟨rk, rt, rv⟩; have := HPL.out; omega), h3⟩)
        have HRP0 : Hid (∀ W, Below wr.heap.size wr W → Calls Try.prog 17 #[.agg #[.int .i64 k, .int .i64 size, .int .i64 slide], .int .i64 a, .slice qa P.length qc, .agg #[.int .i64 rk, .int .i64 rt, .int .i64 rv]] W fun e w' => ∃ u, e = .returned u ∧ LSeg 4 Pn.cs w'.heap.size w' u PP ∧ Below W.heap.size W w') := (show ∀ W, _ from fun W h => by
          have h1 := rPut_any (GQ.out.on h) (by have := HPL.out; omega) HF.out HA.out rk rt rv HRO.out GI.out.ap GI.out.fu
          rw [hPP] at h1
          exact h1)
        rw [hPP] at HI1
        have HPPL : Hid (PP.length ≤ 3904) := (show _ ≤ _ by have := HI1.out.le; omega)
        have HSZ : Hid (w.heap.size + 1 ≤ wr.heap.size) := (show _ ≤ _ from GX.out.lt)
        clear hT hx nlt hPP
        go_upto_region 12 with (first
          | (go_at_call 11; refine (HTI.out _).mono ?_; rintro e w3 ⟨rfl, e3⟩; have e4 := e3.symm; clear e3; subst e4)
          | (at_builtin; refine app_segL Try.infoPn Try.underlying35 rfl (by decide) (by decide) Pn.cs_len Pn.cs_one rfl _ _ rfl w.heap.size (.slice none 0 0) [] rfl (OwnL.nil _ _ _ _ _) _ _ P rfl GP.out (by have := HPL.out; simp; omega) (by have := HSZ.out; omega) ?_; intro v4 w4 h4 g4 k4; have O4 := hide h4; have G4 := hide g4; clear h4 g4 k4)
          | fail)
        have B4 : Hid (Below wr.heap.size wr w4) := (show Below _ _ _ from below_none G4.out)
        have KC : Hid (∀ w' : World, Below w4.heap.size w4 w' → w'.cell? ⟨w.heap.size, 0, none⟩ = some (.int .i64 k) ∧ w'.cell? ⟨w.heap.size, 1, none⟩ = some (.int .i64 size) ∧ w'.cell? ⟨w.heap.size, 2, none⟩ = some (.int .i64 slide) ∧ w'.cell? ⟨nb, no + i * 3, none⟩ = some (.int .i64 rk) ∧ w'.cell? ⟨nb, no + i * 3 + 1, none⟩ = some (.int .i64 rt) ∧ w'.cell? ⟨nb, no + i * 3 + 2, none⟩ = some (.int .i64 rv)) := (show ∀ w' : World, _ from fun w' h => KC0.out _ (B4.out.trans (h.mono B4.out.size)))
        have HPU : Hid (∀ W, Below w4.heap.size w4 W → Calls Try.prog 15 #[.agg #[.int .i64 k, .int .i64 size, .int .i64 slide], .int .i64 a, .slice pa P.length pc, .agg #[.int .i64 rk, .int .i64 rt, .int .i64 rv]] W fun e w' => ∃ u, e = .returned u ∧ LSeg 4 Pn.cs w'.heap.size w' u PP ∧ Below W.heap.size W w') := (show ∀ W, _ from fun W h => HPU0.out W (B4.out.trans (h.mono B4.out.size)))
        have S4 : Hid (LSeg 4 Pn.cs w4.heap.size w4 v4 P) := (show LSeg _ _ _ _ _ _ by have h := O4.out; rw [List.nil_append] at h; exact h.seg Pn.cs_len (by have := HPL.out; omega))
        obtain ⟨ka, kc4, rfl⟩ := S4.out.shapeOf
        clear O4 G4 HPU0 HTI e0 e1 e2
        refine wp_region_M (S := fun w' => w'.cell? ⟨w.heap.size, 0, none⟩ = some (.int .i64 k) ∧ w'.cell? ⟨w.heap.size, 1, none⟩ = some (.int .i64 size) ∧ w'.cell? ⟨w.heap.size, 2, none⟩ = some (.int .i64 slide) ∧ w'.cell? ⟨nb, no + i * 3, none⟩ = some (.int .i64 rk) ∧ w'.cell? ⟨nb, no + i * 3 + 1, none⟩ = some (.int .i64 rt) ∧ w'.cell? ⟨nb, no + i * 3 + 2, none⟩ = some (.int .i64 rv)) (late := []) (by kernel_rfl) (KC.out _ ((Below.refl _ _).drew)) (fun hHeld => ?_)
        (try simp only [List.size_toArray, List.length_cons, List.length_nil, Nat.zero_add, Nat.reduceAdd, Array.replicate, List.replicate])
        refine wpAnyM_take (i := 0) (oi := ⟨_, _, _, _, _, _⟩) (v := ?_) rfl (by kernel_rfl) (by kernel_rfl) (by kernel_rfl) (by kernel_rfl) (fun _ _ _ h => h) (Or.inl ⟨by rfl, ?_⟩) hHeld ?_
        rotate_left
        · (intro w' hSw; (try dsimp only at hSw); go_simp; try (with_reducible rfl))
        (try simp only [Act.put, List.setIfInBounds_toArray, List.set_cons_zero, List.set_cons_succ])
        refine wpAnyM_take (i := 1) (oi := ⟨_, _, _, _, _, _⟩) (v := ?_) rfl (by kernel_rfl) (by kernel_rfl) (by kernel_rfl) (by kernel_rfl) (fun _ _ _ h => h) (Or.inl ⟨by rfl, ?_⟩) hHeld ?_
        rotate_left
        · (intro w' hSw; (try dsimp only at hSw); go_simp; try (with_reducible rfl))
        (try simp only [Act.put, List.setIfInBounds_toArray, List.set_cons_zero, List.set_cons_succ])
        refine wpAnyM_take (i := 2) (oi := ⟨_, _, _, _, _, _⟩) (v := ?_) rfl (by kernel_rfl) (by kernel_rfl) (by kernel_rfl) (by kernel_rfl) (fun _ _ _ h => h) (Or.inl ⟨by rfl, ?_⟩) hHeld ?_
        rotate_left
        · (intro w' hSw; (try dsimp only at hSw); go_simp; try (with_reducible rfl))
        (try simp only [Act.put, List.setIfInBounds_toArray, List.set_cons_zero, List.set_cons_succ])
        refine wpAnyM_take (i := 3) (oi := ⟨_, _, _, _, _, _⟩) (v := ?_) rfl (by kernel_rfl) (by kernel_rfl) (by kernel_rfl) (by kernel_rfl) (fun _ _ _ h => h) (Or.inl ⟨by rfl, ?_⟩) hHeld ?_
        rotate_left
        · (intro w' hSw; (try dsimp only at hSw); go_simp; try (with_reducible rfl))
        (try simp only [Act.put, List.setIfInBounds_toArray, List.set_cons_zero, List.set_cons_succ])
        refine wpAnyM_take (i := 4) (oi := ⟨_, _, _, _, _, _⟩) (v := ?_) rfl (by kernel_rfl) (by kernel_rfl) (by kernel_rfl) (by kernel_rfl) (fun _ _ _ h => h) (Or.inl ⟨by rfl, ?_⟩) hHeld ?_
        rotate_left
        · (intro w' hSw; (try dsimp only at hSw); go_simp; try (with_reducible rfl))
        (try simp only [Act.put, List.setIfInBounds_toArray, List.set_cons_zero, List.set_cons_succ])
        refine wpAnyM_take (i := 5) (oi := ⟨_, _, _, _, _, _⟩) (v := ?_) rfl (by kernel_rfl) (by kernel_rfl) (by kernel_rfl) (by kernel_rfl) (fun _ _ _ h => h) (Or.inl ⟨by rfl, ?_⟩) hHeld ?_
        rotate_left
        · (intro w' hSw; (try dsimp only at hSw); go_simp; try (with_reducible rfl))
        (try simp only [Act.put, List.setIfInBounds_toArray, List.set_cons_zero, List.set_cons_succ])
        refine wpAnyM_take (i := 6) (oi := ⟨_, _, _, _, _, _⟩) (v := ?_) rfl (by kernel_rfl) (by kernel_rfl) (by kernel_rfl) (by kernel_rfl) (fun _ _ _ h => h) (Or.inl ⟨by rfl, ?_⟩) hHeld ?_
        rotate_left
        · (intro w' hSw; (try dsimp only at hSw); go_simp; try (with_reducible rfl))
        (try simp only [Act.put, List.setIfInBounds_toArray, List.set_cons_zero, List.set_cons_succ])
        refine wpAnyM_one (i := 7) (o := ⟨_, _, _, _, _, _⟩) (by kernel_rfl) rfl (fun K hK => ?_)
        go_simp
        go_at_call 15
        refine (HPU.out _ (Below.refl _ _).drew).mono ?_
        rintro e w5 ⟨uw5, rfl, ow5, bw5⟩
        have Ow5 := hide ow5
        have Bw5 := hide (((Below.refl _ _).drew).trans bw5)
        obtain ⟨uaw5, ucw5, rfl⟩ := ow5.shapeOf
        refine hK.out _ _ (KC.out _ Bw5.out) (fun hHeld => ?_)
        clear hK K ow5 bw5
        (try simp only [List.setIfInBounds_toArray, List.set_cons_zero, List.set_cons_succ])
        refine wpAnyM_one (i := 8) (o := ⟨_, _, _, _, _, _⟩) (by kernel_rfl) rfl (fun K hK => ?_)
        go_simp
        refine hK.out _ _ (KC.out _ Bw5.out) (fun hHeld => ?_)
        clear hK K
        (try simp only [List.setIfInBounds_toArray, List.set_cons_zero, List.set_cons_succ])
        refine wpAnyM_done (by kernel_rfl) ?_ _
        have BB5 := hide (B4.out.trans (Bw5.out.mono B4.out.size))
        have HP6 := hide (hPanes_any (GP.out.on BB5.out) (S4.out.on Bw5.out) (by have := HPL.out; omega))
        clear hHeld KC HPU S4
        go_upto_region 15 with (first
          | (go_at_call 16; refine HP6.out.mono ?_; rintro e w6 ⟨rfl, b6⟩; have B6 := hide b6; clear b6)
          | fail)
        have BB6 := hide (BB5.out.trans (B6.out.mono BB5.out.size))
        have KC6 : Hid (∀ w' : World, Below w6.heap.size w6 w' → w'.cell? ⟨w.heap.size, 0, none⟩ = some (.int .i64 k) ∧ w'.cell? ⟨w.heap.size, 1, none⟩ = some (.int .i64 size) ∧ w'.cell? ⟨w.heap.size, 2, none⟩ = some (.int .i64 slide) ∧ w'.cell? ⟨nb, no + i * 3, none⟩ = some (.int .i64 rk) ∧ w'.cell? ⟨nb, no + i * 3 + 1, none⟩ = some (.int .i64 rt) ∧ w'.cell? ⟨nb, no + i * 3 + 2, none⟩ = some (.int .i64 rv)) := (show ∀ w' : World, _ from fun w' h => KC0.out _ (BB6.out.trans (h.mono BB6.out.size)))
        have HRP : Hid (∀ W, Below w6.heap.size w6 W → Calls Try.prog 17 #[.agg #[.int .i64 k, .int .i64 size, .int .i64 slide], .int .i64 a, .slice qa P.length qc, .agg #[.int .i64 rk, .int .i64 rt, .int .i64 rv]] W fun e w' => ∃ u, e = .returned u ∧ LSeg 4 Pn.cs w'.heap.size w' u PP ∧ Below W.heap.size W w') := (show ∀ W, _ from fun W h => HRP0.out W (BB6.out.trans (h.mono BB6.out.size)))
        have P6 := hide (Ow5.out.on B6.out)
        clear HP6 HRP0 Ow5
        refine wp_region_M (S := fun w' => w'.cell? ⟨w.heap.size, 0, none⟩ = some (.int .i64 k) ∧ w'.cell? ⟨w.heap.size, 1, none⟩ = some (.int .i64 size) ∧ w'.cell? ⟨w.heap.size, 2, none⟩ = some (.int .i64 slide) ∧ w'.cell? ⟨nb, no + i * 3, none⟩ = some (.int .i64 rk) ∧ w'.cell? ⟨nb, no + i * 3 + 1, none⟩ = some (.int .i64 rt) ∧ w'.cell? ⟨nb, no + i * 3 + 2, none⟩ = some (.int .i64 rv)) (late := []) (by kernel_rfl) (KC6.out _ ((Below.refl _ _).drew)) (fun hHeld => ?_)
        (try simp only [List.size_toArray, List.length_cons, List.length_nil, Nat.zero_add, Nat.reduceAdd, Array.replicate, List.replicate])
        refine wpAnyM_take (i := 0) (oi := ⟨_, _, _, _, _, _⟩) (v := ?_) rfl (by kernel_rfl) (by kernel_rfl) (by kernel_rfl) (by kernel_rfl) (fun _ _ _ h => h) (Or.inl ⟨by rfl, ?_⟩) hHeld ?_
        rotate_left
        · (intro w' hSw; (try dsimp only at hSw); go_simp; try (with_reducible rfl))
        (try simp only [Act.put, List.setIfInBounds_toArray, List.set_cons_zero, List.set_cons_succ])
        refine wpAnyM_take (i := 1) (oi := ⟨_, _, _, _, _, _⟩) (v := ?_) rfl (by kernel_rfl) (by kernel_rfl) (by kernel_rfl) (by kernel_rfl) (fun _ _ _ h => h) (Or.inl ⟨by rfl, ?_⟩) hHeld ?_
        rotate_left
        · (intro w' hSw; (try dsimp only at hSw); go_simp; try (with_reducible rfl))
        (try simp only [Act.put, List.setIfInBounds_toArray, List.set_cons_zero, List.set_cons_succ])
        refine wpAnyM_take (i := 2) (oi := ⟨_, _, _, _, _, _⟩) (v := ?_) rfl (by kernel_rfl) (by kernel_rfl) (by kernel_rfl) (by kernel_rfl) (fun _ _ _ h => h) (Or.inl ⟨by rfl, ?_⟩) hHeld ?_
        rotate_left
        · (intro w' hSw; (try dsimp only at hSw); go_simp; try (with_reducible rfl))
        (try simp only [Act.put, List.setIfInBounds_toArray, List.set_cons_zero, List.set_cons_succ])
        refine wpAnyM_take (i := 3) (oi := ⟨_, _, _, _, _, _⟩) (v := ?_) rfl (by kernel_rfl) (by kernel_rfl) (by kernel_rfl) (by kernel_rfl) (fun _ _ _ h => h) (Or.inl ⟨by rfl, ?_⟩) hHeld ?_
        rotate_left
        · (intro w' hSw; (try dsimp only at hSw); go_simp; try (with_reducible rfl))
        (try simp only [Act.put, List.setIfInBounds_toArray, List.set_cons_zero, List.set_cons_succ])
        refine wpAnyM_take (i := 4) (oi := ⟨_, _, _, _, _, _⟩) (v := ?_) rfl (by kernel_rfl) (by kernel_rfl) (by kernel_rfl) (by kernel_rfl) (fun _ _ _ h => h) (Or.inl ⟨by rfl, ?_⟩) hHeld ?_
        rotate_left
        · (intro w' hSw; (try dsimp only at hSw); go_simp; try (with_reducible rfl))
        (try simp only [Act.put, List.setIfInBounds_toArray, List.set_cons_zero, List.set_cons_succ])
        refine wpAnyM_take (i := 5) (oi := ⟨_, _, _, _, _, _⟩) (v := ?_) rfl (by kernel_rfl) (by kernel_rfl) (by kernel_rfl) (by kernel_rfl) (fun _ _ _ h => h) (Or.inl ⟨by rfl, ?_⟩) hHeld ?_
        rotate_left
        · (intro w' hSw; (try dsimp only at hSw); go_simp; try (with_reducible rfl))
        (try simp only [Act.put, List.setIfInBounds_toArray, List.set_cons_zero, List.set_cons_succ])
        refine wpAnyM_take (i := 6) (oi := ⟨_, _, _, _, _, _⟩) (v := ?_) rfl (by kernel_rfl) (by kernel_rfl) (by kernel_rfl) (by kernel_rfl) (fun _ _ _ h => h) (Or.inl ⟨by rfl, ?_⟩) hHeld ?_
        rotate_left
        · (intro w' hSw; (try dsimp only at hSw); go_simp; try (with_reducible rfl))
        (try simp only [Act.put, List.setIfInBounds_toArray, List.set_cons_zero, List.set_cons_succ])
        refine wpAnyM_take (i := 7) (oi := ⟨_, _, _, _, _, _⟩) (v := ?_) rfl (by kernel_rfl) (by kernel_rfl) (by kernel_rfl) (by kernel_rfl) (fun _ _ _ h => h) (Or.inl ⟨by rfl, ?_⟩) hHeld ?_
        rotate_left
        · (intro w' hSw; (try dsimp only at hSw); go_simp; try (with_reducible rfl))
        (try simp only [Act.put, List.setIfInBounds_toArray, List.set_cons_zero, List.set_cons_succ])
        refine wpAnyM_one (i := 8) (o := ⟨_, _, _, _, _, _⟩) (by kernel_rfl) rfl (fun K hK => ?_)
        go_simp
        go_at_call 17
        refine (HRP.out _ (Below.refl _ _).drew).mono ?_
        rintro e w7 ⟨uw7, rfl, ow7, bw7⟩
        have Ow7 := hide ow7
        have Bw7 := hide (((Below.refl _ _).drew).trans bw7)
        obtain ⟨uaw7, ucw7, rfl⟩ := ow7.shapeOf
        refine hK.out _ _ (KC6.out _ Bw7.out) (fun hHeld => ?_)
        clear hK K ow7 bw7
        (try simp only [List.setIfInBounds_toArray, List.set_cons_zero, List.set_cons_succ])
        refine wpAnyM_take (i := 9) (oi := ⟨_, _, _, _, _, _⟩) (v := ?_) rfl (by kernel_rfl) (by kernel_rfl) (by kernel_rfl) (by kernel_rfl) (fun _ _ _ h => h) (Or.inl ⟨by rfl, ?_⟩) hHeld ?_
        rotate_left
        · (intro w' hSw; (try dsimp only at hSw); go_simp; try (with_reducible rfl))
        (try simp only [Act.put, List.setIfInBounds_toArray, List.set_cons_zero, List.set_cons_succ])
        refine wpAnyM_one (i := 10) (o := ⟨_, _, _, _, _, _⟩) (by kernel_rfl) rfl (fun K hK => ?_)
        go_simp
        refine hK.out _ _ (KC6.out _ Bw7.out) (fun hHeld => ?_)
        clear hK K
        (try simp only [List.setIfInBounds_toArray, List.set_cons_zero, List.set_cons_succ])
        refine wpAnyM_done (by kernel_rfl) ?_ _
        have BB7 := hide (BB6.out.trans (Bw7.out.mono BB6.out.size))
        have P7 := hide (P6.out.on Bw7.out)
        have HP8 := hide (hPanes_any P7.out Ow7.out (by have := HPPL.out; omega))
        clear hHeld KC6 HRP P6 KC0
        go_upto_region 18 with (first
          | (go_at_call 16; refine HP8.out.mono ?_; rintro e w8 ⟨rfl, b8⟩; have B8 := hide b8; clear b8)
          | fail)
        have BB8 := hide (BB7.out.trans (B8.out.mono BB7.out.size))
        have P8 := hide (P7.out.on B8.out)
        have Q8 := hide (Ow7.out.on B8.out)
        have X8 := hide (BoxT.below (t := 23) GX.out BB8.out)
        have BW8 := hide (GB.out.trans (BB8.out.mono GB.out.size))
        clear HP8 P7 Ow7 GP GQ GX
        by_cases hmk : i < ms.length
        · as_aux_lemma =>
          obtain ⟨mk, hmx⟩ := get_of_lt hmk
          have bm : (i : Int) < (ms.length : Int) := by omega
          obtain ⟨mb, mo, rfl, mlt, m0⟩ := (HL2.out.below BW8.out).num hmx
          have HM0 := hide m0
          have HMB := hide mlt
          have HF1 := hide (Fire_any P8.out (by have := HPPL.out; omega) mk)
          have HI2 := hide (HI1.out.fire mk)
          have HOL : Hid ((outF mk (srt PP)).length ≤ 10000 ∧ (leftF mk (srt PP)).length ≤ 10000) := (show _ ∧ _ by have h1 := out_len mk (srt PP); have h2 := left_len mk (srt PP); have h3 := srt_len PP; have := HPPL.out; omega)
          have HF2 : Hid (∀ W, Below w8.heap.size w8 W → Calls Try.prog 19 #[.slice uaw7 PP.length ucw7, .int .i64 mk] W fun e w' => ∃ u1 u2, e = .returned (.tuple #[u1, u2]) ∧ OwnL 37 3 Rc.cs W.heap.size w' u1 (outF mk (srt PP)) ∧ OwnL 46 4 Pn.cs W.heap.size w' u2 (leftF mk (srt PP)) ∧ Below W.heap.size W w') := (show ∀ W, _ from fun W h => rFire_any (Q8.out.on h) (by have := HPPL.out; omega) mk)
          generalize outF mk (srt PP) = OU at *
          generalize leftF mk (srt PP) = LE at *
          clear hmx mlt
          go_upto_region 20 with (first
            | (go_at_call 18; refine HF1.out.mono ?_; rintro e w9 ⟨u1, u2, rfl, o1, o2, b9⟩; have S1 := hide (o1.seg Rc.cs_len (by have := HOL.out; omega)); have S2 := hide (o2.seg Pn.cs_len (by have := HOL.out; omega)); have B9 := hide b9; obtain ⟨a1, c1, rfl⟩ := o1.shape; obtain ⟨a2, c2, rfl⟩ := o2.shape; clear o1 o2 b9)
            | fail)
          have m9 : w9.cell? ⟨mb, mo + i, none⟩ = some (.int .i64 mk) := (B9.out.cell (p := ⟨mb, mo + i, none⟩) (Nat.lt_of_lt_of_le HMB.out BW8.out.size)).trans HM0.out
          clear m0 HF1
          go_upto_region 21 with (first
            | (go_at_call 19; refine (HF2.out _ B9.out).mono ?_; rintro e w10 ⟨u3, u4, rfl, o3, o4, b10⟩; have S3 := hide (o3.seg Rc.cs_len (by have := HOL.out; omega)); have S4 := hide (o4.seg Pn.cs_len (by have := HOL.out; omega)); have B10 := hide b10; obtain ⟨a3, c3, rfl⟩ := o3.shape; obtain ⟨a4, c4, rfl⟩ := o4.shape; clear o3 o4 b10)
            | fail)
          have HR11 := hide (hRecords_any (S1.out.on B10.out) S3.out (by have := HOL.out; omega))
          clear HF2 m9
          go_upto_region 23 with (first
            | (go_at_call 20; refine HR11.out.mono ?_; rintro e w11 ⟨rfl, b11⟩; have B11 := hide b11; have HP12 := hide (hPanes_any ((S2.out.on B10.out).on b11) (S4.out.on b11) (by have := HOL.out; omega)); clear b11)
            | (go_at_call 16; refine HP12.out.mono ?_; rintro e w12 ⟨rfl, b12⟩; have B12 := hide b12; clear b12)
            | fail)
          have BE : Hid (Below w8.heap.size w8 w12) := (show Below _ _ _ from B9.out.trans ((B10.out.trans ((B11.out.trans (B12.out.mono B11.out.size)).mono B10.out.size)).mono B9.out.size))
          have PE := hide (((S2.out.on B10.out).on B11.out).on B12.out)
          have QE := hide ((S4.out.on B11.out).on B12.out)
          have XE := hide (BoxT.below (t := 23) X8.out BE.out)
          have WE := hide (BW8.out.trans (BE.out.mono BW8.out.size))
          clear HR11 HP12 S1 S2 S3 S4
          go_wp2_with fail
          go_roundg go
          case rel => exact ⟨i + 1, LE, by go_num, by omega, by omega, PE, QE, WE, XE, HI2⟩
          case measure => omega
        · as_aux_lemma =>
          have bm : ¬ (i : Int) < (ms.length : Int) := by omega
          go_wp2_with fail
          go_roundg go
          case rel => exact ⟨i + 1, PP, by go_num, by omega, by omega, P8, Q8, BW8, X8, HI1⟩
          case measure => omega
      · as_aux_lemma =>
        have HTI := hide (time_no hT)
        clear hT hx
        go_wp2_with (first | (go_at_call 11; refine (HTI.out _).mono ?_; rintro e w5 ⟨rfl, e5⟩; have e6 := e5.symm; clear e5; subst e6) | fail)
        go_ret
        exact ⟨rfl, GB.out⟩
    · as_aux_lemma =>
      have bt : ¬ (i : Int) < (rs.length : Int) := by omega
      go_wp2_with fail
      go_ret
      exact ⟨rfl, GB.out⟩
end Go.Proofs.Ytlikikiglicdlaa
