/-
  The law WindowJoin, walked, from what the document's Join answers.
-/
import Derived.Test.YtlikikiglicdlaaWPanes
import Derived.Test.YtlikikiglicdlaaWRJoin
namespace Go.Proofs.Ytlikikiglicdlaa
open Go.RowKit

theorem Join_on {w : World} {v : Value} {l m : List Pn} (hl : LSeg 4 Pn.cs w.heap.size w v l) (hn : l.length ≤ 100000) (a : Int) (e : pJoin (jn a) l = m) (W : World) (h : Below w.heap.size w W) : Calls Try.prog 23 #[.int .i64 a, v] W fun e w' => ∃ u, e = .returned u ∧ LSeg 4 Pn.cs w'.heap.size w' u m ∧ Below W.heap.size W w' :=
  (Join_any (hl.on h) hn a).mono fun _ _ ⟨u, h1, h2, h3⟩ => ⟨u, h1, by rw [← e]; exact h2.seg Pn.cs_len (by have := pJoin_len (jn a) l; omega), h3⟩
theorem Sort_on {w : World} {v : Value} {l m : List Pn} (hl : LSeg 4 Pn.cs w.heap.size w v l) (hn : l.length ≤ 100000) (e : srt l = m) (W : World) (h : Below w.heap.size w W) : Calls Try.prog 24 #[v] W fun e w' => ∃ u, e = .returned u ∧ LSeg 4 Pn.cs w'.heap.size w' u m ∧ Below W.heap.size W w' :=
  (Sort_any (hl.on h) (by omega)).mono fun _ _ ⟨u, h1, h2, h3⟩ => ⟨u, h1, by rw [← e]; exact h2.seg Pn.cs_len (by rw [srt_len]; omega), h3⟩
theorem rSort_on {w : World} {v : Value} {l m : List Pn} (hl : LSeg 4 Pn.cs w.heap.size w v l) (hn : l.length ≤ 100000) (e : srt l = m) (W : World) (h : Below w.heap.size w W) : Calls Try.prog 25 #[v] W fun e w' => ∃ u, e = .returned u ∧ LSeg 4 Pn.cs w'.heap.size w' u m ∧ Below W.heap.size W w' :=
  (rSort_any (hl.on h) hn).mono fun _ _ ⟨u, h1, h2, h3⟩ => ⟨u, h1, by rw [← e]; exact h2.seg Pn.cs_len (by rw [srt_len]; omega), h3⟩
theorem join_back {a : Int} {l : List Pn} (h : ∀ x ∈ l, Full x) : pJoin (jn a) l.reverse = pJoin (jn a) l := by
  have h1 := join_comes (jn a) h
  have h2 := join_comes (jn a) (l := l.reverse) fun x hx => h x (List.mem_reverse.1 hx)
  exact rising_eq (join_rising ..) (join_rising ..) (Comes.unique (jn_comm a) (jn_assoc a) (h2.perm (List.reverse_perm l) (.refl _)) h1)
theorem join_twice {a : Int} {l : List Pn} (h : ∀ x ∈ l, Full x) : pJoin (jn a) (pJoin (jn a) l) = pJoin (jn a) l := by
  have h1 := join_comes (jn a) h
  rw [join_self (jn_comm a) (jn_assoc a) (h1.1.keeps (fun x y => jp_full) h) h1.2, srt_self (join_rising ..)]
set_option maxHeartbeats 32000000 in
set_option maxRecDepth 100000 in
theorem WindowJoin_walk {w : World} {v : Value} {l : List Pn} (hl : LSeg 4 Pn.cs w.heap.size w v l) (a : Int) :
    Calls Try.prog 6 #[.int .i64 a, v] w fun e w' => e = .returned (.bool true) ∧ Below w.heap.size w w' := by
  have HK := hide (fun W => known_any W)
  obtain ⟨ao, cap, rfl⟩ := hl.shapeOf
  by_cases hF : PnsOk l
  case neg =>
    have HPA : Hid (∀ W, Below w.heap.size w W → _) := fun W h => panes_no (hl.on h) hF
    clear hl hF
    go_enter Try.func6, Try.ntmps6
    go_wp2_with (first
      | (go_at_call 9; refine (HK.out _).mono ?_; rintro e w1 ⟨rfl, b1⟩; have HB1 := hide b1; have HP1 := hide (HPA.out _ HB1.out); clear b1)
      | (go_at_call 22; refine HP1.out.mono ?_; rintro e w2 ⟨rfl, b2⟩; have HB2 := hide (HB1.out.trans (b2.mono HB1.out.size)); clear b2)
      | fail)
    go_ret
    exact ⟨rfl, HB2.out⟩
  have HPA : Hid (∀ W, Below w.heap.size w W → _) := fun W h => panes_yes (hl.on h) hF
  by_cases hA1 : a < 1
  · clear hl hF
    go_enter Try.func6, Try.ntmps6
    go_wp2_with (first
      | (go_at_call 9; refine (HK.out _).mono ?_; rintro e w1 ⟨rfl, b1⟩; have HB1 := hide b1; have HP1 := hide (HPA.out _ HB1.out); clear b1)
      | (go_at_call 22; refine HP1.out.mono ?_; rintro e w2 ⟨rfl, b2⟩; have HB2 := hide (HB1.out.trans (b2.mono HB1.out.size)); clear b2)
      | fail)
    go_ret
    exact ⟨rfl, HB2.out⟩
  by_cases hA5 : 5 < a
  · clear hl hF
    go_enter Try.func6, Try.ntmps6
    go_wp2_with (first
      | (go_at_call 9; refine (HK.out _).mono ?_; rintro e w1 ⟨rfl, b1⟩; have HB1 := hide b1; have HP1 := hide (HPA.out _ HB1.out); clear b1)
      | (go_at_call 22; refine HP1.out.mono ?_; rintro e w2 ⟨rfl, b2⟩; have HB2 := hide (HB1.out.trans (b2.mono HB1.out.size)); clear b2)
      | fail)
    go_ret
    exact ⟨rfl, HB2.out⟩
  have hFu : ∀ x ∈ l, Full x := fun x hx => (hF.2 x hx).2.2
  have HFU := hide hFu
  have hl200 : l.length ≤ 200 := hF.1
  have HL := hide hl
  clear hF hl hFu
  go_enter Try.func6, Try.ntmps6
  go_upto_region 5 with (first
    | (go_at_call 9; refine (HK.out _).mono ?_; rintro e w1 ⟨rfl, b1⟩; have HB1 := hide b1; have HP1 := hide (HPA.out _ HB1.out); clear b1)
    | (go_at_call 22; refine HP1.out.mono ?_; rintro e w2 ⟨rfl, b2⟩; have HB2 := hide (HB1.out.trans (b2.mono HB1.out.size)); clear b2))
  clear HK HPA HP1 HB1
  go_wp2_with fail
  go_loopg [5, 6] (l.length + 1) (fun gh bv iv wr => ∃ n : Nat, iv = .int .i64 ((n : Int) - 1) ∧ n ≤ l.length ∧ n + 1 ≤ gh ∧ Hid (OwnL 46 4 Pn.cs w2.heap.size wr bv (l.drop n).reverse) ∧ Hid (Below w2.heap.size w2 wr))
  case atStart => exact ⟨l.length, by go_num, by omega, by omega, (show OwnL _ _ _ _ _ _ _ by rw [List.drop_length]; exact OwnL.nil _ _ _ _ _), Below.refl _ _⟩
  case round =>
    obtain ⟨n, rfl, hn, hg, GO, GB⟩ := hrel
    obtain ⟨go, rfl⟩ : ∃ go, gk = go + 1 := ⟨gk - 1, by omega⟩
    have HBW := hide (HB2.out.trans (GB.out.mono HB2.out.size))
    rcases n with _ | j
    · as_aux_lemma =>
      have HBK := hide GO.out
      simp only [List.drop_zero] at HBK
      clear GO
      have bn : ¬ (0 : Int) ≤ ((0 : Nat) : Int) - 1 := by omega
      have HRV : Hid (l.reverse.length ≤ 200) := (show _ ≤ _ by rw [List.length_reverse]; exact hl200)
      obtain ⟨SL, hSL⟩ : ∃ SL, srt l = SL := ⟨_, rfl⟩
      obtain ⟨PJ, hPJ⟩ : ∃ PJ, pJoin (jn a) l = PJ := ⟨_, rfl⟩
      have HNJ : Hid (PJ.length ≤ 1000000) := (show _ ≤ _ by rw [← hPJ]; have := pJoin_len (jn a) l; omega)
      have HN : Hid (SL.length ≤ 1000000) := (show _ ≤ _ by rw [← hSL, srt_len]; omega)
      have HE1 : Hid (pJoin (jn a) l.reverse = PJ) := (show _ = _ from (join_back (a := a) HFU.out).trans hPJ)
      have HE2 : Hid (pJoin (jn a) PJ = PJ) := (show _ = _ by rw [← hPJ]; exact join_twice (a := a) HFU.out)
      have HE3 : Hid (srt l.reverse = SL) := (show _ = _ from (srt_eq (List.reverse_perm l)).trans hSL)
      have HSLe := hide hSL
      have HPJe := hide hPJ
      have HPL : Hid (PJ.length ≤ 200) := (show _ ≤ _ by rw [← hPJ]; have := pJoin_len (jn a) l; omega)
      have HJ0 := hide (Join_on (HL.out.on HBW.out) (by omega) a hPJ _ (Below.refl _ _))
      have K0 := hide (HBK.out.seg Pn.cs_len (by have := HRV.out; omega))
      clear hSL hPJ
      generalize l.reverse = LR at *
      obtain ⟨ba, bc, rfl⟩ := HBK.out.shape
      clear HBK
      go_upto_region 11 with (first | (go_at_call 23; refine HJ0.out.mono ?_; rintro e w5 ⟨u5, rfl, o5, b5⟩; obtain ⟨ja, jc, rfl⟩ := o5.shapeOf; have J5 := hide o5; have BB := hide b5; clear o5 b5) | fail)
      have B5 := hide (Below.refl w5.heap.size w5)
      have L5 := hide ((HL.out.on HBW.out).on BB.out)
      have K5 := hide (K0.out.on BB.out)
      have HSL1 := hide (Sort_on L5.out (by omega) HSLe.out)
      have HSL2 := hide (Sort_on L5.out (by omega) HSLe.out)
      have HRS := hide (rSort_on L5.out (by omega) HSLe.out)
      have HSB := hide (Sort_on K5.out (by have := HRV.out; omega) HE3.out)
      have HJB := hide (Join_on K5.out (by have := HRV.out; omega) a HE1.out)
      have HJJ := hide (Join_on J5.out (by have := HPL.out; omega) a HE2.out)
      have HRJ : Hid (∀ W, Below w5.heap.size w5 W → Calls Try.prog 26 #[.int .i64 a, .slice ao l.length cap] W fun e w' => ∃ u, e = .returned u ∧ LSeg 4 Pn.cs w'.heap.size w' u PJ ∧ Below W.heap.size W w') := (show ∀ W, _ from fun W h => by
        have h1 := rJoin_any (L5.out.on h) (by omega) HFU.out a
        rw [HPJe.out] at h1
        exact h1)
      clear HJ0 HE1 HE2 HE3 HSLe HPJe K0 L5 K5
      go_wp2_with (first
        | (go_at_call 24; refine (HSL1.out _ B5.out).mono ?_; rintro e w6 ⟨u6, rfl, o6, b6⟩; obtain ⟨a6, c6, rfl⟩ := o6.shapeOf; have R6 := hide o6; have B6 := hide (B5.out.trans (b6.mono B5.out.size)); have D6 := hide b6; clear o6 b6 HSL1)
        | (go_at_call 25; refine (HRS.out _ B6.out).mono ?_; rintro e w7 ⟨u7, rfl, o7, b7⟩; obtain ⟨a7, c7, rfl⟩ := o7.shapeOf; have R7 := hide o7; have B7 := hide (B6.out.trans (b7.mono B6.out.size)); have D7 := hide b7; clear o7 b7 HRS)
        | (go_at_call 16; refine (hPanes_any (R6.out.on D7.out) (R7.out) HN.out).mono ?_; rintro e w8 ⟨rfl, b8⟩; have B8 := hide (B7.out.trans (b8.mono B7.out.size)); clear b8 R6 R7)
        | (go_at_call 26; refine (HRJ.out _ B8.out).mono ?_; rintro e w9 ⟨u9, rfl, o9, b9⟩; obtain ⟨a9, c9, rfl⟩ := o9.shapeOf; have R9 := hide o9; have B9 := hide (B8.out.trans (b9.mono B8.out.size)); have D9 := hide b9; clear o9 b9 HRJ)
        | (go_at_call 16; refine (hPanes_any (J5.out.on B9.out) (R9.out) HNJ.out).mono ?_; rintro e w10 ⟨rfl, b10⟩; have B10 := hide (B9.out.trans (b10.mono B9.out.size)); clear b10 R9)
        | (go_at_call 23; refine (HJB.out _ B10.out).mono ?_; rintro e w11 ⟨u11, rfl, o11, b11⟩; obtain ⟨a11, c11, rfl⟩ := o11.shapeOf; have R11 := hide o11; have B11 := hide (B10.out.trans (b11.mono B10.out.size)); have D11 := hide b11; clear o11 b11 HJB)
        | (go_at_call 16; refine (hPanes_any (J5.out.on B11.out) (R11.out) HNJ.out).mono ?_; rintro e w12 ⟨rfl, b12⟩; have B12 := hide (B11.out.trans (b12.mono B11.out.size)); clear b12 R11)
        | (go_at_call 23; refine (HJJ.out _ B12.out).mono ?_; rintro e w13 ⟨u13, rfl, o13, b13⟩; obtain ⟨a13, c13, rfl⟩ := o13.shapeOf; have R13 := hide o13; have B13 := hide (B12.out.trans (b13.mono B12.out.size)); have D13 := hide b13; clear o13 b13 HJJ)
        | (go_at_call 16; refine (hPanes_any (R13.out) (J5.out.on B13.out) HNJ.out).mono ?_; rintro e w14 ⟨rfl, b14⟩; have B14 := hide (B13.out.trans (b14.mono B13.out.size)); clear b14 R13)
        | (go_at_call 24; refine (HSB.out _ B14.out).mono ?_; rintro e w15 ⟨u15, rfl, o15, b15⟩; obtain ⟨a15, c15, rfl⟩ := o15.shapeOf; have R15 := hide o15; have B15 := hide (B14.out.trans (b15.mono B14.out.size)); have D15 := hide b15; clear o15 b15 HSB)
        | (go_at_call 24; refine (HSL2.out _ B15.out).mono ?_; rintro e w16 ⟨u16, rfl, o16, b16⟩; obtain ⟨a16, c16, rfl⟩ := o16.shapeOf; have R16 := hide o16; have B16 := hide (B15.out.trans (b16.mono B15.out.size)); have D16 := hide b16; clear o16 b16 HSL2)
        | (go_at_call 16; refine (hPanes_any (R15.out.on D16.out) (R16.out) HN.out).mono ?_; rintro e w17 ⟨rfl, b17⟩; have B17 := hide (B16.out.trans (b17.mono B16.out.size)); clear b17 R15 R16)
        | fail)
      go_ret
      exact ⟨rfl, (HBW.out.trans (BB.out.mono HBW.out.size)).trans (B17.out.mono (Nat.le_trans HBW.out.size BB.out.size))⟩
    · as_aux_lemma =>
      have e : (((j + 1 : Nat) : Int) - 1) = (j : Int) := by omega
      rw [e]
      obtain ⟨x, hx⟩ := get_of_lt (show j < l.length by omega)
      have bt : (j : Int) < (l.length : Int) := by omega
      have b0 : (0 : Int) ≤ (j : Int) := by omega
      obtain ⟨nb, no, rfl, nlt, e0, e1, e2, e3⟩ := (HL.out.below HBW.out).pane hx
      have HDR : Hid ((l.drop j).reverse = (l.drop (j + 1)).reverse ++ [x]) := (show _ = _ by rw [drop_at hx, List.reverse_cons])
      have HOL : Hid ((l.drop (j + 1)).reverse.length ≤ 1000) := (show _ ≤ _ by rw [List.length_reverse, List.length_drop]; omega)
      generalize (l.drop (j + 1)).reverse = bk at *
      obtain ⟨ba, bc, rfl⟩ := GO.out.shape
      clear hx e
      obtain ⟨xk, xf, xt, xa⟩ := x
      simp only at e0 e1 e2 e3
      have HB3 := hide (below_box wr (.cells #[.int .i64 xk, .int .i64 xf, .int .i64 xt, .int .i64 xa] 46))
      have HX3 := hide (seg_one (x := ⟨xk, xf, xt, xa⟩) (BoxT.new 46 wr #[.int .i64 xk, .int .i64 xf, .int .i64 xt, .int .i64 xa]))
      have HO3 := hide (GO.out.below HB3.out)
      have HS3 := hide (GB.out.trans (HB3.out.mono GB.out.size))
      have HSZ := hide HS3.out.size
      go_wp2_with (first | (at_builtin; refine app_segL Try.infoPn Try.underlying35 rfl (by decide) (by decide) Pn.cs_len Pn.cs_one rfl _ _ rfl w2.heap.size _ bk rfl HO3.out _ _ [⟨xk, xf, xt, xa⟩] rfl HX3.out (by have := HOL.out; simp; omega) HSZ.out ?_; intro v5 w5 h5 g5 k5; have O5 := hide h5; have B5 := hide (HS3.out.grown g5 HSZ.out (fun k e => GO.out.at k e)); clear h5 g5 k5) | fail)
      go_roundg go
      case rel => exact ⟨j, by go_num, by omega, by omega, (show OwnL _ _ _ _ _ _ _ by rw [HDR.out]; exact O5.out), B5⟩
      case measure => omega
end Go.Proofs.Ytlikikiglicdlaa
