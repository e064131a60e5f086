/-
  AggOrder, walked.
-/
import Derived.Test.YthbfjkhjjkjadaaALawM
namespace Go.Proofs.Ythbfjkhjjkjadaa
open Go.RowKit

theorem lseg_one {w : World} {g : Nat} {x : Int} (h : BoxT 2 w g #[.int .i64 x]) : LSeg 1 i64cs w.heap.size w (.slice (some ⟨g, 0, none⟩) 1 1) [x] :=
  ⟨_, 1, rfl, by simp, .inr ⟨g, 0, rfl, h.lt, fun i y hy j u hu => by
    match i, hy with
    | 0, hy =>
      simp at hy
      subst hy
      match j, hu with
      | 0, hu =>
        simp [i64cs] at hu
        subst hu
        exact (h.cellAt _).trans rfl⟩⟩
theorem LSeg.takeI {w : World} {B : Nat} {ao : Option Addr} {cap : Nat} {l : List Int} (h : LSeg 1 i64cs B w (.slice ao l.length cap) l) {k : Nat} (hk : k ≤ l.length) : LSeg 1 i64cs B w (.slice ao k cap) (l.take k) := by
  have hlen : (l.take k).length = k := by simp; omega
  obtain ⟨ao', cap', e, h2, h3⟩ := h
  cases e
  refine ⟨ao, cap, by rw [hlen], by omega, ?_⟩
  rcases h3 with rfl | ⟨b, off, rfl, hb, hc⟩
  · exact .inl (by simp)
  · refine .inr ⟨b, off, rfl, hb, fun i x hx j u hu => ?_⟩
    rw [List.getElem?_take] at hx
    split at hx
    · exact hc i x hx j u hu
    · cases hx
theorem LSeg.dropI {w : World} {B : Nat} {ao : Option Addr} {cap : Nat} {l : List Int} (h : LSeg 1 i64cs B w (.slice ao l.length cap) l) (hcap : l.length ≤ cap) {k : Nat} (hk : k ≤ l.length) : LSeg 1 i64cs B w (.slice (if cap = k then ao else Option.map (fun x => x.add k) ao) (l.length - k) (cap - k)) (l.drop k) := by
  have hlen : (l.drop k).length = l.length - k := by simp
  obtain ⟨ao', cap', e, h2, h3⟩ := h
  cases e
  refine ⟨_, cap - k, by rw [hlen], by omega, ?_⟩
  by_cases he : l.length = k
  · exact .inl (by simp [he])
  rcases h3 with rfl | ⟨b, off, rfl, hb, hc⟩
  · exact .inl (by simp)
  · rw [if_neg (by omega)]
    refine .inr ⟨b, off + k, by simp [add_plain2], hb, fun i x hx j u hu => ?_⟩
    rw [List.getElem?_drop] at hx
    have := hc (k + i) x hx j u hu
    rw [show off + k + i * 1 + j = off + (k + i) * 1 + j by omega]
    exact this
set_option maxHeartbeats 8000000 in
set_option maxRecDepth 100000 in
theorem AggOrder_walk {w : World} {ao : Option Addr} {cap : Nat} {l : List Int} (hl : LSeg 1 i64cs w.heap.size w (.slice ao l.length cap) l) (hcap : l.length ≤ cap) (hin : ∀ x ∈ l, In64 x) (a at_ x : Int) : Calls Try.prog 5 #[.int .i64 a, .slice ao l.length cap, .int .i64 at_, .int .i64 x] w fun e w' => e = .returned (.bool true) ∧ Below w.heap.size w w' := by
  have hz : (l.length : Int) ≤ 140737488355328 := by obtain ⟨_, _, _, h, _⟩ := hl; omega
  have HK := hide (known_any w)
  have HIs := hide (fun w => Is_any w a)
  by_cases ha : 1 ≤ a ∧ a ≤ 5
  case neg =>
    rw [decide_eq_false ha] at HIs
    clear hl hin ha
    as_aux_lemma =>
    go_enter Try.func5, Try.ntmps5
    go_wp2_with (first
      | (go_at_call 6; refine HK.out.mono ?_; rintro e w1 ⟨rfl, b1⟩; have B := hide b1; clear b1)
      | (go_at_call 7; refine (HIs.out _).mono ?_; rintro e w2 ⟨rfl, b2⟩; replace B := hide (B.out.trans (b2.mono B.out.size)); clear b2))
    go_ret
    exact ⟨rfl, B.out⟩
  rw [decide_eq_true ha] at HIs
  by_cases hn : (500 : Int) < (l.length : Int)
  · clear hl hin ha
    as_aux_lemma =>
    go_enter Try.func5, Try.ntmps5
    go_wp2_with (first
      | (go_at_call 6; refine HK.out.mono ?_; rintro e w1 ⟨rfl, b1⟩; have B := hide b1; clear b1)
      | (go_at_call 7; refine (HIs.out _).mono ?_; rintro e w2 ⟨rfl, b2⟩; replace B := hide (B.out.trans (b2.mono B.out.size)); clear b2))
    go_ret
    exact ⟨rfl, B.out⟩
  have HL := hide hl
  have hn2 : l.length ≤ 500 := by omega
  have HAl : Hid (∀ w', Below w.heap.size w w' → Calls Try.prog 11 #[.int .i64 a, .slice ao l.length cap] w' fun e w'' => e = .returned (.int .i64 (al a l)) ∧ Below w'.heap.size w' w'') := fun w' h => All_any ((hl.below h).mono h.size) (by omega) a
  clear hl
  by_cases b1 : at_ < 0
  · obtain ⟨k, hk2, hk⟩ : ∃ k : Nat, (l.length : Int) / 2 = (k : Int) ∧ k ≤ l.length := ⟨l.length / 2, by omega, by omega⟩
    as_aux_lemma =>
    go_enter Try.func5, Try.ntmps5
    go_upto_region 8 with (first
      | (go_at_call 6; refine HK.out.mono ?_; rintro e w1 ⟨rfl, b1⟩; have B := hide b1; clear b1)
      | (go_at_call 7; refine (HIs.out _).mono ?_; rintro e w2 ⟨rfl, b2⟩; replace B := hide (B.out.trans (b2.mono B.out.size)); clear b2; clear HK HIs))
    clear hk2
    have b3 : (k : Int) ≤ (cap : Int) := by omega
    have b4 : (0 : Int) ≤ (k : Int) := by omega
    have b5 : (k : Int) ≤ (l.length : Int) := by omega
    have HT := hide (HL.out.takeI hk)
    have HD := hide (HL.out.dropI hcap hk)
    have D0 := hide (B.out.drew)
    go_region_held3 (fun w' => True) (first | go_keep | trivial) (first
      | (refine step_lseg rfl _ _ rfl w.heap.size (.slice none 0 0) [] rfl (OwnL.nil _ _ _ _ _) w.heap.size (.slice (if cap = k then ao else Option.map (fun x => x.add k) ao) (l.length - k) (cap - k)) (l.drop k) rfl (HD.out.below D0.out) (by simp; omega) D0.out.size ?_; intro v4 w4 h4 g4 _; rw [List.nil_append] at h4; have B4 := hide (D0.out.grown g4 D0.out.size (fun k e => by cases e)); have O4 := hide h4; obtain ⟨a4, c4, hv4⟩ := h4.shape; generalize (l.drop k).length = n4 at hv4; subst hv4; clear h4 g4)
      | (refine step_lseg rfl _ _ rfl w.heap.size (.slice a4 n4 c4) (l.drop k) rfl O4.out w.heap.size (.slice ao k cap) (l.take k) rfl (HT.out.below B4.out) (by simp; omega) B4.out.size ?_; intro v5 w5 h5 g5 _; have B5 := hide (B4.out.grown g5 B4.out.size (fun k e => O4.out.at k e)); have O5 := hide h5; obtain ⟨a5, c5, hv5⟩ := h5.shape; generalize (l.drop k ++ l.take k).length = n5 at hv5; subst hv5; clear h5 g5))
    clear HT HD D0 B4 O4 b3 b4 b5
    generalize (if cap = k then ao else Option.map (fun x => x.add k) ao) = ax
    generalize (decide ((k : Int) < 0) || decide (l.length < k)) = dx
    generalize decide ((k : Int) < 0) = dy
    generalize decide (l.length < k) = dz
    generalize decide ((500 : Int) < (l.length : Int)) = dw
    go_wp2_with fail
    go_loopg [10, 11] (l.length + 1) (fun gh bv iv wr => ∃ q : Nat, q ≤ l.length ∧ q + 1 ≤ gh ∧ iv = .int .i64 ((q : Int) - 1) ∧ Hid (OwnL 2 1 i64cs w5.heap.size wr bv (l.drop q).reverse) ∧ Hid (Below w5.heap.size w5 wr))
    case atStart => exact ⟨l.length, Nat.le_refl _, Nat.le_refl _, by go_num, (show OwnL _ _ _ _ _ _ _ by rw [List.drop_length]; exact OwnL.nil _ _ _ _ _), Below.refl _ _⟩
    case round =>
      obtain ⟨q, hq, hg, rfl, GO, GB⟩ := hrel
      obtain ⟨go, rfl⟩ : ∃ go, gk = go + 1 := ⟨gk - 1, by omega⟩
      match q, hq, hg, GO with
      | q + 1, hq, hg, GO =>
        obtain ⟨y, hy⟩ := get_of_lt (show q < l.length by omega)
        have HR : Hid ((l.drop q).reverse = (l.drop (q + 1)).reverse ++ [y]) := (show _ = _ by
          have hql : q < l.length := by omega
          rw [List.getElem?_eq_getElem hql] at hy
          cases hy
          rw [List.drop_eq_getElem_cons hql, List.reverse_cons])
        have BW := hide (B5.out.trans (GB.out.mono B5.out.size))
        obtain ⟨nb, no, rfl, nlt, d0⟩ := seg_int (HL.out.below BW.out) hy
        have eq1 : ((q + 1 : Nat) : Int) - 1 = (q : Int) := by omega
        have bq : (q : Int) < (l.length : Int) := by omega
        rw [eq1]
        clear hy eq1
        have HNL : Hid ((l.drop (q + 1)).reverse.length + [y].length ≤ 1000000) := (show _ ≤ _ by simp; omega)
        have HBS := hide GB.out.size
        go_wp2_with (at_builtin; refine app_lseg rfl _ _ rfl w5.heap.size _ (l.drop (q + 1)).reverse rfl (GO.out.alloc _) _ _ [y] rfl (lseg_one (BoxT.new 2 wr _)) HNL.out (Nat.le_trans HBS.out (by simp)) ?_; intro v6 w6 h6 g6 _)
        go_roundg go
        case rel =>
          refine ⟨q, by omega, by omega, by go_num, (show OwnL _ _ _ _ _ _ _ by rw [HR.out]; exact h6), (GB.out.alloc GB.out.size _).grown g6 (Nat.le_trans HBS.out (by simp)) (fun k e => GO.out.at k e)⟩
        case measure => omega
      | 0, hq, hg, GO =>
        have BW := hide (B5.out.trans (GB.out.mono B5.out.size))
        have OT := hide (O5.out.below GB.out)
        have OB := hide GO.out
        clear B5 GO hq hg O5
        rw [show ((0 : Nat) : Int) - 1 = -1 by decide]
        rw [List.drop_zero] at OB
        have hpr : al a (l.drop k ++ l.take k) = al a l := al_perm a ((List.perm_append_comm).trans (by rw [List.take_append_drop]))
        have hrv : al a l.reverse = al a l := al_perm a (List.reverse_perm l)
        have hsi := al_in a hin
        have HAt : Hid (∀ w', Below wr.heap.size wr w' → Calls Try.prog 11 #[.int .i64 a, .slice a5 n5 c5] w' fun e w'' => e = .returned (.int .i64 (al a l)) ∧ Below w'.heap.size w' w'') := fun w' h => by
          rw [← hpr]
          exact All_any ((OT.out.below h).lsegI (by simp; omega)) (by simp; omega) a
        have HAb : Hid (∀ w', Below wr.heap.size wr w' → Calls Try.prog 11 #[.int .i64 a, u10] w' fun e w'' => e = .returned (.int .i64 (al a l)) ∧ Below w'.heap.size w' w'') := fun w' h => by
          rw [← hrv]
          exact All_any ((OB.out.below h).lsegI (by simp; omega)) (by simp; omega) a
        have HAm : Hid (∀ w' vm, OwnL 2 1 i64cs wr.heap.size w' vm (l ++ [x]) → Calls Try.prog 11 #[.int .i64 a, vm] w' fun e w'' => e = .returned (.int .i64 (ad a (al a l) x)) ∧ Below w'.heap.size w' w'') := fun w' vm h => by
          rw [← al_one]
          exact All_any (h.lsegI (by simp; omega)) (by simp; omega) a
        have HAd := hide (fun w => Add_any w a (al a l) x)
        have HAl2 : Hid (∀ w', Below wr.heap.size wr w' → Calls Try.prog 11 #[.int .i64 a, .slice ao l.length cap] w' fun e w'' => e = .returned (.int .i64 (al a l)) ∧ Below w'.heap.size w' w'') := fun w' h => HAl.out w' (BW.out.trans (h.mono BW.out.size))
        have HLL : Hid (∀ w', Below wr.heap.size wr w' → LSeg 1 i64cs w.heap.size w' (.slice ao l.length cap) l) := fun w' h => HL.out.below (BW.out.trans (h.mono BW.out.size))
        have hal : ([] : List Int).length + l.length ≤ 1000000 := by simp; omega
        have hal2 : l.length + [x].length ≤ 1000000 := by simp; omega
        have H9 := hide (And.intro hal hal2)
        have C := hide (Below.refl wr.heap.size wr)
        have HS : Hid (al a l = al a l) := (show _ = _ from rfl)
        clear hpr hrv HAl HL OT OB hal hal2
        go_upto_region 17 with (first
          | (go_at_call_of 11 (Value.slice ao l.length cap); refine (HAl2.out _ C.out).mono ?_; rintro e w7 ⟨rfl, b7⟩; replace C := hide (C.out.trans (b7.mono C.out.size)); clear b7)
          | (at_builtin; refine app_lseg rfl _ _ rfl wr.heap.size (.slice none 0 0) [] rfl (OwnL.nil _ _ _ _ _) w.heap.size _ l rfl (HLL.out _ C.out) H9.out.1 C.out.size ?_; intro v8 w8 h8 g8 _; rw [List.nil_append] at h8; replace C := hide (C.out.grown g8 C.out.size (fun k e => by cases e)); have O8 := hide h8; clear h8 g8)
          | (at_builtin; refine app_lseg rfl _ _ rfl wr.heap.size v8 l rfl (O8.out.alloc _) _ _ [x] rfl (lseg_one (BoxT.new 2 w8 _)) H9.out.2 (Nat.le_trans C.out.size (by simp)) ?_; intro v9 w9 h9 g9 _; replace C := hide ((C.out.alloc C.out.size _).grown g9 (Nat.le_trans C.out.size (by simp)) (fun k e => O8.out.at k e)); have O9 := hide h9; have D := hide (Below.refl w9.heap.size w9); clear h9 g9 O8)
          | (go_at_call_of 11 (Value.slice a5 n5 c5); refine (HAt.out _ C.out).mono ?_; rintro e wa ⟨rfl, b7⟩; replace C := hide (C.out.trans (b7.mono C.out.size)); replace D := hide (D.out.trans (b7.mono D.out.size)); clear b7)
          | (go_at_call_of 11 u10; refine (HAb.out _ C.out).mono ?_; rintro e wb ⟨rfl, b7⟩; replace C := hide (C.out.trans (b7.mono C.out.size)); replace D := hide (D.out.trans (b7.mono D.out.size)); clear b7)
          | (go_at_call_of 11 v9; refine (HAm.out _ _ (O9.out.below D.out)).mono ?_; rintro e wc ⟨rfl, b7⟩; replace C := hide (C.out.trans (b7.mono C.out.size)); clear b7 D)
          | (go_at_call 9; refine (HAd.out _).mono ?_; rintro e wd ⟨rfl, b7⟩; replace C := hide (C.out.trans (b7.mono C.out.size)); clear b7))
        have BE : Hid (∀ w', Below wr.heap.size wr w' → Below w.heap.size w w') := fun w' h => BW.out.trans (h.mono BW.out.size)
        clear HAt HAb HAm HAl2 HLL H9 HS O9 GO GB B BW
        rcases five ha with rfl | rfl | rfl | rfl | rfl
        · have HA2 : Hid (∀ w, Calls Try.prog 9 #[.int .i64 1, .int .i64 (ad 1 (al 1 l) x), .int .i64 (wrap64 (-x))] w fun e w' => e = .returned (.int .i64 (al 1 l)) ∧ Below w.heap.size w w') := fun w => by
            have h := Add_any w 1 (ad 1 (al 1 l) x) (wrap64 (-x))
            rw [ad_sum hsi] at h
            exact h
          generalize ad 1 (al 1 l) x = p1 at *
          generalize al 1 l = p2 at *
          as_aux_lemma =>
          go_wp2_with (first
            | (go_at_call_of 9 (Value.int IntKind.i64 p1); refine (HA2.out _).mono ?_; rintro e we ⟨rfl, b7⟩; replace C := hide (C.out.trans (b7.mono C.out.size)); clear b7)
            | (go_at_call 9; refine (HAd.out _).mono ?_; rintro e we ⟨rfl, b7⟩; replace C := hide (C.out.trans (b7.mono C.out.size)); clear b7))
          go_ret
          exact ⟨rfl, BE.out _ C.out⟩
        · have he := al_count (l := l) (by omega)
          rw [he]
          as_aux_lemma =>
          go_wp2_with fail
          go_ret
          exact ⟨rfl, BE.out _ C.out⟩
        · have he := ad_le (al 3 l) x
          generalize ad 3 (al 3 l) x = p1 at *
          generalize al 3 l = p2 at *
          as_aux_lemma =>
          go_wp2_with (go_at_call 9; refine (HAd.out _).mono ?_; rintro e we ⟨rfl, b7⟩; replace C := hide (C.out.trans (b7.mono C.out.size)); clear b7)
          go_ret
          exact ⟨rfl, BE.out _ C.out⟩
        · have he := ad_ge (al 4 l) x
          generalize ad 4 (al 4 l) x = p1 at *
          generalize al 4 l = p2 at *
          as_aux_lemma =>
          go_wp2_with (go_at_call 9; refine (HAd.out _).mono ?_; rintro e we ⟨rfl, b7⟩; replace C := hide (C.out.trans (b7.mono C.out.size)); clear b7)
          go_ret
          exact ⟨rfl, BE.out _ C.out⟩
        · have HA2 : Hid (∀ w, Calls Try.prog 9 #[.int .i64 5, .int .i64 (ad 5 (al 5 l) x), .int .i64 x] w fun e w' => e = .returned (.int .i64 (al 5 l)) ∧ Below w.heap.size w w') := fun w => by
            have h := Add_any w 5 (ad 5 (al 5 l) x) x
            rw [ad_xor hsi] at h
            exact h
          generalize ad 5 (al 5 l) x = p1 at *
          generalize al 5 l = p2 at *
          as_aux_lemma =>
          go_wp2_with (first
            | (go_at_call_of 9 (Value.int IntKind.i64 p1); refine (HA2.out _).mono ?_; rintro e we ⟨rfl, b7⟩; replace C := hide (C.out.trans (b7.mono C.out.size)); clear b7)
            | (go_at_call 9; refine (HAd.out _).mono ?_; rintro e we ⟨rfl, b7⟩; replace C := hide (C.out.trans (b7.mono C.out.size)); clear b7))
          go_ret
          exact ⟨rfl, BE.out _ C.out⟩
  by_cases b2 : (l.length : Int) < at_
  · obtain ⟨k, hk2, hk⟩ : ∃ k : Nat, (l.length : Int) / 2 = (k : Int) ∧ k ≤ l.length := ⟨l.length / 2, by omega, by omega⟩
    as_aux_lemma =>
    go_enter Try.func5, Try.ntmps5
    go_upto_region 8 with (first
      | (go_at_call 6; refine HK.out.mono ?_; rintro e w1 ⟨rfl, b1⟩; have B := hide b1; clear b1)
      | (go_at_call 7; refine (HIs.out _).mono ?_; rintro e w2 ⟨rfl, b2⟩; replace B := hide (B.out.trans (b2.mono B.out.size)); clear b2; clear HK HIs))
    clear hk2
    generalize decide (at_ < 0) = dv
    have b3 : (k : Int) ≤ (cap : Int) := by omega
    have b4 : (0 : Int) ≤ (k : Int) := by omega
    have b5 : (k : Int) ≤ (l.length : Int) := by omega
    have HT := hide (HL.out.takeI hk)
    have HD := hide (HL.out.dropI hcap hk)
    have D0 := hide (B.out.drew)
    go_region_held3 (fun w' => True) (first | go_keep | trivial) (first
      | (refine step_lseg rfl _ _ rfl w.heap.size (.slice none 0 0) [] rfl (OwnL.nil _ _ _ _ _) w.heap.size (.slice (if cap = k then ao else Option.map (fun x => x.add k) ao) (l.length - k) (cap - k)) (l.drop k) rfl (HD.out.below D0.out) (by simp; omega) D0.out.size ?_; intro v4 w4 h4 g4 _; rw [List.nil_append] at h4; have B4 := hide (D0.out.grown g4 D0.out.size (fun k e => by cases e)); have O4 := hide h4; obtain ⟨a4, c4, hv4⟩ := h4.shape; generalize (l.drop k).length = n4 at hv4; subst hv4; clear h4 g4)
      | (refine step_lseg rfl _ _ rfl w.heap.size (.slice a4 n4 c4) (l.drop k) rfl O4.out w.heap.size (.slice ao k cap) (l.take k) rfl (HT.out.below B4.out) (by simp; omega) B4.out.size ?_; intro v5 w5 h5 g5 _; have B5 := hide (B4.out.grown g5 B4.out.size (fun k e => O4.out.at k e)); have O5 := hide h5; obtain ⟨a5, c5, hv5⟩ := h5.shape; generalize (l.drop k ++ l.take k).length = n5 at hv5; subst hv5; clear h5 g5))
    clear HT HD D0 B4 O4 b3 b4 b5
    generalize (if cap = k then ao else Option.map (fun x => x.add k) ao) = ax
    generalize (decide ((k : Int) < 0) || decide (l.length < k)) = dx
    generalize decide ((k : Int) < 0) = dy
    generalize decide (l.length < k) = dz
    generalize decide ((500 : Int) < (l.length : Int)) = dw
    go_wp2_with fail
    go_loopg [10, 11] (l.length + 1) (fun gh bv iv wr => ∃ q : Nat, q ≤ l.length ∧ q + 1 ≤ gh ∧ iv = .int .i64 ((q : Int) - 1) ∧ Hid (OwnL 2 1 i64cs w5.heap.size wr bv (l.drop q).reverse) ∧ Hid (Below w5.heap.size w5 wr))
    case atStart => exact ⟨l.length, Nat.le_refl _, Nat.le_refl _, by go_num, (show OwnL _ _ _ _ _ _ _ by rw [List.drop_length]; exact OwnL.nil _ _ _ _ _), Below.refl _ _⟩
    case round =>
      obtain ⟨q, hq, hg, rfl, GO, GB⟩ := hrel
      obtain ⟨go, rfl⟩ : ∃ go, gk = go + 1 := ⟨gk - 1, by omega⟩
      match q, hq, hg, GO with
      | q + 1, hq, hg, GO =>
        obtain ⟨y, hy⟩ := get_of_lt (show q < l.length by omega)
        have HR : Hid ((l.drop q).reverse = (l.drop (q + 1)).reverse ++ [y]) := (show _ = _ by
          have hql : q < l.length := by omega
          rw [List.getElem?_eq_getElem hql] at hy
          cases hy
          rw [List.drop_eq_getElem_cons hql, List.reverse_cons])
        have BW := hide (B5.out.trans (GB.out.mono B5.out.size))
        obtain ⟨nb, no, rfl, nlt, d0⟩ := seg_int (HL.out.below BW.out) hy
        have eq1 : ((q + 1 : Nat) : Int) - 1 = (q : Int) := by omega
        have bq : (q : Int) < (l.length : Int) := by omega
        rw [eq1]
        clear hy eq1
        have HNL : Hid ((l.drop (q + 1)).reverse.length + [y].length ≤ 1000000) := (show _ ≤ _ by simp; omega)
        have HBS := hide GB.out.size
        go_wp2_with (at_builtin; refine app_lseg rfl _ _ rfl w5.heap.size _ (l.drop (q + 1)).reverse rfl (GO.out.alloc _) _ _ [y] rfl (lseg_one (BoxT.new 2 wr _)) HNL.out (Nat.le_trans HBS.out (by simp)) ?_; intro v6 w6 h6 g6 _)
        go_roundg go
        case rel =>
          refine ⟨q, by omega, by omega, by go_num, (show OwnL _ _ _ _ _ _ _ by rw [HR.out]; exact h6), (GB.out.alloc GB.out.size _).grown g6 (Nat.le_trans HBS.out (by simp)) (fun k e => GO.out.at k e)⟩
        case measure => omega
      | 0, hq, hg, GO =>
        have BW := hide (B5.out.trans (GB.out.mono B5.out.size))
        have OT := hide (O5.out.below GB.out)
        have OB := hide GO.out
        clear B5 GO hq hg O5
        rw [show ((0 : Nat) : Int) - 1 = -1 by decide]
        rw [List.drop_zero] at OB
        have hpr : al a (l.drop k ++ l.take k) = al a l := al_perm a ((List.perm_append_comm).trans (by rw [List.take_append_drop]))
        have hrv : al a l.reverse = al a l := al_perm a (List.reverse_perm l)
        have hsi := al_in a hin
        have HAt : Hid (∀ w', Below wr.heap.size wr w' → Calls Try.prog 11 #[.int .i64 a, .slice a5 n5 c5] w' fun e w'' => e = .returned (.int .i64 (al a l)) ∧ Below w'.heap.size w' w'') := fun w' h => by
          rw [← hpr]
          exact All_any ((OT.out.below h).lsegI (by simp; omega)) (by simp; omega) a
        have HAb : Hid (∀ w', Below wr.heap.size wr w' → Calls Try.prog 11 #[.int .i64 a, u10] w' fun e w'' => e = .returned (.int .i64 (al a l)) ∧ Below w'.heap.size w' w'') := fun w' h => by
          rw [← hrv]
          exact All_any ((OB.out.below h).lsegI (by simp; omega)) (by simp; omega) a
        have HAm : Hid (∀ w' vm, OwnL 2 1 i64cs wr.heap.size w' vm (l ++ [x]) → Calls Try.prog 11 #[.int .i64 a, vm] w' fun e w'' => e = .returned (.int .i64 (ad a (al a l) x)) ∧ Below w'.heap.size w' w'') := fun w' vm h => by
          rw [← al_one]
          exact All_any (h.lsegI (by simp; omega)) (by simp; omega) a
        have HAd := hide (fun w => Add_any w a (al a l) x)
        have HAl2 : Hid (∀ w', Below wr.heap.size wr w' → Calls Try.prog 11 #[.int .i64 a, .slice ao l.length cap] w' fun e w'' => e = .returned (.int .i64 (al a l)) ∧ Below w'.heap.size w' w'') := fun w' h => HAl.out w' (BW.out.trans (h.mono BW.out.size))
        have HLL : Hid (∀ w', Below wr.heap.size wr w' → LSeg 1 i64cs w.heap.size w' (.slice ao l.length cap) l) := fun w' h => HL.out.below (BW.out.trans (h.mono BW.out.size))
        have hal : ([] : List Int).length + l.length ≤ 1000000 := by simp; omega
        have hal2 : l.length + [x].length ≤ 1000000 := by simp; omega
        have H9 := hide (And.intro hal hal2)
        have C := hide (Below.refl wr.heap.size wr)
        have HS : Hid (al a l = al a l) := (show _ = _ from rfl)
        clear hpr hrv HAl HL OT OB hal hal2
        go_upto_region 17 with (first
          | (go_at_call_of 11 (Value.slice ao l.length cap); refine (HAl2.out _ C.out).mono ?_; rintro e w7 ⟨rfl, b7⟩; replace C := hide (C.out.trans (b7.mono C.out.size)); clear b7)
          | (at_builtin; refine app_lseg rfl _ _ rfl wr.heap.size (.slice none 0 0) [] rfl (OwnL.nil _ _ _ _ _) w.heap.size _ l rfl (HLL.out _ C.out) H9.out.1 C.out.size ?_; intro v8 w8 h8 g8 _; rw [List.nil_append] at h8; replace C := hide (C.out.grown g8 C.out.size (fun k e => by cases e)); have O8 := hide h8; clear h8 g8)
          | (at_builtin; refine app_lseg rfl _ _ rfl wr.heap.size v8 l rfl (O8.out.alloc _) _ _ [x] rfl (lseg_one (BoxT.new 2 w8 _)) H9.out.2 (Nat.le_trans C.out.size (by simp)) ?_; intro v9 w9 h9 g9 _; replace C := hide ((C.out.alloc C.out.size _).grown g9 (Nat.le_trans C.out.size (by simp)) (fun k e => O8.out.at k e)); have O9 := hide h9; have D := hide (Below.refl w9.heap.size w9); clear h9 g9 O8)
          | (go_at_call_of 11 (Value.slice a5 n5 c5); refine (HAt.out _ C.out).mono ?_; rintro e wa ⟨rfl, b7⟩; replace C := hide (C.out.trans (b7.mono C.out.size)); replace D := hide (D.out.trans (b7.mono D.out.size)); clear b7)
          | (go_at_call_of 11 u10; refine (HAb.out _ C.out).mono ?_; rintro e wb ⟨rfl, b7⟩; replace C := hide (C.out.trans (b7.mono C.out.size)); replace D := hide (D.out.trans (b7.mono D.out.size)); clear b7)
          | (go_at_call_of 11 v9; refine (HAm.out _ _ (O9.out.below D.out)).mono ?_; rintro e wc ⟨rfl, b7⟩; replace C := hide (C.out.trans (b7.mono C.out.size)); clear b7 D)
          | (go_at_call 9; refine (HAd.out _).mono ?_; rintro e wd ⟨rfl, b7⟩; replace C := hide (C.out.trans (b7.mono C.out.size)); clear b7))
        have BE : Hid (∀ w', Below wr.heap.size wr w' → Below w.heap.size w w') := fun w' h => BW.out.trans (h.mono BW.out.size)
        clear HAt HAb HAm HAl2 HLL H9 HS O9 GO GB B BW
        rcases five ha with rfl | rfl | rfl | rfl | rfl
        · have HA2 : Hid (∀ w, Calls Try.prog 9 #[.int .i64 1, .int .i64 (ad 1 (al 1 l) x), .int .i64 (wrap64 (-x))] w fun e w' => e = .returned (.int .i64 (al 1 l)) ∧ Below w.heap.size w w') := fun w => by
            have h := Add_any w 1 (ad 1 (al 1 l) x) (wrap64 (-x))
            rw [ad_sum hsi] at h
            exact h
          generalize ad 1 (al 1 l) x = p1 at *
          generalize al 1 l = p2 at *
          as_aux_lemma =>
          go_wp2_with (first
            | (go_at_call_of 9 (Value.int IntKind.i64 p1); refine (HA2.out _).mono ?_; rintro e we ⟨rfl, b7⟩; replace C := hide (C.out.trans (b7.mono C.out.size)); clear b7)
            | (go_at_call 9; refine (HAd.out _).mono ?_; rintro e we ⟨rfl, b7⟩; replace C := hide (C.out.trans (b7.mono C.out.size)); clear b7))
          go_ret
          exact ⟨rfl, BE.out _ C.out⟩
        · have he := al_count (l := l) (by omega)
          rw [he]
          as_aux_lemma =>
          go_wp2_with fail
          go_ret
          exact ⟨rfl, BE.out _ C.out⟩
        · have he := ad_le (al 3 l) x
          generalize ad 3 (al 3 l) x = p1 at *
          generalize al 3 l = p2 at *
          as_aux_lemma =>
          go_wp2_with (go_at_call 9; refine (HAd.out _).mono ?_; rintro e we ⟨rfl, b7⟩; replace C := hide (C.out.trans (b7.mono C.out.size)); clear b7)
          go_ret
          exact ⟨rfl, BE.out _ C.out⟩
        · have he := ad_ge (al 4 l) x
          generalize ad 4 (al 4 l) x = p1 at *
          generalize al 4 l = p2 at *
          as_aux_lemma =>
          go_wp2_with (go_at_call 9; refine (HAd.out _).mono ?_; rintro e we ⟨rfl, b7⟩; replace C := hide (C.out.trans (b7.mono C.out.size)); clear b7)
          go_ret
          exact ⟨rfl, BE.out _ C.out⟩
        · have HA2 : Hid (∀ w, Calls Try.prog 9 #[.int .i64 5, .int .i64 (ad 5 (al 5 l) x), .int .i64 x] w fun e w' => e = .returned (.int .i64 (al 5 l)) ∧ Below w.heap.size w w') := fun w => by
            have h := Add_any w 5 (ad 5 (al 5 l) x) x
            rw [ad_xor hsi] at h
            exact h
          generalize ad 5 (al 5 l) x = p1 at *
          generalize al 5 l = p2 at *
          as_aux_lemma =>
          go_wp2_with (first
            | (go_at_call_of 9 (Value.int IntKind.i64 p1); refine (HA2.out _).mono ?_; rintro e we ⟨rfl, b7⟩; replace C := hide (C.out.trans (b7.mono C.out.size)); clear b7)
            | (go_at_call 9; refine (HAd.out _).mono ?_; rintro e we ⟨rfl, b7⟩; replace C := hide (C.out.trans (b7.mono C.out.size)); clear b7))
          go_ret
          exact ⟨rfl, BE.out _ C.out⟩
  · obtain ⟨k, rfl⟩ : ∃ k : Nat, at_ = (k : Int) := ⟨at_.toNat, by omega⟩
    have hk : k ≤ l.length := by omega
    as_aux_lemma =>
    go_enter Try.func5, Try.ntmps5
    go_upto_region 8 with (first
      | (go_at_call 6; refine HK.out.mono ?_; rintro e w1 ⟨rfl, b1⟩; have B := hide b1; clear b1)
      | (go_at_call 7; refine (HIs.out _).mono ?_; rintro e w2 ⟨rfl, b2⟩; replace B := hide (B.out.trans (b2.mono B.out.size)); clear b2; clear HK HIs))
    have b3 : (k : Int) ≤ (cap : Int) := by omega
    have b4 : (0 : Int) ≤ (k : Int) := by omega
    have b5 : (k : Int) ≤ (l.length : Int) := by omega
    have HT := hide (HL.out.takeI hk)
    have HD := hide (HL.out.dropI hcap hk)
    have D0 := hide (B.out.drew)
    go_region_held3 (fun w' => True) (first | go_keep | trivial) (first
      | (refine step_lseg rfl _ _ rfl w.heap.size (.slice none 0 0) [] rfl (OwnL.nil _ _ _ _ _) w.heap.size (.slice (if cap = k then ao else Option.map (fun x => x.add k) ao) (l.length - k) (cap - k)) (l.drop k) rfl (HD.out.below D0.out) (by simp; omega) D0.out.size ?_; intro v4 w4 h4 g4 _; rw [List.nil_append] at h4; have B4 := hide (D0.out.grown g4 D0.out.size (fun k e => by cases e)); have O4 := hide h4; obtain ⟨a4, c4, hv4⟩ := h4.shape; generalize (l.drop k).length = n4 at hv4; subst hv4; clear h4 g4)
      | (refine step_lseg rfl _ _ rfl w.heap.size (.slice a4 n4 c4) (l.drop k) rfl O4.out w.heap.size (.slice ao k cap) (l.take k) rfl (HT.out.below B4.out) (by simp; omega) B4.out.size ?_; intro v5 w5 h5 g5 _; have B5 := hide (B4.out.grown g5 B4.out.size (fun k e => O4.out.at k e)); have O5 := hide h5; obtain ⟨a5, c5, hv5⟩ := h5.shape; generalize (l.drop k ++ l.take k).length = n5 at hv5; subst hv5; clear h5 g5))
    clear HT HD D0 B4 O4 b3 b4 b5
    generalize (if cap = k then ao else Option.map (fun x => x.add k) ao) = ax
    generalize (decide ((k : Int) < 0) || decide (l.length < k)) = dx
    generalize decide ((k : Int) < 0) = dy
    generalize decide (l.length < k) = dz
    generalize decide ((500 : Int) < (l.length : Int)) = dw
    go_wp2_with fail
    go_loopg [10, 11] (l.length + 1) (fun gh bv iv wr => ∃ q : Nat, q ≤ l.length ∧ q + 1 ≤ gh ∧ iv = .int .i64 ((q : Int) - 1) ∧ Hid (OwnL 2 1 i64cs w5.heap.size wr bv (l.drop q).reverse) ∧ Hid (Below w5.heap.size w5 wr))
    case atStart => exact ⟨l.length, Nat.le_refl _, Nat.le_refl _, by go_num, (show OwnL _ _ _ _ _ _ _ by rw [List.drop_length]; exact OwnL.nil _ _ _ _ _), Below.refl _ _⟩
    case round =>
      obtain ⟨q, hq, hg, rfl, GO, GB⟩ := hrel
      obtain ⟨go, rfl⟩ : ∃ go, gk = go + 1 := ⟨gk - 1, by omega⟩
      match q, hq, hg, GO with
      | q + 1, hq, hg, GO =>
        obtain ⟨y, hy⟩ := get_of_lt (show q < l.length by omega)
        have HR : Hid ((l.drop q).reverse = (l.drop (q + 1)).reverse ++ [y]) := (show _ = _ by
          have hql : q < l.length := by omega
          rw [List.getElem?_eq_getElem hql] at hy
          cases hy
          rw [List.drop_eq_getElem_cons hql, List.reverse_cons])
        have BW := hide (B5.out.trans (GB.out.mono B5.out.size))
        obtain ⟨nb, no, rfl, nlt, d0⟩ := seg_int (HL.out.below BW.out) hy
        have eq1 : ((q + 1 : Nat) : Int) - 1 = (q : Int) := by omega
        have bq : (q : Int) < (l.length : Int) := by omega
        rw [eq1]
        clear hy eq1
        have HNL : Hid ((l.drop (q + 1)).reverse.length + [y].length ≤ 1000000) := (show _ ≤ _ by simp; omega)
        have HBS := hide GB.out.size
        go_wp2_with (at_builtin; refine app_lseg rfl _ _ rfl w5.heap.size _ (l.drop (q + 1)).reverse rfl (GO.out.alloc _) _ _ [y] rfl (lseg_one (BoxT.new 2 wr _)) HNL.out (Nat.le_trans HBS.out (by simp)) ?_; intro v6 w6 h6 g6 _)
        go_roundg go
        case rel =>
          refine ⟨q, by omega, by omega, by go_num, (show OwnL _ _ _ _ _ _ _ by rw [HR.out]; exact h6), (GB.out.alloc GB.out.size _).grown g6 (Nat.le_trans HBS.out (by simp)) (fun k e => GO.out.at k e)⟩
        case measure => omega
      | 0, hq, hg, GO =>
        have BW := hide (B5.out.trans (GB.out.mono B5.out.size))
        have OT := hide (O5.out.below GB.out)
        have OB := hide GO.out
        clear B5 GO hq hg O5
        rw [show ((0 : Nat) : Int) - 1 = -1 by decide]
        rw [List.drop_zero] at OB
        have hpr : al a (l.drop k ++ l.take k) = al a l := al_perm a ((List.perm_append_comm).trans (by rw [List.take_append_drop]))
        have hrv : al a l.reverse = al a l := al_perm a (List.reverse_perm l)
        have hsi := al_in a hin
        have HAt : Hid (∀ w', Below wr.heap.size wr w' → Calls Try.prog 11 #[.int .i64 a, .slice a5 n5 c5] w' fun e w'' => e = .returned (.int .i64 (al a l)) ∧ Below w'.heap.size w' w'') := fun w' h => by
          rw [← hpr]
          exact All_any ((OT.out.below h).lsegI (by simp; omega)) (by simp; omega) a
        have HAb : Hid (∀ w', Below wr.heap.size wr w' → Calls Try.prog 11 #[.int .i64 a, u10] w' fun e w'' => e = .returned (.int .i64 (al a l)) ∧ Below w'.heap.size w' w'') := fun w' h => by
          rw [← hrv]
          exact All_any ((OB.out.below h).lsegI (by simp; omega)) (by simp; omega) a
        have HAm : Hid (∀ w' vm, OwnL 2 1 i64cs wr.heap.size w' vm (l ++ [x]) → Calls Try.prog 11 #[.int .i64 a, vm] w' fun e w'' => e = .returned (.int .i64 (ad a (al a l) x)) ∧ Below w'.heap.size w' w'') := fun w' vm h => by
          rw [← al_one]
          exact All_any (h.lsegI (by simp; omega)) (by simp; omega) a
        have HAd := hide (fun w => Add_any w a (al a l) x)
        have HAl2 : Hid (∀ w', Below wr.heap.size wr w' → Calls Try.prog 11 #[.int .i64 a, .slice ao l.length cap] w' fun e w'' => e = .returned (.int .i64 (al a l)) ∧ Below w'.heap.size w' w'') := fun w' h => HAl.out w' (BW.out.trans (h.mono BW.out.size))
        have HLL : Hid (∀ w', Below wr.heap.size wr w' → LSeg 1 i64cs w.heap.size w' (.slice ao l.length cap) l) := fun w' h => HL.out.below (BW.out.trans (h.mono BW.out.size))
        have hal : ([] : List Int).length + l.length ≤ 1000000 := by simp; omega
        have hal2 : l.length + [x].length ≤ 1000000 := by simp; omega
        have H9 := hide (And.intro hal hal2)
        have C := hide (Below.refl wr.heap.size wr)
        have HS : Hid (al a l = al a l) := (show _ = _ from rfl)
        clear hpr hrv HAl HL OT OB hal hal2
        go_upto_region 17 with (first
          | (go_at_call_of 11 (Value.slice ao l.length cap); refine (HAl2.out _ C.out).mono ?_; rintro e w7 ⟨rfl, b7⟩; replace C := hide (C.out.trans (b7.mono C.out.size)); clear b7)
          | (at_builtin; refine app_lseg rfl _ _ rfl wr.heap.size (.slice none 0 0) [] rfl (OwnL.nil _ _ _ _ _) w.heap.size _ l rfl (HLL.out _ C.out) H9.out.1 C.out.size ?_; intro v8 w8 h8 g8 _; rw [List.nil_append] at h8; replace C := hide (C.out.grown g8 C.out.size (fun k e => by cases e)); have O8 := hide h8; clear h8 g8)
          | (at_builtin; refine app_lseg rfl _ _ rfl wr.heap.size v8 l rfl (O8.out.alloc _) _ _ [x] rfl (lseg_one (BoxT.new 2 w8 _)) H9.out.2 (Nat.le_trans C.out.size (by simp)) ?_; intro v9 w9 h9 g9 _; replace C := hide ((C.out.alloc C.out.size _).grown g9 (Nat.le_trans C.out.size (by simp)) (fun k e => O8.out.at k e)); have O9 := hide h9; have D := hide (Below.refl w9.heap.size w9); clear h9 g9 O8)
          | (go_at_call_of 11 (Value.slice a5 n5 c5); refine (HAt.out _ C.out).mono ?_; rintro e wa ⟨rfl, b7⟩; replace C := hide (C.out.trans (b7.mono C.out.size)); replace D := hide (D.out.trans (b7.mono D.out.size)); clear b7)
          | (go_at_call_of 11 u10; refine (HAb.out _ C.out).mono ?_; rintro e wb ⟨rfl, b7⟩; replace C := hide (C.out.trans (b7.mono C.out.size)); replace D := hide (D.out.trans (b7.mono D.out.size)); clear b7)
          | (go_at_call_of 11 v9; refine (HAm.out _ _ (O9.out.below D.out)).mono ?_; rintro e wc ⟨rfl, b7⟩; replace C := hide (C.out.trans (b7.mono C.out.size)); clear b7 D)
          | (go_at_call 9; refine (HAd.out _).mono ?_; rintro e wd ⟨rfl, b7⟩; replace C := hide (C.out.trans (b7.mono C.out.size)); clear b7))
        have BE : Hid (∀ w', Below wr.heap.size wr w' → Below w.heap.size w w') := fun w' h => BW.out.trans (h.mono BW.out.size)
        clear HAt HAb HAm HAl2 HLL H9 HS O9 GO GB B BW
        rcases five ha with rfl | rfl | rfl | rfl | rfl
        · have HA2 : Hid (∀ w, Calls Try.prog 9 #[.int .i64 1, .int .i64 (ad 1 (al 1 l) x), .int .i64 (wrap64 (-x))] w fun e w' => e = .returned (.int .i64 (al 1 l)) ∧ Below w.heap.size w w') := fun w => by
            have h := Add_any w 1 (ad 1 (al 1 l) x) (wrap64 (-x))
            rw [ad_sum hsi] at h
            exact h
          generalize ad 1 (al 1 l) x = p1 at *
          generalize al 1 l = p2 at *
          as_aux_lemma =>
          go_wp2_with (first
            | (go_at_call_of 9 (Value.int IntKind.i64 p1); refine (HA2.out _).mono ?_; rintro e we ⟨rfl, b7⟩; replace C := hide (C.out.trans (b7.mono C.out.size)); clear b7)
            | (go_at_call 9; refine (HAd.out _).mono ?_; rintro e we ⟨rfl, b7⟩; replace C := hide (C.out.trans (b7.mono C.out.size)); clear b7))
          go_ret
          exact ⟨rfl, BE.out _ C.out⟩
        · have he := al_count (l := l) (by omega)
          rw [he]
          as_aux_lemma =>
          go_wp2_with fail
          go_ret
          exact ⟨rfl, BE.out _ C.out⟩
        · have he := ad_le (al 3 l) x
          generalize ad 3 (al 3 l) x = p1 at *
          generalize al 3 l = p2 at *
          as_aux_lemma =>
          go_wp2_with (go_at_call 9; refine (HAd.out _).mono ?_; rintro e we ⟨rfl, b7⟩; replace C := hide (C.out.trans (b7.mono C.out.size)); clear b7)
          go_ret
          exact ⟨rfl, BE.out _ C.out⟩
        · have he := ad_ge (al 4 l) x
          generalize ad 4 (al 4 l) x = p1 at *
          generalize al 4 l = p2 at *
          as_aux_lemma =>
          go_wp2_with (go_at_call 9; refine (HAd.out _).mono ?_; rintro e we ⟨rfl, b7⟩; replace C := hide (C.out.trans (b7.mono C.out.size)); clear b7)
          go_ret
          exact ⟨rfl, BE.out _ C.out⟩
        · have HA2 : Hid (∀ w, Calls Try.prog 9 #[.int .i64 5, .int .i64 (ad 5 (al 5 l) x), .int .i64 x] w fun e w' => e = .returned (.int .i64 (al 5 l)) ∧ Below w.heap.size w w') := fun w => by
            have h := Add_any w 5 (ad 5 (al 5 l) x) x
            rw [ad_xor hsi] at h
            exact h
          generalize ad 5 (al 5 l) x = p1 at *
          generalize al 5 l = p2 at *
          as_aux_lemma =>
          go_wp2_with (first
            | (go_at_call_of 9 (Value.int IntKind.i64 p1); refine (HA2.out _).mono ?_; rintro e we ⟨rfl, b7⟩; replace C := hide (C.out.trans (b7.mono C.out.size)); clear b7)
            | (go_at_call 9; refine (HAd.out _).mono ?_; rintro e we ⟨rfl, b7⟩; replace C := hide (C.out.trans (b7.mono C.out.size)); clear b7))
          go_ret
          exact ⟨rfl, BE.out _ C.out⟩
end Go.Proofs.Ythbfjkhjjkjadaa
