/-
  Texts in build order: ZJExCount.
-/
import Derived.Test.YtpcbhcdpegbfjaaGreatM04
/-
  sound, count, and Check of an expression that is not too large (turned from wip/expr).
-/
namespace Go.Proofs.YtpcbhcdpegbfjaaGreat.J
open Go.RowKit

theorem beq0 (k : Nat) : ((k : Int) == 0) = decide (k = 0) := by rw [Bool.eq_iff_iff]; simp
set_option maxHeartbeats 4000000 in
set_option maxRecDepth 100000 in
theorem sound_any (op n : Int) (a : Option Addr) (k c : Nat) (w : World) :
    Calls Tryz.prog 58 #[.agg #[.int .i64 op, .int .i64 n, .slice a k c]] w fun r w' => r = .returned (.bool (snd1 op n k)) ∧ Below w.heap.size w w' := by
  have hb := hide (below1 w (.cells #[.int .i64 op, .int .i64 n, .slice a k c] 25))
  by_cases hall : op = 1 ∨ op = 2 ∨ op = 3 ∨ op = 4 ∨ op = 5 ∨ op = 6 ∨ op = 7 ∨ op = 8 ∨ op = 9 ∨ op = 10 ∨ op = 11 ∨ op = 12 ∨ op = 13 ∨ op = 14
  · by_cases hn : n = 0
    · subst hn
      rcases hall with rfl | rfl | rfl | rfl | rfl | rfl | rfl | rfl | rfl | rfl | rfl | rfl | rfl | rfl
      all_goals
        go_enter Tryz.func58, Tryz.ntmps58
        go_wp2
        go_ret
        exact ⟨ret_bool (by simp [snd1, ari]; try first | rfl | exact beq0 k), hb.out⟩
    · rcases hall with rfl | rfl | rfl | rfl | rfl | rfl | rfl | rfl | rfl | rfl | rfl | rfl | rfl | rfl
      all_goals
        go_enter Tryz.func58, Tryz.ntmps58
        go_wp2
        go_ret
        exact ⟨ret_bool (by simp [snd1, ari, hn]; try first | rfl | exact beq0 k), hb.out⟩
  · have h1 : ¬ op = 1 := by omega
    have h2 : ¬ op = 2 := by omega
    have h3 : ¬ op = 3 := by omega
    have h4 : ¬ op = 4 := by omega
    have h5 : ¬ op = 5 := by omega
    have h6 : ¬ op = 6 := by omega
    have h7 : ¬ op = 7 := by omega
    have h8 : ¬ op = 8 := by omega
    have h9 : ¬ op = 9 := by omega
    have h10 : ¬ op = 10 := by omega
    have h11 : ¬ op = 11 := by omega
    have h12 : ¬ op = 12 := by omega
    have h13 : ¬ op = 13 := by omega
    have h14 : ¬ op = 14 := by omega
    have hs : snd1 op n k = false := by
      cases e : snd1 op n k
      · rfl
      · exfalso
        unfold snd1 ari at e
        simp only [Bool.and_eq_true, decide_eq_true_eq] at e
        have e1 := e.1.1
        rw [if_neg (by omega), if_neg h14, if_neg (by omega)] at e1
        omega
    rw [hs]
    clear hall hs
    go_enter Tryz.func58, Tryz.ntmps58
    go_wp2
    go_ret
    exact ⟨rfl, hb.out⟩

theorem cntL_drop (l : List Ex) (deep n : Int) (i : Nat) (x : Ex) (h : l[i]? = some x) :
    cntL ((l.drop i).map cnt) deep n = if (cnt x deep n).2 = 0 then cntL ((l.drop (i + 1)).map cnt) deep (cnt x deep n).1 else (0, (cnt x deep n).2) := by
  obtain ⟨hi, hx⟩ := List.getElem?_eq_some_iff.1 h
  rw [List.drop_eq_getElem_cons hi, hx, List.map_cons]
  rfl
theorem cnt_nat {e : Ex} {deep n : Int} (h0 : 0 ≤ n) (h1 : n ≤ 32) : 0 ≤ (cnt e deep n).1 ∧ (cnt e deep n).1 ≤ 32 := by
  rcases cnt_ok e deep n h0 with ⟨_, _, h2, h3, _⟩ | ⟨_, h2, _⟩ | ⟨_, h2, _⟩ <;> omega

set_option maxHeartbeats 4000000 in
set_option maxRecDepth 100000 in
theorem count_any (e : Ex) : ∀ (w : World) (deep n : Int), In w e → 0 ≤ n → n ≤ 32 → 0 ≤ deep → deep ≤ 9 →
    Calls Tryz.prog 54 #[e.val, .int .i64 deep, .int .i64 n] w fun r w' => r = .returned (.tuple #[.int .i64 (cnt e deep n).1, .int .i64 (cnt e deep n).2]) ∧ Below w.heap.size w w' := by
  refine Ex.ind (P := fun e => ∀ (w : World) (deep n : Int), In w e → 0 ≤ n → n ≤ 32 → 0 ≤ deep → deep ≤ 9 →
    Calls Tryz.prog 54 #[e.val, .int .i64 deep, .int .i64 n] w fun r w' => r = .returned (.tuple #[.int .i64 (cnt e deep n).1, .int .i64 (cnt e deep n).2]) ∧ Below w.heap.size w w') ?_ e
  intro op m a c l ih w deep n hin hn0 hn1 hd0 hd1
  have hL := hin.self
  have hlen := hL.len
  have hcap := hL.cap
  simp only at hlen hcap
  rw [cnt_mk]
  have hb1 := hide (below1 w (.cells #[.int .i64 op, .int .i64 m, .slice a l.length c] 25))
  unfold Ex.val cnt1
  rw [List.length_map]
  cases hs : snd1 op m l.length
  · have HS := hide hs
    clear hs
    go_enter Tryz.func54, Tryz.ntmps54
    go_wp2_with (go_at_call 58; refine (sound_any _ _ _ _ _ _).mono ?_; rw [HS.out]; rintro r w1 ⟨rfl, hb2⟩)
    exact bodyPost_ret (v := .tuple #[.int .i64 0, .int .i64 70]) (by simp [results, Tryz.results54, go_sem]) rfl ⟨rfl, hb1.out.trans (hb2.mono (by simp))⟩
  · have HS := hide hs
    clear hs
    rw [if_neg (by simp)]
    by_cases hbig : 8 < deep ∨ 32 < n + 1
    · rw [if_pos hbig]
      by_cases hd : 8 < deep
      · go_enter Tryz.func54, Tryz.ntmps54
        go_wp2_with (go_at_call 58; refine (sound_any _ _ _ _ _ _).mono ?_; rw [HS.out]; rintro r w1 ⟨rfl, hb2⟩)
        exact bodyPost_ret (v := .tuple #[.int .i64 0, .int .i64 71]) (by simp [results, Tryz.results54, go_sem]) rfl ⟨rfl, hb1.out.trans (hb2.mono (by simp))⟩
      · have hn : 32 < n + 1 := by omega
        go_enter Tryz.func54, Tryz.ntmps54
        go_wp2_with (go_at_call 58; refine (sound_any _ _ _ _ _ _).mono ?_; rw [HS.out]; rintro r w1 ⟨rfl, hb2⟩)
        exact bodyPost_ret (v := .tuple #[.int .i64 0, .int .i64 71]) (by simp [results, Tryz.results54, go_sem]) rfl ⟨rfl, hb1.out.trans (hb2.mono (by simp))⟩
    · rw [if_neg hbig]
      have hd : ¬ 8 < deep := by omega
      have hn : ¬ 32 < n + 1 := by omega
      clear hbig
      obtain ⟨R, hR⟩ : ∃ R, cntL (l.map cnt) (deep + 1) (n + 1) = R := ⟨_, rfl⟩
      rw [hR]
      have HR : Hid (cntL ((l.drop 0).map cnt) (deep + 1) (n + 1) = R) := hR
      have HIN := hide hin
      have IH := hide ih
      clear hR hin ih hL
      go_enter Tryz.func54, Tryz.ntmps54
      go_wp2_with (go_at_call 58; refine (sound_any _ _ _ _ _ _).mono ?_; rw [HS.out]; rintro r w1 ⟨rfl, hb2⟩; have hc2 := hb2.cell (p := ⟨w.heap.size, 2, none⟩) (by simp); simp at hc2)
      go_loopw [2, 25] (fun k i wr => ∃ (j : Nat) (k' : Int), j ≤ l.length ∧ i = .int .i64 j ∧ k = .int .i64 k' ∧ 0 ≤ k' ∧ k' ≤ 32 ∧ Below w.heap.size w wr ∧ Hid (cntL ((l.drop j).map cnt) (deep + 1) k' = R)) (fun _ i _ => l.length - (intOf i).toNat)
      case atStart => exact ⟨0, n + 1, Nat.zero_le _, rfl, rfl, by omega, by omega, hb1.out.trans (hb2.mono (by simp)), HR⟩
      case round =>
        obtain ⟨j, k', hj, rfl, rfl, hk0, hk1, hbel, HC⟩ := hrel
        by_cases hlt : j < l.length
        · obtain ⟨x, hx⟩ : ∃ x, l[j]? = some x := ⟨_, List.getElem?_eq_getElem hlt⟩
          obtain ⟨b, o, ha, e0, e1, e2⟩ := HIN.out.self.at_ j x hx
          simp only at ha
          subst ha
          have hlb := cell_lt e0
          have c0 := (hbel.cell (p := ⟨b, o + j * 3, none⟩) hlb).trans e0
          have c1 := (hbel.cell (p := ⟨b, o + j * 3 + 1, none⟩) hlb).trans e1
          have c2 := (hbel.cell (p := ⟨b, o + j * 3 + 2, none⟩) hlb).trans e2
          have hxm : x ∈ l := List.mem_of_getElem? hx
          have HC' := HC.out
          rw [cntL_drop l _ _ j x hx] at HC'
          have HC2 := hide HC'
          have HX := hide hx
          have HM := hide hxm
          have hinx : In wr x := (HIN.out.kid hxm).below hbel
          have HNX := hide hinx
          clear HC' HC hx hxm e0 e1 e2 hinx
          obtain ⟨xo, xn, xa, xc, xl⟩ := x
          simp only at c0 c1 c2
          go_wp2_with fail
          go_at_call 54
          have hbA := below1 wr (.cells #[.int .i64 xo, .int .i64 xn, .slice xa xl.length xc] 25)
          refine (IH.out ⟨xo, xn, xa, xc, xl⟩ HM.out _ (deep + 1) k' (HNX.out.below hbA) hk0 hk1 (by omega) (by omega)).mono ?_
          have hk2 := cnt_nat (e := ⟨xo, xn, xa, xc, xl⟩) (deep := deep + 1) hk0 hk1
          have HQ := HC2.out
          clear HC2
          generalize cnt ⟨xo, xn, xa, xc, xl⟩ (deep + 1) k' = q at HQ hk2 ⊢
          obtain ⟨q1, q2⟩ := q
          simp only at HQ hk2 ⊢
          have HB := hide ((hbel.trans (hbA.mono hbel.size)))
          by_cases hq : q2 = 0
          · rw [if_pos hq] at HQ
            have HQ' := hide HQ
            clear HQ hbA
            subst hq
            rintro r w3 ⟨rfl, hb3⟩
            have hb4 := hide (HB.out.trans (hb3.mono HB.out.size))
            go_wp2_with fail
            go_roundw
            case rel => exact ⟨j + 1, q1, by omega, by go_num, rfl, hk2.1, hk2.2, hb4.out, HQ'⟩
            case measure => simp [intOf]; omega
          · rw [if_neg hq] at HQ
            have HQ' := hide HQ
            clear HQ hbA
            have hq1 : (q2 == 0) = false := by simp [hq]
            have hq2 : (q2 != 0) = true := by simp [hq]
            rintro r w3 ⟨rfl, hb3⟩
            have hb4 := hide (HB.out.trans (hb3.mono HB.out.size))
            go_wp2_with fail
            rw [← HQ'.out]
            exact bodyPost_ret (v := .tuple #[.int .i64 0, .int .i64 q2]) (by simp [results, Tryz.results54, go_sem]) rfl ⟨rfl, hb4.out⟩
        · go_wp2
          have he : l.drop j = [] := List.drop_eq_nil_of_le (by omega)
          have h1 := HC.out
          rw [he] at h1
          simp only [List.map_nil, cntL] at h1
          subst h1
          exact bodyPost_ret (v := .tuple #[.int .i64 k', .int .i64 0]) (by simp [results, Tryz.results54, go_sem]) rfl ⟨rfl, hbel⟩
set_option maxHeartbeats 1000000 in
set_option maxRecDepth 100000 in
theorem check_few {w : World} (e : Ex) (hin : In w e) (hn : (cnt e 1 0).2 ≠ 71) :
    Calls Tryz.prog 49 #[e.val] w fun r w' => r = .returned (.int .i64 (chk e)) ∧ Below w.heap.size w w' := by
  have hb0 := below1 w (.cells #[.int .i64 e.op, .int .i64 e.n, .slice e.a e.l.length e.c] 25)
  have hct := hide (count_any e _ 1 0 (hin.below hb0) (by omega) (by omega) (by omega) (by omega))
  have HB := hide hb0
  have hc : (cnt e 1 0).2 = chk e := by
    rcases chk_of e with ⟨h1, h2⟩ | ⟨h1, h2⟩ | ⟨h1, _⟩
    · rw [h1, h2]
    · rw [h1, h2]
    · exact absurd h1 hn
  rw [hc] at hct hn
  clear hc hb0 hin
  obtain ⟨eo, en, ea, ec, el⟩ := e
  unfold Ex.val at hct ⊢
  simp only at hct HB ⊢
  generalize chk ⟨eo, en, ea, ec, el⟩ = ck at *
  generalize (cnt ⟨eo, en, ea, ec, el⟩ 1 0).1 = cn at *
  have hn1 : (ck == 71) = false := by simp [hn]
  go_enter Tryz.func49, Tryz.ntmps49
  go_wp2_with (go_at_call 54; refine hct.out.mono ?_; rintro e w2 ⟨rfl, hb2⟩)
  go_ret
  exact ⟨rfl, HB.out.trans (hb2.mono HB.out.size)⟩

end Go.Proofs.YtpcbhcdpegbfjaaGreat.J
