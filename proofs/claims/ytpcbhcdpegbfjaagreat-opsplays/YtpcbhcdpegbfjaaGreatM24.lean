/-
  Texts in build order: ZERef.
-/
import Derived.Test.YtpcbhcdpegbfjaaGreatM22
/-
 The document's arity, formed, size, Check of expressions.
-/
namespace Go.Proofs.YtpcbhcdpegbfjaaGreat.J
set_option maxHeartbeats 16000000
set_option maxRecDepth 100000
open Go.RowKit
theorem size_kid {e x : Ex} (h : x ∈ e.l) : size x < size e := by
 obtain ⟨op, n, a, c, l⟩ := e
 rw [size_mk]
 have h : x ∈ l := h
 have : size x ≤ (l.map size).sum := by
  induction l with
  | nil => cases h
  | cons y r ih =>
   rcases List.mem_cons.1 h with rfl | h'
   ·simp
   ·have := ih h' h'
    simp only [List.map_cons, List.sum_cons]
    omega
 omega
theorem arity_any (op : Int) (w : World) : Calls Tryz.prog 59 #[.int .i64 op] w fun r w' => r = .returned (.int .i64 (ari op)) ∧ w' = w := by
 unfold ari
 by_cases h1 : 1 ≤ op ∧ op ≤ 4
 ·rw [if_pos h1]
  obtain ⟨h1, h2⟩ := h1
  go_enter Tryz.func59, Tryz.ntmps59
  go_wp2
  go_ret
  exact ⟨rfl, rfl⟩
 ·rw [if_neg h1]
  by_cases h2 : op = 14
  ·subst h2
   go_enter Tryz.func59, Tryz.ntmps59
   go_wp2
   go_ret
   exact ⟨rfl, rfl⟩
  ·rw [if_neg h2]
   have h2' : (op == 14) = false := by simp [h2]
   by_cases h3 : 5 ≤ op ∧ op ≤ 13
   ·rw [if_pos h3]
    obtain ⟨h3, h4⟩ := h3
    have h5 : ¬ op ≤ 4 := by omega
    have h6 : 1 ≤ op := by omega
    clear h1
    go_enter Tryz.func59, Tryz.ntmps59
    go_wp2
    go_ret
    exact ⟨rfl, rfl⟩
   ·rw [if_neg h3]
    by_cases h4 : 1 ≤ op
    ·have h5 : ¬ op ≤ 4 := by omega
     have h6 : 5 ≤ op := by omega
     have h7 : ¬ op ≤ 13 := by omega
     clear h1 h3
     go_enter Tryz.func59, Tryz.ntmps59
     go_wp2
     go_ret
     exact ⟨rfl, rfl⟩
    ·have h6 : ¬ 5 ≤ op := by omega
     clear h1 h3
     go_enter Tryz.func59, Tryz.ntmps59
     go_wp2
     go_ret
     exact ⟨rfl, rfl⟩
/-! ### Light -/
theorem all_drop (l : List Ex) (i : Nat) (x : Ex) (h : l[i]? = some x) : ((l.drop i).all formed) = (formed x && (l.drop (i + 1)).all formed) := by
 obtain ⟨hi, hx⟩ := List.getElem?_eq_some_iff.1 h
 rw [List.drop_eq_getElem_cons hi, hx, List.all_cons]
theorem formed_any (e : Ex) : ∀ (w : World), In w e →
  Calls Tryz.prog 56 #[e.val] w fun r w' => r = .returned (.bool (formed e)) ∧ Below w.heap.size w w' := by
 refine Ex.ind (P := fun e => ∀ (w : World), In w e →
  Calls Tryz.prog 56 #[e.val] w fun r w' => r = .returned (.bool (formed e)) ∧ Below w.heap.size w w') ?_ e
 intro op m a c l ih w hin
 have hL := hin.self
 have hlen := hL.len
 have hcap := hL.cap
 simp only at hlen hcap
 rw [formed_mk]
 have hb1 := hide (below1 w (.cells #[.int .i64 op, .int .i64 m, .slice a l.length c] 25))
 have T := hide (Tri.new w (.int .i64 op) (.int .i64 m) (.slice a l.length c) 25)
 unfold Ex.val
 cases hs : snd1 op m l.length
 ·unfold snd1 at hs
  by_cases h1 : ari op < 0
  ·clear hs
   generalize hA : ari op = A at *
   have HA := hide hA
   clear hA
   go_enter Tryz.func56, Tryz.ntmps56
   go_wp2_with fail
   go_quiet ((go_at_call 59; exact Calls.quiet_of_same (by have h := arity_any op; rw [HA.out] at h; exact h _)))
   go_wp2
   go_ret
   exact ⟨rfl, below_drewN hb1.out _⟩
  ·by_cases h2 : (l.length : Int) = ari op
   ·have h3 : ¬ m = 0 ∧ ¬ op = 1 := by
     constructor
     ·intro h; simp [h, h2] at hs; omega
     ·intro h; subst h; simp [h2, ari] at hs
    obtain ⟨h3, h4⟩ := h3
    have h3' : (m == 0) = false := by simp [h3]
    have h4' : (op == 1) = false := by simp [h4]
    have h3'' : (m != 0) = true := by simp [h3]
    have h4'' : (op != 1) = true := by simp [h4]
    have h2' : ((l.length : Int) == ari op) = true := by simp [h2]
    have h2'' : ((l.length : Int) != ari op) = false := by simp [h2]
    have H2 := hide h2
    clear hs h2
    generalize hA : ari op = A at *
    have HA := hide hA
    clear hA
    go_enter Tryz.func56, Tryz.ntmps56
    go_wp2_with fail
    go_quiet ((go_at_call 59; exact Calls.quiet_of_same (by have h := arity_any op; rw [HA.out] at h; exact h _)))
    go_wp2
    go_ret
    exact ⟨rfl, below_drewN hb1.out _⟩
   ·have h2' : ((l.length : Int) == ari op) = false := by simp [h2]
    have h2'' : ((l.length : Int) != ari op) = true := by simp [h2]
    have H2 := hide h2
    clear hs h2
    generalize hA : ari op = A at *
    have HA := hide hA
    clear hA
    go_enter Tryz.func56, Tryz.ntmps56
    go_wp2_with fail
    go_quiet ((go_at_call 59; exact Calls.quiet_of_same (by have h := arity_any op; rw [HA.out] at h; exact h _)))
    go_wp2
    go_ret
    exact ⟨rfl, below_drewN hb1.out _⟩
 ·rw [Bool.true_and]
  unfold snd1 at hs
  simp only [Bool.and_eq_true, Bool.or_eq_true, decide_eq_true_eq] at hs
  obtain ⟨⟨h1, h2⟩, h3⟩ := hs
  have h1' : ¬ ari op < 0 := by omega
  have h2' : ((l.length : Int) == ari op) = true := by simp [h2]
  have h2'' : ((l.length : Int) != ari op) = false := by simp [h2]
  have H2 := hide h2
  clear h2
  generalize hA : ari op = A at *
  have HA := hide hA
  clear hA
  obtain ⟨R, hR⟩ : ∃ R, l.all formed = R := ⟨_, rfl⟩
  rw [hR]
  have HR : Hid ((l.drop 0).all formed = R) := hR
  have HIN := hide hin
  have IH := hide ih
  clear hR hin ih hL
  have hcase : (m = 0) ∨ (¬ m = 0 ∧ op = 1) := by
   by_cases h : m = 0
   ·exact .inl h
   ·exact .inr ⟨h, by rcases h3 with h' | h'; exact absurd h' h; exact h'⟩
  clear h3
  rcases hcase with h3 | ⟨h3, h4⟩
  ·subst h3
   go_enter Tryz.func56, Tryz.ntmps56
   go_wp2_with fail
   go_quiet ((go_at_call 59; exact Calls.quiet_of_same (by have h := arity_any op; rw [HA.out] at h; exact h _)))
   go_wp2_with fail
   go_loopw [3] (fun i wr => ∃ (j : Nat), j ≤ l.length ∧ i = .int .i64 j ∧ Below w.heap.size w wr ∧ Hid (Tri wr w.heap.size (.int .i64 op) (.int .i64 0) (.slice a l.length c)) ∧ Hid ((l.drop j).all formed = R)) (fun i _ => l.length - (intOf i).toNat)
   case atStart => exact ⟨0, Nat.zero_le _, rfl, below_drewN hb1.out _, T.out.below (below_drewN (Below.refl _ _) _), HR⟩
   case round =>
    obtain ⟨j, hj, rfl, hbel, HT, HC⟩ := hrel
    obtain ⟨p0, p1, p2⟩ := HT.out
    by_cases hlt : j < l.length
    ·obtain ⟨x, hx⟩ : ∃ x, l[j]? = some x := ⟨_, List.getElem?_eq_getElem hlt⟩
     obtain ⟨b, o, ha, e0, e1, e2⟩ := HIN.out.self.at_ j x hx
     simp only at ha
     subst ha
     have hlb := cell_lt e0
     have c0 := (hbel.cell (p := ⟨b, o + j * 3, none⟩) hlb).trans e0
     have c1 := (hbel.cell (p := ⟨b, o + j * 3 + 1, none⟩) hlb).trans e1
     have c2 := (hbel.cell (p := ⟨b, o + j * 3 + 2, none⟩) hlb).trans e2
     have hxm : x ∈ l := List.mem_of_getElem? hx
     have HQ := HC.out
     rw [all_drop l j x hx] at HQ
     have HQ' := hide HQ
     have hcall := hide (IH.out x hxm wr ((HIN.out.kid hxm).below hbel))
     clear HC HQ hx hxm e0 e1 e2
     obtain ⟨xo, xn, xa, xc, xl⟩ := x
     simp only at c0 c1 c2
     generalize formed ⟨xo, xn, xa, xc, xl⟩ = q at *
     cases q
     ·go_wp2_with (go_at_call 56; refine hcall.out.mono ?_; rintro r w3 ⟨rfl, hb3⟩)
      have hb4 := hbel.trans (hb3.mono hbel.size)
      go_ret
      exact ⟨ret_bool (by have h := HQ'.out; rw [Bool.false_and] at h; exact h), hb4⟩
     ·go_wp2_with (go_at_call 56; refine hcall.out.mono ?_; rintro r w3 ⟨rfl, hb3⟩)
      have hb4 := hbel.trans (hb3.mono hbel.size)
      go_roundw
      case rel => exact ⟨j + 1, by omega, by go_num, hb4, HT.out.below hb3, by have h := HQ'.out; rw [Bool.true_and] at h; exact h⟩
      case measure => simp [intOf]; omega
    ·have hf : Hid (true = R) := by
      have HQ := HC.out
      rw [List.drop_eq_nil_of_le (by omega)] at HQ
      exact HQ
     go_wp2_with fail
     go_ret
     exact ⟨ret_bool hf.out, hbel⟩
  ·subst h4
   have h3' : (m == 0) = false := by simp [h3]
   have h3'' : (m != 0) = true := by simp [h3]
   go_enter Tryz.func56, Tryz.ntmps56
   go_wp2_with fail
   go_quiet ((go_at_call 59; exact Calls.quiet_of_same (by have h := arity_any 1; rw [HA.out] at h; exact h _)))
   go_wp2_with fail
   go_loopw [3] (fun i wr => ∃ (j : Nat), j ≤ l.length ∧ i = .int .i64 j ∧ Below w.heap.size w wr ∧ Hid (Tri wr w.heap.size (.int .i64 1) (.int .i64 m) (.slice a l.length c)) ∧ Hid ((l.drop j).all formed = R)) (fun i _ => l.length - (intOf i).toNat)
   case atStart => exact ⟨0, Nat.zero_le _, rfl, below_drewN hb1.out _, T.out.below (below_drewN (Below.refl _ _) _), HR⟩
   case round =>
    obtain ⟨j, hj, rfl, hbel, HT, HC⟩ := hrel
    obtain ⟨p0, p1, p2⟩ := HT.out
    by_cases hlt : j < l.length
    ·obtain ⟨x, hx⟩ : ∃ x, l[j]? = some x := ⟨_, List.getElem?_eq_getElem hlt⟩
     obtain ⟨b, o, ha, e0, e1, e2⟩ := HIN.out.self.at_ j x hx
     simp only at ha
     subst ha
     have hlb := cell_lt e0
     have c0 := (hbel.cell (p := ⟨b, o + j * 3, none⟩) hlb).trans e0
     have c1 := (hbel.cell (p := ⟨b, o + j * 3 + 1, none⟩) hlb).trans e1
     have c2 := (hbel.cell (p := ⟨b, o + j * 3 + 2, none⟩) hlb).trans e2
     have hxm : x ∈ l := List.mem_of_getElem? hx
     have HQ := HC.out
     rw [all_drop l j x hx] at HQ
     have HQ' := hide HQ
     have hcall := hide (IH.out x hxm wr ((HIN.out.kid hxm).below hbel))
     clear HC HQ hx hxm e0 e1 e2
     obtain ⟨xo, xn, xa, xc, xl⟩ := x
     simp only at c0 c1 c2
     generalize formed ⟨xo, xn, xa, xc, xl⟩ = q at *
     cases q
     ·go_wp2_with (go_at_call 56; refine hcall.out.mono ?_; rintro r w3 ⟨rfl, hb3⟩)
      have hb4 := hbel.trans (hb3.mono hbel.size)
      go_ret
      exact ⟨ret_bool (by have h := HQ'.out; rw [Bool.false_and] at h; exact h), hb4⟩
     ·go_wp2_with (go_at_call 56; refine hcall.out.mono ?_; rintro r w3 ⟨rfl, hb3⟩)
      have hb4 := hbel.trans (hb3.mono hbel.size)
      go_roundw
      case rel => exact ⟨j + 1, by omega, by go_num, hb4, HT.out.below hb3, by have h := HQ'.out; rw [Bool.true_and] at h; exact h⟩
      case measure => simp [intOf]; omega
    ·have hf : Hid (true = R) := by
      have HQ := HC.out
      rw [List.drop_eq_nil_of_le (by omega)] at HQ
      exact HQ
     go_wp2_with fail
     go_ret
     exact ⟨ret_bool hf.out, hbel⟩
/-! ### size -/
theorem sum_drop (l : List Ex) (i : Nat) (x : Ex) (h : l[i]? = some x) : ((l.drop i).map size).sum = size x + ((l.drop (i + 1)).map size).sum := by
 obtain ⟨hi, hx⟩ := List.getElem?_eq_some_iff.1 h
 rw [List.drop_eq_getElem_cons hi, hx, List.map_cons, List.sum_cons]
theorem max_drop (l : List Ex) (i : Nat) (x : Ex) (h : l[i]? = some x) : ((l.drop i).map dep).foldr max 0 = max (dep x) (((l.drop (i + 1)).map dep).foldr max 0) := by
 obtain ⟨hi, hx⟩ := List.getElem?_eq_some_iff.1 h
 rw [List.drop_eq_getElem_cons hi, hx, List.map_cons, List.foldr_cons]
theorem dep_kid {e x : Ex} (h : x ∈ e.l) : dep x < dep e := by
 obtain ⟨op, n, a, c, l⟩ := e
 rw [dep_mk]
 have h : x ∈ l := h
 have : dep x ≤ (l.map dep).foldr max 0 := by
  induction l with
  | nil => cases h
  | cons y r ih =>
   simp only [List.map_cons, List.foldr_cons]
   rcases List.mem_cons.1 h with rfl | h'
   ·omega
   ·have := ih h' h'
    omega
 omega
theorem size_any (e : Ex) : ∀ (w : World), In w e → size e ≤ 100000 → dep e ≤ 100000 →
  Calls Tryz.prog 57 #[e.val] w fun r w' => r = .returned (.tuple #[.int .i64 (size e : Nat), .int .i64 (dep e : Nat)]) ∧ Below w.heap.size w w' := by
 refine Ex.ind (P := fun e => ∀ (w : World), In w e → size e ≤ 100000 → dep e ≤ 100000 →
  Calls Tryz.prog 57 #[e.val] w fun r w' => r = .returned (.tuple #[.int .i64 (size e : Nat), .int .i64 (dep e : Nat)]) ∧ Below w.heap.size w w') ?_ e
 intro op m a c l ih w hin hsz hdp
 have hL := hin.self
 have hlen := hL.len
 have hcap := hL.cap
 simp only at hlen hcap
 have IH : Hid (∀ x ∈ l, ∀ w', In w' x → Calls Tryz.prog 57 #[x.val] w' fun r w'' => r = .returned (.tuple #[.int .i64 (size x : Nat), .int .i64 (dep x : Nat)]) ∧ Below w'.heap.size w' w'') :=
  fun x hx w' h => ih x hx w' h (by have := size_kid (e := ⟨op, m, a, c, l⟩) hx; omega) (by have := dep_kid (e := ⟨op, m, a, c, l⟩) hx; omega)
 rw [size_mk, dep_mk] at *
 have hb1 := hide (below1 w (.cells #[.int .i64 op, .int .i64 m, .slice a l.length c] 25))
 have T := hide (Tri.new w (.int .i64 op) (.int .i64 m) (.slice a l.length c) 25)
 unfold Ex.val
 obtain ⟨SS, hSS⟩ : ∃ s, (l.map size).sum = s := ⟨_, rfl⟩
 obtain ⟨DD, hDD⟩ : ∃ s, (l.map dep).foldr max 0 = s := ⟨_, rfl⟩
 rw [hSS] at hsz ⊢
 rw [hDD] at hdp ⊢
 have HS : Hid (0 + ((l.drop 0).map size).sum = SS) := by rw [Nat.zero_add]; exact hSS
 have HD : Hid (max 0 (((l.drop 0).map dep).foldr max 0) = DD) := by rw [Nat.zero_max]; exact hDD
 have HIN := hide hin
 clear hSS hDD hin ih hL
 go_enter Tryz.func57, Tryz.ntmps57
 go_wp2_with fail
 go_loopw [4, 5, 6] (fun k dd i wr => ∃ (j s d : Nat), j ≤ l.length ∧ i = .int .i64 j ∧ k = .int .i64 ((1 + s : Nat) : Int) ∧ dd = .int .i64 (d : Int) ∧ s ≤ SS ∧ d ≤ DD ∧ Below w.heap.size w wr ∧ Hid (Tri wr w.heap.size (.int .i64 op) (.int .i64 m) (.slice a l.length c)) ∧ Hid (s + ((l.drop j).map size).sum = SS) ∧ Hid (max d (((l.drop j).map dep).foldr max 0) = DD)) (fun _ _ i _ => l.length - (intOf i).toNat)
 case atStart => exact ⟨0, 0, 0, Nat.zero_le _, rfl, rfl, rfl, by omega, by omega, hb1.out, T.out, HS, HD⟩
 case round =>
  obtain ⟨j, s, d, hj, rfl, rfl, rfl, hs1, hd1, hbel, HT, HC, HX⟩ := hrel
  obtain ⟨p0, p1, p2⟩ := HT.out
  by_cases hlt : j < l.length
  ·obtain ⟨x, hx⟩ : ∃ x, l[j]? = some x := ⟨_, List.getElem?_eq_getElem hlt⟩
   obtain ⟨b, o, ha, e0, e1, e2⟩ := HIN.out.self.at_ j x hx
   simp only at ha
   subst ha
   have hlb := cell_lt e0
   have c0 := (hbel.cell (p := ⟨b, o + j * 3, none⟩) hlb).trans e0
   have c1 := (hbel.cell (p := ⟨b, o + j * 3 + 1, none⟩) hlb).trans e1
   have c2 := (hbel.cell (p := ⟨b, o + j * 3 + 2, none⟩) hlb).trans e2
   have hxm : x ∈ l := List.mem_of_getElem? hx
   have HQ := HC.out
   rw [sum_drop l j x hx] at HQ
   have HY := HX.out
   rw [max_drop l j x hx] at HY
   have hcall := hide (IH.out x hxm wr ((HIN.out.kid hxm).below hbel))
   clear HC HX hx hxm e0 e1 e2
   obtain ⟨xo, xn, xa, xc, xl⟩ := x
   simp only at c0 c1 c2
   generalize size ⟨xo, xn, xa, xc, xl⟩ = q at *
   generalize dep ⟨xo, xn, xa, xc, xl⟩ = u at *
   have hq1 : s + q ≤ SS := by omega
   have hu1 : u ≤ DD := by omega
   have HQ' : Hid (s + q + ((l.drop (j + 1)).map size).sum = SS) := show _ = _ by omega
   by_cases hdu : d ≤ u
   ·have HY' : Hid (max u (((l.drop (j + 1)).map dep).foldr max 0) = DD) := show _ = _ by omega
    have hm1 : max (d : Int) (u : Int) = (u : Int) := by omega
    have hm2 : (d : Int) ≤ (u : Int) := by omega
    clear HQ HY
    go_wp2_with (go_at_call 57; refine hcall.out.mono ?_; rintro r w3 ⟨rfl, hb3⟩)
    have hb4 := hbel.trans (hb3.mono hbel.size)
    go_roundw
    case rel => exact ⟨j + 1, s + q, u, by omega, by go_num, by rw [show ((1 + (s + q) : Nat) : Int) = 1 + (s : Int) + (q : Int) from by omega], (by first | rfl | (congr 1; split <;> omega)), hq1, hu1, hb4, HT.out.below hb3, HQ', HY'⟩
    case measure => simp [intOf]; omega
   ·have HY' : Hid (max d (((l.drop (j + 1)).map dep).foldr max 0) = DD) := show _ = _ by omega
    have hm1 : max (d : Int) (u : Int) = (d : Int) := by omega
    have hm2 : ¬ (d : Int) ≤ (u : Int) := by omega
    have hm3 : (u : Int) < (d : Int) := by omega
    clear HQ HY
    go_wp2_with (go_at_call 57; refine hcall.out.mono ?_; rintro r w3 ⟨rfl, hb3⟩)
    have hb4 := hbel.trans (hb3.mono hbel.size)
    go_roundw
    case rel => exact ⟨j + 1, s + q, d, by omega, by go_num, by rw [show ((1 + (s + q) : Nat) : Int) = 1 + (s : Int) + (q : Int) from by omega], (by first | rfl | (congr 1; split <;> omega)), hq1, hd1, hb4, HT.out.below hb3, HQ', HY'⟩
    case measure => simp [intOf]; omega
  ·have hd0 : l.drop j = [] := List.drop_eq_nil_of_le (by omega)
   have h1 := HC.out
   have h2 := HX.out
   rw [hd0] at h1 h2
   simp only [List.map_nil, List.sum_nil, List.foldr_nil, Nat.add_zero, Nat.max_zero] at h1 h2
   have H12 := hide (And.intro h1 h2)
   clear h1 h2
   go_wp2_with fail
   obtain ⟨rfl, rfl⟩ := H12.out
   exact bodyPost_ret (v := .tuple #[.int .i64 ((1 + s : Nat) : Int), .int .i64 ((1 + d : Nat) : Int)]) (by simp [results, Tryz.results57, go_sem]; omega) rfl ⟨rfl, hbel⟩
theorem rCheck_any {w : World} (e : Ex) (hin : In w e) (hsz : size e ≤ 100000) (hdp : dep e ≤ 100000) :
  Calls Tryz.prog 52 #[e.val] w fun r w' => r = .returned (.int .i64 (chk e)) ∧ Below w.heap.size w w' := by
 have hb0 := below1 w (.cells #[.int .i64 e.op, .int .i64 e.n, .slice e.a e.l.length e.c] 25)
 have hf := hide (formed_any e _ (hin.below hb0))
 have hS := hide (fun w' h => size_any e w' h hsz hdp)
 have HI := hide (hin.below hb0)
 have T := hide (Tri.new w (.int .i64 e.op) (.int .i64 e.n) (.slice e.a e.l.length e.c) 25)
 have HB := hide hb0
 unfold chk
 clear hb0 hin
 obtain ⟨eo, en, ea, ec, el⟩ := e
 unfold Ex.val at *
 simp only at hf hS T HB ⊢
 generalize formed ⟨eo, en, ea, ec, el⟩ = f at *
 generalize size ⟨eo, en, ea, ec, el⟩ = sz at *
 generalize dep ⟨eo, en, ea, ec, el⟩ = dp at *
 cases f
 ·rw [if_pos rfl]
  go_enter Tryz.func52, Tryz.ntmps52
  go_wp2_with (go_at_call 56; refine hf.out.mono ?_; rintro r w2 ⟨rfl, hb2⟩)
  go_ret
  exact ⟨rfl, HB.out.trans (hb2.mono HB.out.size)⟩
 ·rw [if_neg (by decide)]
  by_cases h1 : 32 < sz
  ·rw [if_pos (.inl h1)]
   have h1' : (32 : Int) < (sz : Int) := by omega
   go_enter Tryz.func52, Tryz.ntmps52
   go_wp2_with (first
    | (go_at_call 56; refine hf.out.mono ?_; rintro r w2 ⟨rfl, hb2⟩; have HB2 := hide hb2; obtain ⟨p0, p1, p2⟩ := T.out.below hb2; have hC := hide (hS.out _ (HI.out.below hb2)); clear hb2)
    | (go_at_call 57; refine hC.out.mono ?_; rintro r w3 ⟨rfl, hb3⟩))
   go_ret
   have hb4 := HB.out.trans (HB2.out.mono HB.out.size)
   exact ⟨rfl, hb4.trans (hb3.mono hb4.size)⟩
  ·have h1' : ¬ (32 : Int) < (sz : Int) := by omega
   by_cases h2 : 8 < dp
   ·rw [if_pos (.inr h2)]
    have h2' : (8 : Int) < (dp : Int) := by omega
    go_enter Tryz.func52, Tryz.ntmps52
    go_wp2_with (first
     | (go_at_call 56; refine hf.out.mono ?_; rintro r w2 ⟨rfl, hb2⟩; have HB2 := hide hb2; obtain ⟨p0, p1, p2⟩ := T.out.below hb2; have hC := hide (hS.out _ (HI.out.below hb2)); clear hb2)
     | (go_at_call 57; refine hC.out.mono ?_; rintro r w3 ⟨rfl, hb3⟩))
    go_ret
    have hb4 := HB.out.trans (HB2.out.mono HB.out.size)
    exact ⟨rfl, hb4.trans (hb3.mono hb4.size)⟩
   ·rw [if_neg (by omega)]
    have h2' : ¬ (8 : Int) < (dp : Int) := by omega
    go_enter Tryz.func52, Tryz.ntmps52
    go_wp2_with (first
     | (go_at_call 56; refine hf.out.mono ?_; rintro r w2 ⟨rfl, hb2⟩; have HB2 := hide hb2; obtain ⟨p0, p1, p2⟩ := T.out.below hb2; have hC := hide (hS.out _ (HI.out.below hb2)); clear hb2)
     | (go_at_call 57; refine hC.out.mono ?_; rintro r w3 ⟨rfl, hb3⟩))
    go_ret
    have hb4 := HB.out.trans (HB2.out.mono HB.out.size)
    exact ⟨rfl, hb4.trans (hb3.mono hb4.size)⟩
end Go.Proofs.YtpcbhcdpegbfjaaGreat.J
