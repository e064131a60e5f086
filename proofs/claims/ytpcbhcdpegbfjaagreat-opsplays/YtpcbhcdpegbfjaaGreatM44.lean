/-
  Texts in build order: SSetAt, SRSort, SGen, SMergeP, SMerge.
-/
import Derived.Test.YtpcbhcdpegbfjaaGreatM12
/-
 One thing of a row is another.
-/
namespace Go.Proofs.YtpcbhcdpegbfjaaGreat
open Go.RowKit
theorem OwnL.setAt {α : Type} {t sz : Nat} {cs : α → List Value} (hcs : ∀ x, (cs x).length = sz) (hs : 0 < sz) {base : Nat} {w : World} {g n cap : Nat} {l : List α} (h : OwnL t sz cs base w (.slice (some ⟨g, 0, none⟩) n cap) l) {i : Nat} (hi : i < l.length) (x : α) : OwnL t sz cs base (w.setCells g (i * sz) (cs x)) (.slice (some ⟨g, 0, none⟩) n cap) (l.set i x) := by
 rcases h.2 with ⟨e, _⟩ | ⟨g', cap', cur, e, h2, h3, h4, h5, h6, h7⟩
 ·cases e
 ·cases e
  have hb : BoxT t w g cur := h3
  have hfit : i * sz + sz ≤ cur.size := by
   have h8 : (i + 1) * sz ≤ cap * sz := Nat.mul_le_mul_right _ (by omega)
   rw [Nat.succ_mul] at h8
   omega
  refine ⟨flat_size hcs _, .inr ⟨g, cap, setL cur (i * sz) (cs x), by simp, h2, hb.setCells (cs x), by simpa using h4, h5, by rw [setL_size]; exact h6, ?_⟩⟩
  apply List.ext_getElem?
  intro q
  rw [List.getElem?_take, List.length_set]
  by_cases hq : q < l.length * sz
  ·rw [if_pos hq, Array.getElem?_toList]
   have hq4 : q / sz < l.length := (Nat.div_lt_iff_lt_mul hs).2 hq
   have hm : q % sz < sz := Nat.mod_lt _ hs
   have hdm : q / sz * sz + q % sz = q := by rw [Nat.mul_comm]; exact Nat.div_add_mod q sz
   by_cases hqi : q / sz = i
   ·have hx : (l.set i x)[q / sz]? = some x := by rw [hqi, List.getElem?_set_self hi]
    obtain ⟨u, hu⟩ := get_of_lt (show q % sz < (cs x).length by rw [hcs]; exact hm)
    have h9 := flat_get hcs _ (q / sz) (q % sz) _ u hx hu
    rw [hdm] at h9
    rw [h9]
    have h10 := setL_in (cs x) cur (i * sz) (q % sz) u (by rw [hcs]; exact hfit) hu
    rw [← hqi, hdm, hqi] at h10
    exact h10
   ·obtain ⟨y, hy⟩ := get_of_lt hq4
    have hx : (l.set i x)[q / sz]? = some y := by rw [List.getElem?_set_ne (fun e => hqi e.symm)]; exact hy
    obtain ⟨u, hu⟩ := get_of_lt (show q % sz < (cs y).length by rw [hcs]; exact hm)
    have h9 := flat_get hcs _ (q / sz) (q % sz) _ u hx hu
    rw [hdm] at h9
    have hout : q < i * sz ∨ i * sz + (cs x).length ≤ q := by
     rw [hcs]
     rcases Nat.lt_or_gt_of_ne hqi with hlt | hgt
     ·have : (q / sz + 1) * sz ≤ i * sz := Nat.mul_le_mul_right _ hlt
      rw [Nat.succ_mul] at this; omega
     ·have : (i + 1) * sz ≤ q / sz * sz := Nat.mul_le_mul_right _ hgt
      rw [Nat.succ_mul] at this; omega
    rw [h9, setL_out _ _ _ _ hout]
    have h8 := flat_get hcs l (q / sz) (q % sz) y u hy hu
    rw [← h7, List.getElem?_take] at h8
    split at h8
    ·rw [hdm] at h8; simpa using h8
    ·cases h8
  ·rw [if_neg hq, List.getElem?_eq_none (by rw [flat_size hcs, List.length_set]; omega)]
end Go.Proofs.YtpcbhcdpegbfjaaGreat
/-
 The document's less and Sort.
-/
namespace Go.Proofs.YtpcbhcdpegbfjaaGreat
set_option maxHeartbeats 16000000
set_option maxRecDepth 100000
open Go.RowKit
theorem rless_any (w : World) (x y : Pn) : Calls Tryz.prog 33 #[x.val, y.val] w fun e w' => e = .returned (.bool (!plb y x)) ∧ Below w.heap.size w w' := by
 have hb : ∀ b : Bool, ∀ p : Prop, (b = true ↔ p) → ∀ c : Bool, (c = true ↔ ¬ p) → b = !c := by intro b p h c h'; cases b <;> cases c <;> simp_all
 have HR : Hid (∀ b : Bool, (b = true ↔ ¬ (y.k < x.k ∨ (y.k = x.k ∧ (y.f < x.f ∨ (y.f = x.f ∧ (y.t < x.t ∨ (y.t = x.t ∧ y.a ≤ x.a))))))) → b = !plb y x) := fun b h => hb b _ h _ (by rw [Classical.not_not]; exact plb_iff)
 clear hb
 obtain ⟨xk, xf, xt, xa⟩ := x
 obtain ⟨yk, yf, yt, ya⟩ := y
 have HB := hide (below_box2 w (.cells #[.int .i64 xk, .int .i64 xf, .int .i64 xt, .int .i64 xa] 79) (.cells #[.int .i64 yk, .int .i64 yf, .int .i64 yt, .int .i64 ya] 79))
 simp only at HR
 generalize (!plb ⟨yk, yf, yt, ya⟩ ⟨xk, xf, xt, xa⟩) = R at *
 unfold Pn.val
 have ce1 : ∀ {a b : Int}, ¬ a = b → Hid (a ≠ b) := fun h => h
 by_cases h1 : xk = yk
 ·subst h1
  by_cases h2 : xf = yf
  ·subst h2
   by_cases h3 : xt = yt
   ·subst h3
    go_enter Tryz.func33, Tryz.ntmps33
    go_wp2_with fail
    go_ret
    exact ⟨ret_bool (HR.out _ (by simp only [decide_eq_true_eq, true_and]; omega)), HB.out⟩
   ·have hb3 : (xt != yt) = true := by simp [h3]
    have H3 := ce1 h3
    go_enter Tryz.func33, Tryz.ntmps33
    go_wp2_with fail
    go_ret
    exact ⟨ret_bool (HR.out _ (by have h9 := H3.out; simp only [decide_eq_true_eq, true_and]; omega)), HB.out⟩
  ·have hb2 : (xf != yf) = true := by simp [h2]
   have H3 := ce1 h2
   go_enter Tryz.func33, Tryz.ntmps33
   go_wp2_with fail
   go_ret
   exact ⟨ret_bool (HR.out _ (by have h9 := H3.out; simp only [decide_eq_true_eq, true_and]; omega)), HB.out⟩
 ·have hb1 : (xk != yk) = true := by simp [h1]
  have H3 := ce1 h1
  go_enter Tryz.func33, Tryz.ntmps33
  go_wp2_with fail
  go_ret
  exact ⟨ret_bool (HR.out _ (by have h9 := H3.out; simp only [decide_eq_true_eq]; omega)), HB.out⟩
theorem half_eq {lo hh m : Nat} (hm : m = (lo + hh) / 2) (h : hh ≤ 100000) (hlh : lo ≤ hh) : wrap64 (((lo : Int) + (hh : Int)).tdiv 2) = (m : Int) ∧ ((lo : Int) + (hh : Int)) / 2 = (m : Int) ∧ ((lo : Int) + (hh : Int)).tdiv 2 = (m : Int) := by
 have e2 : ((lo : Int) + (hh : Int)) / 2 = (m : Int) := by subst hm; omega
 have e3 : ((lo : Int) + (hh : Int)).tdiv 2 = (m : Int) := by rw [Int.tdiv_eq_ediv_of_nonneg (by omega)]; exact e2
 have hm2 : m ≤ 100000 := by omega
 refine ⟨?_, e2, e3⟩
 rw [e3]
 unfold wrap64; omega
def hole (l : List Pn) (k : Nat) (z : Pn) : List Pn := l.take k ++ z :: l.drop k
theorem hole_len {l : List Pn} {k : Nat} (z : Pn) (h : k ≤ l.length) : (hole l k z).length = l.length + 1 := by
 simp [hole]; omega
theorem hole_end (l : List Pn) (z : Pn) : hole l l.length z = l ++ [z] := by simp [hole]
theorem hole_prev {l : List Pn} {q : Nat} {y : Pn} (z : Pn) (h : l[q]? = some y) : (hole l (q + 1) z)[q]? = some y := by
 have hl := lt_of_get h
 unfold hole
 rw [List.getElem?_append_left (by rw [List.length_take]; omega), List.getElem?_take, if_pos (by omega)]
 exact h
theorem hole_set {l : List Pn} {k : Nat} (z x : Pn) (h : k ≤ l.length) : (hole l k z).set k x = hole l k x := by
 unfold hole
 rw [List.set_append_right _ _ (by rw [List.length_take]; omega), List.length_take, show k - min k l.length = 0 by omega]
 rfl
theorem hole_down {l : List Pn} {q : Nat} {y : Pn} (h : l[q]? = some y) : hole l (q + 1) y = hole l q y := by
 unfold hole
 rw [take_snoc h, drop_at h, List.append_assoc]
 rfl
theorem hole_perm (l : List Pn) (k : Nat) (x : Pn) : (hole l k x).Perm (x :: l) := by
 unfold hole
 refine List.perm_middle.trans ?_
 rw [List.take_append_drop]
theorem hole_rising {l : List Pn} {k : Nat} {x : Pn} (hl : Rising l) (h1 : ∀ a y, a < k → l[a]? = some y → plb y x = true) (h2 : ∀ a y, k ≤ a → l[a]? = some y → plb x y = true) : Rising (hole l k x) := by
 unfold hole Rising
 rw [List.pairwise_append]
 have e := List.take_append_drop k l
 have hp : (l.take k ++ l.drop k).Pairwise fun x y => plb x y = true := by rw [e]; exact hl
 obtain ⟨p1, p2, p3⟩ := List.pairwise_append.1 hp
 have hx1 : ∀ y ∈ l.take k, plb y x = true := fun y hy => by
  obtain ⟨a, ha⟩ := List.getElem?_of_mem hy
  rw [List.getElem?_take] at ha
  split at ha
  ·exact h1 a y (by assumption) ha
  ·cases ha
 have hx2 : ∀ y ∈ l.drop k, plb x y = true := fun y hy => by
  obtain ⟨a, ha⟩ := List.getElem?_of_mem hy
  rw [List.getElem?_drop] at ha
  exact h2 _ y (by omega) ha
 refine ⟨p1, List.pairwise_cons.2 ⟨hx2, p2⟩, fun y hy z hz => ?_⟩
 rcases List.mem_cons.1 hz with rfl | hz
 ·exact hx1 y hy
 ·exact p3 y hy z hz
theorem rise_le {l : List Pn} (h : Rising l) {a b : Nat} {x y : Pn} (hab : a ≤ b) (hx : l[a]? = some x) (hy : l[b]? = some y) : plb x y = true := by
 rcases Nat.lt_or_eq_of_le hab with hlt | rfl
 ·have ha := lt_of_get hx
  have hb := lt_of_get hy
  rw [List.getElem?_eq_getElem ha] at hx
  rw [List.getElem?_eq_getElem hb] at hy
  cases hx; cases hy
  exact List.pairwise_iff_getElem.1 h a b ha hb hlt
 ·rw [hx] at hy; cases hy; rw [plb_iff]; omega
theorem rSort_any {w : World} {v : Value} {l : List Pn} (hl : LSeg 4 Pn.cs w.heap.size w v l) (hn : l.length ≤ 100000) : Calls Tryz.prog 22 #[v] w fun e w' => ∃ u, e = .returned u ∧ OwnL 79 4 Pn.cs w.heap.size w' u (srt l) ∧ Below w.heap.size w w' := by
 obtain ⟨ao, cap, rfl⟩ := hl.shapeOf
 have HL := hide hl
 clear hl
 go_enter Tryz.func22, Tryz.ntmps22
 go_wp2_with fail
 go_loopg [3, 4, 5, 6, 7, 8] (l.length + 1) (fun gh ov iv _ _ _ _ wr => ∃ i : Nat, iv = .int .i64 (i : Int) ∧ i ≤ l.length ∧ l.length + 1 ≤ gh + i ∧ Hid (OwnL 79 4 Pn.cs w.heap.size wr ov (srt (l.take i))) ∧ Hid (Below w.heap.size w wr))
 case atStart => exact ⟨0, rfl, by omega, by omega, hide (OwnL.nil _ _ _ _ _), Below.refl _ _⟩
 case round =>
  obtain ⟨i, rfl, hi, hg, GO, GB⟩ := hrel
  obtain ⟨go, rfl⟩ : ∃ go, gk = go + 1 := ⟨gk - 1, by omega⟩
  by_cases hlt : i < l.length
  ·obtain ⟨x, hx⟩ := get_of_lt hlt
   have bt : (i : Int) < (l.length : Int) := by omega
   have HTS : Hid (∀ lo, lo ≤ (srt (l.take i)).length → (∀ a y, a < lo → (srt (l.take i))[a]? = some y → plb y x = true) → (∀ a y, lo ≤ a → (srt (l.take i))[a]? = some y → plb x y = true) → hole (srt (l.take i)) lo x = srt (l.take (i + 1))) := fun lo _ h1 h2 => by
    refine srt_of ((hole_perm _ _ _).trans ?_) (hole_rising (srt_rising _) h1 h2)
    rw [take_snoc hx]
    exact ((srt_perm _).cons x).trans (List.perm_append_singleton _ _).symm
   have HRI := hide (srt_rising (l.take i))
   have hol : (srt (l.take i)).length = i := by rw [srt_len, List.length_take]; omega
   generalize srt (l.take i) = o at *
   obtain ⟨oa, oc, rfl⟩ := GO.out.shape
   rw [hol] at GO ⊢
   obtain ⟨nb, no, rfl, nlt, _⟩ := (HL.out.below GB.out).pane hx
   have HX := hide hx
   clear hx
   obtain ⟨wo, rfl⟩ : ∃ wo, wo = wr := ⟨wr, rfl⟩
   go_wp2_with fail
   go_loopg [5, 6, 7] (i + 1) (fun gh lov hiv _ wr => ∃ lo hh : Nat, lov = .int .i64 (lo : Int) ∧ hiv = .int .i64 (hh : Int) ∧ lo ≤ hh ∧ hh ≤ i ∧ hh - lo + 1 ≤ gh ∧ Hid (∀ a y, a < lo → o[a]? = some y → plb y x = true) ∧ Hid (∀ a y, hh ≤ a → o[a]? = some y → plb x y = true) ∧ Hid (Below wo.heap.size wo wr))
   case atStart => exact ⟨0, i, rfl, rfl, by omega, by omega, by omega, (show ∀ a y, _ from fun a y h => by omega), (show ∀ a y, _ from fun a y h h' => by have := lt_of_get h'; omega), Below.refl _ _⟩
   case round =>
    obtain ⟨lo, hh, rfl, rfl, hlh, hhi, hgg, HLO, HHI, GQ⟩ := hrel
    obtain ⟨gi, rfl⟩ : ∃ gi, gk = gi + 1 := ⟨gk - 1, by omega⟩
    by_cases hll : lo < hh
    ·have bl : (lo : Int) < (hh : Int) := by omega
     obtain ⟨m, hm⟩ : ∃ m, m = (lo + hh) / 2 := ⟨_, rfl⟩
     have hml : lo ≤ m := by omega
     have hmh : m < hh := by omega
     have HFM := hide (half_eq hm (show hh ≤ 100000 by omega) hlh)
     clear hm
     obtain ⟨y, hy⟩ := get_of_lt (show m < o.length by omega)
     have hbw := GB.out.trans (GQ.out.mono GB.out.size)
     obtain ⟨_, _, en, _, d0, d1, d2, d3⟩ := (HL.out.below hbw).pane HX.out
     cases en
     obtain ⟨og, oo, eo, _, e0, e1, e2, e3⟩ := ((GO.out.below GQ.out).seg Pn.cs_len (by omega)).pane hy
     obtain ⟨oo0, rfl⟩ : ∃ z, z = oo := ⟨oo, rfl⟩
     have ho0 : oo0 = 0 := by
      rcases GO.out.2 with ⟨e, _⟩ | ⟨g', c', cu', e, _⟩
      ·rw [eo] at e; cases e
      ·rw [eo] at e
       have := (Value.slice.inj e).1
       cases this; rfl
     subst ho0
     subst eo
     simp only [Nat.zero_add] at e0 e1 e2 e3
     have hnb : nb < wr.heap.size := Nat.lt_of_lt_of_le nlt hbw.size
     have hog : og < wr.heap.size := Nat.lt_of_lt_of_le (GO.out.lt og rfl) GQ.out.size
     have HLE := hide (fun W => rless_any W x y)
     have HYM := hide hy
     generalize hpb : plb y x = pb at HLE
     have HPB := hide hpb
     clear hpb hy
     have bm : (m : Int) < (i : Int) := by omega
     obtain ⟨xk, xf, xt, xa⟩ := x
     obtain ⟨yk, yf, yt, ya⟩ := y
     simp only at d0 d1 d2 d3 e0 e1 e2 e3
     unfold Pn.val at HLE
     have KC : Hid (∀ w' : World, Below (wr).heap.size (wr) w' → w'.cell? ⟨nb, no + i * 4, none⟩ = some (.int .i64 xk) ∧ w'.cell? ⟨nb, no + i * 4 + 1, none⟩ = some (.int .i64 xf) ∧ w'.cell? ⟨nb, no + i * 4 + 2, none⟩ = some (.int .i64 xt) ∧ w'.cell? ⟨nb, no + i * 4 + 3, none⟩ = some (.int .i64 xa) ∧ w'.cell? ⟨og, m * 4, none⟩ = some (.int .i64 yk) ∧ w'.cell? ⟨og, m * 4 + 1, none⟩ = some (.int .i64 yf) ∧ w'.cell? ⟨og, m * 4 + 2, none⟩ = some (.int .i64 yt) ∧ w'.cell? ⟨og, m * 4 + 3, none⟩ = some (.int .i64 ya)) := fun w' h => ⟨((h.cell (p := ⟨nb, no + i * 4, none⟩) hnb).trans d0), ((h.cell (p := ⟨nb, no + i * 4 + 1, none⟩) hnb).trans d1), ((h.cell (p := ⟨nb, no + i * 4 + 2, none⟩) hnb).trans d2), ((h.cell (p := ⟨nb, no + i * 4 + 3, none⟩) hnb).trans d3), ((h.cell (p := ⟨og, m * 4, none⟩) hog).trans e0), ((h.cell (p := ⟨og, m * 4 + 1, none⟩) hog).trans e1), ((h.cell (p := ⟨og, m * 4 + 2, none⟩) hog).trans e2), ((h.cell (p := ⟨og, m * 4 + 3, none⟩) hog).trans e3)⟩
     cases pb with
     | false =>
      simp only [Bool.not_false] at HLE
      have fm2 := HFM.out.2.1
      go_wp2_with fail
      clear fm2
      refine wp_region_M (S := fun w' => w'.cell? ⟨nb, no + i * 4, none⟩ = some (.int .i64 xk) ∧ w'.cell? ⟨nb, no + i * 4 + 1, none⟩ = some (.int .i64 xf) ∧ w'.cell? ⟨nb, no + i * 4 + 2, none⟩ = some (.int .i64 xt) ∧ w'.cell? ⟨nb, no + i * 4 + 3, none⟩ = some (.int .i64 xa) ∧ w'.cell? ⟨og, m * 4, none⟩ = some (.int .i64 yk) ∧ w'.cell? ⟨og, m * 4 + 1, none⟩ = some (.int .i64 yf) ∧ w'.cell? ⟨og, m * 4 + 2, none⟩ = some (.int .i64 yt) ∧ w'.cell? ⟨og, m * 4 + 3, none⟩ = some (.int .i64 ya)) (late := []) (by kernel_rfl) (KC.out _ ((Below.refl _ _).drew)) (fun hH => ?_)
      (try simp only [nr, Nat.reduceAdd])
      refine tkA 0 hH ?_; simp only [nm]; refine tkA 1 hH ?_; simp only [nm]; refine tkA 2 hH ?_; simp only [nm]; refine tkA 3 hH ?_; simp only [nm]; refine tkA 4 hH ?_; simp only [nm]; refine tkA 5 hH ?_; simp only [nm]; refine tkA 6 hH ?_; simp only [nm]; refine tkA 7 hH ?_; simp only [nm]
      refine tkO 8 fun K hK => ?_
      go_simp
      go_at_call 33
      refine (HLE.out _).mono ?_
      rintro e w4 ⟨rfl, b4⟩
      have B4 : Hid (Below wr.heap.size wr w4) := ((Below.refl _ _).drew).trans b4
      refine hK.out _ _ (KC.out _ B4.out) (fun hH => ?_)
      clear hK K b4
      (try simp only [nm])
      refine wpAnyM_done (by kernel_rfl) ?_ _
      go_wp2_with fail
      go_roundg gi
      case rel =>
       refine ⟨lo, m, rfl, rfl, by omega, by omega, by omega, HLO, (show ∀ a y, _ from fun a y ha hy => ?_), hide (GQ.out.trans (B4.out.mono GQ.out.size))⟩
       exact plb_trans (plb_total (by rw [HPB.out]; decide)) (rise_le HRI.out ha HYM.out hy)
      case measure => omega
     | true =>
      simp only [Bool.not_true] at HLE
      have fm2 := HFM.out.2.1
      go_wp2_with fail
      clear fm2
      refine wp_region_M (S := fun w' => w'.cell? ⟨nb, no + i * 4, none⟩ = some (.int .i64 xk) ∧ w'.cell? ⟨nb, no + i * 4 + 1, none⟩ = some (.int .i64 xf) ∧ w'.cell? ⟨nb, no + i * 4 + 2, none⟩ = some (.int .i64 xt) ∧ w'.cell? ⟨nb, no + i * 4 + 3, none⟩ = some (.int .i64 xa) ∧ w'.cell? ⟨og, m * 4, none⟩ = some (.int .i64 yk) ∧ w'.cell? ⟨og, m * 4 + 1, none⟩ = some (.int .i64 yf) ∧ w'.cell? ⟨og, m * 4 + 2, none⟩ = some (.int .i64 yt) ∧ w'.cell? ⟨og, m * 4 + 3, none⟩ = some (.int .i64 ya)) (late := []) (by kernel_rfl) (KC.out _ ((Below.refl _ _).drew)) (fun hH => ?_)
      (try simp only [nr, Nat.reduceAdd])
      refine tkA 0 hH ?_; simp only [nm]; refine tkA 1 hH ?_; simp only [nm]; refine tkA 2 hH ?_; simp only [nm]; refine tkA 3 hH ?_; simp only [nm]; refine tkA 4 hH ?_; simp only [nm]; refine tkA 5 hH ?_; simp only [nm]; refine tkA 6 hH ?_; simp only [nm]; refine tkA 7 hH ?_; simp only [nm]
      refine tkO 8 fun K hK => ?_
      go_simp
      go_at_call 33
      refine (HLE.out _).mono ?_
      rintro e w4 ⟨rfl, b4⟩
      have B4 : Hid (Below wr.heap.size wr w4) := ((Below.refl _ _).drew).trans b4
      refine hK.out _ _ (KC.out _ B4.out) (fun hH => ?_)
      clear hK K b4
      (try simp only [nm])
      refine wpAnyM_done (by kernel_rfl) ?_ _
      go_wp2_with fail
      go_roundg gi
      case rel =>
       refine ⟨m + 1, hh, by go_num, rfl, by omega, by omega, by omega, (show ∀ a y, _ from fun a y ha hy => ?_), HHI, hide (GQ.out.trans (B4.out.mono GQ.out.size))⟩
       exact plb_trans (rise_le HRI.out (by omega) hy HYM.out) HPB.out
      case measure => omega
    ·have bl : ¬ (lo : Int) < (hh : Int) := by omega
     obtain rfl : lo = hh := by omega
     have HOS := hide (HTS.out lo (by omega) HLO.out HHI.out)
     have hbq := GB.out.trans (GQ.out.mono GB.out.size)
     have hbx := below_box wr (.cells #[.int .i64 0, .int .i64 0, .int .i64 0, .int .i64 0] 79)
     have HO2 := hide ((GO.out.below GQ.out).below hbx)
     have HB2 := hide (hbq.trans (hbx.mono hbq.size))
     have HSZ := hide HB2.out.size
     have HL2 : Hid (o.length ≤ 1000000) := (show _ ≤ _ by omega)
     have HHE := hide (hole_end o ⟨0, 0, 0, 0⟩)
     rw [hol] at HHE
     clear hbx hbq
     go_wp2_with (at_builtin; refine app_L Tryz.infoPn Tryz.underlying47 rfl (by decide) (by decide) Pn.cs_len Pn.cs_one rfl _ _ rfl w.heap.size _ o rfl HO2.out _ _ (⟨0, 0, 0, 0⟩ : Pn) rfl (new4 wr rfl ⟨0, 0, 0, 0⟩) HL2.out HSZ.out ?_; intro v5 w5 h5 g5 k5; have H5 := hide h5; have HB5 := hide (HB2.out.grown g5 HSZ.out (fun k e => HO2.out.at k e)); obtain ⟨ga, gc, hgv⟩ := h5.shape; rw [List.length_append, hol] at hgv; simp only [List.length_cons, List.length_nil, Nat.zero_add] at hgv; clear h5 g5 k5; subst hgv)
     have hg5 : ∃ g, ga = some ⟨g, 0, none⟩ := by
      rcases H5.out.2 with ⟨e, h0⟩ | ⟨g, cap', cur, e, _⟩
      ·have := (Value.slice.inj e).2.1; omega
      ·exact ⟨g, (Value.slice.inj e).1⟩
     obtain ⟨g, rfl⟩ := hg5
     rw [← HHE.out] at H5
     have hbg := H5.out.at g rfl
     clear GO GQ HO2 HB2 HSZ HHE HLO HHI HTS
     go_loopg [8] (i + 1) (fun gh kv wx => ∃ (q : Nat) (z : Pn), kv = .int .i64 (q : Int) ∧ lo ≤ q ∧ q ≤ i ∧ q + 1 ≤ gh ∧ Hid (OwnL 79 4 Pn.cs w.heap.size wx (.slice (some ⟨g, 0, none⟩) (i + 1) gc) (hole o q z)) ∧ Hid (Below w.heap.size w wx))
     case atStart => exact ⟨i, _, by go_num, by omega, by omega, by omega, H5, HB5⟩
     case round =>
      obtain ⟨q, z, rfl, hq1, hq2, hgq, GH, GB2⟩ := hrel
      obtain ⟨gi2, rfl⟩ : ∃ gi, gk = gi + 1 := ⟨gk - 1, by omega⟩
      have hhl := hole_len z (show q ≤ o.length by omega)
      obtain ⟨cu, hcu⟩ := GH.out.has g rfl
      have hfr : ∀ j, wr.frozen? ⟨g, j, none⟩ = false := fun j => (show BoxT 79 wr g cu from hcu).free j
      clear hcu
      by_cases hql : lo < q
      ·obtain ⟨p, rfl⟩ : ∃ p, q = p + 1 := ⟨q - 1, by omega⟩
       have bq : (lo : Int) < ((p + 1 : Nat) : Int) := by omega
       obtain ⟨y, hy⟩ := get_of_lt (show p < o.length by omega)
       obtain ⟨_, _, ep, _, e0, e1, e2, e3⟩ := (GH.out.seg Pn.cs_len (by omega)).pane (hole_prev z hy)
       cases ep
       obtain ⟨z', hz'⟩ := get_of_lt (show p + 1 < (hole o (p + 1) z).length by omega)
       obtain ⟨_, _, eq, _, f0, f1, f2, f3⟩ := (GH.out.seg Pn.cs_len (by omega)).pane hz'
       cases eq
       simp only [Nat.zero_add] at e0 e1 e2 e3 f0 f1 f2 f3
       have HSE := hide (GH.out.setAt Pn.cs_len (by decide) (show p + 1 < (hole o (p + 1) z).length by omega) y)
       rw [hole_set z y (by omega), hole_down hy] at HSE
       have HBS := hide (GB2.out.grown (grown_setCells g y.cs wr ((p + 1) * 4)) GB2.out.size (fun k e => by cases e; exact hbg))
       have eq1 : (((p + 1 : Nat)) : Int) - 1 = (p : Int) := by omega
       have bp : (p : Int) < (i : Int) + 1 := by omega
       have bp2 : (p : Int) + 1 < (i : Int) + 1 := by omega
       clear hy hz'
       obtain ⟨yk, yf, yt, ya⟩ := y
       simp only at e0 e1 e2 e3
       go_wp2_with fail
       go_roundg gi2
       case rel => exact ⟨p, _, by go_num, by omega, by omega, by omega, HSE, HBS⟩
       case measure => omega
      ·obtain rfl : q = lo := by omega
       have bq : ¬ (q : Int) < (q : Int) := by omega
       obtain ⟨_, _, en, _, d0, d1, d2, d3⟩ := (HL.out.below GB2.out).pane HX.out
       cases en
       obtain ⟨z', hz'⟩ := get_of_lt (show q < (hole o q z).length by omega)
       obtain ⟨_, _, eq, _, f0, f1, f2, f3⟩ := (GH.out.seg Pn.cs_len (by omega)).pane hz'
       cases eq
       simp only [Nat.zero_add] at f0 f1 f2 f3
       have HSE := hide (GH.out.setAt Pn.cs_len (by decide) (show q < (hole o q z).length by omega) x)
       rw [hole_set z x (by omega), HOS.out] at HSE
       have HBS := hide (GB2.out.grown (grown_setCells g x.cs wr (q * 4)) GB2.out.size (fun k e => by cases e; exact hbg))
       have bp2 : (q : Int) < (i : Int) + 1 := by omega
       clear hz'
       obtain ⟨xk, xf, xt, xa⟩ := x
       simp only at d0 d1 d2 d3
       go_wp2_with fail
       go_roundg go
       case rel => exact ⟨i + 1, by go_num, by omega, by omega, HSE, HBS⟩
       case measure => omega
  ·have bt : ¬ (i : Int) < (l.length : Int) := by omega
   have hT : l.take i = l := List.take_of_length_le (by omega)
   rw [hT] at GO
   go_wp2_with fail
   go_ret
   exact ⟨_, rfl, GO.out, GB.out⟩
end Go.Proofs.YtpcbhcdpegbfjaaGreat
/-
 Of general use beside the document's windows.
-/
namespace Go.Proofs.YtpcbhcdpegbfjaaGreat
open Go.RowKit
theorem BoxT.four {t : TypeId} {w : World} {k : Nat} {c0 c1 c2 c3 : Value} (h : BoxT t w k #[c0, c1, c2, c3]) (u0 u1 u2 u3 : Value) : BoxT t ((((w.setCell ⟨k, 0, none⟩ u0).setCell ⟨k, 1, none⟩ u1).setCell ⟨k, 2, none⟩ u2).setCell ⟨k, 3, none⟩ u3) k #[u0, u1, u2, u3] := by
 have h0 : BoxT t _ _ #[u0, c1, c2, c3] := h.set 0 u0
 have h1 : BoxT t _ _ #[u0, u1, c2, c3] := h0.set 1 u1
 have h2 : BoxT t _ _ #[u0, u1, u2, c3] := h1.set 2 u2
 exact h2.set 3 u3
theorem below_four {B : Nat} {a w : World} (h : Below B a w) {k : Nat} (hk : B ≤ k) (u0 u1 u2 u3 : Value) : Below B a ((((w.setCell ⟨k, 0, none⟩ u0).setCell ⟨k, 1, none⟩ u1).setCell ⟨k, 2, none⟩ u2).setCell ⟨k, 3, none⟩ u3) :=
 (((h.setCell (p := ⟨k, 0, none⟩) hk u0).setCell (p := ⟨k, 1, none⟩) hk u1).setCell (p := ⟨k, 2, none⟩) hk u2).setCell (p := ⟨k, 3, none⟩) hk u3
theorem box4 {w : World} {K : Nat} {x : Pn} (h : BoxT 79 w K x.cs.toArray) : w.cell? ⟨K, 0, none⟩ = some (.int .i64 x.k) ∧ w.cell? ⟨K, 1, none⟩ = some (.int .i64 x.f) ∧ w.cell? ⟨K, 2, none⟩ = some (.int .i64 x.t) ∧ w.cell? ⟨K, 3, none⟩ = some (.int .i64 x.a) := h.cells4
theorem heap_four (w : World) (k : Nat) (u0 u1 u2 u3 : Value) (i : Nat) (h : i ≠ k) : ((((w.setCell ⟨k, 0, none⟩ u0).setCell ⟨k, 1, none⟩ u1).setCell ⟨k, 2, none⟩ u2).setCell ⟨k, 3, none⟩ u3).heap[i]? = w.heap[i]? := by
 rw [Below.heap_setCell _ ⟨k, 3, none⟩ u3 i h, Below.heap_setCell _ ⟨k, 2, none⟩ u2 i h, Below.heap_setCell _ ⟨k, 1, none⟩ u1 i h, Below.heap_setCell _ ⟨k, 0, none⟩ u0 i h]
theorem wp_segL {α : Type} {t sl sz by_ : Nat} {z : Value} {cs : α → List Value} (hinfo : (Tryz.prog.info? t).map (fun i => (i.zero, i.size, i.bytes)) = some (some z, sz, by_)) (hund : Tryz.prog.underlying sl = some (.slice t)) (hz : z.cells.size = sz) (hsz : 0 < sz) (hby : by_ ≤ 100)
  (hcs : ∀ x, (cs x).length = sz) (h1c : ∀ x, ∀ u ∈ cs x, u.oneCell' = true) {w : World} {o : Oper} {a : Act} {K : Act → World → Prop} {Q : Exit → Act → World → Prop} (s x : Operand)
  (ho : o.op = .call { callee := .builtin .append, args := #[s, x], argTypes := #[sl, sl] }) (base : Nat) (v : Value) (xs : List α) (hs : a.eval s = v) (hown : OwnL t sz cs base w v xs)
  (B : Nat) (v2 : Value) (ys : List α) (hx : a.eval x = v2) (hseg : LSeg sz cs B w v2 ys) (hl : xs.length + ys.length ≤ 1000000) (hbase : base ≤ w.heap.size)
  (h : ∀ v' w', OwnL t sz cs base w' v' (xs ++ ys) → w.grownBy w' v.ownBlock → (v'.ownBlock = v.ownBlock ∨ v'.ownBlock = some w.heap.size) → K (a.put o.dst v') w') : Oper.wp Tryz.prog o a w K Q := by
 obtain ⟨v', w', hr, h2, h3, h4⟩ := run_segL hinfo hund hz hsz hby hcs h1c o.type base hown hseg hl hbase
 unfold Oper.wp execOp
 simp only [ho, resolve, invoke, builtin, Sem.run_bind, Sem.run_pure, Result.andThen_ok, List.map_toArray, List.map_cons, List.map_nil, hs, hx, hr]
 exact h v' w' h2 h3 h4
end Go.Proofs.YtpcbhcdpegbfjaaGreat
/-
 The document's overlap and merge.
-/
namespace Go.Proofs.YtpcbhcdpegbfjaaGreat
set_option maxHeartbeats 16000000
set_option maxRecDepth 100000
open Go.RowKit
theorem roverlap_any (w : World) (af at_ bf bt : Int) : Calls Tryz.prog 51 #[.agg #[.int .i64 af, .int .i64 at_], .agg #[.int .i64 bf, .int .i64 bt]] w fun e w' => e = .returned (.bool (decide (af < bt) && decide (bf < at_))) ∧ Below w.heap.size w w' := by
 have HB := hide (below_box2 w (.cells #[.int .i64 af, .int .i64 at_] 72) (.cells #[.int .i64 bf, .int .i64 bt] 72))
 by_cases h1 : af < bt
 ·have hd : decide (af < bt) = true := decide_eq_true h1
  rw [hd, Bool.true_and]
  go_enter Tryz.func51, Tryz.ntmps51
  go_wp2_with fail
  go_ret
  exact ⟨rfl, HB.out⟩
 ·have hd : decide (af < bt) = false := decide_eq_false h1
  rw [hd, Bool.false_and]
  go_enter Tryz.func51, Tryz.ntmps51
  go_wp2_with fail
  go_ret
  exact ⟨rfl, HB.out⟩
theorem LSeg.back {α : Type} {sz : Nat} {cs : α → List Value} {B B' : Nat} {w w' : World} {v : Value} {xs : List α} (h : LSeg sz cs B w v xs) (hb : ∀ b, v.ownBlock = some b → w'.heap[b]? = w.heap[b]?) (hB : B ≤ B') : LSeg sz cs B' w' v xs := by
 obtain ⟨ao, cap, rfl, h2, h4⟩ := h
 refine ⟨ao, cap, rfl, h2, ?_⟩
 rcases h4 with h4 | ⟨b, off, rfl, h6, h7⟩
 ·exact .inl h4
 ·refine .inr ⟨b, off, rfl, by omega, fun i x hi j u hu => ?_⟩
  have e := hb b rfl
  have := h7 i x hi j u hu
  unfold World.cell? at *
  simp only [e]
  exact this
theorem LSeg.keep {w w' : World} {v : Value} {xs : List Pn} (h : LSeg 4 Pn.cs w.heap.size w v xs) (hb : xs ≠ [] → ∀ b, v.ownBlock = some b → w'.heap[b]? = w.heap[b]?) (hB : w.heap.size ≤ w'.heap.size) : LSeg 4 Pn.cs w'.heap.size w' v xs := by
 by_cases e : xs = []
 ·obtain ⟨ao, cap, rfl, h2, _⟩ := h
  exact ⟨ao, cap, rfl, h2, .inl e⟩
 ·exact h.back (hb e) hB
structure MI (w wr : World) (lv : Value) (l : List Pn) (rv : Value) (rest : List Pn) (p : Pn) : Prop where
 seg : LSeg 4 Pn.cs wr.heap.size wr lv l
 off : l ≠ [] → ∀ b, lv.ownBlock = some b → b ≠ w.heap.size ∧ b < wr.heap.size ∧ rv.ownBlock ≠ some b
 own : OwnL 79 4 Pn.cs (w.heap.size + 1) wr rv rest
 box : BoxT 79 wr w.heap.size p.cs.toArray
 bel : Below w.heap.size w wr
section
variable {w wr w' : World} {lv rv v' : Value} {l rest : List Pn} {p x : Pn}
theorem MI.below (h : MI w wr lv l rv rest p) (hb : Below wr.heap.size wr w') : MI w w' lv l rv rest p :=
 ⟨h.seg.on hb, fun hl b e => ⟨(h.off hl b e).1, Nat.lt_of_lt_of_le (h.off hl b e).2.1 hb.size, (h.off hl b e).2.2⟩, h.own.below hb, BoxT.below (t := 79) h.box hb, h.bel.trans (hb.mono h.bel.size)⟩
theorem MI.put (h : MI w wr lv l rv rest p) (y : Pn) : MI w ((((wr.setCell ⟨w.heap.size, 0, none⟩ (.int .i64 y.k)).setCell ⟨w.heap.size, 1, none⟩ (.int .i64 y.f)).setCell ⟨w.heap.size, 2, none⟩ (.int .i64 y.t)).setCell ⟨w.heap.size, 3, none⟩ (.int .i64 y.a)) lv l rv rest y :=
 ⟨h.seg.keep (fun hl b e => heap_four wr _ _ _ _ _ b (h.off hl b e).1) (by simp), fun hl b e => by simpa using h.off hl b e, h.own.back (fun g e => heap_four wr _ _ _ _ _ g (by have := h.own.at g e; omega)), BoxT.four h.box _ _ _ _, below_four h.bel (Nat.le_refl _) _ _ _ _⟩
theorem MI.app (h : MI w wr lv l rv rest p) (o : OwnL 79 4 Pn.cs (w.heap.size + 1) w' v' (rest ++ [x])) (g : wr.grownBy w' rv.ownBlock) (hv : v'.ownBlock = rv.ownBlock ∨ v'.ownBlock = some wr.heap.size) : MI w w' lv l v' (rest ++ [x]) p := by
 have hK := h.box.lt
 have hat : ∀ k, rv.ownBlock = some k → w.heap.size + 1 ≤ k := fun k e => h.own.at k e
 refine ⟨h.seg.keep (fun hl b e => g.block b (h.off hl b e).2.1 (fun e' => (h.off hl b e).2.2 e'.symm)) g.size, fun hl b e => ⟨(h.off hl b e).1, Nat.lt_of_lt_of_le (h.off hl b e).2.1 g.size, fun e' => ?_⟩, o, ?_, h.bel.grown g h.bel.size (fun k e => by have := hat k e; omega)⟩
 ·rcases hv with h1 | h1
  ·exact (h.off hl b e).2.2 (h1 ▸ e')
  ·rw [h1] at e'
   cases e'
   exact Nat.lt_irrefl _ (h.off hl _ e).2.1
 ·have h1 := h.box
  unfold BoxT at *
  rw [g.block _ hK (fun e => by have := hat _ e.symm; omega)]; exact h1
theorem MI.next (h : MI w wr lv l rv rest p) (hl : rest.length ≤ 1000000) : MI w wr rv rest (.slice none 0 0) [] p :=
 ⟨h.own.seg Pn.cs_len (by omega), fun _ b e => ⟨by have := h.own.at b e; omega, h.own.lt b e, fun e' => by cases e'⟩, OwnL.nil _ _ _ _ _, h.box, h.bel⟩
theorem MI.drew_put (h : MI w wr lv l rv rest p) (y : Pn) : MI w ((((wr.setCell ⟨w.heap.size, 0, none⟩ (.int .i64 y.k)).setCell ⟨w.heap.size, 1, none⟩ (.int .i64 y.f)).setCell ⟨w.heap.size, 2, none⟩ (.int .i64 y.t)).setCell ⟨w.heap.size, 3, none⟩ (.int .i64 y.a)).drew lv l rv rest y :=
 (h.put y).below (Below.refl _ _).drew
end
theorem seg_one {w : World} {g : Nat} {x : Pn} (h : BoxT 79 w g #[.int .i64 x.k, .int .i64 x.f, .int .i64 x.t, .int .i64 x.a]) : LSeg 4 Pn.cs w.heap.size w (.slice (some ⟨g, 0, none⟩) 1 1) [x] := by
 refine ⟨_, 1, rfl, by simp, .inr ⟨g, 0, rfl, h.lt, fun i y hy j v hv => ?_⟩⟩
 have e0 : i = 0 := by have := lt_of_get hy; simp at this; exact this
 subst e0
 cases hy
 rw [h.cellAt]
 have hj : j < 4 := by have := lt_of_get hv; rwa [Pn.cs_len] at this
 have e4 : j = 0 ∨ j = 1 ∨ j = 2 ∨ j = 3 := by omega
 rcases e4 with rfl | rfl | rfl | rfl <;> simpa [Pn.cs] using hv
structure MP (a : Int) (p0 : Pn) (l0 l rest : List Pn) (p : Pn) (i : Nat) (met : Bool) : Prop where
 red : Reds true (jn a) (p0 :: l0) (p :: (rest ++ l.drop i))
 sub : (rest ++ l.drop i).Sublist l
 no : met = false → ∀ x ∈ rest, ¬ mt true p x
 yes : met = true → rest.length + (l.length - i) < l.length
 fp : Full p
 fl : ∀ x ∈ l, Full x
theorem sub_step {l rest : List Pn} {i : Nat} {x : Pn} (hx : l[i]? = some x) (h : (rest ++ l.drop i).Sublist l) : (rest ++ l.drop (i + 1)).Sublist l := by
 refine List.Sublist.trans ?_ h
 rw [drop_at hx]
 exact List.Sublist.append_left (List.sublist_cons_self _ _) rest
theorem meets_full {x p : Pn} (hx : Full x) (hp : Full p) (hk : x.k = p.k) : (decide (x.f < p.t) && decide (p.f < x.t)) = true ↔ mt true x p := by
 unfold Full at *
 simp only [Bool.and_eq_true, decide_eq_true_eq, mt, hk, true_and, Bool.true_eq_false, false_and, or_false]
 omega
theorem MP.met {a : Int} {p0 x p : Pn} {l0 l rest : List Pn} {i : Nat} {m : Bool} (h : MP a p0 l0 l rest p i m) (hx : l[i]? = some x) (hm : mt true p x) : MP a p0 l0 l rest (jp (jn a) p x) (i + 1) true := by
 have hil := lt_of_get hx
 have hle := h.sub.length_le
 rw [List.length_append, List.length_drop] at hle
 refine ⟨h.red.trans ?_, sub_step hx h.sub, (fun e => by cases e), (fun _ => by omega), jp_full hm h.fp (h.fl x (List.mem_of_getElem? hx)), h.fl⟩
 rw [drop_at hx]
 refine (Reds.of_perm ?_).trans (Reds.pair (rest ++ l.drop (i + 1)) hm)
 exact .cons _ List.perm_middle
theorem MP.past {a : Int} {p0 x p : Pn} {l0 l rest : List Pn} {i : Nat} {m : Bool} (h : MP a p0 l0 l rest p i m) (hx : l[i]? = some x) (hm : ¬ mt true p x) : MP a p0 l0 l (rest ++ [x]) p (i + 1) m := by
 have hil := lt_of_get hx
 have e : rest ++ l.drop i = (rest ++ [x]) ++ l.drop (i + 1) := by rw [drop_at hx]; simp
 refine ⟨e ▸ h.red, e ▸ h.sub, fun e1 y hy => ?_, fun e1 => ?_, h.fp, h.fl⟩
 ·rcases List.mem_append.1 hy with hy | hy
  ·exact h.no e1 y hy
  ·obtain rfl := List.mem_singleton.1 hy; exact hm
 ·have := h.yes e1
  rw [List.length_append, List.length_singleton]
  omega
theorem MP.turn {a : Int} {p0 p : Pn} {l0 l rest : List Pn} {m : Bool} (h : MP a p0 l0 l rest p l.length m) : rest.Sublist l ∧ Reds true (jn a) (p0 :: l0) (p :: rest) := by
 have h1 := h.sub
 have h2 := h.red
 rw [List.drop_length, List.append_nil] at h1 h2
 exact ⟨h1, h2⟩
theorem MP.start {a : Int} {p0 p : Pn} {l0 l : List Pn} (h : Reds true (jn a) (p0 :: l0) (p :: l)) (hf : Full p) (hl : ∀ x ∈ l, Full x) : MP a p0 l0 l [] p 0 false :=
 ⟨(by simpa using h), (by simp), (fun _ x hx => by simp at hx), (fun e => by cases e), hf, hl⟩
end Go.Proofs.YtpcbhcdpegbfjaaGreat
/-
 The document's merge, walked.
-/
namespace Go.Proofs.YtpcbhcdpegbfjaaGreat
set_option maxHeartbeats 16000000
set_option maxRecDepth 100000
open Go.RowKit
def MPost (w : World) (a : Int) (p0 : Pn) (l0 : List Pn) (e : Ending) (w' : World) : Prop := ∃ u M, e = .returned u ∧ OwnL 79 4 Pn.cs w.heap.size w' u M ∧ Below w.heap.size w w' ∧ Rising M ∧ Reds true (jn a) (p0 :: l0) M ∧ (Apart true l0 → Apart true M)
theorem rmerge_any {w : World} {v : Value} {l0 : List Pn} {p0 : Pn} (hl : LSeg 4 Pn.cs w.heap.size w v l0) (hn : l0.length ≤ 50000) (hfl : ∀ x ∈ l0, Full x) (hfp : Full p0) (a : Int) :
  Calls Tryz.prog 42 #[.int .i64 a, v, p0.val] w (MPost w a p0 l0) := by
 obtain ⟨ao, cap, rfl⟩ := hl.shapeOf
 have HM0 : Hid (MI w (w.alloc (.cells #[.int .i64 p0.k, .int .i64 p0.f, .int .i64 p0.t, .int .i64 p0.a] 79)) (.slice ao l0.length cap) l0 (.slice none 0 0) [] p0) := by
  refine ⟨hl.on (below_box w _), fun hne b e => ?_, OwnL.nil _ _ _ _ _, BoxT.new 79 w _, below_box w _⟩
  obtain ⟨ao', cap', e', _, h4⟩ := hl
  have ea : ao = ao' := by injection e'
  subst ea
  rcases h4 with h4 | ⟨b', off, rfl, h6, _⟩
  ·exact absurd h4 hne
  ·have eb : b' = b := by simpa [Value.ownBlock] using e
   subst eb
   exact ⟨by omega, by simp; omega, fun e => by cases e⟩
 have HFL := hide hfl
 have HFP := hide hfp
 clear hl hfl hfp
 have HP0 : Hid (p0.val = .agg #[.int .i64 p0.k, .int .i64 p0.f, .int .i64 p0.t, .int .i64 p0.a]) := (show _ = _ from rfl)
 rw [HP0.out]
 have HQ0 := hide (Reds.refl (s := true) (J := jn a) (p0 :: l0))
 have HSB0 := hide (List.Sublist.refl l0)
 obtain ⟨qk, qf, qt, qa⟩ := p0
 simp only at HM0
 clear HP0
 go_enter Tryz.func42, Tryz.ntmps42
 go_wp2_with fail
 go_loopg [1, 7, 8, 9] (l0.length + 1) (fun gh lv _ _ _ wr => ∃ (l : List Pn) (p : Pn), l.length < gh ∧ l.length ≤ 50000 ∧ Hid (MI w wr lv l (.slice none 0 0) [] p) ∧ Hid (Reds true (jn a) (⟨qk, qf, qt, qa⟩ :: l0) (p :: l)) ∧ Hid (l.Sublist l0) ∧ Hid (Full p))
 case atStart => exact ⟨l0, ⟨qk, qf, qt, qa⟩, by omega, hn, HM0, HQ0, HSB0, HFP⟩
 case round =>
  clear HM0 HQ0 HSB0 HFP
  obtain ⟨l, p, hg, hl5, GM, GR, GS, GF⟩ := hrel
  obtain ⟨go, rfl⟩ : ∃ go, gk = go + 1 := ⟨gk - 1, by omega⟩
  obtain ⟨la, lc, rfl⟩ := GM.out.seg.shapeOf
  have GP : Hid (MP a ⟨qk, qf, qt, qa⟩ l0 l [] p 0 false) := (show MP _ _ _ _ _ _ _ _ from MP.start GR.out GF.out (fun x hx => HFL.out x (GS.out.subset hx)))
  clear GR GF
  go_wp2_with fail
  obtain ⟨wo, rfl⟩ : ∃ wo, wo = wr := ⟨_, rfl⟩
  go_loopg [7, 8, 9] (l.length + 1) (fun gh rv mv iv wx => ∃ (i : Nat) (rest : List Pn) (p : Pn) (met : Bool), iv = .int .i64 (i : Int) ∧ i ≤ l.length ∧ l.length + 1 ≤ gh + i ∧ mv = .bool met ∧ Hid (MI w wx (.slice la l.length lc) l rv rest p) ∧ Hid (MP a ⟨qk, qf, qt, qa⟩ l0 l rest p i met))
  case atStart => exact ⟨0, [], p, false, rfl, by omega, by omega, rfl, GM, GP⟩
  case round =>
   clear GM GP p
   obtain ⟨i, rest, p, met, rfl, hi, hg2, rfl, HM, HMP⟩ := hrel
   obtain ⟨gi, hgi⟩ : ∃ gi, gk = gi + 1 := ⟨gk - 1, by omega⟩
   subst hgi
   obtain ⟨ra, rc, rfl⟩ := HM.out.own.shape
   have HRL : Hid (rest.length ≤ 50000) := (show _ ≤ _ by have h1 := HMP.out.sub.length_le; rw [List.length_append] at h1; omega)
   by_cases hlt : i < l.length
   ·obtain ⟨y, hy⟩ := get_of_lt hlt
    have bt : (i : Int) < (l.length : Int) := by omega
    obtain ⟨nb, no, rfl, nlt, d0, d1, d2, d3⟩ := HM.out.seg.pane hy
    obtain ⟨c0, c1, c2, c3⟩ := box4 HM.out.box
    have HYF := hide (HMP.out.fl y (List.mem_of_getElem? hy))
    have HPF := hide HMP.out.fp
    have HNB := hide nlt
    have HKW := hide HM.out.box.lt
    have HY := hide hy
    obtain ⟨yk, yf, yt, ya⟩ := y
    obtain ⟨pk, pf, pt, pa⟩ := p
    simp only at d0 d1 d2 d3 c0 c1 c2 c3
    have HD0 := hide d0
    have HD1 := hide d1
    have HD2 := hide d2
    have HD3 := hide d3
    have HC0 := hide c0
    have HC1 := hide c1
    have HC2 := hide c2
    have HC3 := hide c3
    have KC : Hid (∀ w' : World, Below wr.heap.size wr w' → w'.cell? ⟨nb, no + i * 4, none⟩ = some (.int .i64 yk) ∧ w'.cell? ⟨nb, no + i * 4 + 1, none⟩ = some (.int .i64 yf) ∧ w'.cell? ⟨nb, no + i * 4 + 2, none⟩ = some (.int .i64 yt) ∧ w'.cell? ⟨nb, no + i * 4 + 3, none⟩ = some (.int .i64 ya) ∧ w'.cell? ⟨w.heap.size, 0, none⟩ = some (.int .i64 pk) ∧ w'.cell? ⟨w.heap.size, 1, none⟩ = some (.int .i64 pf) ∧ w'.cell? ⟨w.heap.size, 2, none⟩ = some (.int .i64 pt) ∧ w'.cell? ⟨w.heap.size, 3, none⟩ = some (.int .i64 pa)) := (show ∀ w' : World, _ from fun w' h => ⟨((h.cell (p := ⟨nb, no + i * 4, none⟩) HNB.out).trans HD0.out), ((h.cell (p := ⟨nb, no + i * 4 + 1, none⟩) HNB.out).trans HD1.out), ((h.cell (p := ⟨nb, no + i * 4 + 2, none⟩) HNB.out).trans HD2.out), ((h.cell (p := ⟨nb, no + i * 4 + 3, none⟩) HNB.out).trans HD3.out), ((h.cell (p := ⟨w.heap.size, 0, none⟩) HKW.out).trans HC0.out), ((h.cell (p := ⟨w.heap.size, 1, none⟩) HKW.out).trans HC1.out), ((h.cell (p := ⟨w.heap.size, 2, none⟩) HKW.out).trans HC2.out), ((h.cell (p := ⟨w.heap.size, 3, none⟩) HKW.out).trans HC3.out)⟩)
    clear nlt hy d0 d1 d2 d3 c0 c1 c2 c3
    by_cases hk : yk = pk
    ·subst hk
     have hkd : (yk == yk) = true := by simp
     have HOV := hide (fun W => roverlap_any W yf yt pf pt)
     obtain ⟨ov, hov⟩ : ∃ ov, (decide (yf < pt) && decide (pf < yt)) = ov := ⟨_, rfl⟩
     rw [hov] at HOV
     have HMT : Hid (ov = true ↔ mt true (⟨yk, yf, yt, ya⟩ : Pn) ⟨yk, pf, pt, pa⟩) := (show _ ↔ _ by rw [← hov]; exact meets_full HYF.out HPF.out rfl)
     clear hov
     cases ov
     ·as_aux_lemma =>
      have HMP2 := hide (HMP.out.past HY.out (fun h => by have := HMT.out.2 (mt_symm h); cases this))
      go_wp2_with fail
      refine wp_region_M (S := fun w' => w'.cell? ⟨nb, no + i * 4, none⟩ = some (.int .i64 yk) ∧ w'.cell? ⟨nb, no + i * 4 + 1, none⟩ = some (.int .i64 yf) ∧ w'.cell? ⟨nb, no + i * 4 + 2, none⟩ = some (.int .i64 yt) ∧ w'.cell? ⟨nb, no + i * 4 + 3, none⟩ = some (.int .i64 ya) ∧ w'.cell? ⟨w.heap.size, 0, none⟩ = some (.int .i64 yk) ∧ w'.cell? ⟨w.heap.size, 1, none⟩ = some (.int .i64 pf) ∧ w'.cell? ⟨w.heap.size, 2, none⟩ = some (.int .i64 pt) ∧ w'.cell? ⟨w.heap.size, 3, none⟩ = some (.int .i64 pa)) (late := []) (by kernel_rfl) (KC.out _ ((Below.refl _ _).drew)) (fun hH => ?_)
      (try simp only [nr, Nat.reduceAdd])
      refine tkA 0 hH ?_; simp only [nm]; refine tkA 1 hH ?_; simp only [nm]; refine tkA 2 hH ?_; simp only [nm]; refine tkA 3 hH ?_; simp only [nm]; refine tkA 4 hH ?_; simp only [nm]; refine tkA 5 hH ?_; simp only [nm]; refine tkA 6 hH ?_; simp only [nm]; refine tkA 7 hH ?_; simp only [nm]; refine tkA 8 hH ?_; simp only [nm]; refine tkA 9 hH ?_; simp only [nm]; refine tkA 10 hH ?_; simp only [nm]; refine tkA 11 hH ?_; simp only [nm]; refine tkA 12 hH ?_; simp only [nm]; refine tkA 13 hH ?_; simp only [nm]; refine tkA 14 hH ?_; simp only [nm]; refine tkA 15 hH ?_; simp only [nm]
      refine tkO 16 fun K hK => ?_
      go_simp
      go_at_call 51
      refine (HOV.out _).mono ?_
      rintro e w4 ⟨rfl, b4⟩
      have B4 : Hid (Below wr.heap.size wr w4) := (show Below _ _ _ from ((Below.refl _ _).drew).trans b4)
      refine hK.out _ _ (KC.out _ B4.out) (fun hH => ?_)
      clear hK K b4
      (try simp only [nm])
      refine tkO 17 fun K hK => ?_
      go_simp
      refine hK.out _ _ (KC.out _ B4.out) (fun hH => ?_)
      clear hK K
      (try simp only [nm])
      refine wpAnyM_done (by kernel_rfl) ?_ _
      have HM4 := hide (HM.out.below B4.out)
      obtain ⟨a0, a1, a2, a3, a4, a5, a6, a7⟩ := KC.out _ B4.out
      have HB9 := hide (below_box w4 (.cells #[.int .i64 yk, .int .i64 yf, .int .i64 yt, .int .i64 ya] 79))
      have HX9 := hide (seg_one (x := ⟨yk, yf, yt, ya⟩) (BoxT.new 79 w4 #[.int .i64 yk, .int .i64 yf, .int .i64 yt, .int .i64 ya]))
      have HM9 := hide (HM4.out.below HB9.out)
      have HZ9 : Hid (w.heap.size + 1 ≤ (w4.alloc (.cells #[.int .i64 yk, .int .i64 yf, .int .i64 yt, .int .i64 ya] 79)).heap.size) := (show _ ≤ _ from HM9.out.box.lt)
      go_wp2_with (first | (at_builtin; refine app_segL Tryz.infoPn Tryz.underlying47 rfl (by decide) (by decide) Pn.cs_len Pn.cs_one rfl _ _ rfl (w.heap.size + 1) (.slice ra rest.length rc) rest rfl HM9.out.own _ _ [⟨yk, yf, yt, ya⟩] rfl HX9.out (by have := HRL.out; simp; omega) HZ9.out ?_; intro v9 w9 h9 g9 k9; have HM10 := hide (HM9.out.app h9 g9 k9); obtain ⟨va9, vc9, rfl⟩ := h9.shape; clear h9 g9 k9) | fail)
      go_roundg gi
      case rel => exact ⟨i + 1, rest ++ [⟨yk, yf, yt, ya⟩], ⟨yk, pf, pt, pa⟩, met, by go_num, by omega, by omega, rfl, (show MI _ _ _ _ _ _ _ by have h := HM10.out; simp only [List.length_append, List.length_cons, List.length_nil, Nat.zero_add] at h; exact h), HMP2⟩
      case measure => omega
     ·have HMP2 := hide (HMP.out.met HY.out (mt_symm (HMT.out.1 rfl)))
      go_wp2_with fail
      refine wp_region_M (S := fun w' => w'.cell? ⟨nb, no + i * 4, none⟩ = some (.int .i64 yk) ∧ w'.cell? ⟨nb, no + i * 4 + 1, none⟩ = some (.int .i64 yf) ∧ w'.cell? ⟨nb, no + i * 4 + 2, none⟩ = some (.int .i64 yt) ∧ w'.cell? ⟨nb, no + i * 4 + 3, none⟩ = some (.int .i64 ya) ∧ w'.cell? ⟨w.heap.size, 0, none⟩ = some (.int .i64 yk) ∧ w'.cell? ⟨w.heap.size, 1, none⟩ = some (.int .i64 pf) ∧ w'.cell? ⟨w.heap.size, 2, none⟩ = some (.int .i64 pt) ∧ w'.cell? ⟨w.heap.size, 3, none⟩ = some (.int .i64 pa)) (late := []) (by kernel_rfl) (KC.out _ ((Below.refl _ _).drew)) (fun hH => ?_)
      (try simp only [nr, Nat.reduceAdd])
      refine tkA 0 hH ?_; simp only [nm]; refine tkA 1 hH ?_; simp only [nm]; refine tkA 2 hH ?_; simp only [nm]; refine tkA 3 hH ?_; simp only [nm]; refine tkA 4 hH ?_; simp only [nm]; refine tkA 5 hH ?_; simp only [nm]; refine tkA 6 hH ?_; simp only [nm]; refine tkA 7 hH ?_; simp only [nm]; refine tkA 8 hH ?_; simp only [nm]; refine tkA 9 hH ?_; simp only [nm]; refine tkA 10 hH ?_; simp only [nm]; refine tkA 11 hH ?_; simp only [nm]; refine tkA 12 hH ?_; simp only [nm]; refine tkA 13 hH ?_; simp only [nm]; refine tkA 14 hH ?_; simp only [nm]; refine tkA 15 hH ?_; simp only [nm]
      refine tkO 16 fun K hK => ?_
      go_simp
      go_at_call 51
      refine (HOV.out _).mono ?_
      rintro e w4 ⟨rfl, b4⟩
      have B4 : Hid (Below wr.heap.size wr w4) := (show Below _ _ _ from ((Below.refl _ _).drew).trans b4)
      refine hK.out _ _ (KC.out _ B4.out) (fun hH => ?_)
      clear hK K b4
      (try simp only [nm])
      refine tkO 17 fun K hK => ?_
      go_simp
      refine hK.out _ _ (KC.out _ B4.out) (fun hH => ?_)
      clear hK K
      (try simp only [nm])
      refine wpAnyM_done (by kernel_rfl) ?_ _
      have HM4 := hide (HM.out.below B4.out)
      have KC4 : Hid (∀ w' : World, Below w4.heap.size w4 w' → w'.cell? ⟨nb, no + i * 4, none⟩ = some (.int .i64 yk) ∧ w'.cell? ⟨nb, no + i * 4 + 1, none⟩ = some (.int .i64 yf) ∧ w'.cell? ⟨nb, no + i * 4 + 2, none⟩ = some (.int .i64 yt) ∧ w'.cell? ⟨nb, no + i * 4 + 3, none⟩ = some (.int .i64 ya) ∧ w'.cell? ⟨w.heap.size, 0, none⟩ = some (.int .i64 yk) ∧ w'.cell? ⟨w.heap.size, 1, none⟩ = some (.int .i64 pf) ∧ w'.cell? ⟨w.heap.size, 2, none⟩ = some (.int .i64 pt) ∧ w'.cell? ⟨w.heap.size, 3, none⟩ = some (.int .i64 pa)) := (show ∀ w' : World, _ from fun w' h => KC.out _ (B4.out.trans (h.mono B4.out.size)))
      have bf := fun j => HM4.out.box.free j
      obtain ⟨a0, a1, a2, a3, a4, a5, a6, a7⟩ := KC4.out _ (Below.refl _ _)
      clear HMT HOV HMP KC hH HYF HPF
      go_wp2_with fail
      as_aux_lemma =>
      have HJP : Hid (jp (jn a) ⟨yk, pf, pt, pa⟩ ⟨yk, yf, yt, ya⟩ = ⟨yk, (min pf yf), (max pt yt), jn a pa ya⟩) := (show _ = _ from rfl)
      rw [HJP.out] at HMP2
      clear HJP
      obtain ⟨ja, hja⟩ : ∃ ja, jn a pa ya = ja := ⟨_, rfl⟩
      rw [hja] at HMP2
      have HMG : Hid (∀ W : World, Calls Tryz.prog 43 #[.int .i64 a, .int .i64 pa, .int .i64 ya] W fun e w' => e = .returned (.int .i64 ja) ∧ w' = W) := (show ∀ W : World, _ from fun W => by rw [← hja]; exact RMerge_any W a pa ya)
      clear hja
      refine wp_region_M (S := fun w' => w'.cell? ⟨nb, no + i * 4, none⟩ = some (.int .i64 yk) ∧ w'.cell? ⟨nb, no + i * 4 + 1, none⟩ = some (.int .i64 yf) ∧ w'.cell? ⟨nb, no + i * 4 + 2, none⟩ = some (.int .i64 yt) ∧ w'.cell? ⟨nb, no + i * 4 + 3, none⟩ = some (.int .i64 ya) ∧ w'.cell? ⟨w.heap.size, 0, none⟩ = some (.int .i64 yk) ∧ w'.cell? ⟨w.heap.size, 1, none⟩ = some (.int .i64 pf) ∧ w'.cell? ⟨w.heap.size, 2, none⟩ = some (.int .i64 pt) ∧ w'.cell? ⟨w.heap.size, 3, none⟩ = some (.int .i64 pa)) (late := [33]) (by kernel_rfl) (KC4.out _ ((Below.refl _ _).drew)) (fun hH => ?_)
      (try simp only [nr, Nat.reduceAdd])
      refine tkA 0 hH ?_; simp only [nm]; refine tkA 1 hH ?_; simp only [nm]; refine tkA 2 hH ?_; simp only [nm]; refine tkA 3 hH ?_; simp only [nm]; refine tkA 4 hH ?_; simp only [nm]; refine tkA 5 hH ?_; simp only [nm]; refine tkA 6 hH ?_; simp only [nm]; refine tkA 7 hH ?_; simp only [nm]; refine tkA 8 hH ?_; simp only [nm]; refine tkA 9 hH ?_; simp only [nm]; refine tkA 10 hH ?_; simp only [nm]; refine tkA 11 hH ?_; simp only [nm]; refine tkA 12 hH ?_; simp only [nm]; refine tkA 13 hH ?_; simp only [nm]; refine tkA 14 hH ?_; simp only [nm]; refine tkA 15 hH ?_; simp only [nm]; refine tkA 16 hH ?_; simp only [nm]; refine tkA 17 hH ?_; simp only [nm]; refine tkA 18 hH ?_; simp only [nm]; refine tkA 19 hH ?_; simp only [nm]; refine tkA 20 hH ?_; simp only [nm]; refine tkA 21 hH ?_; simp only [nm]; refine tkA 22 hH ?_; simp only [nm]; refine tkA 23 hH ?_; simp only [nm]; refine tkA 24 hH ?_; simp only [nm]; refine tkA 25 hH ?_; simp only [nm]; refine tkA 26 hH ?_; simp only [nm]; refine tkA 27 hH ?_; simp only [nm]; refine tkA 28 hH ?_; simp only [nm]; refine tkA 29 hH ?_; simp only [nm]; refine tkA 30 hH ?_; simp only [nm]
      refine tkO 31 fun K hK => ?_
      go_simp
      go_at_call 43
      refine (HMG.out _).mono ?_
      rintro e w5 ⟨rfl, e5⟩
      subst e5
      refine hK.out _ _ hH (fun hH => ?_)
      clear hK K
      (try simp only [nm])
      refine tkA 32 hH ?_; simp only [nm]
      refine wpAnyM_last (i := 33) (o := ⟨_, _, _, _, _, _⟩) (by kernel_rfl) (by kernel_rfl) rfl (fun K hK => ?_)
      go_simp
      refine hK.out _ _ ?_
      clear hK K
      refine wpAnyM_done (by kernel_rfl) ?_ _
      go_wp2_with fail
      go_roundg gi
      case rel => exact ⟨i + 1, rest, ⟨yk, (min pf yf), (max pt yt), ja⟩, true, by go_num, by omega, by omega, rfl, (show MI _ _ _ _ _ _ _ from HM4.out.drew_put ⟨yk, (min pf yf), (max pt yt), ja⟩), HMP2⟩
      case measure => omega
    ·as_aux_lemma =>
     have hkd : (yk == pk) = false := by simpa using hk
     have HMP2 := hide (HMP.out.past HY.out (fun h => hk h.1.symm))
     go_wp2_with fail
     refine wp_region_M (S := fun w' => w'.cell? ⟨nb, no + i * 4, none⟩ = some (.int .i64 yk) ∧ w'.cell? ⟨nb, no + i * 4 + 1, none⟩ = some (.int .i64 yf) ∧ w'.cell? ⟨nb, no + i * 4 + 2, none⟩ = some (.int .i64 yt) ∧ w'.cell? ⟨nb, no + i * 4 + 3, none⟩ = some (.int .i64 ya) ∧ w'.cell? ⟨w.heap.size, 0, none⟩ = some (.int .i64 pk) ∧ w'.cell? ⟨w.heap.size, 1, none⟩ = some (.int .i64 pf) ∧ w'.cell? ⟨w.heap.size, 2, none⟩ = some (.int .i64 pt) ∧ w'.cell? ⟨w.heap.size, 3, none⟩ = some (.int .i64 pa)) (late := []) (by kernel_rfl) (KC.out _ ((Below.refl _ _).drew)) (fun hH => ?_)
     (try simp only [nr, Nat.reduceAdd])
     refine tkA 0 hH ?_; simp only [nm]; refine tkA 1 hH ?_; simp only [nm]; refine tkA 2 hH ?_; simp only [nm]; refine tkA 3 hH ?_; simp only [nm]; refine tkA 4 hH ?_; simp only [nm]; refine tkA 5 hH ?_; simp only [nm]; refine tkA 6 hH ?_; simp only [nm]; refine tkA 7 hH ?_; simp only [nm]; refine tkA 8 hH ?_; simp only [nm]; refine tkU 9 hH ?_; simp only [nm]; refine tkU 10 hH ?_; simp only [nm]; refine tkU 11 hH ?_; simp only [nm]; refine tkU 12 hH ?_; simp only [nm]; refine tkU 13 hH ?_; simp only [nm]; refine tkU 14 hH ?_; simp only [nm]; refine tkU 15 hH ?_; simp only [nm]; refine tkU 16 hH ?_; simp only [nm]; refine tkA 17 hH ?_; simp only [nm]
     refine wpAnyM_done (by kernel_rfl) ?_ _
     generalize hw4 : wr.drew = w4 at *
     have B4 : Hid (Below wr.heap.size wr w4) := (show Below _ _ _ by rw [← hw4]; exact (Below.refl _ _).drew)
     have HM4 := hide (HM.out.below B4.out)
     obtain ⟨a0, a1, a2, a3, a4, a5, a6, a7⟩ := KC.out _ B4.out
     clear hw4 hH hk
     have HB9 := hide (below_box w4 (.cells #[.int .i64 yk, .int .i64 yf, .int .i64 yt, .int .i64 ya] 79))
     have HX9 := hide (seg_one (x := ⟨yk, yf, yt, ya⟩) (BoxT.new 79 w4 #[.int .i64 yk, .int .i64 yf, .int .i64 yt, .int .i64 ya]))
     have HM9 := hide (HM4.out.below HB9.out)
     have HZ9 : Hid (w.heap.size + 1 ≤ (w4.alloc (.cells #[.int .i64 yk, .int .i64 yf, .int .i64 yt, .int .i64 ya] 79)).heap.size) := (show _ ≤ _ from HM9.out.box.lt)
     go_wp2_with (first | (at_builtin; refine app_segL Tryz.infoPn Tryz.underlying47 rfl (by decide) (by decide) Pn.cs_len Pn.cs_one rfl _ _ rfl (w.heap.size + 1) (.slice ra rest.length rc) rest rfl HM9.out.own _ _ [⟨yk, yf, yt, ya⟩] rfl HX9.out (by have := HRL.out; simp; omega) HZ9.out ?_; intro v9 w9 h9 g9 k9; have HM10 := hide (HM9.out.app h9 g9 k9); obtain ⟨va9, vc9, rfl⟩ := h9.shape; clear h9 g9 k9) | fail)
     go_roundg gi
     case rel => exact ⟨i + 1, rest ++ [⟨yk, yf, yt, ya⟩], ⟨pk, pf, pt, pa⟩, met, by go_num, by omega, by omega, rfl, (show MI _ _ _ _ _ _ _ by have h := HM10.out; simp only [List.length_append, List.length_cons, List.length_nil, Nat.zero_add] at h; exact h), HMP2⟩
     case measure => omega
   ·obtain rfl : i = l.length := by omega
    have bt : ¬ ((l.length : Nat) : Int) < (l.length : Int) := by omega
    have HTU := hide HMP.out.turn
    cases met
    ·as_aux_lemma =>
     have HAP : Hid (Apart true l0 → Apart true (p :: rest)) := (show _ → _ from fun h => List.Pairwise.cons (HMP.out.no rfl) (List.Pairwise.sublist (HTU.out.1.trans GS.out) h))
     obtain ⟨c0, c1, c2, c3⟩ := box4 HM.out.box
     have HB9 := hide (below_box wr (.cells #[.int .i64 p.k, .int .i64 p.f, .int .i64 p.t, .int .i64 p.a] 79))
     have HX9 := hide (seg_one (x := p) (BoxT.new 79 wr #[.int .i64 p.k, .int .i64 p.f, .int .i64 p.t, .int .i64 p.a]))
     have HM9 := hide (HM.out.below HB9.out)
     have HZ9 : Hid (w.heap.size + 1 ≤ (wr.alloc (.cells #[.int .i64 p.k, .int .i64 p.f, .int .i64 p.t, .int .i64 p.a] 79)).heap.size) := (show _ ≤ _ from HM9.out.box.lt)
     have HPM : Hid (Reds true (jn a) (⟨qk, qf, qt, qa⟩ :: l0) (srt (rest ++ [p])) ∧ (Apart true l0 → Apart true (srt (rest ++ [p])))) := (show _ ∧ _ from ⟨HTU.out.2.perm (.refl _) ((srt_perm _).trans (List.perm_append_singleton p rest)).symm, fun h => (HAP.out h).perm ((srt_perm _).trans (List.perm_append_singleton p rest)).symm⟩)
     obtain ⟨pk, pf, pt, pa⟩ := p
     simp only at c0 c1 c2 c3 HB9 HX9 HM9 HZ9
     clear HMP HAP HTU
     go_wp2_with (first
      | (at_builtin; refine app_segL Tryz.infoPn Tryz.underlying47 rfl (by decide) (by decide) Pn.cs_len Pn.cs_one rfl _ _ rfl (w.heap.size + 1) (.slice ra rest.length rc) rest rfl HM9.out.own _ _ [⟨pk, pf, pt, pa⟩] rfl HX9.out (by have := HRL.out; simp; omega) HZ9.out ?_; intro v9 w9 h9 g9 k9; have HM10 := hide (HM9.out.app h9 g9 k9); have HLL : Hid ((rest ++ [(⟨pk, pf, pt, pa⟩ : Pn)]).length ≤ 60000) := (show _ ≤ _ by rw [List.length_append, List.length_singleton]; have := HRL.out; omega); have HSO := hide (rSort_any (h9.seg Pn.cs_len (by have := HLL.out; omega)) (by have := HLL.out; omega)); clear h9 g9 k9)
      | (go_at_call 22; refine HSO.out.mono ?_; rintro e w10 ⟨u10, rfl, o10, b10⟩; have O10 := hide o10; have B10 := hide b10; clear o10 b10)
      | fail)
     go_ret
     exact ⟨_, _, rfl, O10.out.mono HM10.out.bel.size, HM10.out.bel.trans (B10.out.mono HM10.out.bel.size), srt_rising _, HPM.out.1, HPM.out.2⟩
    ·as_aux_lemma =>
     have hy := HMP.out.yes rfl
     have HNX := hide (HM.out.next (by have := HRL.out; omega))
     have HFP2 := hide HMP.out.fp
     clear HMP HM
     go_wp2_with fail
     go_roundg go
     case rel => exact ⟨rest, p, by omega, HRL.out, HNX, (show Reds _ _ _ _ from HTU.out.2), (show List.Sublist _ _ from HTU.out.1.trans GS.out), HFP2⟩
     case measure => omega
end Go.Proofs.YtpcbhcdpegbfjaaGreat
