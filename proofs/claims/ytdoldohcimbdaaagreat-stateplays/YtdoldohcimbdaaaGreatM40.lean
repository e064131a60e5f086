/-
  Texts in build order: SRSort.
-/
import Derived.Test.YtdoldohcimbdaaaGreatM37
/-
  The document's less and Sort.
-/
namespace Go.Proofs.YtdoldohcimbdaaaGreat
open Go.RowKit

set_option maxHeartbeats 2000000 in
set_option maxRecDepth 100000 in
theorem rless_any (w : World) (x y : Pn) : Calls Tryz.prog 46 #[x.val, y.val] w fun e w' => e = .returned (.bool (!plb y x)) ∧ Below w.heap.size w w' := by
  have hb : ∀ b : Bool, ∀ p : Prop, (b = true ↔ p) → ∀ c : Bool, (c = true ↔ ¬ p) → b = !c := by intro b p h c h'; cases b <;> cases c <;> simp_all
  have HR : Hid (∀ b : Bool, (b = true ↔ ¬ (y.k < x.k ∨ (y.k = x.k ∧ (y.f < x.f ∨ (y.f = x.f ∧ (y.t < x.t ∨ (y.t = x.t ∧ y.a ≤ x.a))))))) → b = !plb y x) := fun b h => hb b _ h _ (by rw [Classical.not_not]; exact plb_iff)
  clear hb
  obtain ⟨xk, xf, xt, xa⟩ := x
  obtain ⟨yk, yf, yt, ya⟩ := y
  have HB := hide (below_box2 w (.cells #[.int .i64 xk, .int .i64 xf, .int .i64 xt, .int .i64 xa] 70) (.cells #[.int .i64 yk, .int .i64 yf, .int .i64 yt, .int .i64 ya] 70))
  simp only at HR
  generalize (!plb ⟨yk, yf, yt, ya⟩ ⟨xk, xf, xt, xa⟩) = R at *
  unfold Pn.val
  have ce1 : ∀ {a b : Int}, ¬ a = b → Hid (a ≠ b) := fun h => h
  by_cases h1 : xk = yk
  · subst h1
    by_cases h2 : xf = yf
    · subst h2
      by_cases h3 : xt = yt
      · subst h3
        go_enter Tryz.func46, Tryz.ntmps46
        go_wp2_with fail
        go_ret
        exact ⟨ret_bool (HR.out _ (by simp only [decide_eq_true_eq, true_and]; omega)), HB.out⟩
      · have hb3 : (xt != yt) = true := by simp [h3]
        have H3 := ce1 h3
        go_enter Tryz.func46, Tryz.ntmps46
        go_wp2_with fail
        go_ret
        exact ⟨ret_bool (HR.out _ (by have h9 := H3.out; simp only [decide_eq_true_eq, true_and]; omega)), HB.out⟩
    · have hb2 : (xf != yf) = true := by simp [h2]
      have H3 := ce1 h2
      go_enter Tryz.func46, Tryz.ntmps46
      go_wp2_with fail
      go_ret
      exact ⟨ret_bool (HR.out _ (by have h9 := H3.out; simp only [decide_eq_true_eq, true_and]; omega)), HB.out⟩
  · have hb1 : (xk != yk) = true := by simp [h1]
    have H3 := ce1 h1
    go_enter Tryz.func46, Tryz.ntmps46
    go_wp2_with fail
    go_ret
    exact ⟨ret_bool (HR.out _ (by have h9 := H3.out; simp only [decide_eq_true_eq]; omega)), HB.out⟩
theorem half_eq {lo hh m : Nat} (hm : m = (lo + hh) / 2) (h : hh ≤ 100000) (hlh : lo ≤ hh) : wrap64 (((lo : Int) + (hh : Int)).tdiv 2) = (m : Int) ∧ ((lo : Int) + (hh : Int)) / 2 = (m : Int) ∧ ((lo : Int) + (hh : Int)).tdiv 2 = (m : Int) := by
  have e2 : ((lo : Int) + (hh : Int)) / 2 = (m : Int) := by subst hm; omega
  have e3 : ((lo : Int) + (hh : Int)).tdiv 2 = (m : Int) := by rw [Int.tdiv_eq_ediv_of_nonneg (by omega)]; exact e2
  have hm2 : m ≤ 100000 := by omega
  refine ⟨?_, e2, e3⟩
  rw [e3]
  unfold wrap64; omega
/-- A list with one more at a place. -/
def hole (l : List Pn) (k : Nat) (z : Pn) : List Pn := l.take k ++ z :: l.drop k
theorem hole_len {l : List Pn} {k : Nat} (z : Pn) (h : k ≤ l.length) : (hole l k z).length = l.length + 1 := by
  simp [hole]; omega
theorem hole_end (l : List Pn) (z : Pn) : hole l l.length z = l ++ [z] := by simp [hole]
theorem hole_prev {l : List Pn} {q : Nat} {y : Pn} (z : Pn) (h : l[q]? = some y) : (hole l (q + 1) z)[q]? = some y := by
  have hl := lt_of_get h
  unfold hole
  rw [List.getElem?_append_left (by rw [List.length_take]; omega), List.getElem?_take, if_pos (by omega)]
  exact h
theorem hole_set {l : List Pn} {k : Nat} (z x : Pn) (h : k ≤ l.length) : (hole l k z).set k x = hole l k x := by
  unfold hole
  rw [List.set_append_right _ _ (by rw [List.length_take]; omega), List.length_take, show k - min k l.length = 0 by omega]
  rfl
theorem hole_down {l : List Pn} {q : Nat} {y : Pn} (h : l[q]? = some y) : hole l (q + 1) y = hole l q y := by
  unfold hole
  rw [take_snoc h, drop_at h, List.append_assoc]
  rfl
theorem hole_perm (l : List Pn) (k : Nat) (x : Pn) : (hole l k x).Perm (x :: l) := by
  unfold hole
  refine List.perm_middle.trans ?_
  rw [List.take_append_drop]
theorem hole_rising {l : List Pn} {k : Nat} {x : Pn} (hl : Rising l) (h1 : ∀ a y, a < k → l[a]? = some y → plb y x = true) (h2 : ∀ a y, k ≤ a → l[a]? = some y → plb x y = true) : Rising (hole l k x) := by
  unfold hole Rising
  rw [List.pairwise_append]
  have e := List.take_append_drop k l
  have hp : (l.take k ++ l.drop k).Pairwise fun x y => plb x y = true := by rw [e]; exact hl
  obtain ⟨p1, p2, p3⟩ := List.pairwise_append.1 hp
  have hx1 : ∀ y ∈ l.take k, plb y x = true := fun y hy => by
    obtain ⟨a, ha⟩ := List.getElem?_of_mem hy
    rw [List.getElem?_take] at ha
    split at ha
    · exact h1 a y (by assumption) ha
    · cases ha
  have hx2 : ∀ y ∈ l.drop k, plb x y = true := fun y hy => by
    obtain ⟨a, ha⟩ := List.getElem?_of_mem hy
    rw [List.getElem?_drop] at ha
    exact h2 _ y (by omega) ha
  refine ⟨p1, List.pairwise_cons.2 ⟨hx2, p2⟩, fun y hy z hz => ?_⟩
  rcases List.mem_cons.1 hz with rfl | hz
  · exact hx1 y hy
  · exact p3 y hy z hz
theorem rise_le {l : List Pn} (h : Rising l) {a b : Nat} {x y : Pn} (hab : a ≤ b) (hx : l[a]? = some x) (hy : l[b]? = some y) : plb x y = true := by
  rcases Nat.lt_or_eq_of_le hab with hlt | rfl
  · have ha := lt_of_get hx
    have hb := lt_of_get hy
    rw [List.getElem?_eq_getElem ha] at hx
    rw [List.getElem?_eq_getElem hb] at hy
    cases hx; cases hy
    exact List.pairwise_iff_getElem.1 h a b ha hb hlt
  · rw [hx] at hy; cases hy; rw [plb_iff]; omega
set_option maxHeartbeats 16000000 in
set_option maxRecDepth 100000 in
theorem rSort_any {w : World} {v : Value} {l : List Pn} (hl : LSeg 4 Pn.cs w.heap.size w v l) (hn : l.length ≤ 100000) : Calls Tryz.prog 19 #[v] w fun e w' => ∃ u, e = .returned u ∧ OwnL 70 4 Pn.cs w.heap.size w' u (srt l) ∧ Below w.heap.size w w' := by
  obtain ⟨ao, cap, rfl⟩ := hl.shapeOf
  have HL := hide hl
  clear hl
  go_enter Tryz.func19, Tryz.ntmps19
  go_wp2_with fail
  go_loopg [3, 4, 5, 6, 7, 8] (l.length + 1) (fun gh ov iv _ _ _ _ wr => ∃ i : Nat, iv = .int .i64 (i : Int) ∧ i ≤ l.length ∧ l.length + 1 ≤ gh + i ∧ Hid (OwnL 70 4 Pn.cs w.heap.size wr ov (srt (l.take i))) ∧ Hid (Below w.heap.size w wr))
  case atStart => exact ⟨0, rfl, by omega, by omega, hide (OwnL.nil _ _ _ _ _), Below.refl _ _⟩
  case round =>
    obtain ⟨i, rfl, hi, hg, GO, GB⟩ := hrel
    obtain ⟨go, rfl⟩ : ∃ go, gk = go + 1 := ⟨gk - 1, by omega⟩
    by_cases hlt : i < l.length
    · obtain ⟨x, hx⟩ := get_of_lt hlt
      have bt : (i : Int) < (l.length : Int) := by omega
      have HTS : Hid (∀ lo, lo ≤ (srt (l.take i)).length → (∀ a y, a < lo → (srt (l.take i))[a]? = some y → plb y x = true) → (∀ a y, lo ≤ a → (srt (l.take i))[a]? = some y → plb x y = true) → hole (srt (l.take i)) lo x = srt (l.take (i + 1))) := fun lo _ h1 h2 => by
        refine srt_of ((hole_perm _ _ _).trans ?_) (hole_rising (srt_rising _) h1 h2)
        rw [take_snoc hx]
        exact ((srt_perm _).cons x).trans (List.perm_append_singleton _ _).symm
      have HRI := hide (srt_rising (l.take i))
      have hol : (srt (l.take i)).length = i := by rw [srt_len, List.length_take]; omega
      generalize srt (l.take i) = o at *
      obtain ⟨oa, oc, rfl⟩ := GO.out.shape
      rw [hol] at GO ⊢
      obtain ⟨nb, no, rfl, nlt, _⟩ := (HL.out.below GB.out).pane hx
      have HX := hide hx
      clear hx
      obtain ⟨wo, rfl⟩ : ∃ wo, wo = wr := ⟨wr, rfl⟩
      go_wp2_with fail
      go_loopg [5, 6, 7] (i + 1) (fun gh lov hiv _ wr => ∃ lo hh : Nat, lov = .int .i64 (lo : Int) ∧ hiv = .int .i64 (hh : Int) ∧ lo ≤ hh ∧ hh ≤ i ∧ hh - lo + 1 ≤ gh ∧ Hid (∀ a y, a < lo → o[a]? = some y → plb y x = true) ∧ Hid (∀ a y, hh ≤ a → o[a]? = some y → plb x y = true) ∧ Hid (Below wo.heap.size wo wr))
      case atStart => exact ⟨0, i, rfl, rfl, by omega, by omega, by omega, (show ∀ a y, _ from fun a y h => by omega), (show ∀ a y, _ from fun a y h h' => by have := lt_of_get h'; omega), Below.refl _ _⟩
      case round =>
        obtain ⟨lo, hh, rfl, rfl, hlh, hhi, hgg, HLO, HHI, GQ⟩ := hrel
        obtain ⟨gi, rfl⟩ : ∃ gi, gk = gi + 1 := ⟨gk - 1, by omega⟩
        by_cases hll : lo < hh
        · have bl : (lo : Int) < (hh : Int) := by omega
          obtain ⟨m, hm⟩ : ∃ m, m = (lo + hh) / 2 := ⟨_, rfl⟩
          have hml : lo ≤ m := by omega
          have hmh : m < hh := by omega
          have HFM := hide (half_eq hm (show hh ≤ 100000 by omega) hlh)
          clear hm
          obtain ⟨y, hy⟩ := get_of_lt (show m < o.length by omega)
          have hbw := GB.out.trans (GQ.out.mono GB.out.size)
          obtain ⟨_, _, en, _, d0, d1, d2, d3⟩ := (HL.out.below hbw).pane HX.out
          cases en
          obtain ⟨og, oo, eo, _, e0, e1, e2, e3⟩ := ((GO.out.below GQ.out).seg Pn.cs_len (by omega)).pane hy
          obtain ⟨oo0, rfl⟩ : ∃ z, z = oo := ⟨oo, rfl⟩
          have ho0 : oo0 = 0 := by
            rcases GO.out.2 with ⟨e, _⟩ | ⟨g', c', cu', e, _⟩
            · rw [eo] at e; cases e
            · rw [eo] at e
              have := (Value.slice.inj e).1
              cases this; rfl
          subst ho0
          subst eo
          simp only [Nat.zero_add] at e0 e1 e2 e3
          have hnb : nb < wr.heap.size := Nat.lt_of_lt_of_le nlt hbw.size
          have hog : og < wr.heap.size := Nat.lt_of_lt_of_le (GO.out.lt og rfl) GQ.out.size
          have HLE := hide (fun W => rless_any W x y)
          have HYM := hide hy
          generalize hpb : plb y x = pb at HLE
          have HPB := hide hpb
          clear hpb hy
          have bm : (m : Int) < (i : Int) := by omega
          obtain ⟨xk, xf, xt, xa⟩ := x
          obtain ⟨yk, yf, yt, ya⟩ := y
          simp only at d0 d1 d2 d3 e0 e1 e2 e3
          unfold Pn.val at HLE
          have KC : Hid (∀ w' : World, Below (wr).heap.size (wr) w' → w'.cell? ⟨nb, no + i * 4, none⟩ = some (.int .i64 xk) ∧ w'.cell? ⟨nb, no + i * 4 + 1, none⟩ = some (.int .i64 xf) ∧ w'.cell? ⟨nb, no + i * 4 + 2, none⟩ = some (.int .i64 xt) ∧ w'.cell? ⟨nb, no + i * 4 + 3, none⟩ = some (.int .i64 xa) ∧ w'.cell? ⟨og, m * 4, none⟩ = some (.int .i64 yk) ∧ w'.cell? ⟨og, m * 4 + 1, none⟩ = some (.int .i64 yf) ∧ w'.cell? ⟨og, m * 4 + 2, none⟩ = some (.int .i64 yt) ∧ w'.cell? ⟨og, m * 4 + 3, none⟩ = some (.int .i64 ya)) := fun w' h => ⟨((h.cell (p := ⟨nb, no + i * 4, none⟩) hnb).trans d0), ((h.cell (p := ⟨nb, no + i * 4 + 1, none⟩) hnb).trans d1), ((h.cell (p := ⟨nb, no + i * 4 + 2, none⟩) hnb).trans d2), ((h.cell (p := ⟨nb, no + i * 4 + 3, none⟩) hnb).trans d3), ((h.cell (p := ⟨og, m * 4, none⟩) hog).trans e0), ((h.cell (p := ⟨og, m * 4 + 1, none⟩) hog).trans e1), ((h.cell (p := ⟨og, m * 4 + 2, none⟩) hog).trans e2), ((h.cell (p := ⟨og, m * 4 + 3, none⟩) hog).trans e3)⟩
          cases pb with
          | false =>
            simp only [Bool.not_false] at HLE
            have fm2 := HFM.out.2.1
            go_wp2_with fail
            clear fm2
            refine wp_region_M (S := fun w' => w'.cell? ⟨nb, no + i * 4, none⟩ = some (.int .i64 xk) ∧ w'.cell? ⟨nb, no + i * 4 + 1, none⟩ = some (.int .i64 xf) ∧ w'.cell? ⟨nb, no + i * 4 + 2, none⟩ = some (.int .i64 xt) ∧ w'.cell? ⟨nb, no + i * 4 + 3, none⟩ = some (.int .i64 xa) ∧ w'.cell? ⟨og, m * 4, none⟩ = some (.int .i64 yk) ∧ w'.cell? ⟨og, m * 4 + 1, none⟩ = some (.int .i64 yf) ∧ w'.cell? ⟨og, m * 4 + 2, none⟩ = some (.int .i64 yt) ∧ w'.cell? ⟨og, m * 4 + 3, none⟩ = some (.int .i64 ya)) (late := []) (by kernel_rfl) (KC.out _ ((Below.refl _ _).drew)) (fun hHeld => ?_)
            (try simp only [List.size_toArray, List.length_cons, List.length_nil, Nat.zero_add, Nat.reduceAdd, Array.replicate, List.replicate])
            refine wpAnyM_take (i := 0) (oi := ⟨_, _, _, _, _, _⟩) (v := ?_) rfl (by kernel_rfl) (by kernel_rfl) (by kernel_rfl) (by kernel_rfl) (fun _ _ _ h => h) (Or.inl ⟨by rfl, ?_⟩) hHeld ?_
            rotate_left
            · (intro w' hSw; (try dsimp only at hSw); go_simp; try (with_reducible rfl))
            (try simp only [Act.put, List.setIfInBounds_toArray, List.set_cons_zero, List.set_cons_succ])
            refine wpAnyM_take (i := 1) (oi := ⟨_, _, _, _, _, _⟩) (v := ?_) rfl (by kernel_rfl) (by kernel_rfl) (by kernel_rfl) (by kernel_rfl) (fun _ _ _ h => h) (Or.inl ⟨by rfl, ?_⟩) hHeld ?_
            rotate_left
            · (intro w' hSw; (try dsimp only at hSw); go_simp; try (with_reducible rfl))
            (try simp only [Act.put, List.setIfInBounds_toArray, List.set_cons_zero, List.set_cons_succ])
            refine wpAnyM_take (i := 2) (oi := ⟨_, _, _, _, _, _⟩) (v := ?_) rfl (by kernel_rfl) (by kernel_rfl) (by kernel_rfl) (by kernel_rfl) (fun _ _ _ h => h) (Or.inl ⟨by rfl, ?_⟩) hHeld ?_
            rotate_left
            · (intro w' hSw; (try dsimp only at hSw); go_simp; try (with_reducible rfl))
            (try simp only [Act.put, List.setIfInBounds_toArray, List.set_cons_zero, List.set_cons_succ])
            refine wpAnyM_take (i := 3) (oi := ⟨_, _, _, _, _, _⟩) (v := ?_) rfl (by kernel_rfl) (by kernel_rfl) (by kernel_rfl) (by kernel_rfl) (fun _ _ _ h => h) (Or.inl ⟨by rfl, ?_⟩) hHeld ?_
            rotate_left
            · (intro w' hSw; (try dsimp only at hSw); go_simp; try (with_reducible rfl))
            (try simp only [Act.put, List.setIfInBounds_toArray, List.set_cons_zero, List.set_cons_succ])
            refine wpAnyM_take (i := 4) (oi := ⟨_, _, _, _, _, _⟩) (v := ?_) rfl (by kernel_rfl) (by kernel_rfl) (by kernel_rfl) (by kernel_rfl) (fun _ _ _ h => h) (Or.inl ⟨by rfl, ?_⟩) hHeld ?_
            rotate_left
            · (intro w' hSw; (try dsimp only at hSw); go_simp; try (with_reducible rfl))
            (try simp only [Act.put, List.setIfInBounds_toArray, List.set_cons_zero, List.set_cons_succ])
            refine wpAnyM_take (i := 5) (oi := ⟨_, _, _, _, _, _⟩) (v := ?_) rfl (by kernel_rfl) (by kernel_rfl) (by kernel_rfl) (by kernel_rfl) (fun _ _ _ h => h) (Or.inl ⟨by rfl, ?_⟩) hHeld ?_
            rotate_left
            · (intro w' hSw; (try dsimp only at hSw); go_simp; try (with_reducible rfl))
            (try simp only [Act.put, List.setIfInBounds_toArray, List.set_cons_zero, List.set_cons_succ])
            refine wpAnyM_take (i := 6) (oi := ⟨_, _, _, _, _, _⟩) (v := ?_) rfl (by kernel_rfl) (by kernel_rfl) (by kernel_rfl) (by kernel_rfl) (fun _ _ _ h => h) (Or.inl ⟨by rfl, ?_⟩) hHeld ?_
            rotate_left
            · (intro w' hSw; (try dsimp only at hSw); go_simp; try (with_reducible rfl))
            (try simp only [Act.put, List.setIfInBounds_toArray, List.set_cons_zero, List.set_cons_succ])
            refine wpAnyM_take (i := 7) (oi := ⟨_, _, _, _, _, _⟩) (v := ?_) rfl (by kernel_rfl) (by kernel_rfl) (by kernel_rfl) (by kernel_rfl) (fun _ _ _ h => h) (Or.inl ⟨by rfl, ?_⟩) hHeld ?_
            rotate_left
            · (intro w' hSw; (try dsimp only at hSw); go_simp; try (with_reducible rfl))
            (try simp only [Act.put, List.setIfInBounds_toArray, List.set_cons_zero, List.set_cons_succ])
            refine wpAnyM_one (i := 8) (o := ⟨_, _, _, _, _, _⟩) (by kernel_rfl) rfl (fun K hK => ?_)
            go_simp
            go_at_call 46
            refine (HLE.out _).mono ?_
            rintro e w4 ⟨rfl, b4⟩
            have B4 : Hid (Below wr.heap.size wr w4) := ((Below.refl _ _).drew).trans b4
            refine hK.out _ _ (KC.out _ B4.out) (fun hHeld => ?_)
            clear hK K b4
            (try simp only [List.setIfInBounds_toArray, List.set_cons_zero, List.set_cons_succ])
            refine wpAnyM_done (by kernel_rfl) ?_ _
            go_wp2_with fail
            go_roundg gi
            case rel =>
              refine ⟨lo, m, rfl, rfl, by omega, by omega, by omega, HLO, (show ∀ a y, _ from fun a y ha hy => ?_), hide (GQ.out.trans (B4.out.mono GQ.out.size))⟩
              exact plb_trans (plb_total (by rw [HPB.out]; decide)) (rise_le HRI.out ha HYM.out hy)
            case measure => omega
          | true =>
            simp only [Bool.not_true] at HLE
            have fm2 := HFM.out.2.1
            go_wp2_with fail
            clear fm2
            refine wp_region_M (S := fun w' => w'.cell? ⟨nb, no + i * 4, none⟩ = some (.int .i64 xk) ∧ w'.cell? ⟨nb, no + i * 4 + 1, none⟩ = some (.int .i64 xf) ∧ w'.cell? ⟨nb, no + i * 4 + 2, none⟩ = some (.int .i64 xt) ∧ w'.cell? ⟨nb, no + i * 4 + 3, none⟩ = some (.int .i64 xa) ∧ w'.cell? ⟨og, m * 4, none⟩ = some (.int .i64 yk) ∧ w'.cell? ⟨og, m * 4 + 1, none⟩ = some (.int .i64 yf) ∧ w'.cell? ⟨og, m * 4 + 2, none⟩ = some (.int .i64 yt) ∧ w'.cell? ⟨og, m * 4 + 3, none⟩ = some (.int .i64 ya)) (late := []) (by kernel_rfl) (KC.out _ ((Below.refl _ _).drew)) (fun hHeld => ?_)
            (try simp only [List.size_toArray, List.length_cons, List.length_nil, Nat.zero_add, Nat.reduceAdd, Array.replicate, List.replicate])
            refine wpAnyM_take (i := 0) (oi := ⟨_, _, _, _, _, _⟩) (v := ?_) rfl (by kernel_rfl) (by kernel_rfl) (by kernel_rfl) (by kernel_rfl) (fun _ _ _ h => h) (Or.inl ⟨by rfl, ?_⟩) hHeld ?_
            rotate_left
            · (intro w' hSw; (try dsimp only at hSw); go_simp; try (with_reducible rfl))
            (try simp only [Act.put, List.setIfInBounds_toArray, List.set_cons_zero, List.set_cons_succ])
            refine wpAnyM_take (i := 1) (oi := ⟨_, _, _, _, _, _⟩) (v := ?_) rfl (by kernel_rfl) (by kernel_rfl) (by kernel_rfl) (by kernel_rfl) (fun _ _ _ h => h) (Or.inl ⟨by rfl, ?_⟩) hHeld ?_
            rotate_left
            · (intro w' hSw; (try dsimp only at hSw); go_simp; try (with_reducible rfl))
            (try simp only [Act.put, List.setIfInBounds_toArray, List.set_cons_zero, List.set_cons_succ])
            refine wpAnyM_take (i := 2) (oi := ⟨_, _, _, _, _, _⟩) (v := ?_) rfl (by kernel_rfl) (by kernel_rfl) (by kernel_rfl) (by kernel_rfl) (fun _ _ _ h => h) (Or.inl ⟨by rfl, ?_⟩) hHeld ?_
            rotate_left
            · (intro w' hSw; (try dsimp only at hSw); go_simp; try (with_reducible rfl))
            (try simp only [Act.put, List.setIfInBounds_toArray, List.set_cons_zero, List.set_cons_succ])
            refine wpAnyM_take (i := 3) (oi := ⟨_, _, _, _, _, _⟩) (v := ?_) rfl (by kernel_rfl) (by kernel_rfl) (by kernel_rfl) (by kernel_rfl) (fun _ _ _ h => h) (Or.inl ⟨by rfl, ?_⟩) hHeld ?_
            rotate_left
            · (intro w' hSw; (try dsimp only at hSw); go_simp; try (with_reducible rfl))
            (try simp only [Act.put, List.setIfInBounds_toArray, List.set_cons_zero, List.set_cons_succ])
            refine wpAnyM_take (i := 4) (oi := ⟨_, _, _, _, _, _⟩) (v := ?_) rfl (by kernel_rfl) (by kernel_rfl) (by kernel_rfl) (by kernel_rfl) (fun _ _ _ h => h) (Or.inl ⟨by rfl, ?_⟩) hHeld ?_
            rotate_left
            · (intro w' hSw; (try dsimp only at hSw); go_simp; try (with_reducible rfl))
            (try simp only [Act.put, List.setIfInBounds_toArray, List.set_cons_zero, List.set_cons_succ])
            refine wpAnyM_take (i := 5) (oi := ⟨_, _, _, _, _, _⟩) (v := ?_) rfl (by kernel_rfl) (by kernel_rfl) (by kernel_rfl) (by kernel_rfl) (fun _ _ _ h => h) (Or.inl ⟨by rfl, ?_⟩) hHeld ?_
            rotate_left
            · (intro w' hSw; (try dsimp only at hSw); go_simp; try (with_reducible rfl))
            (try simp only [Act.put, List.setIfInBounds_toArray, List.set_cons_zero, List.set_cons_succ])
            refine wpAnyM_take (i := 6) (oi := ⟨_, _, _, _, _, _⟩) (v := ?_) rfl (by kernel_rfl) (by kernel_rfl) (by kernel_rfl) (by kernel_rfl) (fun _ _ _ h => h) (Or.inl ⟨by rfl, ?_⟩) hHeld ?_
            rotate_left
            · (intro w' hSw; (try dsimp only at hSw); go_simp; try (with_reducible rfl))
            (try simp only [Act.put, List.setIfInBounds_toArray, List.set_cons_zero, List.set_cons_succ])
            refine wpAnyM_take (i := 7) (oi := ⟨_, _, _, _, _, _⟩) (v := ?_) rfl (by kernel_rfl) (by kernel_rfl) (by kernel_rfl) (by kernel_rfl) (fun _ _ _ h => h) (Or.inl ⟨by rfl, ?_⟩) hHeld ?_
            rotate_left
            · (intro w' hSw; (try dsimp only at hSw); go_simp; try (with_reducible rfl))
            (try simp only [Act.put, List.setIfInBounds_toArray, List.set_cons_zero, List.set_cons_succ])
            refine wpAnyM_one (i := 8) (o := ⟨_, _, _, _, _, _⟩) (by kernel_rfl) rfl (fun K hK => ?_)
            go_simp
            go_at_call 46
            refine (HLE.out _).mono ?_
            rintro e w4 ⟨rfl, b4⟩
            have B4 : Hid (Below wr.heap.size wr w4) := ((Below.refl _ _).drew).trans b4
            refine hK.out _ _ (KC.out _ B4.out) (fun hHeld => ?_)
            clear hK K b4
            (try simp only [List.setIfInBounds_toArray, List.set_cons_zero, List.set_cons_succ])
            refine wpAnyM_done (by kernel_rfl) ?_ _
            go_wp2_with fail
            go_roundg gi
            case rel =>
              refine ⟨m + 1, hh, by go_num, rfl, by omega, by omega, by omega, (show ∀ a y, _ from fun a y ha hy => ?_), HHI, hide (GQ.out.trans (B4.out.mono GQ.out.size))⟩
              exact plb_trans (rise_le HRI.out (by omega) hy HYM.out) HPB.out
            case measure => omega
        · have bl : ¬ (lo : Int) < (hh : Int) := by omega
          obtain rfl : lo = hh := by omega
          have HOS := hide (HTS.out lo (by omega) HLO.out HHI.out)
          have hbq := GB.out.trans (GQ.out.mono GB.out.size)
          have hbx := below_box wr (.cells #[.int .i64 0, .int .i64 0, .int .i64 0, .int .i64 0] 70)
          have HO2 := hide ((GO.out.below GQ.out).below hbx)
          have HB2 := hide (hbq.trans (hbx.mono hbq.size))
          have HSZ := hide HB2.out.size
          have HL2 : Hid (o.length ≤ 1000000) := (show _ ≤ _ by omega)
          have HHE := hide (hole_end o ⟨0, 0, 0, 0⟩)
          rw [hol] at HHE
          clear hbx hbq
          go_wp2_with (at_builtin; refine app_L Tryz.infoPn Tryz.underlying44 rfl (by decide) (by decide) Pn.cs_len Pn.cs_one rfl _ _ rfl w.heap.size _ o rfl HO2.out _ _ (⟨0, 0, 0, 0⟩ : Pn) rfl (new4 wr rfl ⟨0, 0, 0, 0⟩) HL2.out HSZ.out ?_; intro v5 w5 h5 g5 k5; have H5 := hide h5; have HB5 := hide (HB2.out.grown g5 HSZ.out (fun k e => HO2.out.at k e)); obtain ⟨ga, gc, hgv⟩ := h5.shape; rw [List.length_append, hol] at hgv; simp only [List.length_cons, List.length_nil, Nat.zero_add] at hgv; clear h5 g5 k5; subst hgv)
          have hg5 : ∃ g, ga = some ⟨g, 0, none⟩ := by
            rcases H5.out.2 with ⟨e, h0⟩ | ⟨g, cap', cur, e, _⟩
            · have := (Value.slice.inj e).2.1; omega
            · exact ⟨g, (Value.slice.inj e).1⟩
          obtain ⟨g, rfl⟩ := hg5
          rw [← HHE.out] at H5
          have hbg := H5.out.at g rfl
          clear GO GQ HO2 HB2 HSZ HHE HLO HHI HTS
          go_loopg [8] (i + 1) (fun gh kv wx => ∃ (q : Nat) (z : Pn), kv = .int .i64 (q : Int) ∧ lo ≤ q ∧ q ≤ i ∧ q + 1 ≤ gh ∧ Hid (OwnL 70 4 Pn.cs w.heap.size wx (.slice (some ⟨g, 0, none⟩) (i + 1) gc) (hole o q z)) ∧ Hid (Below w.heap.size w wx))
          case atStart => exact ⟨i, _, by go_num, by omega, by omega, by omega, H5, HB5⟩
          case round =>
            obtain ⟨q, z, rfl, hq1, hq2, hgq, GH, GB2⟩ := hrel
            obtain ⟨gi2, rfl⟩ : ∃ gi, gk = gi + 1 := ⟨gk - 1, by omega⟩
            have hhl := hole_len z (show q ≤ o.length by omega)
            obtain ⟨cu, hcu⟩ := GH.out.has g rfl
            have hfr : ∀ j, wr.frozen? ⟨g, j, none⟩ = false := fun j => (show BoxT 70 wr g cu from hcu).free j
            clear hcu
            by_cases hql : lo < q
            · obtain ⟨p, rfl⟩ : ∃ p, q = p + 1 := ⟨q - 1, by omega⟩
              have bq : (lo : Int) < ((p + 1 : Nat) : Int) := by omega
              obtain ⟨y, hy⟩ := get_of_lt (show p < o.length by omega)
              obtain ⟨_, _, ep, _, e0, e1, e2, e3⟩ := (GH.out.seg Pn.cs_len (by omega)).pane (hole_prev z hy)
              cases ep
              obtain ⟨z', hz'⟩ := get_of_lt (show p + 1 < (hole o (p + 1) z).length by omega)
              obtain ⟨_, _, eq, _, f0, f1, f2, f3⟩ := (GH.out.seg Pn.cs_len (by omega)).pane hz'
              cases eq
              simp only [Nat.zero_add] at e0 e1 e2 e3 f0 f1 f2 f3
              have HSE := hide (GH.out.setAt Pn.cs_len (by decide) (show p + 1 < (hole o (p + 1) z).length by omega) y)
              rw [hole_set z y (by omega), hole_down hy] at HSE
              have HBS := hide (GB2.out.grown (grown_setCells g y.cs wr ((p + 1) * 4)) GB2.out.size (fun k e => by cases e; exact hbg))
              have eq1 : (((p + 1 : Nat)) : Int) - 1 = (p : Int) := by omega
              have bp : (p : Int) < (i : Int) + 1 := by omega
              have bp2 : (p : Int) + 1 < (i : Int) + 1 := by omega
              clear hy hz'
              obtain ⟨yk, yf, yt, ya⟩ := y
              simp only at e0 e1 e2 e3
              go_wp2_with fail
              go_roundg gi2
              case rel => exact ⟨p, _, by go_num, by omega, by omega, by omega, HSE, HBS⟩
              case measure => omega
            · obtain rfl : q = lo := by omega
              have bq : ¬ (q : Int) < (q : Int) := by omega
              obtain ⟨_, _, en, _, d0, d1, d2, d3⟩ := (HL.out.below GB2.out).pane HX.out
              cases en
              obtain ⟨z', hz'⟩ := get_of_lt (show q < (hole o q z).length by omega)
              obtain ⟨_, _, eq, _, f0, f1, f2, f3⟩ := (GH.out.seg Pn.cs_len (by omega)).pane hz'
              cases eq
              simp only [Nat.zero_add] at f0 f1 f2 f3
              have HSE := hide (GH.out.setAt Pn.cs_len (by decide) (show q < (hole o q z).length by omega) x)
              rw [hole_set z x (by omega), HOS.out] at HSE
              have HBS := hide (GB2.out.grown (grown_setCells g x.cs wr (q * 4)) GB2.out.size (fun k e => by cases e; exact hbg))
              have bp2 : (q : Int) < (i : Int) + 1 := by omega
              clear hz'
              obtain ⟨xk, xf, xt, xa⟩ := x
              simp only at d0 d1 d2 d3
              go_wp2_with fail
              go_roundg go
              case rel => exact ⟨i + 1, by go_num, by omega, by omega, HSE, HBS⟩
              case measure => omega
    · have bt : ¬ (i : Int) < (l.length : Int) := by omega
      have hT : l.take i = l := List.take_of_length_le (by omega)
      rw [hT] at GO
      go_wp2_with fail
      go_ret
      exact ⟨_, rfl, GO.out, GB.out⟩
end Go.Proofs.YtdoldohcimbdaaaGreat
