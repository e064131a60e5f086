/-
  SinkPlays.
-/
import Derived.Test.YteafnohponbbeaaKPair
import Derived.Test.YteafnohponbbeaaKLawP
namespace Go.Proofs.Yteafnohponbbeaa
open Go.RowKit

/-- Another thing at one place of a row of one's own. -/
theorem OwnL.setAt {α : Type} {t sz : Nat} {cs : α → List Value} (hcs : ∀ x, (cs x).length = sz) (hs : 0 < sz) {base : Nat} {w : World} {g n cap : Nat} {l : List α} (h : OwnL t sz cs base w (.slice (some ⟨g, 0, none⟩) n cap) l) {i : Nat} (hi : i < l.length) (x : α) : OwnL t sz cs base (w.setCells g (i * sz) (cs x)) (.slice (some ⟨g, 0, none⟩) n cap) (l.set i x) := by
  rcases h.2 with ⟨e, _⟩ | ⟨g', cap', cur, e, h2, h3, h4, h5, h6, h7⟩
  · cases e
  · cases e
    have hb : BoxT t w g cur := h3
    have hfit : i * sz + sz ≤ cur.size := by
      have h8 : (i + 1) * sz ≤ cap * sz := Nat.mul_le_mul_right _ (by omega)
      rw [Nat.succ_mul] at h8
      omega
    refine ⟨flat_size hcs _, .inr ⟨g, cap, setL cur (i * sz) (cs x), by simp, h2, hb.setCells (cs x), by simpa using h4, h5, by rw [setL_size]; exact h6, ?_⟩⟩
    apply List.ext_getElem?
    intro q
    rw [List.getElem?_take, List.length_set]
    by_cases hq : q < l.length * sz
    · rw [if_pos hq, Array.getElem?_toList]
      have hq4 : q / sz < l.length := (Nat.div_lt_iff_lt_mul hs).2 hq
      have hm : q % sz < sz := Nat.mod_lt _ hs
      have hdm : q / sz * sz + q % sz = q := by rw [Nat.mul_comm]; exact Nat.div_add_mod q sz
      by_cases hqi : q / sz = i
      · have hx : (l.set i x)[q / sz]? = some x := by rw [hqi, List.getElem?_set_self hi]
        obtain ⟨u, hu⟩ := get_of_lt (show q % sz < (cs x).length by rw [hcs]; exact hm)
        have h9 := flat_get hcs _ (q / sz) (q % sz) _ u hx hu
        rw [hdm] at h9
        rw [h9]
        have h10 := setL_in (cs x) cur (i * sz) (q % sz) u (by rw [hcs]; exact hfit) hu
        rw [← hqi, hdm, hqi] at h10
        exact h10
      · obtain ⟨y, hy⟩ := get_of_lt hq4
        have hx : (l.set i x)[q / sz]? = some y := by rw [List.getElem?_set_ne (fun e => hqi e.symm)]; exact hy
        obtain ⟨u, hu⟩ := get_of_lt (show q % sz < (cs y).length by rw [hcs]; exact hm)
        have h9 := flat_get hcs _ (q / sz) (q % sz) _ u hx hu
        rw [hdm] at h9
        have hout : q < i * sz ∨ i * sz + (cs x).length ≤ q := by
          rw [hcs]
          rcases Nat.lt_or_gt_of_ne hqi with hlt | hgt
          · have : (q / sz + 1) * sz ≤ i * sz := Nat.mul_le_mul_right _ hlt
            rw [Nat.succ_mul] at this; omega
          · have : (i + 1) * sz ≤ q / sz * sz := Nat.mul_le_mul_right _ hgt
            rw [Nat.succ_mul] at this; omega
        rw [h9, setL_out _ _ _ _ hout]
        have h8 := flat_get hcs l (q / sz) (q % sz) y u hy hu
        rw [← h7, List.getElem?_take] at h8
        split at h8
        · rw [hdm] at h8; simpa using h8
        · cases h8
    · rw [if_neg hq, List.getElem?_eq_none (by rw [flat_size hcs, List.length_set]; omega)]
set_option maxHeartbeats 4000000 in
set_option maxRecDepth 100000 in
theorem SinkPlays_walk {w : World} {v : Value} {l : List Stp} (hl : StsIn w.heap.size w v l) :
    Calls Try.prog 3 #[v] w fun e w' => e = .returned (.bool true) ∧ Below w.heap.size w w' := by
  obtain ⟨ao, cap, rfl⟩ := hl.seg.shapeOf
  have HL := hide hl
  have HKN := hide (known_any w)
  have HLT : Hid (∀ w', Below w.heap.size w w' → Calls Try.prog 9 #[.slice ao l.length cap] w' fun e w'' => LtP e l ∧ w'' = w') := fun w' hb => light_any (hl.below hb)
  clear hl
  go_enter Try.func3, Try.ntmps3
  go_wp2_with (first | (go_at_call 8; refine HKN.out.mono ?_; rintro e w1 ⟨rfl, b1⟩; have B1 := hide b1; clear b1) | (go_at_call 9; refine (HLT.out _ B1.out).mono ?_; rintro e w2 ⟨⟨b, rfl, hb⟩, rfl⟩; have HB := hide hb; clear hb; cases b) | (go_at_call 10; refine (KW.new _).mono ?_; rintro e w3 ⟨la, rfl, k1⟩; have G0 := hide (GP.start B1.out k1); clear k1) | fail)
  · go_ret
    exact ⟨rfl, B1.out⟩
  have HLQ := hide (HB.out trivial)
  clear HB HKN HLT B1
  have hl2 : l.length ≤ 200 := HLQ.out.1
  go_loopg [5, 6, 7, 8, 9, 10] (l.length + 1) (fun gh iv xv ev fv nv kv wr => ∃ (i : Nat) (f : Int → PS) (o : List (List Rc)) (d : List Dp), iv = .int .i64 (i : Int) ∧ i ≤ l.length ∧ l.length + 1 ≤ gh + i ∧ Hid (Sim f d ∧ dw d ≤ stW (l.take i)) ∧ Hid (GP w wr la w3.heap.size f o (stW (l.take i)) d o.flatten (.slice none 0 0) [] none))
  case atStart => exact ⟨0, F0, [], [], rfl, by omega, by omega, ⟨Sim.start, Nat.zero_le _⟩, G0⟩
  case round =>
    clear G0
    obtain ⟨i, f, o, d, rfl, hi, hg, HS, HG⟩ := hrel
    obtain ⟨go, rfl⟩ : ∃ go, gk = go + 1 := ⟨gk - 1, by omega⟩
    by_cases hlt : i < l.length
    · obtain ⟨x, hx⟩ := get_of_lt hlt
      have bt : (i : Int) < (l.length : Int) := by omega
      have HL2 := HL.out.below HG.out.world
      obtain ⟨nb, no, rfl, nlt, e0, e1, e2, e3⟩ := HL2.seg.stp hx
      have HXO := hide (HL.out.ok x (List.mem_of_getElem? hx))
      have HSW := hide (stW_snoc hx)
      have HWB : Hid (stW (l.take (i + 1)) ≤ 3000) := (show _ ≤ _ by
        have h1 := HLQ.out.2
        have h2 : stW l = stW (l.take (i + 1)) + stW (l.drop (i + 1)) := by unfold stW; rw [← List.sum_append, ← List.map_append, List.take_append_drop]
        omega)
      obtain ⟨xw, hxw⟩ : ∃ xw, x.wh = xw := ⟨_, rfl⟩
      obtain ⟨xp, hxp⟩ : ∃ xp, x.pa = xp := ⟨_, rfl⟩
      obtain ⟨xn, hxn⟩ : ∃ xn, x.n = xn := ⟨_, rfl⟩
      obtain ⟨xa, hxa⟩ : ∃ xa, x.a = xa := ⟨_, rfl⟩
      obtain ⟨xc, hxc⟩ : ∃ xc, x.c = xc := ⟨_, rfl⟩
      obtain ⟨xl, hxl⟩ : ∃ xl, x.rs.length = xl := ⟨_, rfl⟩
      have hxv : x.v = .slice xa xl xc := by unfold Stp.v; rw [hxa, hxl, hxc]
      rw [hxw] at e0
      rw [hxp] at e1
      rw [hxn] at e2
      rw [hxv] at e3
      have HXW := hide hxw
      have HXP := hide hxp
      have HXN := hide hxn
      have HXV := hide hxv
      have HG2 := hide (HG.out.box #[.int .i64 xw, .int .i64 xp, .int .u64 (xn : Int), .slice xa xl xc])
      have HXL := hide hxl
      clear hx hxw hxp hxn hxv hxa hxc hxl HL2 nlt
      go_upto_block 2 with fail
      have HRS : Hid (∀ w', Below w.heap.size w w' → LSeg 3 Rc.cs w.heap.size w' (.slice xa xl xc) x.rs) := fun w' hb => by
        rw [← HXV.out]
        exact HXO.out.rs.below hb
      have HPA : Hid (In64 xp) := (show In64 _ by rw [← HXP.out]; exact HXO.out.pa)
      have HRL : Hid (x.rs.length ≤ 3000 ∧ stW (l.take i) + x.rs.length + 1 = stW (l.take (i + 1)) ∧ stW (l.take (i + 1)) ≤ 3000) := ⟨by have := HWB.out; have := HSW.out; omega, by have := HSW.out; omega, HWB.out⟩
      obtain ⟨W0, hW0⟩ : ∃ W0, stW (l.take i) = W0 := ⟨_, rfl⟩
      obtain ⟨W3, hW3⟩ : ∃ W3, stW (l.take (i + 1)) = W3 := ⟨_, rfl⟩
      rw [hW0] at HG2 HRL HS
      rw [hW3] at HRL
      have HW3 := hide hW3
      clear hW0 hW3 HWB HSW HG
      clear HXO HLQ
      have HD0 : Hid (dw d ≤ W0 ∧ W0 ≤ 3000) := ⟨HS.out.2, by have := HRL.out; omega⟩
      have HSM := hide HS.out.1
      clear HS
      obtain ⟨z0, z1, z2, z3⟩ := HG2.out.cells.cells4
      obtain ⟨wo, hwo⟩ : ∃ wo : World, wo = wr := ⟨_, rfl⟩
      go_cut [7, 8, 9, 10] from 31 to 91 (fun ev fv nv kv wx => ∃ (a : Int) (f' : Int → PS) (o' : List (List Rc)) (d' : List Dp), ev = .int .i64 a ∧ fv = .int .i64 a ∧ Hid (Sim f' d' ∧ dw d' ≤ W3) ∧ Hid (GP w wx la w3.heap.size f' o' W3 d' o'.flatten (.slice none 0 0) [] (some (wr.heap.size, #[.int .i64 xw, .int .i64 xp, .int .u64 (xn : Int), .slice xa xl xc]))))
      case first =>
        clear hwo
        by_cases h012 : xw = 0 ∨ xw = 1 ∨ xw = 2
        · rcases h012 with rfl | rfl | rfl
          · go_upto_region 16 with (first | (at_builtin; refine app_segL Try.infoRc Try.underlying29 rfl (by decide) (by decide) Rc.cs_len Rc.cs_one rfl _ _ rfl (wr.alloc (.cells #[.int .i64 0, .int .i64 xp, .int .u64 (xn : Int), .slice xa xl xc] 34)).heap.size (.slice none 0 0) [] rfl (OwnL.nil _ _ _ _ _) w.heap.size _ x.rs rfl (HRS.out _ HG2.out.world) (by have := HRL.out.1; simp; omega) (Nat.le_refl _) ?_; intro v4 w4 h4 g4 k4; rw [List.nil_append] at h4; have HG3 := hide (HG2.out.rows ((Below.refl _ _).grown g4 (Nat.le_refl _) (fun g e => by cases e)) h4); clear h4 g4 k4 HG2 z0 z1 z2 z3) | fail)
            have HG3d := hide (HG3.out.below (Below.refl _ _).drew)
            refine wp_region_M (S := fun w' => w'.cell? ⟨wr.heap.size, 0, none⟩ = some (.int .i64 0) ∧ w'.cell? ⟨wr.heap.size, 1, none⟩ = some (.int .i64 xp) ∧ w'.cell? ⟨wr.heap.size, 2, none⟩ = some (.int .u64 (xn : Int)) ∧ w'.cell? ⟨wr.heap.size, 3, none⟩ = some (.slice xa xl xc)) (late := []) (by kernel_rfl) (HG3d.out.cells.cells4) (fun hHeld => ?_)
            (try simp only [List.size_toArray, List.length_cons, List.length_nil, Nat.zero_add, Nat.reduceAdd, Array.replicate, List.replicate])
            refine wpAnyM_take (i := 0) (oi := ⟨_, _, _, _, _, _⟩) (v := ?_) rfl (by kernel_rfl) (by kernel_rfl) (by kernel_rfl) (by kernel_rfl) (fun _ _ _ h => h) (Or.inl ⟨by rfl, ?_⟩) hHeld ?_
            rotate_left
            · (intro w' hSw; (try dsimp only at hSw); go_simp; try (with_reducible rfl))
            (try simp only [Act.put, List.setIfInBounds_toArray, List.set_cons_zero, List.set_cons_succ])
            refine wpAnyM_take (i := 1) (oi := ⟨_, _, _, _, _, _⟩) (v := ?_) rfl (by kernel_rfl) (by kernel_rfl) (by kernel_rfl) (by kernel_rfl) (fun _ _ _ h => h) (Or.inl ⟨by rfl, ?_⟩) hHeld ?_
            rotate_left
            · (intro w' hSw; (try dsimp only at hSw); go_simp; try (with_reducible rfl))
            (try simp only [Act.put, List.setIfInBounds_toArray, List.set_cons_zero, List.set_cons_succ])
            refine wpAnyM_take (i := 2) (oi := ⟨_, _, _, _, _, _⟩) (v := ?_) rfl (by kernel_rfl) (by kernel_rfl) (by kernel_rfl) (by kernel_rfl) (fun _ _ _ h => h) (Or.inl ⟨by rfl, ?_⟩) hHeld ?_
            rotate_left
            · (intro w' hSw; (try dsimp only at hSw); go_simp; try (with_reducible rfl))
            (try simp only [Act.put, List.setIfInBounds_toArray, List.set_cons_zero, List.set_cons_succ])
            refine wpAnyM_take (i := 3) (oi := ⟨_, _, _, _, _, _⟩) (v := ?_) rfl (by kernel_rfl) (by kernel_rfl) (by kernel_rfl) (by kernel_rfl) (fun _ _ _ h => h) (Or.inl ⟨by rfl, ?_⟩) hHeld ?_
            rotate_left
            · (intro w' hSw; (try dsimp only at hSw); go_simp; try (with_reducible rfl))
            (try simp only [Act.put, List.setIfInBounds_toArray, List.set_cons_zero, List.set_cons_succ])
            refine wpAnyM_take (i := 4) (oi := ⟨_, _, _, _, _, _⟩) (v := ?_) rfl (by kernel_rfl) (by kernel_rfl) (by kernel_rfl) (by kernel_rfl) (fun _ _ _ h => h) (Or.inl ⟨by rfl, ?_⟩) hHeld ?_
            rotate_left
            · (intro w' hSw; (try dsimp only at hSw); go_simp; try (with_reducible rfl))
            (try simp only [Act.put, List.setIfInBounds_toArray, List.set_cons_zero, List.set_cons_succ])
            refine wpAnyM_take (i := 5) (oi := ⟨_, _, _, _, _, _⟩) (v := ?_) rfl (by kernel_rfl) (by kernel_rfl) (by kernel_rfl) (by kernel_rfl) (fun _ _ _ h => h) (Or.inl ⟨by rfl, ?_⟩) hHeld ?_
            rotate_left
            · (intro w' hSw; (try dsimp only at hSw); go_simp; try (with_reducible rfl))
            (try simp only [Act.put, List.setIfInBounds_toArray, List.set_cons_zero, List.set_cons_succ])
            refine wpAnyM_take (i := 7) (oi := ⟨_, _, _, _, _, _⟩) (v := ?_) rfl (by kernel_rfl) (by kernel_rfl) (by kernel_rfl) (by kernel_rfl) (fun _ _ _ h => h) (Or.inl ⟨by rfl, ?_⟩) hHeld ?_
            rotate_left
            · (intro w' hSw; (try dsimp only at hSw); go_simp; try (with_reducible rfl))
            (try simp only [Act.put, List.setIfInBounds_toArray, List.set_cons_zero, List.set_cons_succ])
            refine wpAnyM_take (i := 8) (oi := ⟨_, _, _, _, _, _⟩) (v := ?_) rfl (by kernel_rfl) (by kernel_rfl) (by kernel_rfl) (by kernel_rfl) (fun _ _ _ h => h) (Or.inl ⟨by rfl, ?_⟩) hHeld ?_
            rotate_left
            · (intro w' hSw; (try dsimp only at hSw); go_simp; try (with_reducible rfl))
            (try simp only [Act.put, List.setIfInBounds_toArray, List.set_cons_zero, List.set_cons_succ])
            refine wpAnyM_take (i := 9) (oi := ⟨_, _, _, _, _, _⟩) (v := ?_) rfl (by kernel_rfl) (by kernel_rfl) (by kernel_rfl) (by kernel_rfl) (fun _ _ _ h => h) (Or.inl ⟨by rfl, ?_⟩) hHeld ?_
            rotate_left
            · (intro w' hSw; (try dsimp only at hSw); go_simp; try (with_reducible rfl))
            (try simp only [Act.put, List.setIfInBounds_toArray, List.set_cons_zero, List.set_cons_succ])
            refine wpAnyM_take (i := 10) (oi := ⟨_, _, _, _, _, _⟩) (v := ?_) rfl (by kernel_rfl) (by kernel_rfl) (by kernel_rfl) (by kernel_rfl) (fun _ _ _ h => h) (Or.inl ⟨by rfl, ?_⟩) hHeld ?_
            rotate_left
            · (intro w' hSw; (try dsimp only at hSw); go_simp; try (with_reducible rfl))
            (try simp only [Act.put, List.setIfInBounds_toArray, List.set_cons_zero, List.set_cons_succ])
            refine wpAnyM_take (i := 11) (oi := ⟨_, _, _, _, _, _⟩) (v := ?_) rfl (by kernel_rfl) (by kernel_rfl) (by kernel_rfl) (by kernel_rfl) (fun _ _ _ h => h) (Or.inl ⟨by rfl, ?_⟩) hHeld ?_
            rotate_left
            · (intro w' hSw; (try dsimp only at hSw); go_simp; try (with_reducible rfl))
            (try simp only [Act.put, List.setIfInBounds_toArray, List.set_cons_zero, List.set_cons_succ])
            refine wpAnyM_take (i := 12) (oi := ⟨_, _, _, _, _, _⟩) (v := ?_) rfl (by kernel_rfl) (by kernel_rfl) (by kernel_rfl) (by kernel_rfl) (fun _ _ _ h => h) (Or.inl ⟨by rfl, ?_⟩) hHeld ?_
            rotate_left
            · (intro w' hSw; (try dsimp only at hSw); go_simp; try (with_reducible rfl))
            (try simp only [Act.put, List.setIfInBounds_toArray, List.set_cons_zero, List.set_cons_succ])
            refine wpAnyM_take (i := 13) (oi := ⟨_, _, _, _, _, _⟩) (v := ?_) rfl (by kernel_rfl) (by kernel_rfl) (by kernel_rfl) (by kernel_rfl) (fun _ _ _ h => h) (Or.inl ⟨by rfl, ?_⟩) hHeld ?_
            rotate_left
            · (intro w' hSw; (try dsimp only at hSw); go_simp; try (with_reducible rfl))
            (try simp only [Act.put, List.setIfInBounds_toArray, List.set_cons_zero, List.set_cons_succ])
            refine wpAnyM_one (i := 6) (o := ⟨_, _, _, _, _, _⟩) (by kernel_rfl) rfl (fun K hK => ?_)
            go_simp
            go_at_call 11
            refine (HG3d.out.stageA (by have := HD0.out; omega) HPA.out xn (HG3d.out.row.seg Rc.cs_len (by have := HRL.out.1; omega)) (Nat.le_refl _) (by have := HRL.out.1; omega)).mono ?_
            rintro e w5 ⟨rfl, k5⟩
            have HG5 := hide k5
            clear k5
            refine hK.out _ _ (HG5.out.cells.cells4) (fun hHeld => ?_)
            clear hK K
            (try simp only [List.setIfInBounds_toArray, List.set_cons_zero, List.set_cons_succ])
            refine wpAnyM_one (i := 14) (o := ⟨_, _, _, _, _, _⟩) (by kernel_rfl) rfl (fun K hK => ?_)
            go_simp
            go_at_call 12
            refine (HG5.out.stageS HSM.out (by have := HD0.out; omega) xp xn (HRS.out _ HG5.out.world) HG5.out.world.size (by have := HRL.out.1; omega)).mono ?_
            rintro e w6 ⟨rfl, d6, s6, t6, k6⟩
            have HG6 := hide k6
            have HS6 := hide s6
            have HT6 := hide t6
            clear k6 s6 t6
            refine hK.out _ _ (HG6.out.cells.cells4) (fun hHeld => ?_)
            clear hK K
            (try simp only [List.setIfInBounds_toArray, List.set_cons_zero, List.set_cons_succ])
            refine wpAnyM_take (i := 15) (oi := ⟨_, _, _, _, _, _⟩) (v := ?_) rfl (by kernel_rfl) (by kernel_rfl) (by kernel_rfl) (by kernel_rfl) (fun _ _ _ h => h) (Or.inl ⟨by rfl, ?_⟩) hHeld ?_
            rotate_left
            · (intro w' hSw; (try dsimp only at hSw); go_simp; try (with_reducible rfl))
            (try simp only [Act.put, List.setIfInBounds_toArray, List.set_cons_zero, List.set_cons_succ])
            refine wpAnyM_take (i := 16) (oi := ⟨_, _, _, _, _, _⟩) (v := ?_) rfl (by kernel_rfl) (by kernel_rfl) (by kernel_rfl) (by kernel_rfl) (fun _ _ _ h => h) (Or.inl ⟨by rfl, ?_⟩) hHeld ?_
            rotate_left
            · (intro w' hSw; (try dsimp only at hSw); go_simp; try (with_reducible rfl))
            (try simp only [Act.put, List.setIfInBounds_toArray, List.set_cons_zero, List.set_cons_succ])
            refine wpAnyM_done (by kernel_rfl) ?_ _
            obtain ⟨va, vc, hv4⟩ := HG6.out.row.shape
            rw [HXL.out] at hv4
            subst hv4
            clear HG3 HG3d HG5
            obtain ⟨en, hen⟩ : ∃ en, stE f xp xn = en := ⟨_, rfl⟩
            rw [hen]
            clear hen
            go_wp2_with fail
            go_loopg [10] (xl + 1) (fun gh kv wr2 => ∃ (j : Nat) (l2 : List Rc), kv = .int .i64 (j : Int) ∧ j ≤ xl ∧ xl + 1 ≤ gh + j ∧ Hid (l2.length = xl) ∧ Hid (GP w wr2 la w3.heap.size (stF f xp xn x.rs) o (W0 + x.rs.length + 1) d6 o.flatten (.slice va xl vc) l2 (some (wr.heap.size, #[.int .i64 0, .int .i64 xp, .int .u64 (xn : Int), .slice xa xl xc]))))
            case atStart => exact ⟨0, x.rs, rfl, by omega, by omega, HXL, HG6⟩
            case round =>
              clear HG6
              obtain ⟨j, l2, rfl, hj, hgj, HL2, HJ⟩ := hrel
              obtain ⟨wr2, hwr2⟩ : ∃ w9 : World, w9 = wr := ⟨_, rfl⟩
              rw [← hwr2] at HJ
              subst hwr2
              obtain ⟨gi, rfl⟩ : ∃ gi, gk = gi + 1 := ⟨gk - 1, by omega⟩
              by_cases hjt : j < xl
              · have btj : (j : Int) < (xl : Int) := by omega
                have hx3 : xl ≤ 3000 := by have := HRL.out.1; have := HXL.out; omega
                obtain ⟨vg, hvg⟩ : ∃ g, va = some ⟨g, 0, none⟩ := by
                  rcases HJ.out.row.2 with ⟨e4, e5⟩ | ⟨g, c4, cur, e4, _⟩
                  · injection e4 with e6 e7; omega
                  · injection e4 with e6; exact ⟨g, e6⟩
                subst hvg
                obtain ⟨cg, hcg⟩ := HJ.out.row.has vg rfl
                have frg := (show BoxT 39 _ vg cg from hcg).free
                have HBG := hide (show BoxT 39 _ vg cg from hcg)
                have hj2 : j < l2.length := by have := HL2.out; omega
                have HST := hide (HJ.out.row.setAt Rc.cs_len (by decide) hj2 ⟨-77, 0, 0⟩)
                obtain ⟨y, hy⟩ := get_of_lt hj2
                obtain ⟨b9, o9, e9, l9, -, c9⟩ := (HJ.out.row.seg Rc.cs_len (by have := HL2.out; have := HRL.out.1; have := HXL.out; omega)).readAt hy
                have HNX := hide (HJ.out.write (FT.of_grown (grown_setCells vg (Rc.cs ⟨-77, 0, 0⟩) _ (j * 3)) rfl) HST.out)
                have k0 : wr2.cell? ⟨b9, o9 + j * 3, none⟩ = some _ := c9 0 _ rfl
                have k1 := c9 1 _ rfl
                have k2 := c9 2 _ rfl
                cases e9
                rw [Nat.zero_add] at k0 k1 k2
                clear hcg c9 hy l9
                go_wp2_with fail
                go_roundg gi
                case rel => exact ⟨j + 1, l2.set j ⟨-77, 0, 0⟩, by go_num, by omega, by omega, (show _ = _ by rw [List.length_set]; exact HL2.out), HNX⟩
                case measure => omega
              · obtain rfl : j = xl := by omega
                have btj : ¬ ((j : Nat) : Int) < (j : Int) := by omega
                go_wp2_with fail
                go_meet
                case rel => exact ⟨en, stF f xp xn x.rs, o, d6, rfl, rfl, ⟨HS6.out, by have := HT6.out; have := HD0.out; have := HRL.out; omega⟩, HJ.out.norow.up (by have := HRL.out; omega)⟩
          · go_upto_region 16 with (first | (at_builtin; refine app_segL Try.infoRc Try.underlying29 rfl (by decide) (by decide) Rc.cs_len Rc.cs_one rfl _ _ rfl (wr.alloc (.cells #[.int .i64 1, .int .i64 xp, .int .u64 (xn : Int), .slice xa xl xc] 34)).heap.size (.slice none 0 0) [] rfl (OwnL.nil _ _ _ _ _) w.heap.size _ x.rs rfl (HRS.out _ HG2.out.world) (by have := HRL.out.1; simp; omega) (Nat.le_refl _) ?_; intro v4 w4 h4 g4 k4; rw [List.nil_append] at h4; have HG3 := hide (HG2.out.rows ((Below.refl _ _).grown g4 (Nat.le_refl _) (fun g e => by cases e)) h4); clear h4 g4 k4 HG2 z0 z1 z2 z3) | fail)
            have HG3d := hide (HG3.out.below (Below.refl _ _).drew)
            refine wp_region_M (S := fun w' => w'.cell? ⟨wr.heap.size, 0, none⟩ = some (.int .i64 1) ∧ w'.cell? ⟨wr.heap.size, 1, none⟩ = some (.int .i64 xp) ∧ w'.cell? ⟨wr.heap.size, 2, none⟩ = some (.int .u64 (xn : Int)) ∧ w'.cell? ⟨wr.heap.size, 3, none⟩ = some (.slice xa xl xc)) (late := []) (by kernel_rfl) (HG3d.out.cells.cells4) (fun hHeld => ?_)
            (try simp only [List.size_toArray, List.length_cons, List.length_nil, Nat.zero_add, Nat.reduceAdd, Array.replicate, List.replicate])
            refine wpAnyM_take (i := 0) (oi := ⟨_, _, _, _, _, _⟩) (v := ?_) rfl (by kernel_rfl) (by kernel_rfl) (by kernel_rfl) (by kernel_rfl) (fun _ _ _ h => h) (Or.inl ⟨by rfl, ?_⟩) hHeld ?_
            rotate_left
            · (intro w' hSw; (try dsimp only at hSw); go_simp; try (with_reducible rfl))
            (try simp only [Act.put, List.setIfInBounds_toArray, List.set_cons_zero, List.set_cons_succ])
            refine wpAnyM_take (i := 1) (oi := ⟨_, _, _, _, _, _⟩) (v := ?_) rfl (by kernel_rfl) (by kernel_rfl) (by kernel_rfl) (by kernel_rfl) (fun _ _ _ h => h) (Or.inl ⟨by rfl, ?_⟩) hHeld ?_
            rotate_left
            · (intro w' hSw; (try dsimp only at hSw); go_simp; try (with_reducible rfl))
            (try simp only [Act.put, List.setIfInBounds_toArray, List.set_cons_zero, List.set_cons_succ])
            refine wpAnyM_take (i := 2) (oi := ⟨_, _, _, _, _, _⟩) (v := ?_) rfl (by kernel_rfl) (by kernel_rfl) (by kernel_rfl) (by kernel_rfl) (fun _ _ _ h => h) (Or.inl ⟨by rfl, ?_⟩) hHeld ?_
            rotate_left
            · (intro w' hSw; (try dsimp only at hSw); go_simp; try (with_reducible rfl))
            (try simp only [Act.put, List.setIfInBounds_toArray, List.set_cons_zero, List.set_cons_succ])
            refine wpAnyM_take (i := 3) (oi := ⟨_, _, _, _, _, _⟩) (v := ?_) rfl (by kernel_rfl) (by kernel_rfl) (by kernel_rfl) (by kernel_rfl) (fun _ _ _ h => h) (Or.inl ⟨by rfl, ?_⟩) hHeld ?_
            rotate_left
            · (intro w' hSw; (try dsimp only at hSw); go_simp; try (with_reducible rfl))
            (try simp only [Act.put, List.setIfInBounds_toArray, List.set_cons_zero, List.set_cons_succ])
            refine wpAnyM_take (i := 4) (oi := ⟨_, _, _, _, _, _⟩) (v := ?_) rfl (by kernel_rfl) (by kernel_rfl) (by kernel_rfl) (by kernel_rfl) (fun _ _ _ h => h) (Or.inl ⟨by rfl, ?_⟩) hHeld ?_
            rotate_left
            · (intro w' hSw; (try dsimp only at hSw); go_simp; try (with_reducible rfl))
            (try simp only [Act.put, List.setIfInBounds_toArray, List.set_cons_zero, List.set_cons_succ])
            refine wpAnyM_take (i := 5) (oi := ⟨_, _, _, _, _, _⟩) (v := ?_) rfl (by kernel_rfl) (by kernel_rfl) (by kernel_rfl) (by kernel_rfl) (fun _ _ _ h => h) (Or.inl ⟨by rfl, ?_⟩) hHeld ?_
            rotate_left
            · (intro w' hSw; (try dsimp only at hSw); go_simp; try (with_reducible rfl))
            (try simp only [Act.put, List.setIfInBounds_toArray, List.set_cons_zero, List.set_cons_succ])
            refine wpAnyM_take (i := 7) (oi := ⟨_, _, _, _, _, _⟩) (v := ?_) rfl (by kernel_rfl) (by kernel_rfl) (by kernel_rfl) (by kernel_rfl) (fun _ _ _ h => h) (Or.inl ⟨by rfl, ?_⟩) hHeld ?_
            rotate_left
            · (intro w' hSw; (try dsimp only at hSw); go_simp; try (with_reducible rfl))
            (try simp only [Act.put, List.setIfInBounds_toArray, List.set_cons_zero, List.set_cons_succ])
            refine wpAnyM_take (i := 8) (oi := ⟨_, _, _, _, _, _⟩) (v := ?_) rfl (by kernel_rfl) (by kernel_rfl) (by kernel_rfl) (by kernel_rfl) (fun _ _ _ h => h) (Or.inl ⟨by rfl, ?_⟩) hHeld ?_
            rotate_left
            · (intro w' hSw; (try dsimp only at hSw); go_simp; try (with_reducible rfl))
            (try simp only [Act.put, List.setIfInBounds_toArray, List.set_cons_zero, List.set_cons_succ])
            refine wpAnyM_take (i := 9) (oi := ⟨_, _, _, _, _, _⟩) (v := ?_) rfl (by kernel_rfl) (by kernel_rfl) (by kernel_rfl) (by kernel_rfl) (fun _ _ _ h => h) (Or.inl ⟨by rfl, ?_⟩) hHeld ?_
            rotate_left
            · (intro w' hSw; (try dsimp only at hSw); go_simp; try (with_reducible rfl))
            (try simp only [Act.put, List.setIfInBounds_toArray, List.set_cons_zero, List.set_cons_succ])
            refine wpAnyM_take (i := 10) (oi := ⟨_, _, _, _, _, _⟩) (v := ?_) rfl (by kernel_rfl) (by kernel_rfl) (by kernel_rfl) (by kernel_rfl) (fun _ _ _ h => h) (Or.inl ⟨by rfl, ?_⟩) hHeld ?_
            rotate_left
            · (intro w' hSw; (try dsimp only at hSw); go_simp; try (with_reducible rfl))
            (try simp only [Act.put, List.setIfInBounds_toArray, List.set_cons_zero, List.set_cons_succ])
            refine wpAnyM_take (i := 11) (oi := ⟨_, _, _, _, _, _⟩) (v := ?_) rfl (by kernel_rfl) (by kernel_rfl) (by kernel_rfl) (by kernel_rfl) (fun _ _ _ h => h) (Or.inl ⟨by rfl, ?_⟩) hHeld ?_
            rotate_left
            · (intro w' hSw; (try dsimp only at hSw); go_simp; try (with_reducible rfl))
            (try simp only [Act.put, List.setIfInBounds_toArray, List.set_cons_zero, List.set_cons_succ])
            refine wpAnyM_take (i := 12) (oi := ⟨_, _, _, _, _, _⟩) (v := ?_) rfl (by kernel_rfl) (by kernel_rfl) (by kernel_rfl) (by kernel_rfl) (fun _ _ _ h => h) (Or.inl ⟨by rfl, ?_⟩) hHeld ?_
            rotate_left
            · (intro w' hSw; (try dsimp only at hSw); go_simp; try (with_reducible rfl))
            (try simp only [Act.put, List.setIfInBounds_toArray, List.set_cons_zero, List.set_cons_succ])
            refine wpAnyM_take (i := 13) (oi := ⟨_, _, _, _, _, _⟩) (v := ?_) rfl (by kernel_rfl) (by kernel_rfl) (by kernel_rfl) (by kernel_rfl) (fun _ _ _ h => h) (Or.inl ⟨by rfl, ?_⟩) hHeld ?_
            rotate_left
            · (intro w' hSw; (try dsimp only at hSw); go_simp; try (with_reducible rfl))
            (try simp only [Act.put, List.setIfInBounds_toArray, List.set_cons_zero, List.set_cons_succ])
            refine wpAnyM_one (i := 6) (o := ⟨_, _, _, _, _, _⟩) (by kernel_rfl) rfl (fun K hK => ?_)
            go_simp
            go_at_call 11
            refine (HG3d.out.stageA (by have := HD0.out; omega) HPA.out xn (HG3d.out.row.seg Rc.cs_len (by have := HRL.out.1; omega)) (Nat.le_refl _) (by have := HRL.out.1; omega)).mono ?_
            rintro e w5 ⟨rfl, k5⟩
            have HG5 := hide k5
            clear k5
            refine hK.out _ _ (HG5.out.cells.cells4) (fun hHeld => ?_)
            clear hK K
            (try simp only [List.setIfInBounds_toArray, List.set_cons_zero, List.set_cons_succ])
            refine wpAnyM_one (i := 14) (o := ⟨_, _, _, _, _, _⟩) (by kernel_rfl) rfl (fun K hK => ?_)
            go_simp
            go_at_call 12
            refine (HG5.out.stageS HSM.out (by have := HD0.out; omega) xp xn (HRS.out _ HG5.out.world) HG5.out.world.size (by have := HRL.out.1; omega)).mono ?_
            rintro e w6 ⟨rfl, d6, s6, t6, k6⟩
            have HG6 := hide k6
            have HS6 := hide s6
            have HT6 := hide t6
            clear k6 s6 t6
            refine hK.out _ _ (HG6.out.cells.cells4) (fun hHeld => ?_)
            clear hK K
            (try simp only [List.setIfInBounds_toArray, List.set_cons_zero, List.set_cons_succ])
            refine wpAnyM_take (i := 15) (oi := ⟨_, _, _, _, _, _⟩) (v := ?_) rfl (by kernel_rfl) (by kernel_rfl) (by kernel_rfl) (by kernel_rfl) (fun _ _ _ h => h) (Or.inl ⟨by rfl, ?_⟩) hHeld ?_
            rotate_left
            · (intro w' hSw; (try dsimp only at hSw); go_simp; try (with_reducible rfl))
            (try simp only [Act.put, List.setIfInBounds_toArray, List.set_cons_zero, List.set_cons_succ])
            refine wpAnyM_take (i := 16) (oi := ⟨_, _, _, _, _, _⟩) (v := ?_) rfl (by kernel_rfl) (by kernel_rfl) (by kernel_rfl) (by kernel_rfl) (fun _ _ _ h => h) (Or.inl ⟨by rfl, ?_⟩) hHeld ?_
            rotate_left
            · (intro w' hSw; (try dsimp only at hSw); go_simp; try (with_reducible rfl))
            (try simp only [Act.put, List.setIfInBounds_toArray, List.set_cons_zero, List.set_cons_succ])
            refine wpAnyM_done (by kernel_rfl) ?_ _
            obtain ⟨va, vc, hv4⟩ := HG6.out.row.shape
            rw [HXL.out] at hv4
            subst hv4
            clear HG3 HG3d HG5
            obtain ⟨en, hen⟩ : ∃ en, stE f xp xn = en := ⟨_, rfl⟩
            rw [hen]
            clear hen
            go_wp2_with fail
            go_loopg [10] (xl + 1) (fun gh kv wr2 => ∃ (j : Nat) (l2 : List Rc), kv = .int .i64 (j : Int) ∧ j ≤ xl ∧ xl + 1 ≤ gh + j ∧ Hid (l2.length = xl) ∧ Hid (GP w wr2 la w3.heap.size (stF f xp xn x.rs) o (W0 + x.rs.length + 1) d6 o.flatten (.slice va xl vc) l2 (some (wr.heap.size, #[.int .i64 1, .int .i64 xp, .int .u64 (xn : Int), .slice xa xl xc]))))
            case atStart => exact ⟨0, x.rs, rfl, by omega, by omega, HXL, HG6⟩
            case round =>
              clear HG6
              obtain ⟨j, l2, rfl, hj, hgj, HL2, HJ⟩ := hrel
              obtain ⟨wr2, hwr2⟩ : ∃ w9 : World, w9 = wr := ⟨_, rfl⟩
              rw [← hwr2] at HJ
              subst hwr2
              obtain ⟨gi, rfl⟩ : ∃ gi, gk = gi + 1 := ⟨gk - 1, by omega⟩
              by_cases hjt : j < xl
              · have btj : (j : Int) < (xl : Int) := by omega
                have hx3 : xl ≤ 3000 := by have := HRL.out.1; have := HXL.out; omega
                obtain ⟨vg, hvg⟩ : ∃ g, va = some ⟨g, 0, none⟩ := by
                  rcases HJ.out.row.2 with ⟨e4, e5⟩ | ⟨g, c4, cur, e4, _⟩
                  · injection e4 with e6 e7; omega
                  · injection e4 with e6; exact ⟨g, e6⟩
                subst hvg
                obtain ⟨cg, hcg⟩ := HJ.out.row.has vg rfl
                have frg := (show BoxT 39 _ vg cg from hcg).free
                have HBG := hide (show BoxT 39 _ vg cg from hcg)
                have hj2 : j < l2.length := by have := HL2.out; omega
                have HST := hide (HJ.out.row.setAt Rc.cs_len (by decide) hj2 ⟨-77, 0, 0⟩)
                obtain ⟨y, hy⟩ := get_of_lt hj2
                obtain ⟨b9, o9, e9, l9, -, c9⟩ := (HJ.out.row.seg Rc.cs_len (by have := HL2.out; have := HRL.out.1; have := HXL.out; omega)).readAt hy
                have HNX := hide (HJ.out.write (FT.of_grown (grown_setCells vg (Rc.cs ⟨-77, 0, 0⟩) _ (j * 3)) rfl) HST.out)
                have k0 : wr2.cell? ⟨b9, o9 + j * 3, none⟩ = some _ := c9 0 _ rfl
                have k1 := c9 1 _ rfl
                have k2 := c9 2 _ rfl
                cases e9
                rw [Nat.zero_add] at k0 k1 k2
                clear hcg c9 hy l9
                go_wp2_with fail
                go_roundg gi
                case rel => exact ⟨j + 1, l2.set j ⟨-77, 0, 0⟩, by go_num, by omega, by omega, (show _ = _ by rw [List.length_set]; exact HL2.out), HNX⟩
                case measure => omega
              · obtain rfl : j = xl := by omega
                have btj : ¬ ((j : Nat) : Int) < (j : Int) := by omega
                go_wp2_with fail
                go_meet
                case rel => exact ⟨en, stF f xp xn x.rs, o, d6, rfl, rfl, ⟨HS6.out, by have := HT6.out; have := HD0.out; have := HRL.out; omega⟩, HJ.out.norow.up (by have := HRL.out; omega)⟩
          · go_upto_region 16 with (first | (at_builtin; refine app_segL Try.infoRc Try.underlying29 rfl (by decide) (by decide) Rc.cs_len Rc.cs_one rfl _ _ rfl (wr.alloc (.cells #[.int .i64 2, .int .i64 xp, .int .u64 (xn : Int), .slice xa xl xc] 34)).heap.size (.slice none 0 0) [] rfl (OwnL.nil _ _ _ _ _) w.heap.size _ x.rs rfl (HRS.out _ HG2.out.world) (by have := HRL.out.1; simp; omega) (Nat.le_refl _) ?_; intro v4 w4 h4 g4 k4; rw [List.nil_append] at h4; have HG3 := hide (HG2.out.rows ((Below.refl _ _).grown g4 (Nat.le_refl _) (fun g e => by cases e)) h4); clear h4 g4 k4 HG2 z0 z1 z2 z3) | fail)
            have HG3d := hide (HG3.out.below (Below.refl _ _).drew)
            refine wp_region_M (S := fun w' => w'.cell? ⟨wr.heap.size, 0, none⟩ = some (.int .i64 2) ∧ w'.cell? ⟨wr.heap.size, 1, none⟩ = some (.int .i64 xp) ∧ w'.cell? ⟨wr.heap.size, 2, none⟩ = some (.int .u64 (xn : Int)) ∧ w'.cell? ⟨wr.heap.size, 3, none⟩ = some (.slice xa xl xc)) (late := []) (by kernel_rfl) (HG3d.out.cells.cells4) (fun hHeld => ?_)
            (try simp only [List.size_toArray, List.length_cons, List.length_nil, Nat.zero_add, Nat.reduceAdd, Array.replicate, List.replicate])
            refine wpAnyM_take (i := 0) (oi := ⟨_, _, _, _, _, _⟩) (v := ?_) rfl (by kernel_rfl) (by kernel_rfl) (by kernel_rfl) (by kernel_rfl) (fun _ _ _ h => h) (Or.inl ⟨by rfl, ?_⟩) hHeld ?_
            rotate_left
            · (intro w' hSw; (try dsimp only at hSw); go_simp; try (with_reducible rfl))
            (try simp only [Act.put, List.setIfInBounds_toArray, List.set_cons_zero, List.set_cons_succ])
            refine wpAnyM_take (i := 1) (oi := ⟨_, _, _, _, _, _⟩) (v := ?_) rfl (by kernel_rfl) (by kernel_rfl) (by kernel_rfl) (by kernel_rfl) (fun _ _ _ h => h) (Or.inl ⟨by rfl, ?_⟩) hHeld ?_
            rotate_left
            · (intro w' hSw; (try dsimp only at hSw); go_simp; try (with_reducible rfl))
            (try simp only [Act.put, List.setIfInBounds_toArray, List.set_cons_zero, List.set_cons_succ])
            refine wpAnyM_take (i := 2) (oi := ⟨_, _, _, _, _, _⟩) (v := ?_) rfl (by kernel_rfl) (by kernel_rfl) (by kernel_rfl) (by kernel_rfl) (fun _ _ _ h => h) (Or.inl ⟨by rfl, ?_⟩) hHeld ?_
            rotate_left
            · (intro w' hSw; (try dsimp only at hSw); go_simp; try (with_reducible rfl))
            (try simp only [Act.put, List.setIfInBounds_toArray, List.set_cons_zero, List.set_cons_succ])
            refine wpAnyM_take (i := 3) (oi := ⟨_, _, _, _, _, _⟩) (v := ?_) rfl (by kernel_rfl) (by kernel_rfl) (by kernel_rfl) (by kernel_rfl) (fun _ _ _ h => h) (Or.inl ⟨by rfl, ?_⟩) hHeld ?_
            rotate_left
            · (intro w' hSw; (try dsimp only at hSw); go_simp; try (with_reducible rfl))
            (try simp only [Act.put, List.setIfInBounds_toArray, List.set_cons_zero, List.set_cons_succ])
            refine wpAnyM_take (i := 4) (oi := ⟨_, _, _, _, _, _⟩) (v := ?_) rfl (by kernel_rfl) (by kernel_rfl) (by kernel_rfl) (by kernel_rfl) (fun _ _ _ h => h) (Or.inl ⟨by rfl, ?_⟩) hHeld ?_
            rotate_left
            · (intro w' hSw; (try dsimp only at hSw); go_simp; try (with_reducible rfl))
            (try simp only [Act.put, List.setIfInBounds_toArray, List.set_cons_zero, List.set_cons_succ])
            refine wpAnyM_take (i := 5) (oi := ⟨_, _, _, _, _, _⟩) (v := ?_) rfl (by kernel_rfl) (by kernel_rfl) (by kernel_rfl) (by kernel_rfl) (fun _ _ _ h => h) (Or.inl ⟨by rfl, ?_⟩) hHeld ?_
            rotate_left
            · (intro w' hSw; (try dsimp only at hSw); go_simp; try (with_reducible rfl))
            (try simp only [Act.put, List.setIfInBounds_toArray, List.set_cons_zero, List.set_cons_succ])
            refine wpAnyM_take (i := 7) (oi := ⟨_, _, _, _, _, _⟩) (v := ?_) rfl (by kernel_rfl) (by kernel_rfl) (by kernel_rfl) (by kernel_rfl) (fun _ _ _ h => h) (Or.inl ⟨by rfl, ?_⟩) hHeld ?_
            rotate_left
            · (intro w' hSw; (try dsimp only at hSw); go_simp; try (with_reducible rfl))
            (try simp only [Act.put, List.setIfInBounds_toArray, List.set_cons_zero, List.set_cons_succ])
            refine wpAnyM_take (i := 8) (oi := ⟨_, _, _, _, _, _⟩) (v := ?_) rfl (by kernel_rfl) (by kernel_rfl) (by kernel_rfl) (by kernel_rfl) (fun _ _ _ h => h) (Or.inl ⟨by rfl, ?_⟩) hHeld ?_
            rotate_left
            · (intro w' hSw; (try dsimp only at hSw); go_simp; try (with_reducible rfl))
            (try simp only [Act.put, List.setIfInBounds_toArray, List.set_cons_zero, List.set_cons_succ])
            refine wpAnyM_take (i := 9) (oi := ⟨_, _, _, _, _, _⟩) (v := ?_) rfl (by kernel_rfl) (by kernel_rfl) (by kernel_rfl) (by kernel_rfl) (fun _ _ _ h => h) (Or.inl ⟨by rfl, ?_⟩) hHeld ?_
            rotate_left
            · (intro w' hSw; (try dsimp only at hSw); go_simp; try (with_reducible rfl))
            (try simp only [Act.put, List.setIfInBounds_toArray, List.set_cons_zero, List.set_cons_succ])
            refine wpAnyM_take (i := 10) (oi := ⟨_, _, _, _, _, _⟩) (v := ?_) rfl (by kernel_rfl) (by kernel_rfl) (by kernel_rfl) (by kernel_rfl) (fun _ _ _ h => h) (Or.inl ⟨by rfl, ?_⟩) hHeld ?_
            rotate_left
            · (intro w' hSw; (try dsimp only at hSw); go_simp; try (with_reducible rfl))
            (try simp only [Act.put, List.setIfInBounds_toArray, List.set_cons_zero, List.set_cons_succ])
            refine wpAnyM_take (i := 11) (oi := ⟨_, _, _, _, _, _⟩) (v := ?_) rfl (by kernel_rfl) (by kernel_rfl) (by kernel_rfl) (by kernel_rfl) (fun _ _ _ h => h) (Or.inl ⟨by rfl, ?_⟩) hHeld ?_
            rotate_left
            · (intro w' hSw; (try dsimp only at hSw); go_simp; try (with_reducible rfl))
            (try simp only [Act.put, List.setIfInBounds_toArray, List.set_cons_zero, List.set_cons_succ])
            refine wpAnyM_take (i := 12) (oi := ⟨_, _, _, _, _, _⟩) (v := ?_) rfl (by kernel_rfl) (by kernel_rfl) (by kernel_rfl) (by kernel_rfl) (fun _ _ _ h => h) (Or.inl ⟨by rfl, ?_⟩) hHeld ?_
            rotate_left
            · (intro w' hSw; (try dsimp only at hSw); go_simp; try (with_reducible rfl))
            (try simp only [Act.put, List.setIfInBounds_toArray, List.set_cons_zero, List.set_cons_succ])
            refine wpAnyM_take (i := 13) (oi := ⟨_, _, _, _, _, _⟩) (v := ?_) rfl (by kernel_rfl) (by kernel_rfl) (by kernel_rfl) (by kernel_rfl) (fun _ _ _ h => h) (Or.inl ⟨by rfl, ?_⟩) hHeld ?_
            rotate_left
            · (intro w' hSw; (try dsimp only at hSw); go_simp; try (with_reducible rfl))
            (try simp only [Act.put, List.setIfInBounds_toArray, List.set_cons_zero, List.set_cons_succ])
            refine wpAnyM_one (i := 6) (o := ⟨_, _, _, _, _, _⟩) (by kernel_rfl) rfl (fun K hK => ?_)
            go_simp
            go_at_call 11
            refine (HG3d.out.stageA (by have := HD0.out; omega) HPA.out xn (HG3d.out.row.seg Rc.cs_len (by have := HRL.out.1; omega)) (Nat.le_refl _) (by have := HRL.out.1; omega)).mono ?_
            rintro e w5 ⟨rfl, k5⟩
            have HG5 := hide k5
            clear k5
            refine hK.out _ _ (HG5.out.cells.cells4) (fun hHeld => ?_)
            clear hK K
            (try simp only [List.setIfInBounds_toArray, List.set_cons_zero, List.set_cons_succ])
            refine wpAnyM_one (i := 14) (o := ⟨_, _, _, _, _, _⟩) (by kernel_rfl) rfl (fun K hK => ?_)
            go_simp
            go_at_call 12
            refine (HG5.out.stageS HSM.out (by have := HD0.out; omega) xp xn (HRS.out _ HG5.out.world) HG5.out.world.size (by have := HRL.out.1; omega)).mono ?_
            rintro e w6 ⟨rfl, d6, s6, t6, k6⟩
            have HG6 := hide k6
            have HS6 := hide s6
            have HT6 := hide t6
            clear k6 s6 t6
            refine hK.out _ _ (HG6.out.cells.cells4) (fun hHeld => ?_)
            clear hK K
            (try simp only [List.setIfInBounds_toArray, List.set_cons_zero, List.set_cons_succ])
            refine wpAnyM_take (i := 15) (oi := ⟨_, _, _, _, _, _⟩) (v := ?_) rfl (by kernel_rfl) (by kernel_rfl) (by kernel_rfl) (by kernel_rfl) (fun _ _ _ h => h) (Or.inl ⟨by rfl, ?_⟩) hHeld ?_
            rotate_left
            · (intro w' hSw; (try dsimp only at hSw); go_simp; try (with_reducible rfl))
            (try simp only [Act.put, List.setIfInBounds_toArray, List.set_cons_zero, List.set_cons_succ])
            refine wpAnyM_take (i := 16) (oi := ⟨_, _, _, _, _, _⟩) (v := ?_) rfl (by kernel_rfl) (by kernel_rfl) (by kernel_rfl) (by kernel_rfl) (fun _ _ _ h => h) (Or.inl ⟨by rfl, ?_⟩) hHeld ?_
            rotate_left
            · (intro w' hSw; (try dsimp only at hSw); go_simp; try (with_reducible rfl))
            (try simp only [Act.put, List.setIfInBounds_toArray, List.set_cons_zero, List.set_cons_succ])
            refine wpAnyM_done (by kernel_rfl) ?_ _
            obtain ⟨va, vc, hv4⟩ := HG6.out.row.shape
            rw [HXL.out] at hv4
            subst hv4
            clear HG3 HG3d HG5
            obtain ⟨en, hen⟩ : ∃ en, stE f xp xn = en := ⟨_, rfl⟩
            rw [hen]
            clear hen
            go_wp2_with fail
            go_loopg [10] (xl + 1) (fun gh kv wr2 => ∃ (j : Nat) (l2 : List Rc), kv = .int .i64 (j : Int) ∧ j ≤ xl ∧ xl + 1 ≤ gh + j ∧ Hid (l2.length = xl) ∧ Hid (GP w wr2 la w3.heap.size (stF f xp xn x.rs) o (W0 + x.rs.length + 1) d6 o.flatten (.slice va xl vc) l2 (some (wr.heap.size, #[.int .i64 2, .int .i64 xp, .int .u64 (xn : Int), .slice xa xl xc]))))
            case atStart => exact ⟨0, x.rs, rfl, by omega, by omega, HXL, HG6⟩
            case round =>
              clear HG6
              obtain ⟨j, l2, rfl, hj, hgj, HL2, HJ⟩ := hrel
              obtain ⟨wr2, hwr2⟩ : ∃ w9 : World, w9 = wr := ⟨_, rfl⟩
              rw [← hwr2] at HJ
              subst hwr2
              obtain ⟨gi, rfl⟩ : ∃ gi, gk = gi + 1 := ⟨gk - 1, by omega⟩
              by_cases hjt : j < xl
              · have btj : (j : Int) < (xl : Int) := by omega
                have hx3 : xl ≤ 3000 := by have := HRL.out.1; have := HXL.out; omega
                obtain ⟨vg, hvg⟩ : ∃ g, va = some ⟨g, 0, none⟩ := by
                  rcases HJ.out.row.2 with ⟨e4, e5⟩ | ⟨g, c4, cur, e4, _⟩
                  · injection e4 with e6 e7; omega
                  · injection e4 with e6; exact ⟨g, e6⟩
                subst hvg
                obtain ⟨cg, hcg⟩ := HJ.out.row.has vg rfl
                have frg := (show BoxT 39 _ vg cg from hcg).free
                have HBG := hide (show BoxT 39 _ vg cg from hcg)
                have hj2 : j < l2.length := by have := HL2.out; omega
                have HST := hide (HJ.out.row.setAt Rc.cs_len (by decide) hj2 ⟨-77, 0, 0⟩)
                obtain ⟨y, hy⟩ := get_of_lt hj2
                obtain ⟨b9, o9, e9, l9, -, c9⟩ := (HJ.out.row.seg Rc.cs_len (by have := HL2.out; have := HRL.out.1; have := HXL.out; omega)).readAt hy
                have HNX := hide (HJ.out.write (FT.of_grown (grown_setCells vg (Rc.cs ⟨-77, 0, 0⟩) _ (j * 3)) rfl) HST.out)
                have k0 : wr2.cell? ⟨b9, o9 + j * 3, none⟩ = some _ := c9 0 _ rfl
                have k1 := c9 1 _ rfl
                have k2 := c9 2 _ rfl
                cases e9
                rw [Nat.zero_add] at k0 k1 k2
                clear hcg c9 hy l9
                go_wp2_with fail
                go_roundg gi
                case rel => exact ⟨j + 1, l2.set j ⟨-77, 0, 0⟩, by go_num, by omega, by omega, (show _ = _ by rw [List.length_set]; exact HL2.out), HNX⟩
                case measure => omega
              · obtain rfl : j = xl := by omega
                have btj : ¬ ((j : Nat) : Int) < (j : Int) := by omega
                go_wp2_with fail
                go_meet
                case rel => exact ⟨en, stF f xp xn x.rs, o, d6, rfl, rfl, ⟨HS6.out, by have := HT6.out; have := HD0.out; have := HRL.out; omega⟩, HJ.out.norow.up (by have := HRL.out; omega)⟩
        · by_cases h34 : xw = 3 ∨ xw = 4
          · clear h012
            rcases h34 with rfl | rfl
            · go_upto_region 23 with fail
              have HG3d := hide (HG2.out.below (Below.refl _ _).drew)
              clear z0 z1 z2 z3
              refine wp_region_M (S := fun w' => w'.cell? ⟨wr.heap.size, 0, none⟩ = some (.int .i64 3) ∧ w'.cell? ⟨wr.heap.size, 1, none⟩ = some (.int .i64 xp) ∧ w'.cell? ⟨wr.heap.size, 2, none⟩ = some (.int .u64 (xn : Int)) ∧ w'.cell? ⟨wr.heap.size, 3, none⟩ = some (.slice xa xl xc)) (late := []) (by kernel_rfl) (HG3d.out.cells.cells4) (fun hHeld => ?_)
              (try simp only [List.size_toArray, List.length_cons, List.length_nil, Nat.zero_add, Nat.reduceAdd, Array.replicate, List.replicate])
              refine wpAnyM_take (i := 0) (oi := ⟨_, _, _, _, _, _⟩) (v := ?_) rfl (by kernel_rfl) (by kernel_rfl) (by kernel_rfl) (by kernel_rfl) (fun _ _ _ h => h) (Or.inl ⟨by rfl, ?_⟩) hHeld ?_
              rotate_left
              · (intro w' hSw; (try dsimp only at hSw); go_simp; try (with_reducible rfl))
              (try simp only [Act.put, List.setIfInBounds_toArray, List.set_cons_zero, List.set_cons_succ])
              refine wpAnyM_take (i := 1) (oi := ⟨_, _, _, _, _, _⟩) (v := ?_) rfl (by kernel_rfl) (by kernel_rfl) (by kernel_rfl) (by kernel_rfl) (fun _ _ _ h => h) (Or.inl ⟨by rfl, ?_⟩) hHeld ?_
              rotate_left
              · (intro w' hSw; (try dsimp only at hSw); go_simp; try (with_reducible rfl))
              (try simp only [Act.put, List.setIfInBounds_toArray, List.set_cons_zero, List.set_cons_succ])
              refine wpAnyM_take (i := 2) (oi := ⟨_, _, _, _, _, _⟩) (v := ?_) rfl (by kernel_rfl) (by kernel_rfl) (by kernel_rfl) (by kernel_rfl) (fun _ _ _ h => h) (Or.inl ⟨by rfl, ?_⟩) hHeld ?_
              rotate_left
              · (intro w' hSw; (try dsimp only at hSw); go_simp; try (with_reducible rfl))
              (try simp only [Act.put, List.setIfInBounds_toArray, List.set_cons_zero, List.set_cons_succ])
              refine wpAnyM_take (i := 3) (oi := ⟨_, _, _, _, _, _⟩) (v := ?_) rfl (by kernel_rfl) (by kernel_rfl) (by kernel_rfl) (by kernel_rfl) (fun _ _ _ h => h) (Or.inl ⟨by rfl, ?_⟩) hHeld ?_
              rotate_left
              · (intro w' hSw; (try dsimp only at hSw); go_simp; try (with_reducible rfl))
              (try simp only [Act.put, List.setIfInBounds_toArray, List.set_cons_zero, List.set_cons_succ])
              refine wpAnyM_take (i := 4) (oi := ⟨_, _, _, _, _, _⟩) (v := ?_) rfl (by kernel_rfl) (by kernel_rfl) (by kernel_rfl) (by kernel_rfl) (fun _ _ _ h => h) (Or.inl ⟨by rfl, ?_⟩) hHeld ?_
              rotate_left
              · (intro w' hSw; (try dsimp only at hSw); go_simp; try (with_reducible rfl))
              (try simp only [Act.put, List.setIfInBounds_toArray, List.set_cons_zero, List.set_cons_succ])
              refine wpAnyM_take (i := 6) (oi := ⟨_, _, _, _, _, _⟩) (v := ?_) rfl (by kernel_rfl) (by kernel_rfl) (by kernel_rfl) (by kernel_rfl) (fun _ _ _ h => h) (Or.inl ⟨by rfl, ?_⟩) hHeld ?_
              rotate_left
              · (intro w' hSw; (try dsimp only at hSw); go_simp; try (with_reducible rfl))
              (try simp only [Act.put, List.setIfInBounds_toArray, List.set_cons_zero, List.set_cons_succ])
              refine wpAnyM_take (i := 7) (oi := ⟨_, _, _, _, _, _⟩) (v := ?_) rfl (by kernel_rfl) (by kernel_rfl) (by kernel_rfl) (by kernel_rfl) (fun _ _ _ h => h) (Or.inl ⟨by rfl, ?_⟩) hHeld ?_
              rotate_left
              · (intro w' hSw; (try dsimp only at hSw); go_simp; try (with_reducible rfl))
              (try simp only [Act.put, List.setIfInBounds_toArray, List.set_cons_zero, List.set_cons_succ])
              refine wpAnyM_take (i := 8) (oi := ⟨_, _, _, _, _, _⟩) (v := ?_) rfl (by kernel_rfl) (by kernel_rfl) (by kernel_rfl) (by kernel_rfl) (fun _ _ _ h => h) (Or.inl ⟨by rfl, ?_⟩) hHeld ?_
              rotate_left
              · (intro w' hSw; (try dsimp only at hSw); go_simp; try (with_reducible rfl))
              (try simp only [Act.put, List.setIfInBounds_toArray, List.set_cons_zero, List.set_cons_succ])
              refine wpAnyM_take (i := 9) (oi := ⟨_, _, _, _, _, _⟩) (v := ?_) rfl (by kernel_rfl) (by kernel_rfl) (by kernel_rfl) (by kernel_rfl) (fun _ _ _ h => h) (Or.inl ⟨by rfl, ?_⟩) hHeld ?_
              rotate_left
              · (intro w' hSw; (try dsimp only at hSw); go_simp; try (with_reducible rfl))
              (try simp only [Act.put, List.setIfInBounds_toArray, List.set_cons_zero, List.set_cons_succ])
              refine wpAnyM_take (i := 10) (oi := ⟨_, _, _, _, _, _⟩) (v := ?_) rfl (by kernel_rfl) (by kernel_rfl) (by kernel_rfl) (by kernel_rfl) (fun _ _ _ h => h) (Or.inl ⟨by rfl, ?_⟩) hHeld ?_
              rotate_left
              · (intro w' hSw; (try dsimp only at hSw); go_simp; try (with_reducible rfl))
              (try simp only [Act.put, List.setIfInBounds_toArray, List.set_cons_zero, List.set_cons_succ])
              refine wpAnyM_one (i := 5) (o := ⟨_, _, _, _, _, _⟩) (by kernel_rfl) rfl (fun K hK => ?_)
              go_simp
              go_at_call 13
              refine (HG3d.out.commitA (by have := HD0.out; omega) HPA.out xn).mono ?_
              rintro e w5 ⟨rfl, k5⟩
              have HG5 := hide k5
              clear k5
              refine hK.out _ _ (HG5.out.cells.cells4) (fun hHeld => ?_)
              clear hK K
              (try simp only [List.setIfInBounds_toArray, List.set_cons_zero, List.set_cons_succ])
              refine wpAnyM_one (i := 11) (o := ⟨_, _, _, _, _, _⟩) (by kernel_rfl) rfl (fun K hK => ?_)
              go_simp
              go_at_call 14
              refine (HG5.out.commitS HSM.out (by have := HD0.out; omega) (by have := HG2.out.flat; have := HD0.out; omega) xp xn).mono ?_
              rintro e w6 ⟨rfl, d6, s6, t6, k6⟩
              have HG6 := hide k6
              have HS6 := hide s6
              have HT6 := hide t6
              clear k6 s6 t6
              refine hK.out _ _ (HG6.out.cells.cells4) (fun hHeld => ?_)
              clear hK K
              (try simp only [List.setIfInBounds_toArray, List.set_cons_zero, List.set_cons_succ])
              refine wpAnyM_take (i := 12) (oi := ⟨_, _, _, _, _, _⟩) (v := ?_) rfl (by kernel_rfl) (by kernel_rfl) (by kernel_rfl) (by kernel_rfl) (fun _ _ _ h => h) (Or.inl ⟨by rfl, ?_⟩) hHeld ?_
              rotate_left
              · (intro w' hSw; (try dsimp only at hSw); go_simp; try (with_reducible rfl))
              (try simp only [Act.put, List.setIfInBounds_toArray, List.set_cons_zero, List.set_cons_succ])
              refine wpAnyM_take (i := 13) (oi := ⟨_, _, _, _, _, _⟩) (v := ?_) rfl (by kernel_rfl) (by kernel_rfl) (by kernel_rfl) (by kernel_rfl) (fun _ _ _ h => h) (Or.inl ⟨by rfl, ?_⟩) hHeld ?_
              rotate_left
              · (intro w' hSw; (try dsimp only at hSw); go_simp; try (with_reducible rfl))
              (try simp only [Act.put, List.setIfInBounds_toArray, List.set_cons_zero, List.set_cons_succ])
              refine wpAnyM_done (by kernel_rfl) ?_ _
              clear HG2 HG3d HG5
              obtain ⟨en, hen⟩ : ∃ en, cmE f xp xn = en := ⟨_, rfl⟩
              rw [hen]
              clear hen
              go_wp2_with fail
              go_meet
              case rel => exact ⟨en, cmF f xp xn, o ++ cmO f xp xn, d6, rfl, rfl, ⟨HS6.out, by have := HT6.out; have := HD0.out; have := HRL.out; omega⟩, (by rw [List.flatten_append]; exact HG6.out.up (by have := HRL.out; omega))⟩
            · go_upto_region 23 with fail
              have HG3d := hide (HG2.out.below (Below.refl _ _).drew)
              clear z0 z1 z2 z3
              refine wp_region_M (S := fun w' => w'.cell? ⟨wr.heap.size, 0, none⟩ = some (.int .i64 4) ∧ w'.cell? ⟨wr.heap.size, 1, none⟩ = some (.int .i64 xp) ∧ w'.cell? ⟨wr.heap.size, 2, none⟩ = some (.int .u64 (xn : Int)) ∧ w'.cell? ⟨wr.heap.size, 3, none⟩ = some (.slice xa xl xc)) (late := []) (by kernel_rfl) (HG3d.out.cells.cells4) (fun hHeld => ?_)
              (try simp only [List.size_toArray, List.length_cons, List.length_nil, Nat.zero_add, Nat.reduceAdd, Array.replicate, List.replicate])
              refine wpAnyM_take (i := 0) (oi := ⟨_, _, _, _, _, _⟩) (v := ?_) rfl (by kernel_rfl) (by kernel_rfl) (by kernel_rfl) (by kernel_rfl) (fun _ _ _ h => h) (Or.inl ⟨by rfl, ?_⟩) hHeld ?_
              rotate_left
              · (intro w' hSw; (try dsimp only at hSw); go_simp; try (with_reducible rfl))
              (try simp only [Act.put, List.setIfInBounds_toArray, List.set_cons_zero, List.set_cons_succ])
              refine wpAnyM_take (i := 1) (oi := ⟨_, _, _, _, _, _⟩) (v := ?_) rfl (by kernel_rfl) (by kernel_rfl) (by kernel_rfl) (by kernel_rfl) (fun _ _ _ h => h) (Or.inl ⟨by rfl, ?_⟩) hHeld ?_
              rotate_left
              · (intro w' hSw; (try dsimp only at hSw); go_simp; try (with_reducible rfl))
              (try simp only [Act.put, List.setIfInBounds_toArray, List.set_cons_zero, List.set_cons_succ])
              refine wpAnyM_take (i := 2) (oi := ⟨_, _, _, _, _, _⟩) (v := ?_) rfl (by kernel_rfl) (by kernel_rfl) (by kernel_rfl) (by kernel_rfl) (fun _ _ _ h => h) (Or.inl ⟨by rfl, ?_⟩) hHeld ?_
              rotate_left
              · (intro w' hSw; (try dsimp only at hSw); go_simp; try (with_reducible rfl))
              (try simp only [Act.put, List.setIfInBounds_toArray, List.set_cons_zero, List.set_cons_succ])
              refine wpAnyM_take (i := 3) (oi := ⟨_, _, _, _, _, _⟩) (v := ?_) rfl (by kernel_rfl) (by kernel_rfl) (by kernel_rfl) (by kernel_rfl) (fun _ _ _ h => h) (Or.inl ⟨by rfl, ?_⟩) hHeld ?_
              rotate_left
              · (intro w' hSw; (try dsimp only at hSw); go_simp; try (with_reducible rfl))
              (try simp only [Act.put, List.setIfInBounds_toArray, List.set_cons_zero, List.set_cons_succ])
              refine wpAnyM_take (i := 4) (oi := ⟨_, _, _, _, _, _⟩) (v := ?_) rfl (by kernel_rfl) (by kernel_rfl) (by kernel_rfl) (by kernel_rfl) (fun _ _ _ h => h) (Or.inl ⟨by rfl, ?_⟩) hHeld ?_
              rotate_left
              · (intro w' hSw; (try dsimp only at hSw); go_simp; try (with_reducible rfl))
              (try simp only [Act.put, List.setIfInBounds_toArray, List.set_cons_zero, List.set_cons_succ])
              refine wpAnyM_take (i := 6) (oi := ⟨_, _, _, _, _, _⟩) (v := ?_) rfl (by kernel_rfl) (by kernel_rfl) (by kernel_rfl) (by kernel_rfl) (fun _ _ _ h => h) (Or.inl ⟨by rfl, ?_⟩) hHeld ?_
              rotate_left
              · (intro w' hSw; (try dsimp only at hSw); go_simp; try (with_reducible rfl))
              (try simp only [Act.put, List.setIfInBounds_toArray, List.set_cons_zero, List.set_cons_succ])
              refine wpAnyM_take (i := 7) (oi := ⟨_, _, _, _, _, _⟩) (v := ?_) rfl (by kernel_rfl) (by kernel_rfl) (by kernel_rfl) (by kernel_rfl) (fun _ _ _ h => h) (Or.inl ⟨by rfl, ?_⟩) hHeld ?_
              rotate_left
              · (intro w' hSw; (try dsimp only at hSw); go_simp; try (with_reducible rfl))
              (try simp only [Act.put, List.setIfInBounds_toArray, List.set_cons_zero, List.set_cons_succ])
              refine wpAnyM_take (i := 8) (oi := ⟨_, _, _, _, _, _⟩) (v := ?_) rfl (by kernel_rfl) (by kernel_rfl) (by kernel_rfl) (by kernel_rfl) (fun _ _ _ h => h) (Or.inl ⟨by rfl, ?_⟩) hHeld ?_
              rotate_left
              · (intro w' hSw; (try dsimp only at hSw); go_simp; try (with_reducible rfl))
              (try simp only [Act.put, List.setIfInBounds_toArray, List.set_cons_zero, List.set_cons_succ])
              refine wpAnyM_take (i := 9) (oi := ⟨_, _, _, _, _, _⟩) (v := ?_) rfl (by kernel_rfl) (by kernel_rfl) (by kernel_rfl) (by kernel_rfl) (fun _ _ _ h => h) (Or.inl ⟨by rfl, ?_⟩) hHeld ?_
              rotate_left
              · (intro w' hSw; (try dsimp only at hSw); go_simp; try (with_reducible rfl))
              (try simp only [Act.put, List.setIfInBounds_toArray, List.set_cons_zero, List.set_cons_succ])
              refine wpAnyM_take (i := 10) (oi := ⟨_, _, _, _, _, _⟩) (v := ?_) rfl (by kernel_rfl) (by kernel_rfl) (by kernel_rfl) (by kernel_rfl) (fun _ _ _ h => h) (Or.inl ⟨by rfl, ?_⟩) hHeld ?_
              rotate_left
              · (intro w' hSw; (try dsimp only at hSw); go_simp; try (with_reducible rfl))
              (try simp only [Act.put, List.setIfInBounds_toArray, List.set_cons_zero, List.set_cons_succ])
              refine wpAnyM_one (i := 5) (o := ⟨_, _, _, _, _, _⟩) (by kernel_rfl) rfl (fun K hK => ?_)
              go_simp
              go_at_call 13
              refine (HG3d.out.commitA (by have := HD0.out; omega) HPA.out xn).mono ?_
              rintro e w5 ⟨rfl, k5⟩
              have HG5 := hide k5
              clear k5
              refine hK.out _ _ (HG5.out.cells.cells4) (fun hHeld => ?_)
              clear hK K
              (try simp only [List.setIfInBounds_toArray, List.set_cons_zero, List.set_cons_succ])
              refine wpAnyM_one (i := 11) (o := ⟨_, _, _, _, _, _⟩) (by kernel_rfl) rfl (fun K hK => ?_)
              go_simp
              go_at_call 14
              refine (HG5.out.commitS HSM.out (by have := HD0.out; omega) (by have := HG2.out.flat; have := HD0.out; omega) xp xn).mono ?_
              rintro e w6 ⟨rfl, d6, s6, t6, k6⟩
              have HG6 := hide k6
              have HS6 := hide s6
              have HT6 := hide t6
              clear k6 s6 t6
              refine hK.out _ _ (HG6.out.cells.cells4) (fun hHeld => ?_)
              clear hK K
              (try simp only [List.setIfInBounds_toArray, List.set_cons_zero, List.set_cons_succ])
              refine wpAnyM_take (i := 12) (oi := ⟨_, _, _, _, _, _⟩) (v := ?_) rfl (by kernel_rfl) (by kernel_rfl) (by kernel_rfl) (by kernel_rfl) (fun _ _ _ h => h) (Or.inl ⟨by rfl, ?_⟩) hHeld ?_
              rotate_left
              · (intro w' hSw; (try dsimp only at hSw); go_simp; try (with_reducible rfl))
              (try simp only [Act.put, List.setIfInBounds_toArray, List.set_cons_zero, List.set_cons_succ])
              refine wpAnyM_take (i := 13) (oi := ⟨_, _, _, _, _, _⟩) (v := ?_) rfl (by kernel_rfl) (by kernel_rfl) (by kernel_rfl) (by kernel_rfl) (fun _ _ _ h => h) (Or.inl ⟨by rfl, ?_⟩) hHeld ?_
              rotate_left
              · (intro w' hSw; (try dsimp only at hSw); go_simp; try (with_reducible rfl))
              (try simp only [Act.put, List.setIfInBounds_toArray, List.set_cons_zero, List.set_cons_succ])
              refine wpAnyM_done (by kernel_rfl) ?_ _
              clear HG2 HG3d HG5
              obtain ⟨en, hen⟩ : ∃ en, cmE f xp xn = en := ⟨_, rfl⟩
              rw [hen]
              clear hen
              go_wp2_with fail
              go_meet
              case rel => exact ⟨en, cmF f xp xn, o ++ cmO f xp xn, d6, rfl, rfl, ⟨HS6.out, by have := HT6.out; have := HD0.out; have := HRL.out; omega⟩, (by rw [List.flatten_append]; exact HG6.out.up (by have := HRL.out; omega))⟩
          · by_cases h5 : xw = 5
            · clear h012 h34
              subst h5
              go_wp2_with (first | (have chk := HG2; clear chk; go_at_call 15; refine (HG2.out.abortA (by have := HD0.out; omega) HPA.out xn).mono ?_; rintro e w5 ⟨rfl, k5⟩; have HG3 := hide k5; clear k5 HG2 z0 z1 z2 z3; obtain ⟨z0, z1, z2, z3⟩ := HG3.out.cells.cells4) | (have chk := HG3; clear chk; go_at_call 16; refine (HG3.out.abortR (by have := HD0.out; omega) xp xn).mono ?_; rintro e w5 ⟨rfl, k5⟩; have HG4 := hide k5; clear k5 HG3 z0 z1 z2 z3; obtain ⟨z0, z1, z2, z3⟩ := HG4.out.cells.cells4) | fail)
              go_meet
              case rel => exact ⟨0, abF f xp xn, o, dAb d xp xn, rfl, rfl, ⟨HSM.out.abort xp xn, by have := (dw_pick (fun x => !decide (x.pa = xp) || x.dn || decide (x.n ≤ xn)) d).2; have := HD0.out; have := HRL.out; unfold dAb; omega⟩, HG4.out.up (by have := HRL.out; omega)⟩
            · have n0 : (xw == 0) = false := by simp; omega
              have n1 : (xw == 1) = false := by simp; omega
              have n2 : (xw == 2) = false := by simp; omega
              have n3 : (xw == 3) = false := by simp; omega
              have n4 : (xw == 4) = false := by simp; omega
              have n5 : (xw == 5) = false := by simp; omega
              clear h012 h34 h5
              go_wp2_with fail
              go_meet
              case rel => exact ⟨0, f, o, d, rfl, rfl, ⟨HSM.out, by have := HD0.out; have := HRL.out; omega⟩, HG2.out.up (by have := HRL.out; omega)⟩
      case rest =>
        obtain ⟨a, f', o', d', rfl, rfl, HS', P0⟩ := hcut
        clear HG2 z0 z1 z2 z3 hwo
        obtain ⟨lv, ov, hov, hbx⟩ := P0.out.outR
        obtain ⟨oa, oc, hos⟩ := hov.shape
        obtain ⟨on, hon⟩ : ∃ on, o'.flatten.length = on := ⟨_, rfl⟩
        rw [hon] at hos
        subst hos
        have HLN : Hid (o'.flatten.length ≤ 3000) := (show _ ≤ _ by have := P0.out.flat; have := HRL.out; omega)
        have HOV := hide hov
        have HBX := hide hbx
        have HB : Hid (W3 ≤ 500000 ∧ dw d' ≤ 100000) := ⟨by have := HRL.out; omega, by have := HS'.out.2; have := HRL.out; omega⟩
        have HPT : Hid ((f' xp).stg.length ≤ 3000 ∧ (uptoS (f' xp) xn).length ≤ 3000) := ⟨by have := (P0.out.part xp xn).1; have := HRL.out; omega, by have := (P0.out.part xp xn).2; have := HRL.out; omega⟩
        clear hov hbx hon
        go_upto_region 27 with fail
        have KC : Hid (∀ w' : World, Below wc.heap.size wc w' → w'.cell? ⟨wr.heap.size, 0, none⟩ = some (.int .i64 xw) ∧ w'.cell? ⟨wr.heap.size, 1, none⟩ = some (.int .i64 xp) ∧ w'.cell? ⟨wr.heap.size, 2, none⟩ = some (.int .u64 (xn : Int)) ∧ w'.cell? ⟨wr.heap.size, 3, none⟩ = some (.slice xa xl xc) ∧ w'.cell? ⟨w3.heap.size, 1, none⟩ = some (.slice oa on oc)) := fun w' hb => by
          obtain ⟨k0, k1, k2, k3⟩ := (P0.out.below hb).cells.cells4
          exact ⟨k0, k1, k2, k3, (HBX.out.below hb).cells2.2⟩
        have B4 : Hid (Below wc.heap.size wc wc.drew) := (Below.refl _ _).drew
        refine wp_region_M (S := fun w' => w'.cell? ⟨wr.heap.size, 0, none⟩ = some (.int .i64 xw) ∧ w'.cell? ⟨wr.heap.size, 1, none⟩ = some (.int .i64 xp) ∧ w'.cell? ⟨wr.heap.size, 2, none⟩ = some (.int .u64 (xn : Int)) ∧ w'.cell? ⟨wr.heap.size, 3, none⟩ = some (.slice xa xl xc) ∧ w'.cell? ⟨w3.heap.size, 1, none⟩ = some (.slice oa on oc)) (late := []) (by kernel_rfl) (KC.out _ B4.out) (fun hHeld => ?_)
        (try simp only [List.size_toArray, List.length_cons, List.length_nil, Nat.zero_add, Nat.reduceAdd, Array.replicate, List.replicate])
        refine wpAnyM_take (i := 0) (oi := ⟨_, _, _, _, _, _⟩) (v := ?_) rfl (by kernel_rfl) (by kernel_rfl) (by kernel_rfl) (by kernel_rfl) (fun _ _ _ h => h) (Or.inl ⟨by rfl, ?_⟩) hHeld ?_
        rotate_left
        · (intro w' hSw; (try dsimp only at hSw); go_simp; try (with_reducible rfl))
        (try simp only [Act.put, List.setIfInBounds_toArray, List.set_cons_zero, List.set_cons_succ])
        refine wpAnyM_take (i := 1) (oi := ⟨_, _, _, _, _, _⟩) (v := ?_) rfl (by kernel_rfl) (by kernel_rfl) (by kernel_rfl) (by kernel_rfl) (fun _ _ _ h => h) (Or.inl ⟨by rfl, ?_⟩) hHeld ?_
        rotate_left
        · (intro w' hSw; (try dsimp only at hSw); go_simp; try (with_reducible rfl))
        (try simp only [Act.put, List.setIfInBounds_toArray, List.set_cons_zero, List.set_cons_succ])
        refine wpAnyM_take (i := 2) (oi := ⟨_, _, _, _, _, _⟩) (v := ?_) rfl (by kernel_rfl) (by kernel_rfl) (by kernel_rfl) (by kernel_rfl) (fun _ _ _ h => h) (Or.inl ⟨by rfl, ?_⟩) hHeld ?_
        rotate_left
        · (intro w' hSw; (try dsimp only at hSw); go_simp; try (with_reducible rfl))
        (try simp only [Act.put, List.setIfInBounds_toArray, List.set_cons_zero, List.set_cons_succ])
        refine wpAnyM_take (i := 3) (oi := ⟨_, _, _, _, _, _⟩) (v := ?_) rfl (by kernel_rfl) (by kernel_rfl) (by kernel_rfl) (by kernel_rfl) (fun _ _ _ h => h) (Or.inl ⟨by rfl, ?_⟩) hHeld ?_
        rotate_left
        · (intro w' hSw; (try dsimp only at hSw); go_simp; try (with_reducible rfl))
        (try simp only [Act.put, List.setIfInBounds_toArray, List.set_cons_zero, List.set_cons_succ])
        refine wpAnyM_take (i := 4) (oi := ⟨_, _, _, _, _, _⟩) (v := ?_) rfl (by kernel_rfl) (by kernel_rfl) (by kernel_rfl) (by kernel_rfl) (fun _ _ _ h => h) (Or.inl ⟨by rfl, ?_⟩) hHeld ?_
        rotate_left
        · (intro w' hSw; (try dsimp only at hSw); go_simp; try (with_reducible rfl))
        (try simp only [Act.put, List.setIfInBounds_toArray, List.set_cons_zero, List.set_cons_succ])
        refine wpAnyM_take (i := 6) (oi := ⟨_, _, _, _, _, _⟩) (v := ?_) rfl (by kernel_rfl) (by kernel_rfl) (by kernel_rfl) (by kernel_rfl) (fun _ _ _ h => h) (Or.inl ⟨by rfl, ?_⟩) hHeld ?_
        rotate_left
        · (intro w' hSw; (try dsimp only at hSw); go_simp; try (with_reducible rfl))
        (try simp only [Act.put, List.setIfInBounds_toArray, List.set_cons_zero, List.set_cons_succ])
        refine wpAnyM_take (i := 7) (oi := ⟨_, _, _, _, _, _⟩) (v := ?_) rfl (by kernel_rfl) (by kernel_rfl) (by kernel_rfl) (by kernel_rfl) (fun _ _ _ h => h) (Or.inl ⟨by rfl, ?_⟩) hHeld ?_
        rotate_left
        · (intro w' hSw; (try dsimp only at hSw); go_simp; try (with_reducible rfl))
        (try simp only [Act.put, List.setIfInBounds_toArray, List.set_cons_zero, List.set_cons_succ])
        refine wpAnyM_take (i := 8) (oi := ⟨_, _, _, _, _, _⟩) (v := ?_) rfl (by kernel_rfl) (by kernel_rfl) (by kernel_rfl) (by kernel_rfl) (fun _ _ _ h => h) (Or.inl ⟨by rfl, ?_⟩) hHeld ?_
        rotate_left
        · (intro w' hSw; (try dsimp only at hSw); go_simp; try (with_reducible rfl))
        (try simp only [Act.put, List.setIfInBounds_toArray, List.set_cons_zero, List.set_cons_succ])
        refine wpAnyM_take (i := 9) (oi := ⟨_, _, _, _, _, _⟩) (v := ?_) rfl (by kernel_rfl) (by kernel_rfl) (by kernel_rfl) (by kernel_rfl) (fun _ _ _ h => h) (Or.inl ⟨by rfl, ?_⟩) hHeld ?_
        rotate_left
        · (intro w' hSw; (try dsimp only at hSw); go_simp; try (with_reducible rfl))
        (try simp only [Act.put, List.setIfInBounds_toArray, List.set_cons_zero, List.set_cons_succ])
        refine wpAnyM_one (i := 5) (o := ⟨_, _, _, _, _, _⟩) (by kernel_rfl) rfl (fun K hK => ?_)
        go_simp
        go_at_call 18
        refine ((P0.out.below B4.out).allA HB.out.1).mono ?_
        rintro e w5 ⟨u1, rfl, o5, b5⟩
        have B5 : Hid (Below wc.heap.size wc w5) := B4.out.trans (b5.mono B4.out.size)
        have U1 := hide o5
        clear o5 b5
        refine hK.out _ _ (KC.out _ B5.out) (fun hHeld => ?_)
        clear hK K
        (try simp only [List.setIfInBounds_toArray, List.set_cons_zero, List.set_cons_succ])
        refine wpAnyM_one (i := 10) (o := ⟨_, _, _, _, _, _⟩) (by kernel_rfl) rfl (fun K hK => ?_)
        go_simp
        go_at_call 17
        refine (hRecords_any (U1.out.seg Rc.cs_len (by have := HLN.out; omega)) ((HOV.out.below B5.out).seg Rc.cs_len (by have := HLN.out; omega)) (by have := HLN.out; omega)).mono ?_
        rintro e w6 ⟨rfl, b6⟩
        have B6 : Hid (Below wc.heap.size wc w6) := B5.out.trans (b6.mono B5.out.size)
        clear b6 U1
        refine hK.out _ _ (KC.out _ B6.out) (fun hHeld => ?_)
        clear hK K
        (try simp only [List.setIfInBounds_toArray, List.set_cons_zero, List.set_cons_succ])
        refine wpAnyM_take (i := 11) (oi := ⟨_, _, _, _, _, _⟩) (v := ?_) rfl (by kernel_rfl) (by kernel_rfl) (by kernel_rfl) (by kernel_rfl) (fun _ _ _ h => h) (Or.inl ⟨by rfl, ?_⟩) hHeld ?_
        rotate_left
        · (intro w' hSw; (try dsimp only at hSw); go_simp; try (with_reducible rfl))
        (try simp only [Act.put, List.setIfInBounds_toArray, List.set_cons_zero, List.set_cons_succ])
        refine wpAnyM_take (i := 12) (oi := ⟨_, _, _, _, _, _⟩) (v := ?_) rfl (by kernel_rfl) (by kernel_rfl) (by kernel_rfl) (by kernel_rfl) (fun _ _ _ h => h) (Or.inl ⟨by rfl, ?_⟩) hHeld ?_
        rotate_left
        · (intro w' hSw; (try dsimp only at hSw); go_simp; try (with_reducible rfl))
        (try simp only [Act.put, List.setIfInBounds_toArray, List.set_cons_zero, List.set_cons_succ])
        refine wpAnyM_take (i := 13) (oi := ⟨_, _, _, _, _, _⟩) (v := ?_) rfl (by kernel_rfl) (by kernel_rfl) (by kernel_rfl) (by kernel_rfl) (fun _ _ _ h => h) (Or.inl ⟨by rfl, ?_⟩) hHeld ?_
        rotate_left
        · (intro w' hSw; (try dsimp only at hSw); go_simp; try (with_reducible rfl))
        (try simp only [Act.put, List.setIfInBounds_toArray, List.set_cons_zero, List.set_cons_succ])
        refine wpAnyM_take (i := 14) (oi := ⟨_, _, _, _, _, _⟩) (v := ?_) rfl (by kernel_rfl) (by kernel_rfl) (by kernel_rfl) (by kernel_rfl) (fun _ _ _ h => h) (Or.inl ⟨by rfl, ?_⟩) hHeld ?_
        rotate_left
        · (intro w' hSw; (try dsimp only at hSw); go_simp; try (with_reducible rfl))
        (try simp only [Act.put, List.setIfInBounds_toArray, List.set_cons_zero, List.set_cons_succ])
        refine wpAnyM_take (i := 15) (oi := ⟨_, _, _, _, _, _⟩) (v := ?_) rfl (by kernel_rfl) (by kernel_rfl) (by kernel_rfl) (by kernel_rfl) (fun _ _ _ h => h) (Or.inl ⟨by rfl, ?_⟩) hHeld ?_
        rotate_left
        · (intro w' hSw; (try dsimp only at hSw); go_simp; try (with_reducible rfl))
        (try simp only [Act.put, List.setIfInBounds_toArray, List.set_cons_zero, List.set_cons_succ])
        refine wpAnyM_take (i := 16) (oi := ⟨_, _, _, _, _, _⟩) (v := ?_) rfl (by kernel_rfl) (by kernel_rfl) (by kernel_rfl) (by kernel_rfl) (fun _ _ _ h => h) (Or.inl ⟨by rfl, ?_⟩) hHeld ?_
        rotate_left
        · (intro w' hSw; (try dsimp only at hSw); go_simp; try (with_reducible rfl))
        (try simp only [Act.put, List.setIfInBounds_toArray, List.set_cons_zero, List.set_cons_succ])
        refine wpAnyM_take (i := 18) (oi := ⟨_, _, _, _, _, _⟩) (v := ?_) rfl (by kernel_rfl) (by kernel_rfl) (by kernel_rfl) (by kernel_rfl) (fun _ _ _ h => h) (Or.inl ⟨by rfl, ?_⟩) hHeld ?_
        rotate_left
        · (intro w' hSw; (try dsimp only at hSw); go_simp; try (with_reducible rfl))
        (try simp only [Act.put, List.setIfInBounds_toArray, List.set_cons_zero, List.set_cons_succ])
        refine wpAnyM_take (i := 19) (oi := ⟨_, _, _, _, _, _⟩) (v := ?_) rfl (by kernel_rfl) (by kernel_rfl) (by kernel_rfl) (by kernel_rfl) (fun _ _ _ h => h) (Or.inl ⟨by rfl, ?_⟩) hHeld ?_
        rotate_left
        · (intro w' hSw; (try dsimp only at hSw); go_simp; try (with_reducible rfl))
        (try simp only [Act.put, List.setIfInBounds_toArray, List.set_cons_zero, List.set_cons_succ])
        refine wpAnyM_take (i := 20) (oi := ⟨_, _, _, _, _, _⟩) (v := ?_) rfl (by kernel_rfl) (by kernel_rfl) (by kernel_rfl) (by kernel_rfl) (fun _ _ _ h => h) (Or.inl ⟨by rfl, ?_⟩) hHeld ?_
        rotate_left
        · (intro w' hSw; (try dsimp only at hSw); go_simp; try (with_reducible rfl))
        (try simp only [Act.put, List.setIfInBounds_toArray, List.set_cons_zero, List.set_cons_succ])
        refine wpAnyM_one (i := 17) (o := ⟨_, _, _, _, _, _⟩) (by kernel_rfl) rfl (fun K hK => ?_)
        go_simp
        go_at_call 19
        refine ((P0.out.below B6.out).lastA HPA.out).mono ?_
        rintro e w7 ⟨rfl, rfl⟩
        refine hK.out _ _ (KC.out _ B6.out) (fun hHeld => ?_)
        clear hK K
        (try simp only [List.setIfInBounds_toArray, List.set_cons_zero, List.set_cons_succ])
        refine wpAnyM_one (i := 21) (o := ⟨_, _, _, _, _, _⟩) (by kernel_rfl) rfl (fun K hK => ?_)
        go_simp
        go_at_call 20
        refine ((P0.out.below B6.out).lastS HS'.out.1 HB.out.2 xp).mono ?_
        rintro e w8 ⟨rfl, b8⟩
        have B8 : Hid (Below wc.heap.size wc w8) := B6.out.trans (b8.mono B6.out.size)
        clear b8
        refine hK.out _ _ (KC.out _ B8.out) (fun hHeld => ?_)
        clear hK K
        (try simp only [List.setIfInBounds_toArray, List.set_cons_zero, List.set_cons_succ])
        refine wpAnyM_take (i := 22) (oi := ⟨_, _, _, _, _, _⟩) (v := ?_) rfl (by kernel_rfl) (by kernel_rfl) (by kernel_rfl) (by kernel_rfl) (fun _ _ _ h => h) (Or.inl ⟨by rfl, ?_⟩) hHeld ?_
        rotate_left
        · (intro w' hSw; (try dsimp only at hSw); go_simp; try (with_reducible rfl))
        (try simp only [Act.put, List.setIfInBounds_toArray, List.set_cons_zero, List.set_cons_succ])
        refine wpAnyM_take (i := 23) (oi := ⟨_, _, _, _, _, _⟩) (v := ?_) rfl (by kernel_rfl) (by kernel_rfl) (by kernel_rfl) (by kernel_rfl) (fun _ _ _ h => h) (Or.inl ⟨by rfl, ?_⟩) hHeld ?_
        rotate_left
        · (intro w' hSw; (try dsimp only at hSw); go_simp; try (with_reducible rfl))
        (try simp only [Act.put, List.setIfInBounds_toArray, List.set_cons_zero, List.set_cons_succ])
        refine wpAnyM_take (i := 24) (oi := ⟨_, _, _, _, _, _⟩) (v := ?_) rfl (by kernel_rfl) (by kernel_rfl) (by kernel_rfl) (by kernel_rfl) (fun _ _ _ h => h) (Or.inl ⟨by rfl, ?_⟩) hHeld ?_
        rotate_left
        · (intro w' hSw; (try dsimp only at hSw); go_simp; try (with_reducible rfl))
        (try simp only [Act.put, List.setIfInBounds_toArray, List.set_cons_zero, List.set_cons_succ])
        refine wpAnyM_take (i := 25) (oi := ⟨_, _, _, _, _, _⟩) (v := ?_) rfl (by kernel_rfl) (by kernel_rfl) (by kernel_rfl) (by kernel_rfl) (fun _ _ _ h => h) (Or.inl ⟨by rfl, ?_⟩) hHeld ?_
        rotate_left
        · (intro w' hSw; (try dsimp only at hSw); go_simp; try (with_reducible rfl))
        (try simp only [Act.put, List.setIfInBounds_toArray, List.set_cons_zero, List.set_cons_succ])
        refine wpAnyM_take (i := 26) (oi := ⟨_, _, _, _, _, _⟩) (v := ?_) rfl (by kernel_rfl) (by kernel_rfl) (by kernel_rfl) (by kernel_rfl) (fun _ _ _ h => h) (Or.inl ⟨by rfl, ?_⟩) hHeld ?_
        rotate_left
        · (intro w' hSw; (try dsimp only at hSw); go_simp; try (with_reducible rfl))
        (try simp only [Act.put, List.setIfInBounds_toArray, List.set_cons_zero, List.set_cons_succ])
        refine wpAnyM_take (i := 27) (oi := ⟨_, _, _, _, _, _⟩) (v := ?_) rfl (by kernel_rfl) (by kernel_rfl) (by kernel_rfl) (by kernel_rfl) (fun _ _ _ h => h) (Or.inl ⟨by rfl, ?_⟩) hHeld ?_
        rotate_left
        · (intro w' hSw; (try dsimp only at hSw); go_simp; try (with_reducible rfl))
        (try simp only [Act.put, List.setIfInBounds_toArray, List.set_cons_zero, List.set_cons_succ])
        refine wpAnyM_take (i := 29) (oi := ⟨_, _, _, _, _, _⟩) (v := ?_) rfl (by kernel_rfl) (by kernel_rfl) (by kernel_rfl) (by kernel_rfl) (fun _ _ _ h => h) (Or.inl ⟨by rfl, ?_⟩) hHeld ?_
        rotate_left
        · (intro w' hSw; (try dsimp only at hSw); go_simp; try (with_reducible rfl))
        (try simp only [Act.put, List.setIfInBounds_toArray, List.set_cons_zero, List.set_cons_succ])
        refine wpAnyM_take (i := 30) (oi := ⟨_, _, _, _, _, _⟩) (v := ?_) rfl (by kernel_rfl) (by kernel_rfl) (by kernel_rfl) (by kernel_rfl) (fun _ _ _ h => h) (Or.inl ⟨by rfl, ?_⟩) hHeld ?_
        rotate_left
        · (intro w' hSw; (try dsimp only at hSw); go_simp; try (with_reducible rfl))
        (try simp only [Act.put, List.setIfInBounds_toArray, List.set_cons_zero, List.set_cons_succ])
        refine wpAnyM_take (i := 31) (oi := ⟨_, _, _, _, _, _⟩) (v := ?_) rfl (by kernel_rfl) (by kernel_rfl) (by kernel_rfl) (by kernel_rfl) (fun _ _ _ h => h) (Or.inl ⟨by rfl, ?_⟩) hHeld ?_
        rotate_left
        · (intro w' hSw; (try dsimp only at hSw); go_simp; try (with_reducible rfl))
        (try simp only [Act.put, List.setIfInBounds_toArray, List.set_cons_zero, List.set_cons_succ])
        refine wpAnyM_one (i := 28) (o := ⟨_, _, _, _, _, _⟩) (by kernel_rfl) rfl (fun K hK => ?_)
        go_simp
        go_at_call 22
        refine ((P0.out.below B8.out).stagedA HB.out.1 HPA.out).mono ?_
        rintro e w9 ⟨u3, rfl, o9, b9⟩
        have B9 : Hid (Below wc.heap.size wc w9) := B8.out.trans (b9.mono B8.out.size)
        have U3 := hide o9
        clear o9 b9
        refine hK.out _ _ (KC.out _ B9.out) (fun hHeld => ?_)
        clear hK K
        (try simp only [List.setIfInBounds_toArray, List.set_cons_zero, List.set_cons_succ])
        refine wpAnyM_one (i := 32) (o := ⟨_, _, _, _, _, _⟩) (by kernel_rfl) rfl (fun K hK => ?_)
        go_simp
        go_at_call 23
        refine ((P0.out.below B9.out).stagedS HS'.out.1 HB.out.2 xp).mono ?_
        rintro e w10 ⟨u4, rfl, o10, b10⟩
        have B10 : Hid (Below wc.heap.size wc w10) := B9.out.trans (b10.mono B9.out.size)
        have U4 := hide o10
        have U3b := hide (U3.out.below b10)
        clear o10 b10 U3
        refine hK.out _ _ (KC.out _ B10.out) (fun hHeld => ?_)
        clear hK K
        (try simp only [List.setIfInBounds_toArray, List.set_cons_zero, List.set_cons_succ])
        refine wpAnyM_one (i := 33) (o := ⟨_, _, _, _, _, _⟩) (by kernel_rfl) rfl (fun K hK => ?_)
        go_simp
        go_at_call 21
        refine (hNums_any (U3b.out.seg u64cs_len (by rw [List.length_map]; have := HPT.out.1; omega)) (U4.out.seg u64cs_len (by rw [List.length_map]; have := HPT.out.1; omega)) (by rw [List.length_map]; have := HPT.out.1; omega)).mono ?_
        rintro e w11 ⟨rfl, b11⟩
        have B11 : Hid (Below wc.heap.size wc w11) := B10.out.trans (b11.mono B10.out.size)
        clear b11 U3b U4
        refine hK.out _ _ (KC.out _ B11.out) (fun hHeld => ?_)
        clear hK K
        (try simp only [List.setIfInBounds_toArray, List.set_cons_zero, List.set_cons_succ])
        refine wpAnyM_take (i := 34) (oi := ⟨_, _, _, _, _, _⟩) (v := ?_) rfl (by kernel_rfl) (by kernel_rfl) (by kernel_rfl) (by kernel_rfl) (fun _ _ _ h => h) (Or.inl ⟨by rfl, ?_⟩) hHeld ?_
        rotate_left
        · (intro w' hSw; (try dsimp only at hSw); go_simp; try (with_reducible rfl))
        (try simp only [Act.put, List.setIfInBounds_toArray, List.set_cons_zero, List.set_cons_succ])
        refine wpAnyM_take (i := 35) (oi := ⟨_, _, _, _, _, _⟩) (v := ?_) rfl (by kernel_rfl) (by kernel_rfl) (by kernel_rfl) (by kernel_rfl) (fun _ _ _ h => h) (Or.inl ⟨by rfl, ?_⟩) hHeld ?_
        rotate_left
        · (intro w' hSw; (try dsimp only at hSw); go_simp; try (with_reducible rfl))
        (try simp only [Act.put, List.setIfInBounds_toArray, List.set_cons_zero, List.set_cons_succ])
        refine wpAnyM_take (i := 36) (oi := ⟨_, _, _, _, _, _⟩) (v := ?_) rfl (by kernel_rfl) (by kernel_rfl) (by kernel_rfl) (by kernel_rfl) (fun _ _ _ h => h) (Or.inl ⟨by rfl, ?_⟩) hHeld ?_
        rotate_left
        · (intro w' hSw; (try dsimp only at hSw); go_simp; try (with_reducible rfl))
        (try simp only [Act.put, List.setIfInBounds_toArray, List.set_cons_zero, List.set_cons_succ])
        refine wpAnyM_take (i := 37) (oi := ⟨_, _, _, _, _, _⟩) (v := ?_) rfl (by kernel_rfl) (by kernel_rfl) (by kernel_rfl) (by kernel_rfl) (fun _ _ _ h => h) (Or.inl ⟨by rfl, ?_⟩) hHeld ?_
        rotate_left
        · (intro w' hSw; (try dsimp only at hSw); go_simp; try (with_reducible rfl))
        (try simp only [Act.put, List.setIfInBounds_toArray, List.set_cons_zero, List.set_cons_succ])
        refine wpAnyM_take (i := 38) (oi := ⟨_, _, _, _, _, _⟩) (v := ?_) rfl (by kernel_rfl) (by kernel_rfl) (by kernel_rfl) (by kernel_rfl) (fun _ _ _ h => h) (Or.inl ⟨by rfl, ?_⟩) hHeld ?_
        rotate_left
        · (intro w' hSw; (try dsimp only at hSw); go_simp; try (with_reducible rfl))
        (try simp only [Act.put, List.setIfInBounds_toArray, List.set_cons_zero, List.set_cons_succ])
        refine wpAnyM_take (i := 39) (oi := ⟨_, _, _, _, _, _⟩) (v := ?_) rfl (by kernel_rfl) (by kernel_rfl) (by kernel_rfl) (by kernel_rfl) (fun _ _ _ h => h) (Or.inl ⟨by rfl, ?_⟩) hHeld ?_
        rotate_left
        · (intro w' hSw; (try dsimp only at hSw); go_simp; try (with_reducible rfl))
        (try simp only [Act.put, List.setIfInBounds_toArray, List.set_cons_zero, List.set_cons_succ])
        refine wpAnyM_take (i := 40) (oi := ⟨_, _, _, _, _, _⟩) (v := ?_) rfl (by kernel_rfl) (by kernel_rfl) (by kernel_rfl) (by kernel_rfl) (fun _ _ _ h => h) (Or.inl ⟨by rfl, ?_⟩) hHeld ?_
        rotate_left
        · (intro w' hSw; (try dsimp only at hSw); go_simp; try (with_reducible rfl))
        (try simp only [Act.put, List.setIfInBounds_toArray, List.set_cons_zero, List.set_cons_succ])
        refine wpAnyM_take (i := 41) (oi := ⟨_, _, _, _, _, _⟩) (v := ?_) rfl (by kernel_rfl) (by kernel_rfl) (by kernel_rfl) (by kernel_rfl) (fun _ _ _ h => h) (Or.inl ⟨by rfl, ?_⟩) hHeld ?_
        rotate_left
        · (intro w' hSw; (try dsimp only at hSw); go_simp; try (with_reducible rfl))
        (try simp only [Act.put, List.setIfInBounds_toArray, List.set_cons_zero, List.set_cons_succ])
        refine wpAnyM_take (i := 43) (oi := ⟨_, _, _, _, _, _⟩) (v := ?_) rfl (by kernel_rfl) (by kernel_rfl) (by kernel_rfl) (by kernel_rfl) (fun _ _ _ h => h) (Or.inl ⟨by rfl, ?_⟩) hHeld ?_
        rotate_left
        · (intro w' hSw; (try dsimp only at hSw); go_simp; try (with_reducible rfl))
        (try simp only [Act.put, List.setIfInBounds_toArray, List.set_cons_zero, List.set_cons_succ])
        refine wpAnyM_take (i := 44) (oi := ⟨_, _, _, _, _, _⟩) (v := ?_) rfl (by kernel_rfl) (by kernel_rfl) (by kernel_rfl) (by kernel_rfl) (fun _ _ _ h => h) (Or.inl ⟨by rfl, ?_⟩) hHeld ?_
        rotate_left
        · (intro w' hSw; (try dsimp only at hSw); go_simp; try (with_reducible rfl))
        (try simp only [Act.put, List.setIfInBounds_toArray, List.set_cons_zero, List.set_cons_succ])
        refine wpAnyM_take (i := 45) (oi := ⟨_, _, _, _, _, _⟩) (v := ?_) rfl (by kernel_rfl) (by kernel_rfl) (by kernel_rfl) (by kernel_rfl) (fun _ _ _ h => h) (Or.inl ⟨by rfl, ?_⟩) hHeld ?_
        rotate_left
        · (intro w' hSw; (try dsimp only at hSw); go_simp; try (with_reducible rfl))
        (try simp only [Act.put, List.setIfInBounds_toArray, List.set_cons_zero, List.set_cons_succ])
        refine wpAnyM_take (i := 46) (oi := ⟨_, _, _, _, _, _⟩) (v := ?_) rfl (by kernel_rfl) (by kernel_rfl) (by kernel_rfl) (by kernel_rfl) (fun _ _ _ h => h) (Or.inl ⟨by rfl, ?_⟩) hHeld ?_
        rotate_left
        · (intro w' hSw; (try dsimp only at hSw); go_simp; try (with_reducible rfl))
        (try simp only [Act.put, List.setIfInBounds_toArray, List.set_cons_zero, List.set_cons_succ])
        refine wpAnyM_take (i := 47) (oi := ⟨_, _, _, _, _, _⟩) (v := ?_) rfl (by kernel_rfl) (by kernel_rfl) (by kernel_rfl) (by kernel_rfl) (fun _ _ _ h => h) (Or.inl ⟨by rfl, ?_⟩) hHeld ?_
        rotate_left
        · (intro w' hSw; (try dsimp only at hSw); go_simp; try (with_reducible rfl))
        (try simp only [Act.put, List.setIfInBounds_toArray, List.set_cons_zero, List.set_cons_succ])
        refine wpAnyM_one (i := 42) (o := ⟨_, _, _, _, _, _⟩) (by kernel_rfl) rfl (fun K hK => ?_)
        go_simp
        go_at_call 24
        refine ((P0.out.below B11.out).uptoA HB.out.1 HPA.out xn).mono ?_
        rintro e w12 ⟨u5, rfl, o12, b12⟩
        have B12 : Hid (Below wc.heap.size wc w12) := B11.out.trans (b12.mono B11.out.size)
        have U5 := hide o12
        clear o12 b12
        refine hK.out _ _ (KC.out _ B12.out) (fun hHeld => ?_)
        clear hK K
        (try simp only [List.setIfInBounds_toArray, List.set_cons_zero, List.set_cons_succ])
        refine wpAnyM_one (i := 48) (o := ⟨_, _, _, _, _, _⟩) (by kernel_rfl) rfl (fun K hK => ?_)
        go_simp
        go_at_call 25
        refine ((P0.out.below B12.out).uptoS HS'.out.1 HB.out.2 xp xn).mono ?_
        rintro e w13 ⟨u6, rfl, o13, b13⟩
        have B13 : Hid (Below wc.heap.size wc w13) := B12.out.trans (b13.mono B12.out.size)
        have U6 := hide o13
        have U5b := hide (U5.out.below b13)
        clear o13 b13 U5
        refine hK.out _ _ (KC.out _ B13.out) (fun hHeld => ?_)
        clear hK K
        (try simp only [List.setIfInBounds_toArray, List.set_cons_zero, List.set_cons_succ])
        refine wpAnyM_one (i := 49) (o := ⟨_, _, _, _, _, _⟩) (by kernel_rfl) rfl (fun K hK => ?_)
        go_simp
        go_at_call 17
        refine (hRecords_any (U5b.out.seg Rc.cs_len (by have := HPT.out.2; omega)) (U6.out.seg Rc.cs_len (by have := HPT.out.2; omega)) (by have := HPT.out.2; omega)).mono ?_
        rintro e w14 ⟨rfl, b14⟩
        have B14 : Hid (Below wc.heap.size wc w14) := B13.out.trans (b14.mono B13.out.size)
        clear b14 U5b U6
        refine hK.out _ _ (KC.out _ B14.out) (fun hHeld => ?_)
        clear hK K
        (try simp only [List.setIfInBounds_toArray, List.set_cons_zero, List.set_cons_succ])
        refine wpAnyM_take (i := 50) (oi := ⟨_, _, _, _, _, _⟩) (v := ?_) rfl (by kernel_rfl) (by kernel_rfl) (by kernel_rfl) (by kernel_rfl) (fun _ _ _ h => h) (Or.inl ⟨by rfl, ?_⟩) hHeld ?_
        rotate_left
        · (intro w' hSw; (try dsimp only at hSw); go_simp; try (with_reducible rfl))
        (try simp only [Act.put, List.setIfInBounds_toArray, List.set_cons_zero, List.set_cons_succ])
        refine wpAnyM_take (i := 51) (oi := ⟨_, _, _, _, _, _⟩) (v := ?_) rfl (by kernel_rfl) (by kernel_rfl) (by kernel_rfl) (by kernel_rfl) (fun _ _ _ h => h) (Or.inl ⟨by rfl, ?_⟩) hHeld ?_
        rotate_left
        · (intro w' hSw; (try dsimp only at hSw); go_simp; try (with_reducible rfl))
        (try simp only [Act.put, List.setIfInBounds_toArray, List.set_cons_zero, List.set_cons_succ])
        refine wpAnyM_done (by kernel_rfl) ?_ _
        go_wp2_with fail
        go_roundg go
        case rel => exact ⟨i + 1, f', o', d', by go_num, by omega, by omega, ⟨HS'.out.1, by rw [HW3.out]; exact HS'.out.2⟩, (show GP _ _ _ _ _ _ _ _ _ _ _ _ by rw [HW3.out]; exact (P0.out.below B14.out).nobox)⟩
        case measure => omega
    · obtain rfl : i = l.length := by omega
      have bt : ¬ ((l.length : Nat) : Int) < (l.length : Int) := by omega
      go_wp2_with fail
      go_ret
      exact ⟨rfl, HG.out.world⟩

end Go.Proofs.Yteafnohponbbeaa
