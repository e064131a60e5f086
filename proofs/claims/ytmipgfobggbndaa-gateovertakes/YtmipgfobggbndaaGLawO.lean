/-
  The law GateOvertakes.
-/
import Derived.Test.YtmipgfobggbndaaGOvW
namespace Go.Proofs.Ytmipgfobggbndaa
open Go.RowKit

theorem newO (W : World) {n : Nat} (hn : n = W.heap.size) (x : Ou) (j : Nat) (u : Value) (hu : (Ou.cs x)[j]? = some u) : (W.alloc (.cells #[.int .i64 x.ch, .int .i64 x.f.kd, .int .i64 x.f.ke, .int .i64 x.f.ti, .int .i64 x.f.va, .int .i64 x.f.ma, .int .u64 x.f.n, .bool x.f.ov] 65)).cell? ((⟨n, 0, none⟩ : Addr).add j) = some u := by
  have hb : BoxT 65 _ n _ := BoxT.new_at (t := 65) (w := W) (cs := #[.int .i64 x.ch, .int .i64 x.f.kd, .int .i64 x.f.ke, .int .i64 x.f.ti, .int .i64 x.f.va, .int .i64 x.f.ma, .int .u64 x.f.n, .bool x.f.ov]) hn
  rw [add_plain2, hb.cellAt, Nat.zero_add]
  simpa [Ou.cs] using hu
theorem madeC (w : World) (n : Nat) (hn : n ≤ 1000) : (Instr.makeSlice 30 (.int .i64 (n : Int)) (.int .i64 (n : Int))).run Try.prog w = .ok (.slice (some ⟨w.heap.size, 0, none⟩) n n) (w.alloc (.cells (bls (List.replicate n false)) 4)) := by
  have hinfo : (Try.prog.info? 4).map (fun i => (i.zero, i.size, i.bytes)) = some (some (.bool false), 1, 1) := by kernel_rfl
  obtain ⟨i0, hi, hz0, hz1, hz2⟩ := info_parts hinfo
  have := run_make (P := Try.prog) w 30 4 i0 (.bool false) Try.underlying30 hi hz0 .i64 .i64 (n : Int) (n : Int) (by omega) (Int.le_refl _) (by rw [hz2]; omega) (by omega)
  rw [hz1, Nat.mul_one, Int.toNat_natCast] at this
  rw [this, bls_rep]
  congr 3
  apply Array.ext_getElem?
  intro i
  by_cases h : i < n
  · simp [madeCells, Value.cells, h, Nat.mod_one]
  · rw [Array.getElem?_eq_none (by rw [size_madeCells]; omega), Array.getElem?_eq_none (by simp; omega)]
theorem ovS_cp {n : Nat} {M : List Int} {C : List Bool} {cp : List Ou} (h : C.any id = true) : (ovS n M C cp).cp = cp := by unfold ovS; rw [if_pos h]
theorem ovS_cpl {n : Nat} {M : List Int} {C : List Bool} {cp : List Ou} : (ovS n M C cp).cp.length ≤ cp.length := by unfold ovS; split <;> simp [Gs.new]
set_option maxHeartbeats 8000000 in
set_option maxRecDepth 100000 in
theorem GateOvertakes_walk (w : World) (n0 : Int) (ao1 : Option Addr) (cap1 : Nat) (xs1 : List Nat) (hv1 : LSeg 1 u8cs w.heap.size w (.slice ao1 xs1.length cap1) xs1) (hb1 : ∀ x ∈ xs1, x < 256) (ao2 : Option Addr) (cap2 : Nat) (xs2 : List Nat) (hv2 : LSeg 1 u8cs w.heap.size w (.slice ao2 xs2.length cap2) xs2) (hb2 : ∀ x ∈ xs2, x < 256) (ao3 : Option Addr) (cap3 : Nat) (xs3 : List Nat) (hv3 : LSeg 1 u8cs w.heap.size w (.slice ao3 xs3.length cap3) xs3) (hb3 : ∀ x ∈ xs3, x < 256) : Calls Try.prog 5 #[.int .i64 n0, .slice ao1 xs1.length cap1, .slice ao2 xs2.length cap2, .slice ao3 xs3.length cap3] w fun e w' => e = .returned (.bool true) ∧ Below w.heap.size w w' := by
  obtain ⟨q1, q2⟩ := plc_in (i := n0) (n := 6) (by omega)
  have HP1 := hide (fun w => hPlace_any w n0 (n := 6) (by omega) (by omega))
  generalize plc n0 6 = q at *
  obtain ⟨n, hn⟩ : ∃ n : Nat, (1 : Int) + q = (n : Int) := ⟨(1 + q).toNat, by omega⟩
  have hn2 : 1 ≤ n ∧ n ≤ 6 := by omega
  have HV1 := hide hv1
  have HV2 := hide hv2
  have HV3 := hide hv3
  have hl1 := hv1.len
  have hl2 := hv2.len
  have hl3 := hv3.len
  have HB := hide (And.intro hb1 (And.intro hb2 hb3))
  clear hv1 hv2 hv3 hb1 hb2 hb3
  by_cases g1 : 30 < xs1.length
  · have gg : (30 : Int) < (xs1.length : Int) := by omega
    go_enter Try.func5, Try.ntmps5
    go_wp2_with (first | (go_at_call 8; refine (known_any _).mono ?_; rintro e w1 ⟨rfl, b1⟩; have B1 := hide b1; clear b1) | (go_at_call 25; refine (HP1.out _).mono ?_; rintro e w2 ⟨rfl, rfl⟩))
    go_ret
    exact ⟨rfl, B1.out⟩
  have gg1 : ¬ (30 : Int) < (xs1.length : Int) := by omega
  by_cases g2 : 30 < xs2.length
  · have gg : (30 : Int) < (xs2.length : Int) := by omega
    go_enter Try.func5, Try.ntmps5
    go_wp2_with (first | (go_at_call 8; refine (known_any _).mono ?_; rintro e w1 ⟨rfl, b1⟩; have B1 := hide b1; clear b1) | (go_at_call 25; refine (HP1.out _).mono ?_; rintro e w2 ⟨rfl, rfl⟩))
    go_ret
    exact ⟨rfl, B1.out⟩
  have gg2 : ¬ (30 : Int) < (xs2.length : Int) := by omega
  by_cases g3 : 200 < xs3.length
  · have gg : (200 : Int) < (xs3.length : Int) := by omega
    go_enter Try.func5, Try.ntmps5
    go_wp2_with (first | (go_at_call 8; refine (known_any _).mono ?_; rintro e w1 ⟨rfl, b1⟩; have B1 := hide b1; clear b1) | (go_at_call 25; refine (HP1.out _).mono ?_; rintro e w2 ⟨rfl, rfl⟩))
    go_ret
    exact ⟨rfl, B1.out⟩
  have gg3 : ¬ (200 : Int) < (xs3.length : Int) := by omega
  have hI := fun w => madeQ w n (by omega)
  go_enter Try.func5, Try.ntmps5
  go_upto_region 7 with (first | (go_at_call 8; refine (known_any _).mono ?_; rintro e w1 ⟨rfl, b1⟩; have B1 := hide b1; clear b1) | (go_at_call 25; refine (HP1.out _).mono ?_; rintro e w2 ⟨rfl, rfl⟩))
  have HQ0 : Hid (QW w w1.heap.size (List.replicate n (Value.slice none 0 0)) (List.replicate n []) (w1.alloc (.cells (List.replicate n (Value.slice none 0 0)).toArray 60))) := ⟨QA.new, B1.out.alloc B1.out.size _, B1.out.size⟩
  generalize hqb : w1.heap.size = qb at *
  refine wp_at (QW w qb (List.replicate n (Value.slice none 0 0)) (List.replicate n [])) HQ0.out ?_
  clear HQ0 hqb HP1 q1 q2 hI
  have HNQ := hide hn
  clear hn
  intro W0 G0
  have HG0 := hide G0
  clear G0
  have hn0 : ((n : Int) == 0) = false := by simp; omega
  go_wp2_with fail
  go_loopg [10, 11, 12] (xs1.length + 1) (fun gh iv _ _ wr => ∃ (i : Nat) (vs : List Value) (Q : List (List Fr)), iv = .int .i64 (i : Int) ∧ i ≤ xs1.length ∧ xs1.length + 1 ≤ gh + i ∧ Hid (Lay n Q 0 i) ∧ Hid (QW w qb vs Q wr))
  case atStart => exact ⟨0, List.replicate n (Value.slice none 0 0), List.replicate n [], rfl, by omega, by omega, Lay.nil n, HG0⟩
  case round =>
    obtain ⟨i, vs, Q, rfl, hi, hg, HL, HQ⟩ := hrel
    obtain ⟨go, rfl⟩ : ∃ go, gk = go + 1 := ⟨gk - 1, by omega⟩
    by_cases hlt : i < xs1.length
    · have bt : (i : Int) < (xs1.length : Int) := by omega
      obtain ⟨x, hx⟩ := get_of_lt hlt
      have hx256 := HB.out.1 x (List.mem_of_getElem? hx)
      obtain ⟨sb, so, rfl, _, e0⟩ := seg_u8 (HV1.out.below HQ.out.2.1) hx
      obtain ⟨c, hc⟩ : ∃ c, x % n = c := ⟨_, rfl⟩
      have hcn : c < n := by rw [← hc]; exact Nat.mod_lt _ hn2.1
      have hm1 : (x : Int) % (n : Int) = (c : Int) := by rw [← hc]; rfl
      have hm2 : Int.tmod (x : Int) (n : Int) = (c : Int) := by rw [← hc]; rfl
      clear hx hc
      go_upto_region 12 with (go_at_call 26; refine (rec_any _ (i : Int)).mono ?_; rintro e w3 ⟨rfl, b3⟩; have HB3 := hide b3; clear b3)
      clear e0 hm1 hm2
      have HBF0 := hide (BoxT.new 37 w3 (rc (i : Int)).ar)
      have HQ1 := hide ((HQ.out.below HB3.out).below (below_box w3 (.cells (rc (i : Int)).ar 37)))
      refine wp_at (fun W => BoxT 37 W w3.heap.size (rc (i : Int)).ar ∧ QW w qb vs Q W) ⟨HBF0.out, HQ1.out⟩ ?_
      have HOF := hide (HQ.out.off HB3.out.size)
      clear HBF0 HQ1 HB3 HQ
      generalize w3.heap.size = fb at *
      rintro V ⟨BV, QV⟩
      have HBV := hide BV
      have HQV := hide QV
      have fr := BV.free
      obtain ⟨f0, f1, f2, f3, f4, f5, f6⟩ := BoxT.all7 BV
      clear BV QV
      obtain ⟨r4, hr4⟩ : ∃ r4, i % 4 = r4 := ⟨_, rfl⟩
      have hm1 : (i : Int) % 4 = (r4 : Int) := by omega
      have hm2 : Int.tmod (i : Int) 4 = (r4 : Int) := by rw [← hr4]; rfl
      clear hr4
      go_upto_if 64 with fail
      go_cut [] from 47 to 76 (fun wx => ∃ f : Fr, f.nb ∧ Hid (BoxT 37 wx fb f.ar) ∧ Hid (QW w qb vs Q wx))
      case first =>
        by_cases h4 : r4 = 3
        · subst h4
          go_wp2_with fail
          go_meet
          case rel => exact ⟨⟨2, 0, 0, 0, (i : Int), 0, false⟩, .inr rfl, HBV.out.ch7 _ _ _ _ _ _ _, HQV.out.chF HOF.out _ _ _ _ _ _ _⟩
        · have b4 : ((r4 : Int) == 3) = false := by simp; omega
          go_wp2_with fail
          go_meet
          case rel => exact ⟨rc (i : Int), .inl rfl, HBV, HQV⟩
      case rest =>
      obtain ⟨f, hf, HBF, HQ⟩ := hcut
      clear HBV HQV fr hm1 hm2 f0 f1 f2 f3 f4 f5 f6
      obtain ⟨v, hv⟩ := get_of_lt (show c < vs.length by rw [HQ.out.1.len, HL.out.lq]; exact hcn)
      obtain ⟨ys, hys⟩ := get_of_lt (show c < Q.length by rw [HL.out.lq]; exact hcn)
      have hyl : ys.length ≤ 100 := by have := len_le hys; have := HL.out.sum; omega
      have hrow := HQ.out.1.row c v ys hv hys
      obtain ⟨va, vc, rfl⟩ := hrow.shape
      have HROW := hide hrow
      have cq := HQ.out.1.cell hv
      have hqlt := HQ.out.1.box.lt
      have HVV := hide hv
      have HYY := hide hys
      generalize hyn : ys.length = yn at *
      have HYN := hide hyn
      clear hv hys hrow hyn
      have KC : Hid (∀ w', Below wc.heap.size wc w' → w'.cell? ⟨qb, c, none⟩ = some (.slice va yn vc)) := fun w' hb => (hb.cell (p := ⟨qb, c, none⟩) hqlt).trans cq
      have BD : Hid (Below wc.heap.size wc wc.drew) := (Below.refl _ _).drew
      have bc : (c : Int) < (n : Int) := by omega
      obtain ⟨f0, f1, f2, f3, f4, f5, f6⟩ := BoxT.all7 (HBF.out.drew)
      have B4 := hide (BD.out.trans ((below_box wc.drew (.cells #[.int .i64 f.kd, .int .i64 f.ke, .int .i64 f.ti, .int .i64 f.va, .int .i64 f.ma, .int .u64 f.n, .bool f.ov] 37)).mono BD.out.size))
      go_wp2_with fail
      refine wp_region_M (S := fun w' => w'.cell? ⟨qb, c, none⟩ = some (.slice va yn vc)) (late := [9, 10]) (by kernel_rfl) (KC.out _ BD.out) (fun hHeld => ?_)
      (try simp only [List.size_toArray, List.length_cons, List.length_nil, Nat.zero_add, Nat.reduceAdd, Array.replicate, List.replicate])
      refine wpAnyM_take (i := 0) (oi := ⟨_, _, _, _, _, _⟩) (v := ?_) rfl (by kernel_rfl) (by kernel_rfl) (by kernel_rfl) (by kernel_rfl) (fun _ _ _ h => h) (Or.inl ⟨by rfl, ?_⟩) hHeld ?_
      rotate_left
      · (intro w' hSw; (try dsimp only at hSw); go_simp; try (with_reducible rfl))
      (try simp only [Act.put, List.setIfInBounds_toArray, List.set_cons_zero, List.set_cons_succ])
      refine wpAnyM_take (i := 1) (oi := ⟨_, _, _, _, _, _⟩) (v := ?_) rfl (by kernel_rfl) (by kernel_rfl) (by kernel_rfl) (by kernel_rfl) (fun _ _ _ h => h) (Or.inl ⟨by rfl, ?_⟩) hHeld ?_
      rotate_left
      · (intro w' hSw; (try dsimp only at hSw); go_simp; try (with_reducible rfl))
      (try simp only [Act.put, List.setIfInBounds_toArray, List.set_cons_zero, List.set_cons_succ])
      refine wpAnyM_take (i := 2) (oi := ⟨_, _, _, _, _, _⟩) (v := ?_) rfl (by kernel_rfl) (by kernel_rfl) (by kernel_rfl) (by kernel_rfl) (fun _ _ _ h => h) (Or.inl ⟨by rfl, ?_⟩) hHeld ?_
      rotate_left
      · (intro w' hSw; (try dsimp only at hSw); go_simp; try (with_reducible rfl))
      (try simp only [Act.put, List.setIfInBounds_toArray, List.set_cons_zero, List.set_cons_succ])
      refine wpAnyM_take (i := 3) (oi := ⟨_, _, _, _, _, _⟩) (v := ?_) rfl (by kernel_rfl) (by kernel_rfl) (by kernel_rfl) (by kernel_rfl) (fun _ _ _ h => h) (Or.inl ⟨by rfl, ?_⟩) hHeld ?_
      rotate_left
      · (intro w' hSw; (try dsimp only at hSw); go_simp; try (with_reducible rfl))
      (try simp only [Act.put, List.setIfInBounds_toArray, List.set_cons_zero, List.set_cons_succ])
      refine wpAnyM_take (i := 4) (oi := ⟨_, _, _, _, _, _⟩) (v := ?_) rfl (by kernel_rfl) (by kernel_rfl) (by kernel_rfl) (by kernel_rfl) (fun _ _ _ h => h) (Or.inl ⟨by rfl, ?_⟩) hHeld ?_
      rotate_left
      · (intro w' hSw; (try dsimp only at hSw); go_simp; try (with_reducible rfl))
      (try simp only [Act.put, List.setIfInBounds_toArray, List.set_cons_zero, List.set_cons_succ])
      refine wpAnyM_take (i := 5) (oi := ⟨_, _, _, _, _, _⟩) (v := ?_) rfl (by kernel_rfl) (by kernel_rfl) (by kernel_rfl) (by kernel_rfl) (fun _ _ _ h => h) (Or.inl ⟨by rfl, ?_⟩) hHeld ?_
      rotate_left
      · (intro w' hSw; (try dsimp only at hSw); go_simp; try (with_reducible rfl))
      (try simp only [Act.put, List.setIfInBounds_toArray, List.set_cons_zero, List.set_cons_succ])
      refine wpAnyM_one (i := 6) (o := ⟨_, _, _, _, _, _⟩) (by kernel_rfl) rfl (fun K hK => ?_)
      go_simp
      refine hK.out _ _ (KC.out _ BD.out) (fun hHeld => ?_)
      clear hK K
      (try simp only [List.setIfInBounds_toArray, List.set_cons_zero, List.set_cons_succ])
      refine wpAnyM_one (i := 7) (o := ⟨_, _, _, _, _, _⟩) (by kernel_rfl) rfl (fun K hK => ?_)
      go_simp
      refine hK.out _ _ (KC.out _ B4.out) (fun hHeld => ?_)
      clear hK K
      (try simp only [List.setIfInBounds_toArray, List.set_cons_zero, List.set_cons_succ])
      refine wpAnyM_one (i := 8) (o := ⟨_, _, _, _, _, _⟩) (by kernel_rfl) rfl (fun K hK => ?_)
      (refine step_row Try.infoFr Try.underlying60 rfl (by decide) (by decide) Fr.cs_len Fr.cs_one rfl _ _ rfl w.heap.size (.slice va yn vc) ys rfl ((HROW.out.below B4.out)) ⟨(wc.drew).heap.size, 0, none⟩ 1 f rfl (newF (wc.drew) rfl f) (by rw [HYN.out]; omega) (Nat.le_trans HQ.out.2.1.size B4.out.size) ?_; intro v5 w5 h5 g5 k5; have Q4 := HQ.out.below B4.out; have hb5 := Q4.qbox HVV.out HYY.out g5; have HNQ2 := hide (Q4.app HVV.out h5 g5 k5 HYY.out); have fr5 := hb5.free; have d5 : w5.cell? ⟨qb, c, none⟩ = some (.slice va yn vc) := (by rw [hb5.cellAt]; simpa using HVV.out); obtain ⟨a5, e5, hv5⟩ := h5.shape; generalize hn5 : (ys ++ [f]).length = n5 at hv5; subst hv5; clear h5 g5 k5 Q4 hb5 hn5)
      refine hK.out _ _ (d5) (fun hHeld => ?_)
      clear hK K
      (try simp only [List.setIfInBounds_toArray, List.set_cons_zero, List.set_cons_succ])
      refine wpAnyM_last (i := 9) (o := ⟨_, _, _, _, _, _⟩) (by kernel_rfl) (by rfl) rfl (fun K hK => ?_)
      go_simp
      refine hK.out _ _ ?_
      clear hK K
      (try simp only [List.setIfInBounds_toArray, List.set_cons_zero, List.set_cons_succ])
      refine wpAnyM_last (i := 10) (o := ⟨_, _, _, _, _, _⟩) (by kernel_rfl) (by rfl) rfl (fun K hK => ?_)
      go_simp
      refine hK.out _ _ ?_
      clear hK K
      (try simp only [List.setIfInBounds_toArray, List.set_cons_zero, List.set_cons_succ])
      refine wpAnyM_done (by kernel_rfl) ?_ _
      go_wp2_with fail
      go_roundg go
      case rel => exact ⟨i + 1, _, _, by go_num, by omega, by omega, HL.out.app HYY.out hf, HNQ2⟩
      case measure => omega
    · have bt : ¬ (i : Int) < (xs1.length : Int) := by omega
      obtain rfl : i = xs1.length := by omega
      have HL2 := HL
      have HQ2 := HQ
      clear HL HQ
      go_wp2_with fail
      go_loopg [13] (n + 1) (fun gh iv wr => ∃ (i : Nat) (vs : List Value) (Q : List (List Fr)), iv = .int .i64 (i : Int) ∧ i ≤ n ∧ n + 1 ≤ gh + i ∧ Hid (Lay n Q i (xs1.length + i)) ∧ Hid (QW w qb vs Q wr))
      case atStart => exact ⟨0, _, _, rfl, by omega, by omega, HL2, HQ2⟩
      case round =>
        clear HL2 HQ2
        obtain ⟨c, vs, Q, rfl, hi, hg, HL, HQ⟩ := hrel
        obtain ⟨go, rfl⟩ : ∃ go, gk = go + 1 := ⟨gk - 1, by omega⟩
        by_cases hcn : c < n
        · have bt : (c : Int) < (n : Int) := by omega
          obtain ⟨v, hv⟩ := get_of_lt (show c < vs.length by rw [HQ.out.1.len, HL.out.lq]; exact hcn)
          obtain ⟨ys, hys⟩ := get_of_lt (show c < Q.length by rw [HL.out.lq]; exact hcn)
          have hyl : ys.length ≤ 100 := by have := len_le hys; have := HL.out.sum; omega
          have hrow := HQ.out.1.row c v ys hv hys
          obtain ⟨va, vc, rfl⟩ := hrow.shape
          have HROW := hide hrow
          have cq := HQ.out.1.cell hv
          have hqlt := HQ.out.1.box.lt
          have HVV := hide hv
          have HYY := hide hys
          generalize hyn : ys.length = yn at *
          have HYN := hide hyn
          clear hv hys hrow hyn
          have KC : Hid (∀ w', Below wr.heap.size wr w' → w'.cell? ⟨qb, c, none⟩ = some (.slice va yn vc)) := fun w' hb => (hb.cell (p := ⟨qb, c, none⟩) hqlt).trans cq
          have BD : Hid (Below wr.heap.size wr wr.drew) := (Below.refl _ _).drew
          have bc : (c : Int) < (n : Int) := by omega
          go_wp2_with fail
          refine wp_region_M (S := fun w' => w'.cell? ⟨qb, c, none⟩ = some (.slice va yn vc)) (late := [9, 10]) (by kernel_rfl) (KC.out _ BD.out) (fun hHeld => ?_)
          (try simp only [List.size_toArray, List.length_cons, List.length_nil, Nat.zero_add, Nat.reduceAdd, Array.replicate, List.replicate])
          refine wpAnyM_take (i := 0) (oi := ⟨_, _, _, _, _, _⟩) (v := ?_) rfl (by kernel_rfl) (by kernel_rfl) (by kernel_rfl) (by kernel_rfl) (fun _ _ _ h => h) (Or.inl ⟨by rfl, ?_⟩) hHeld ?_
          rotate_left
          · (intro w' hSw; (try dsimp only at hSw); go_simp; try (with_reducible rfl))
          (try simp only [Act.put, List.setIfInBounds_toArray, List.set_cons_zero, List.set_cons_succ])
          refine wpAnyM_take (i := 1) (oi := ⟨_, _, _, _, _, _⟩) (v := ?_) rfl (by kernel_rfl) (by kernel_rfl) (by kernel_rfl) (by kernel_rfl) (fun _ _ _ h => h) (Or.inl ⟨by rfl, ?_⟩) hHeld ?_
          rotate_left
          · (intro w' hSw; (try dsimp only at hSw); go_simp; try (with_reducible rfl))
          (try simp only [Act.put, List.setIfInBounds_toArray, List.set_cons_zero, List.set_cons_succ])
          refine wpAnyM_take (i := 2) (oi := ⟨_, _, _, _, _, _⟩) (v := ?_) rfl (by kernel_rfl) (by kernel_rfl) (by kernel_rfl) (by kernel_rfl) (fun _ _ _ h => h) (Or.inl ⟨by rfl, ?_⟩) hHeld ?_
          rotate_left
          · (intro w' hSw; (try dsimp only at hSw); go_simp; try (with_reducible rfl))
          (try simp only [Act.put, List.setIfInBounds_toArray, List.set_cons_zero, List.set_cons_succ])
          refine wpAnyM_take (i := 3) (oi := ⟨_, _, _, _, _, _⟩) (v := ?_) rfl (by kernel_rfl) (by kernel_rfl) (by kernel_rfl) (by kernel_rfl) (fun _ _ _ h => h) (Or.inl ⟨by rfl, ?_⟩) hHeld ?_
          rotate_left
          · (intro w' hSw; (try dsimp only at hSw); go_simp; try (with_reducible rfl))
          (try simp only [Act.put, List.setIfInBounds_toArray, List.set_cons_zero, List.set_cons_succ])
          refine wpAnyM_take (i := 4) (oi := ⟨_, _, _, _, _, _⟩) (v := ?_) rfl (by kernel_rfl) (by kernel_rfl) (by kernel_rfl) (by kernel_rfl) (fun _ _ _ h => h) (Or.inl ⟨by rfl, ?_⟩) hHeld ?_
          rotate_left
          · (intro w' hSw; (try dsimp only at hSw); go_simp; try (with_reducible rfl))
          (try simp only [Act.put, List.setIfInBounds_toArray, List.set_cons_zero, List.set_cons_succ])
          refine wpAnyM_take (i := 5) (oi := ⟨_, _, _, _, _, _⟩) (v := ?_) rfl (by kernel_rfl) (by kernel_rfl) (by kernel_rfl) (by kernel_rfl) (fun _ _ _ h => h) (Or.inl ⟨by rfl, ?_⟩) hHeld ?_
          rotate_left
          · (intro w' hSw; (try dsimp only at hSw); go_simp; try (with_reducible rfl))
          (try simp only [Act.put, List.setIfInBounds_toArray, List.set_cons_zero, List.set_cons_succ])
          refine wpAnyM_one (i := 6) (o := ⟨_, _, _, _, _, _⟩) (by kernel_rfl) rfl (fun K hK => ?_)
          go_simp
          go_at_call 27
          refine (bar_any _ 9 true).mono ?_
          rintro e w3 ⟨rfl, b3⟩
          have B3 := hide (BD.out.trans (b3.mono BD.out.size))
          clear b3
          have B4 := hide (B3.out.trans ((below_box w3 (.cells #[.int .i64 (br true).kd, .int .i64 (br true).ke, .int .i64 (br true).ti, .int .i64 (br true).va, .int .i64 (br true).ma, .int .u64 (br true).n, .bool (br true).ov] 37)).mono B3.out.size))
          refine hK.out _ _ (KC.out _ B3.out) (fun hHeld => ?_)
          clear hK K
          (try simp only [List.setIfInBounds_toArray, List.set_cons_zero, List.set_cons_succ])
          refine wpAnyM_one (i := 7) (o := ⟨_, _, _, _, _, _⟩) (by kernel_rfl) rfl (fun K hK => ?_)
          go_simp
          refine hK.out _ _ (KC.out _ B4.out) (fun hHeld => ?_)
          clear hK K
          (try simp only [List.setIfInBounds_toArray, List.set_cons_zero, List.set_cons_succ])
          refine wpAnyM_one (i := 8) (o := ⟨_, _, _, _, _, _⟩) (by kernel_rfl) rfl (fun K hK => ?_)
          (refine step_row Try.infoFr Try.underlying60 rfl (by decide) (by decide) Fr.cs_len Fr.cs_one rfl _ _ rfl w.heap.size (.slice va yn vc) ys rfl ((HROW.out.below B4.out)) ⟨(w3).heap.size, 0, none⟩ 1 (br true) rfl (newF (w3) rfl (br true)) (by rw [HYN.out]; omega) (Nat.le_trans HQ.out.2.1.size B4.out.size) ?_; intro v5 w5 h5 g5 k5; have Q4 := HQ.out.below B4.out; have hb5 := Q4.qbox HVV.out HYY.out g5; have HNQ2 := hide (Q4.app HVV.out h5 g5 k5 HYY.out); have fr5 := hb5.free; have d5 : w5.cell? ⟨qb, c, none⟩ = some (.slice va yn vc) := (by rw [hb5.cellAt]; simpa using HVV.out); obtain ⟨a5, e5, hv5⟩ := h5.shape; generalize hn5 : (ys ++ [(br true)]).length = n5 at hv5; subst hv5; clear h5 g5 k5 Q4 hb5 hn5)
          refine hK.out _ _ (d5) (fun hHeld => ?_)
          clear hK K
          (try simp only [List.setIfInBounds_toArray, List.set_cons_zero, List.set_cons_succ])
          refine wpAnyM_last (i := 9) (o := ⟨_, _, _, _, _, _⟩) (by kernel_rfl) (by rfl) rfl (fun K hK => ?_)
          go_simp
          refine hK.out _ _ ?_
          clear hK K
          (try simp only [List.setIfInBounds_toArray, List.set_cons_zero, List.set_cons_succ])
          refine wpAnyM_last (i := 10) (o := ⟨_, _, _, _, _, _⟩) (by kernel_rfl) (by rfl) rfl (fun K hK => ?_)
          go_simp
          refine hK.out _ _ ?_
          clear hK K
          (try simp only [List.setIfInBounds_toArray, List.set_cons_zero, List.set_cons_succ])
          refine wpAnyM_done (by kernel_rfl) ?_ _
          go_wp2_with fail
          go_roundg go
          case rel => exact ⟨c + 1, _, _, by go_num, by omega, by omega, HL.out.bar HYY.out, HNQ2⟩
          case measure => omega
        · have bt : ¬ (c : Int) < (n : Int) := by omega
          have HL3 : Hid (Lay n Q n (xs1.length + n)) := (show Lay _ _ _ _ by have h := HL.out; rwa [show c = n by omega] at h)
          have HQ3 := HQ
          clear HL HQ
          go_wp2_with fail
          go_loopg [14, 15] (xs2.length + 1) (fun gh iv _ wr => ∃ (i : Nat) (vs : List Value) (Q : List (List Fr)), iv = .int .i64 (i : Int) ∧ i ≤ xs2.length ∧ xs2.length + 1 ≤ gh + i ∧ Hid (Lay n Q n (xs1.length + n + i)) ∧ Hid (QW w qb vs Q wr))
          case atStart => exact ⟨0, _, _, rfl, by omega, by omega, HL3, HQ3⟩
          case round =>
            clear HL3 HQ3
            obtain ⟨i, vs, Q, rfl, hi, hg, HL, HQ⟩ := hrel
            obtain ⟨go, rfl⟩ : ∃ go, gk = go + 1 := ⟨gk - 1, by omega⟩
            by_cases hlt : i < xs2.length
            · have bt : (i : Int) < (xs2.length : Int) := by omega
              obtain ⟨x, hx⟩ := get_of_lt hlt
              have hx256 := HB.out.2.1 x (List.mem_of_getElem? hx)
              obtain ⟨sb, so, rfl, _, e0⟩ := seg_u8 (HV2.out.below HQ.out.2.1) hx
              obtain ⟨c, hc⟩ : ∃ c, x % n = c := ⟨_, rfl⟩
              have hcn : c < n := by rw [← hc]; exact Nat.mod_lt _ hn2.1
              have hm1 : (x : Int) % (n : Int) = (c : Int) := by rw [← hc]; rfl
              have hm2 : Int.tmod (x : Int) (n : Int) = (c : Int) := by rw [← hc]; rfl
              clear hx hc
              obtain ⟨v, hv⟩ := get_of_lt (show c < vs.length by rw [HQ.out.1.len, HL.out.lq]; exact hcn)
              obtain ⟨ys, hys⟩ := get_of_lt (show c < Q.length by rw [HL.out.lq]; exact hcn)
              have hyl : ys.length ≤ 100 := by have := len_le hys; have := HL.out.sum; omega
              have hrow := HQ.out.1.row c v ys hv hys
              obtain ⟨va, vc, rfl⟩ := hrow.shape
              have HROW := hide hrow
              have cq := HQ.out.1.cell hv
              have hqlt := HQ.out.1.box.lt
              have HVV := hide hv
              have HYY := hide hys
              generalize hyn : ys.length = yn at *
              have HYN := hide hyn
              clear hv hys hrow hyn
              have KC : Hid (∀ w', Below wr.heap.size wr w' → w'.cell? ⟨qb, c, none⟩ = some (.slice va yn vc)) := fun w' hb => (hb.cell (p := ⟨qb, c, none⟩) hqlt).trans cq
              have BD : Hid (Below wr.heap.size wr wr.drew) := (Below.refl _ _).drew
              have bc : (c : Int) < (n : Int) := by omega
              go_wp2_with fail
              refine wp_region_M (S := fun w' => w'.cell? ⟨qb, c, none⟩ = some (.slice va yn vc)) (late := [9, 10]) (by kernel_rfl) (KC.out _ BD.out) (fun hHeld => ?_)
              (try simp only [List.size_toArray, List.length_cons, List.length_nil, Nat.zero_add, Nat.reduceAdd, Array.replicate, List.replicate])
              refine wpAnyM_take (i := 0) (oi := ⟨_, _, _, _, _, _⟩) (v := ?_) rfl (by kernel_rfl) (by kernel_rfl) (by kernel_rfl) (by kernel_rfl) (fun _ _ _ h => h) (Or.inl ⟨by rfl, ?_⟩) hHeld ?_
              rotate_left
              · (intro w' hSw; (try dsimp only at hSw); go_simp; try (with_reducible rfl))
              (try simp only [Act.put, List.setIfInBounds_toArray, List.set_cons_zero, List.set_cons_succ])
              refine wpAnyM_take (i := 1) (oi := ⟨_, _, _, _, _, _⟩) (v := ?_) rfl (by kernel_rfl) (by kernel_rfl) (by kernel_rfl) (by kernel_rfl) (fun _ _ _ h => h) (Or.inl ⟨by rfl, ?_⟩) hHeld ?_
              rotate_left
              · (intro w' hSw; (try dsimp only at hSw); go_simp; try (with_reducible rfl))
              (try simp only [Act.put, List.setIfInBounds_toArray, List.set_cons_zero, List.set_cons_succ])
              refine wpAnyM_take (i := 2) (oi := ⟨_, _, _, _, _, _⟩) (v := ?_) rfl (by kernel_rfl) (by kernel_rfl) (by kernel_rfl) (by kernel_rfl) (fun _ _ _ h => h) (Or.inl ⟨by rfl, ?_⟩) hHeld ?_
              rotate_left
              · (intro w' hSw; (try dsimp only at hSw); go_simp; try (with_reducible rfl))
              (try simp only [Act.put, List.setIfInBounds_toArray, List.set_cons_zero, List.set_cons_succ])
              refine wpAnyM_take (i := 3) (oi := ⟨_, _, _, _, _, _⟩) (v := ?_) rfl (by kernel_rfl) (by kernel_rfl) (by kernel_rfl) (by kernel_rfl) (fun _ _ _ h => h) (Or.inl ⟨by rfl, ?_⟩) hHeld ?_
              rotate_left
              · (intro w' hSw; (try dsimp only at hSw); go_simp; try (with_reducible rfl))
              (try simp only [Act.put, List.setIfInBounds_toArray, List.set_cons_zero, List.set_cons_succ])
              refine wpAnyM_take (i := 4) (oi := ⟨_, _, _, _, _, _⟩) (v := ?_) rfl (by kernel_rfl) (by kernel_rfl) (by kernel_rfl) (by kernel_rfl) (fun _ _ _ h => h) (Or.inl ⟨by rfl, ?_⟩) hHeld ?_
              rotate_left
              · (intro w' hSw; (try dsimp only at hSw); go_simp; try (with_reducible rfl))
              (try simp only [Act.put, List.setIfInBounds_toArray, List.set_cons_zero, List.set_cons_succ])
              refine wpAnyM_take (i := 5) (oi := ⟨_, _, _, _, _, _⟩) (v := ?_) rfl (by kernel_rfl) (by kernel_rfl) (by kernel_rfl) (by kernel_rfl) (fun _ _ _ h => h) (Or.inl ⟨by rfl, ?_⟩) hHeld ?_
              rotate_left
              · (intro w' hSw; (try dsimp only at hSw); go_simp; try (with_reducible rfl))
              (try simp only [Act.put, List.setIfInBounds_toArray, List.set_cons_zero, List.set_cons_succ])
              refine wpAnyM_one (i := 6) (o := ⟨_, _, _, _, _, _⟩) (by kernel_rfl) rfl (fun K hK => ?_)
              go_simp
              go_at_call 26
              refine (rec_any _ 1000).mono ?_
              rintro e w3 ⟨rfl, b3⟩
              have B3 := hide (BD.out.trans (b3.mono BD.out.size))
              clear b3
              have B4 := hide (B3.out.trans ((below_box w3 (.cells #[.int .i64 (rc 1000).kd, .int .i64 (rc 1000).ke, .int .i64 (rc 1000).ti, .int .i64 (rc 1000).va, .int .i64 (rc 1000).ma, .int .u64 (rc 1000).n, .bool (rc 1000).ov] 37)).mono B3.out.size))
              refine hK.out _ _ (KC.out _ B3.out) (fun hHeld => ?_)
              clear hK K
              (try simp only [List.setIfInBounds_toArray, List.set_cons_zero, List.set_cons_succ])
              refine wpAnyM_one (i := 7) (o := ⟨_, _, _, _, _, _⟩) (by kernel_rfl) rfl (fun K hK => ?_)
              go_simp
              refine hK.out _ _ (KC.out _ B4.out) (fun hHeld => ?_)
              clear hK K
              (try simp only [List.setIfInBounds_toArray, List.set_cons_zero, List.set_cons_succ])
              refine wpAnyM_one (i := 8) (o := ⟨_, _, _, _, _, _⟩) (by kernel_rfl) rfl (fun K hK => ?_)
              (refine step_row Try.infoFr Try.underlying60 rfl (by decide) (by decide) Fr.cs_len Fr.cs_one rfl _ _ rfl w.heap.size (.slice va yn vc) ys rfl ((HROW.out.below B4.out)) ⟨(w3).heap.size, 0, none⟩ 1 (rc 1000) rfl (newF (w3) rfl (rc 1000)) (by rw [HYN.out]; omega) (Nat.le_trans HQ.out.2.1.size B4.out.size) ?_; intro v5 w5 h5 g5 k5; have Q4 := HQ.out.below B4.out; have hb5 := Q4.qbox HVV.out HYY.out g5; have HNQ2 := hide (Q4.app HVV.out h5 g5 k5 HYY.out); have fr5 := hb5.free; have d5 : w5.cell? ⟨qb, c, none⟩ = some (.slice va yn vc) := (by rw [hb5.cellAt]; simpa using HVV.out); obtain ⟨a5, e5, hv5⟩ := h5.shape; generalize hn5 : (ys ++ [(rc 1000)]).length = n5 at hv5; subst hv5; clear h5 g5 k5 Q4 hb5 hn5)
              refine hK.out _ _ (d5) (fun hHeld => ?_)
              clear hK K
              (try simp only [List.setIfInBounds_toArray, List.set_cons_zero, List.set_cons_succ])
              refine wpAnyM_last (i := 9) (o := ⟨_, _, _, _, _, _⟩) (by kernel_rfl) (by rfl) rfl (fun K hK => ?_)
              go_simp
              refine hK.out _ _ ?_
              clear hK K
              (try simp only [List.setIfInBounds_toArray, List.set_cons_zero, List.set_cons_succ])
              refine wpAnyM_last (i := 10) (o := ⟨_, _, _, _, _, _⟩) (by kernel_rfl) (by rfl) rfl (fun K hK => ?_)
              go_simp
              refine hK.out _ _ ?_
              clear hK K
              (try simp only [List.setIfInBounds_toArray, List.set_cons_zero, List.set_cons_succ])
              refine wpAnyM_done (by kernel_rfl) ?_ _
              go_wp2_with fail
              go_roundg go
              case rel => exact ⟨i + 1, _, _, by go_num, by omega, by omega, HL.out.app HYY.out (.inl rfl), HNQ2⟩
              case measure => omega
            · have bt : ¬ (i : Int) < (xs2.length : Int) := by omega
              obtain rfl : i = xs2.length := by omega
              have HL4 := HL
              have HQ4 := HQ
              clear HL HQ
              have hch : chans (n : Int) = n := by unfold chans; rw [if_neg (by omega), if_neg (by omega)]; omega
              have HNW := hide (fun w => New_any (w := w) (n : Int))
              rw [hch] at HNW
              clear hch
              have hC := fun w => madeC w n (by omega)
              go_upto_region 28 with (go_at_call 9; refine (HNW.out _).mono ?_; rintro e w6 ⟨k, fp, rfl, g1, g2, g3⟩; have HA0 := hide (AW.new HQ4.out g1 g2 g3); clear g1 g2 g3)
              generalize wr.heap.size = b1 at *
              have HS0 : Hid (Gs.new n = ovS n (List.replicate n mn) (List.replicate n false) []) := (show _ = _ by unfold ovS; rw [if_neg (by simp)]; rfl)
              rw [HS0.out] at HA0
              go_upto_region 29 with fail
              refine wp_at (OW w qb k b1 w6.heap.size (ovS n (List.replicate n mn) (List.replicate n false) []) vs Q (.slice none 0 0) [] (List.replicate n false)) (OW.of HA0.out HA0.out.ble) ?_
              clear HA0 HS0 HNW HQ4 hC
              generalize w6.heap.size = cb at *
              intro W1 O1
              have HO0 := hide O1
              clear O1
              have HP0 := hide (HL4.out.pv)
              clear HL4
              have ha0 : (List.replicate n false).any id = false := by simp
              have hk0 : (List.replicate n false).all id = false := by
                obtain ⟨m, hm⟩ : ∃ m, n = m + 1 := ⟨n - 1, by omega⟩
                rw [hm, List.replicate_succ]; rfl
              go_wp2_with fail
              go_loopg [17, 18, 19, 20, 22, 23, 24, 25, 26] 1000 (fun gh cv0 kv fv lv iv _ _ _ _ wr => ∃ (cv : Value) (i : Nat) (C : List Bool) (M : List Int) (cp : List Ou) (left : Nat) (vs : List Value) (Q : List (List Fr)), cv = cv0 ∧ kv = .bool (C.any id) ∧ fv = .bool (C.all id) ∧ lv = .int .i64 (left : Int) ∧ iv = .int .i64 (i : Int) ∧ 1000 ≤ gh + i ∧ Hid (M.length = n ∧ (C.any id = false → cp = []) ∧ cp.length ≤ i) ∧ Hid (Pv n C Q left) ∧ Hid (Bd n (xs1.length + n + xs2.length) xs3.length (fun c => Q.getD c [] = []) left i ∧ left ≤ xs1.length + n + xs2.length) ∧ Hid (OW w qb k b1 cb (ovS n M C cp) vs Q cv cp C wr))
              case atStart => exact ⟨_, 0, List.replicate n false, List.replicate n mn, [], xs1.length + n + xs2.length, _, _, rfl, by rw [ha0], by rw [hk0], by first | rfl | (congr 1; omega), rfl, by omega, ⟨by simp, fun _ => rfl, by simp⟩, HP0, ⟨Bd.start _ _ _ _ _, Nat.le_refl _⟩, HO0⟩
              case round =>
                clear HP0 HO0 hk0 ha0
                obtain ⟨cv, i, C, M, cp, left, vs, Q, rfl, rfl, rfl, rfl, rfl, hg, HM, HP, HBD, HA⟩ := hrel
                obtain ⟨go, rfl⟩ : ∃ go, gk = go + 1 := ⟨gk - 1, by have := HBD.out.1.le hn2.2 (by omega); omega⟩
                have hi7 := HBD.out.1.le hn2.2 (show xs1.length + n + xs2.length ≤ 66 by omega)
                have hlf := HBD.out.2
                by_cases hl0 : 0 < left
                · have bl0 : (0 : Int) < (left : Int) := by omega
                  have HRD := hide (HP.out.ready hl0)
                  have bi : ¬ (1000 : Int) < (i : Int) := by omega
                  obtain ⟨c0, hc0⟩ : ∃ c, i % n = c := ⟨_, rfl⟩
                  have hm1 : (i : Int) % (n : Int) = (c0 : Int) := by rw [← hc0]; rfl
                  have hm2 : Int.tmod (i : Int) (n : Int) = (c0 : Int) := by rw [← hc0]; rfl
                  go_upto_if 136 with fail
                  go_cut [23] from 126 to 221 (fun cv wx => wx = wr ∧ ∃ c : Nat, c < n ∧ cv = .int .i64 (c : Int) ∧ (xs3.length ≤ i → c = i % n))
                  case first =>
                    by_cases h3 : i < xs3.length
                    · have b3 : (i : Int) < (xs3.length : Int) := by omega
                      obtain ⟨x, hx⟩ := get_of_lt h3
                      have hx256 := HB.out.2.2 x (List.mem_of_getElem? hx)
                      obtain ⟨sb, so, rfl, _, e0⟩ := seg_u8 (HV3.out.below HA.out.bel) hx
                      clear hm1 hm2
                      obtain ⟨c, hc⟩ : ∃ c, x % n = c := ⟨_, rfl⟩
                      have hcn : c < n := by rw [← hc]; exact Nat.mod_lt _ hn2.1
                      have hm1 : (x : Int) % (n : Int) = (c : Int) := by rw [← hc]; rfl
                      have hm2 : Int.tmod (x : Int) (n : Int) = (c : Int) := by rw [← hc]; rfl
                      go_wp2_with fail
                      go_meet
                      case rel => exact ⟨rfl, c, hcn, rfl, fun h => by omega⟩
                    · have b3 : ¬ (i : Int) < (xs3.length : Int) := by omega
                      go_wp2_with fail
                      go_meet
                      case rel => exact ⟨rfl, c0, by rw [← hc0]; exact Nat.mod_lt _ hn2.1, rfl, fun h => hc0.symm⟩
                  case rest =>
                  obtain ⟨hwx, c, hcn, rfl, hsel⟩ := hcut
                  have hwx2 := hwx.symm
                  subst hwx2
                  clear hm1 hm2 hc0
                  have HSEL := hide hsel
                  clear hsel
                  obtain ⟨v, hv⟩ := get_of_lt (show c < vs.length by rw [HA.out.q.len, HP.out.lq]; exact hcn)
                  obtain ⟨ys, hys⟩ := get_of_lt (show c < Q.length by rw [HP.out.lq]; exact hcn)
                  have hrow := HA.out.q.row c v _ hv hys
                  obtain ⟨va, vc, rfl⟩ := hrow.shape
                  have cq := HA.out.q.cell hv
                  have bc : (c : Int) < (n : Int) := by omega
                  have HBL := hide (HA.out.blocked (c : Int))
                  rw [ovS_bl] at HBL
                  have HVV := hide hv
                  have HYY := hide hys
                  have HROW := hide hrow
                  clear hv hys hrow
                  cases ys with
                  | nil =>
                    have HNI := hide (HBD.out.1.idle hn2.1 (by omega) HRD.out HSEL.out (getD_some HYY.out))
                    go_wp2_with (go_at_call 23; refine HBL.out.mono ?_; rintro e w9 ⟨rfl, rfl⟩)
                    go_roundg go
                    case rel => exact ⟨_, i + 1, C, M, cp, left, vs, Q, rfl, rfl, rfl, rfl, by go_num, by omega, ⟨HM.out.1, HM.out.2.1, by have := HM.out.2.2; omega⟩, HP, ⟨HNI.out, hlf⟩, HA⟩
                    case measure => omega
                  | cons f zs =>
                    simp only [List.length_cons] at HROW HVV cq
                    generalize hzn : zs.length = zn at *
                    have HZN := hide hzn
                    clear hzn
                    have hz1 : ((zn : Int) + 1 == 0) = false := by simp; omega
                    have hzl : ¬ ((zn : Int) + 1 < 1) := by omega
                    have hzl2 : (0 : Int) < (zn : Int) + 1 := by omega
                    have HPOP := hide (HP.out.pop HYY.out)
                    have HTB := hide (HBD.out.1)
                    obtain ⟨g, off, cap, ev, hcell⟩ := HROW.out.read Fr.cs_len (i := 0) rfl
                    obtain ⟨rfl, _, rfl⟩ := Value.slice.inj ev
                    have d0 : wr.cell? ⟨g, off, none⟩ = some (.int .i64 f.kd) := hcell 0 _ rfl
                    have d1 : wr.cell? ⟨g, off + 1, none⟩ = some (.int .i64 f.ke) := hcell 1 _ rfl
                    have d2 : wr.cell? ⟨g, off + 2, none⟩ = some (.int .i64 f.ti) := hcell 2 _ rfl
                    have d3 : wr.cell? ⟨g, off + 3, none⟩ = some (.int .i64 f.va) := hcell 3 _ rfl
                    have d4 : wr.cell? ⟨g, off + 4, none⟩ = some (.int .i64 f.ma) := hcell 4 _ rfl
                    have d5 : wr.cell? ⟨g, off + 5, none⟩ = some (.int .u64 f.n) := hcell 5 _ rfl
                    have d6 : wr.cell? ⟨g, off + 6, none⟩ = some (.bool f.ov) := hcell 6 _ rfl
                    clear hcell ev
                    have hcp0 : (ovS n M C cp).cp.length ≤ 100000 := by have := ovS_cpl (n := n) (M := M) (C := C) (cp := cp); have := HM.out.2.2; omega
                    obtain ⟨s2, hs2⟩ : ∃ s2, (ovS n M C cp).tk (c : Int) f = s2 := ⟨_, rfl⟩
                    obtain ⟨st, hst⟩ : ∃ st, (ovS n M C cp).tkS (c : Int) f = st := ⟨_, rfl⟩
                    have her : (ovS n M C cp).tkE (c : Int) = 0 := Gs.tkE_ok (ovS_ok HM.out.1 hcn C cp)
                    have HTK := hide (HA.out.take (c : Int) f hcp0 hs2 hst her)
                    have HS2 := hide hs2
                    have HST := hide hst
                    clear hs2 hst her
                    go_upto_region 40 with (first | (go_at_call 23; refine HBL.out.mono ?_; rintro e w9 ⟨rfl, rfl⟩) | (go_at_call 13; refine HTK.out.mono ?_; rintro e w5 ⟨rfl, g5, f5⟩; have G5 := hide g5; have F5 := hide f5; clear g5 f5))
                    refine wp_at (fun W => OW w qb k b1 cb s2 vs Q cv cp C W ∧ BoxT 37 W wr.heap.size f.ar ∧ BoxT 43 W w5.heap.size (snA st)) ⟨G5.out.below (below_box _ _), F5.out.alloc _, BoxT.new _ _ _⟩ ?_
                    have hfl := HA.out.q.box.lt
                    generalize w5.heap.size = sb at *
                    clear G5 F5 HTK HBL d0 d1 d2 d3 d4 d5 d6 cq HROW
                    generalize wr.heap.size = fb at *
                    rintro V ⟨AV, FV, BV⟩
                    have cq2 := AV.q.cell HVV.out
                    have rowV := AV.q.row c _ _ HVV.out HYY.out
                    obtain ⟨g', off', ea, _, hcap1, t1, t2⟩ := rowV.tail Fr.cs_len
                    cases ea
                    have frq := AV.q.box.free
                    rw [HZN.out] at t1 t2
                    have hlc : zn + 1 ≤ vc := by
                      rcases rowV with ⟨_, h⟩ | ⟨_, _, cp, _, e, _, _, h4, _⟩
                      · cases h
                      · obtain ⟨_, _, rfl⟩ := Value.slice.inj e
                        simp only [List.length_cons] at h4
                        rw [HZN.out] at h4
                        exact h4
                    have hcapI : (1 : Int) ≤ (vc : Int) := by omega
                    have hlcI : (zn : Int) + 1 ≤ (vc : Int) := by omega
                    have hlfI : (1 : Int) ≤ (zn : Int) + 1 := by omega
                    have HT12 := hide (And.intro t1 t2)
                    have HAV := hide AV
                    have HFV := hide FV
                    have HBV := hide BV
                    clear t1 t2 AV FV BV rowV
                    go_cut [20] from 126 to 221 (fun lv wx => lv = .int .i64 ((left - 1 : Nat) : Int) ∧ ∃ v' : Value, Hid (OW w qb k b1 cb s2 (vs.set c v') (Q.set c zs) cv cp C wx) ∧ Hid (BoxT 37 wx fb f.ar) ∧ Hid (BoxT 43 wx sb (snA st)))
                    case first =>
                      have hnf : fb ≠ qb := HFV.out.ne HAV.out.q.box (by decide)
                      have hns : sb ≠ qb := HBV.out.ne HAV.out.q.box (by decide)
                      by_cases hv1 : vc = 1
                      · subst hv1
                        have HZ9 : Hid (Row 37 7 Fr.cs w.heap.size V (.slice (some ⟨g, off, none⟩) zs.length 0) zs) := (show Row _ _ _ _ _ _ _ by have h := (HT12.out.2 rfl).1; rw [← HZN.out] at h; exact h)
                        go_wp2_with fail
                        go_meet
                        case rel => exact ⟨by first | go_num | (congr 1; omega), _, HAV.out.pop HVV.out HYY.out HZ9.out (fun _ e => e), HFV.out.other _ _ hnf, HBV.out.other _ _ hns⟩
                      · have hv1I : ¬ (vc : Int) - 1 = 0 := by omega
                        have HZ9 : Hid (Row 37 7 Fr.cs w.heap.size V (.slice (some ⟨g, off + 7, none⟩) zs.length (vc - 1)) zs) := (show Row _ _ _ _ _ _ _ by have h := HT12.out.1 hv1; rw [← HZN.out] at h; exact h)
                        go_wp2_with fail
                        go_meet
                        case rel => exact ⟨by first | go_num | (congr 1; omega), _, HAV.out.pop HVV.out HYY.out HZ9.out (fun _ e => e), HFV.out.other _ _ hnf, HBV.out.other _ _ hns⟩
                    case rest =>
                    obtain ⟨rfl, v', HA2, HF2, HB2⟩ := hcut
                    clear HAV HFV HBV HT12 cq2 frq hlc hcapI hlcI hlfI hzl hzl2 hz1
                    have HNT : ∀ NR', Hid (Bd n (xs1.length + n + xs2.length) xs3.length NR' (left - 1) (i + 1)) := fun NR' => (show Bd _ _ _ _ _ _ by
                      have h1 := HPOP.out.1
                      have h := HTB.out
                      rw [show left = left - 1 + 1 by omega] at h
                      exact h.taken hn2.1 hn2.2 (by omega) HRD.out)
                    have frc := HA2.out.cm.free
                    obtain ⟨b, hb⟩ := get_of_lt (show c < C.length by rw [HP.out.lc]; exact hcn)
                    have ec := HA2.out.seen hb
                    have HCB := hide hb
                    clear hb
                    rcases HPOP.out.2 with ⟨hnb, hpv⟩ | ⟨hf1, hb1, hpv⟩
                    · obtain ⟨e1, e2, e3⟩ := ovS_other HM.out.1 HP.out.lc hcn cp hnb
                      rw [HS2.out] at e1
                      rw [HST.out] at e2 e3
                      have hk3 : (f.kd == 3) = false := by rcases hnb with h | h <;> rw [h] <;> rfl
                      have HNB := hide hnb
                      have HPV := hide hpv
                      obtain ⟨k0, k1, k2, k3, k4, k5, k6⟩ := st
                      simp only at e2 e3
                      subst e3
                      have hk0 : (k0 == 3) = false := by simpa using e2
                      obtain ⟨f0, f1, f2, f3, f4, f5, f6⟩ := BoxT.all7 HF2.out
                      obtain ⟨g0, g1, g2, g3, g4, g5, g6⟩ := BoxT.all7 HB2.out
                      simp only at g0 g1 g2 g3 g4 g5 g6
                      subst e1
                      clear hnb hpv e2
                      have hmk : (mkM M c f).length = n := by unfold mkM; split <;> simp [HM.out.1]
                      cases ha : C.any id with
                      | false =>
                        have hcpo : cpO C cp c f = cp := by unfold cpO; rw [ha]; simp
                        rw [hcpo] at HA2
                        go_wp2_with fail
                        go_roundg go
                        case rel => exact ⟨_, i + 1, C, mkM M c f, cp, left - 1, _, _, rfl, by rw [ha], rfl, rfl, by go_num, by omega, ⟨hmk, HM.out.2.1, by have := HM.out.2.2; omega⟩, HPV, ⟨(HNT _).out, by omega⟩, HA2⟩
                        case measure => omega
                      | true =>
                        cases b with
                        | true =>
                          have hcpo : cpO C cp c f = cp := by unfold cpO; rw [ha, getD_some HCB.out]; simp
                          rw [hcpo] at HA2
                          go_wp2_with fail
                          go_roundg go
                          case rel => exact ⟨_, i + 1, C, mkM M c f, cp, left - 1, _, _, rfl, by rw [ha], rfl, rfl, by go_num, by omega, ⟨hmk, HM.out.2.1, by have := HM.out.2.2; omega⟩, HPV, ⟨(HNT _).out, by omega⟩, HA2⟩
                          case measure => omega
                        | false =>
                          have hcpo : cpO C cp c f = cp ++ [⟨(c : Int), f⟩] := by unfold cpO; rw [ha, getD_some HCB.out]; rfl
                          rw [hcpo] at HA2
                          have hcpl := HM.out.2.2
                          have HA3 := hide (HA2.out.below (below_box wc (.cells #[.int .i64 (c : Int), .int .i64 f.kd, .int .i64 f.ke, .int .i64 f.ti, .int .i64 f.va, .int .i64 f.ma, .int .u64 f.n, .bool f.ov] 65)))
                          have HBS := HA3.out.ble
                          have HNW2 : Hid (∀ (j : Nat) (u : Value), (Ou.cs ⟨(c : Int), f⟩)[j]? = some u → (wc.alloc (.cells #[.int .i64 (c : Int), .int .i64 f.kd, .int .i64 f.ke, .int .i64 f.ti, .int .i64 f.va, .int .i64 f.ma, .int .u64 f.n, .bool f.ov] 65)).cell? ((⟨wc.heap.size, 0, none⟩ : Addr).add j) = some u) := newO wc rfl ⟨(c : Int), f⟩
                          go_upto_region 50 with (at_builtin; refine app_L Try.infoOu Try.underlying31 rfl (by decide) (by decide) Ou.cs_len Ou.cs_one rfl _ _ rfl b1 cv cp rfl HA3.out.ca ⟨wc.heap.size, 0, none⟩ 1 ⟨(c : Int), f⟩ rfl HNW2.out (by omega) HBS ?_; intro v5 w5 h5 q5 k5; have HA4 := hide (HA3.out.catch h5 q5 k5); have HB4 := hide (HA3.out.keep (HB2.out.alloc (.cells #[.int .i64 (c : Int), .int .i64 f.kd, .int .i64 f.ke, .int .i64 f.ti, .int .i64 f.va, .int .i64 f.ma, .int .u64 f.n, .bool f.ov] 65)) (by decide) q5); clear h5 q5 k5)
                          clear g0 g1 g2 g3 g4 g5 g6
                          obtain ⟨g0, g1, g2, g3, g4, g5, g6⟩ := BoxT.all7 HB4.out
                          simp only at g0 g1 g2 g3 g4 g5 g6
                          go_wp2_with fail
                          go_roundg go
                          case rel => exact ⟨_, i + 1, C, mkM M c f, cp ++ [⟨(c : Int), f⟩], left - 1, _, _, rfl, by rw [ha], rfl, rfl, by go_num, by omega, ⟨hmk, (fun e => (by rw [ha] at e; cases e)), by simp; omega⟩, HPV, ⟨(HNT _).out, by omega⟩, HA4⟩
                          case measure => omega
                    · have hbf : b = false := by
                        have h1 := HCB.out
                        rw [hb1] at h1
                        exact (Option.some.inj h1).symm
                      subst hbf
                      subst hf1
                      obtain ⟨e1, e2, e3⟩ := ovS_bar HM.out.1 HP.out.lc hb1 HM.out.2.1
                      rw [HS2.out] at e1
                      rw [HST.out] at e2 e3
                      have hall := not_all hb1
                      have hany2 : (C.set c true).any id = true := any_set (by rw [HP.out.lc]; exact hcn)
                      have HPV := hide hpv
                      clear hpv hb1
                      rw [hall]
                      obtain ⟨k0, k1, k2, k3, k4, k5, k6⟩ := st
                      simp only at e2 e3
                      have hsc : sb ≠ cb := HB2.out.ne HA2.out.cm (by decide)
                      obtain ⟨f0, f1, f2, f3, f4, f5, f6⟩ := BoxT.all7 HF2.out
                      obtain ⟨g0, g1, g2, g3, g4, g5, g6⟩ := BoxT.all7 HB2.out
                      have f0' : wc.cell? ⟨fb, 0, none⟩ = some (.int .i64 3) := f0
                      clear f0
                      simp only at g0 g1 g2 g3 g4 g5 g6
                      subst e1
                      cases ha : C.any id with
                      | false =>
                        rw [ha] at e2
                        simp only [Bool.false_eq_true, if_false] at e2
                        subst e2
                        cases h2 : (C.set c true).all id with
                        | false =>
                          rw [h2] at e3
                          simp only [Bool.false_eq_true, if_false] at e3
                          subst e3
                          go_upto_region 45 with fail
                          refine wp_at (fun W => OW w qb k b1 cb (ovS n M (C.set c true) cp) (vs.set c v') (Q.set c zs) cv cp (C.set c true) W ∧ BoxT 43 W sb (snA ⟨3, k1, k2, k3, k4, k5, 0⟩)) ⟨HA2.out.see c, HB2.out.other _ _ hsc⟩ ?_
                          clear g0 g1 g2 g3 g4 g5 g6 f1 f2 f3 f4 f5 f6 frc ec HA2 HB2
                          rintro V2 ⟨AV2, BV2⟩
                          obtain ⟨g0, g1, g2, g3, g4, g5, g6⟩ := BoxT.all7 BV2
                          simp only at g0 g1 g2 g3 g4 g5 g6
                          have HA4 := hide AV2
                          clear AV2 BV2
                          go_wp2_with fail
                          go_roundg go
                          case rel => exact ⟨_, i + 1, C.set c true, M, cp, left - 1, _, _, rfl, by rw [hany2], by rw [h2], rfl, by go_num, by omega, ⟨HM.out.1, (fun e => (by rw [hany2] at e; cases e)), by have := HM.out.2.2; omega⟩, HPV, ⟨(HNT _).out, by omega⟩, HA4⟩
                          case measure => omega
                        | true =>
                          rw [h2] at e3
                          simp only [if_true] at e3
                          subst e3
                          go_upto_region 45 with fail
                          refine wp_at (fun W => OW w qb k b1 cb (ovS n M (C.set c true) cp) (vs.set c v') (Q.set c zs) cv cp (C.set c true) W ∧ BoxT 43 W sb (snA ⟨3, k1, k2, k3, k4, k5, 9⟩)) ⟨HA2.out.see c, HB2.out.other _ _ hsc⟩ ?_
                          clear g0 g1 g2 g3 g4 g5 g6 f1 f2 f3 f4 f5 f6 frc ec HA2 HB2
                          rintro V2 ⟨AV2, BV2⟩
                          obtain ⟨g0, g1, g2, g3, g4, g5, g6⟩ := BoxT.all7 BV2
                          simp only at g0 g1 g2 g3 g4 g5 g6
                          have HA4 := hide AV2
                          clear AV2 BV2
                          go_wp2_with fail
                          go_roundg go
                          case rel => exact ⟨_, i + 1, C.set c true, M, cp, left - 1, _, _, rfl, by rw [hany2], by rw [h2], rfl, by go_num, by omega, ⟨HM.out.1, (fun e => (by rw [hany2] at e; cases e)), by have := HM.out.2.2; omega⟩, HPV, ⟨(HNT _).out, by omega⟩, HA4⟩
                          case measure => omega
                      | true =>
                        rw [ha] at e2
                        simp only [if_true] at e2
                        subst e2
                        cases h2 : (C.set c true).all id with
                        | false =>
                          rw [h2] at e3
                          simp only [Bool.false_eq_true, if_false] at e3
                          subst e3
                          go_upto_region 45 with fail
                          refine wp_at (fun W => OW w qb k b1 cb (ovS n M (C.set c true) cp) (vs.set c v') (Q.set c zs) cv cp (C.set c true) W ∧ BoxT 43 W sb (snA ⟨0, k1, k2, k3, k4, k5, 0⟩)) ⟨HA2.out.see c, HB2.out.other _ _ hsc⟩ ?_
                          clear g0 g1 g2 g3 g4 g5 g6 f1 f2 f3 f4 f5 f6 frc ec HA2 HB2
                          rintro V2 ⟨AV2, BV2⟩
                          obtain ⟨g0, g1, g2, g3, g4, g5, g6⟩ := BoxT.all7 BV2
                          simp only at g0 g1 g2 g3 g4 g5 g6
                          have HA4 := hide AV2
                          clear AV2 BV2
                          go_wp2_with fail
                          go_roundg go
                          case rel => exact ⟨_, i + 1, C.set c true, M, cp, left - 1, _, _, rfl, by rw [hany2], by rw [h2], rfl, by go_num, by omega, ⟨HM.out.1, (fun e => (by rw [hany2] at e; cases e)), by have := HM.out.2.2; omega⟩, HPV, ⟨(HNT _).out, by omega⟩, HA4⟩
                          case measure => omega
                        | true =>
                          rw [h2] at e3
                          simp only [if_true] at e3
                          subst e3
                          go_upto_region 45 with fail
                          refine wp_at (fun W => OW w qb k b1 cb (ovS n M (C.set c true) cp) (vs.set c v') (Q.set c zs) cv cp (C.set c true) W ∧ BoxT 43 W sb (snA ⟨0, k1, k2, k3, k4, k5, 9⟩)) ⟨HA2.out.see c, HB2.out.other _ _ hsc⟩ ?_
                          clear g0 g1 g2 g3 g4 g5 g6 f1 f2 f3 f4 f5 f6 frc ec HA2 HB2
                          rintro V2 ⟨AV2, BV2⟩
                          obtain ⟨g0, g1, g2, g3, g4, g5, g6⟩ := BoxT.all7 BV2
                          simp only at g0 g1 g2 g3 g4 g5 g6
                          have HA4 := hide AV2
                          clear AV2 BV2
                          go_wp2_with fail
                          go_roundg go
                          case rel => exact ⟨_, i + 1, C.set c true, M, cp, left - 1, _, _, rfl, by rw [hany2], by rw [h2], rfl, by go_num, by omega, ⟨HM.out.1, (fun e => (by rw [hany2] at e; cases e)), by have := HM.out.2.2; omega⟩, HPV, ⟨(HNT _).out, by omega⟩, HA4⟩
                          case measure => omega
                · obtain rfl : left = 0 := by omega
                  have hall := HP.out.all
                  have hany := any_of_all hall (by rw [HP.out.lc]; exact hn2.1)
                  have hcpl := HM.out.2.2
                  have HOU := hide (HA.out.outs (by rw [ovS_cp hany]; omega) (by omega))
                  rw [ovS_cp hany] at HOU
                  rw [hall, hany]
                  have bl0 : ¬ (0 : Int) < ((0 : Nat) : Int) := by omega
                  go_wp2_with (first | (go_at_call 22; refine HOU.out.mono ?_; rintro e w7 ⟨u7, rfl, h71, h72, b7⟩; have H71 := hide h71; have H72 := hide h72; have B7 := hide b7; clear h71 h72 b7) | (go_at_call 21; refine (hOuts_any H71.out H72.out (by omega)).mono ?_; rintro e w8 ⟨rfl, b8⟩; have B8 := hide (b8 w.heap.size); clear b8))
                  go_ret
                  exact ⟨by simp, HA.out.bel.trans ((B7.out.mono HA.out.bel.size).trans B8.out)⟩
end Go.Proofs.Ytmipgfobggbndaa
