/-
  The law GateAligns.
-/
import Derived.Test.YtmipgfobggbndaaGAlR
namespace Go.Proofs.Ytmipgfobggbndaa
open Go.RowKit

theorem bld_bound {n : Nat} {fr : Fr} (hn : 1 ≤ n) {Q : List (List Fr)} (hQ : Q.length = n) {m : Nat} (h : ∀ (c : Nat) (ys : List Fr), Q[c]? = some ys → ys.length ≤ m) (l : List Nat) : ∀ (c : Nat) (ys : List Fr), (bld n fr Q l)[c]? = some ys → ys.length ≤ m + l.length := by
  intro c ys hy
  have hc : c < n := by rw [← hQ, ← bld_len n fr l Q]; exact lt_of_get hy
  have h3 := bld_get (fr := fr) hn l Q hQ c hc
  rw [List.getD_eq_getElem?_getD, hy] at h3
  have h4 := List.countP_le_length (p := fun x => x % n == c) (l := l)
  have h5 := h c (Q.getD c []) (getD_lt (by rw [hQ]; exact hc))
  have h7 : ys = _ := h3
  rw [h7, List.length_append, List.length_replicate]
  omega
theorem nil_bound {n : Nat} : ∀ (c : Nat) (ys : List Fr), (List.replicate n ([] : List Fr))[c]? = some ys → ys.length ≤ 0 := by
  intro c ys h
  rw [List.getElem?_replicate] at h
  split at h
  · cases h; simp
  · cases h
set_option maxHeartbeats 8000000 in
set_option maxRecDepth 100000 in
theorem GateAligns_walk (w : World) (n0 : Int) (ao1 : Option Addr) (cap1 : Nat) (xs1 : List Nat) (hv1 : LSeg 1 u8cs w.heap.size w (.slice ao1 xs1.length cap1) xs1) (hb1 : ∀ x ∈ xs1, x < 256) (ao2 : Option Addr) (cap2 : Nat) (xs2 : List Nat) (hv2 : LSeg 1 u8cs w.heap.size w (.slice ao2 xs2.length cap2) xs2) (hb2 : ∀ x ∈ xs2, x < 256) (ao3 : Option Addr) (cap3 : Nat) (xs3 : List Nat) (hv3 : LSeg 1 u8cs w.heap.size w (.slice ao3 xs3.length cap3) xs3) (hb3 : ∀ x ∈ xs3, x < 256) : Calls Try.prog 4 #[.int .i64 n0, .slice ao1 xs1.length cap1, .slice ao2 xs2.length cap2, .slice ao3 xs3.length cap3] w fun e w' => e = .returned (.bool true) ∧ Below w.heap.size w w' := by
  obtain ⟨q1, q2⟩ := plc_in (i := n0) (n := 6) (by omega)
  have HP1 := hide (fun w => hPlace_any w n0 (n := 6) (by omega) (by omega))
  generalize plc n0 6 = q at *
  obtain ⟨n, hn⟩ : ∃ n : Nat, (1 : Int) + q = (n : Int) := ⟨(1 + q).toNat, by omega⟩
  have hn2 : 1 ≤ n ∧ n ≤ 6 := by omega
  have HV1 := hide hv1
  have HV2 := hide hv2
  have HV3 := hide hv3
  have hl1 := hv1.len
  have hl2 := hv2.len
  have hl3 := hv3.len
  have HB := hide (And.intro hb1 (And.intro hb2 hb3))
  clear hv1 hv2 hv3 hb1 hb2 hb3
  by_cases g1 : 30 < xs1.length
  · have gg : (30 : Int) < (xs1.length : Int) := by omega
    go_enter Try.func4, Try.ntmps4
    go_wp2_with (first | (go_at_call 8; refine (known_any _).mono ?_; rintro e w1 ⟨rfl, b1⟩; have B1 := hide b1; clear b1) | (go_at_call 25; refine (HP1.out _).mono ?_; rintro e w2 ⟨rfl, rfl⟩))
    go_ret
    exact ⟨rfl, B1.out⟩
  have gg1 : ¬ (30 : Int) < (xs1.length : Int) := by omega
  by_cases g2 : 30 < xs2.length
  · have gg : (30 : Int) < (xs2.length : Int) := by omega
    go_enter Try.func4, Try.ntmps4
    go_wp2_with (first | (go_at_call 8; refine (known_any _).mono ?_; rintro e w1 ⟨rfl, b1⟩; have B1 := hide b1; clear b1) | (go_at_call 25; refine (HP1.out _).mono ?_; rintro e w2 ⟨rfl, rfl⟩))
    go_ret
    exact ⟨rfl, B1.out⟩
  have gg2 : ¬ (30 : Int) < (xs2.length : Int) := by omega
  by_cases g3 : 200 < xs3.length
  · have gg : (200 : Int) < (xs3.length : Int) := by omega
    go_enter Try.func4, Try.ntmps4
    go_wp2_with (first | (go_at_call 8; refine (known_any _).mono ?_; rintro e w1 ⟨rfl, b1⟩; have B1 := hide b1; clear b1) | (go_at_call 25; refine (HP1.out _).mono ?_; rintro e w2 ⟨rfl, rfl⟩))
    go_ret
    exact ⟨rfl, B1.out⟩
  have gg3 : ¬ (200 : Int) < (xs3.length : Int) := by omega
  have hI := fun w => madeQ w n (by omega)
  go_enter Try.func4, Try.ntmps4
  go_upto_region 7 with (first | (go_at_call 8; refine (known_any _).mono ?_; rintro e w1 ⟨rfl, b1⟩; have B1 := hide b1; clear b1) | (go_at_call 25; refine (HP1.out _).mono ?_; rintro e w2 ⟨rfl, rfl⟩))
  have HQ0 : Hid (QW w w1.heap.size (List.replicate n (Value.slice none 0 0)) (List.replicate n []) (w1.alloc (.cells (List.replicate n (Value.slice none 0 0)).toArray 60))) := ⟨QA.new, B1.out.alloc B1.out.size _, B1.out.size⟩
  generalize hqb : w1.heap.size = qb at *
  refine wp_at (QW w qb (List.replicate n (Value.slice none 0 0)) (List.replicate n [])) HQ0.out ?_
  clear HQ0 hqb HP1 q1 q2 hI
  have HNQ := hide hn
  clear hn
  intro W0 G0
  have HG0 := hide G0
  clear G0
  go_wp2_with fail
  go_loopg [10, 11] (xs1.length + 1) (fun gh iv _ wr => ∃ (i : Nat) (vs : List Value), iv = .int .i64 (i : Int) ∧ i ≤ xs1.length ∧ xs1.length + 1 ≤ gh + i ∧ Hid (QW w qb vs (bld n (rc 1) (List.replicate n []) (xs1.take i)) wr))
  case atStart => exact ⟨0, List.replicate n (Value.slice none 0 0), rfl, by omega, by omega, HG0⟩
  case round =>
    obtain ⟨i, vs, rfl, hi, hg, HQ⟩ := hrel
    obtain ⟨go, rfl⟩ : ∃ go, gk = go + 1 := ⟨gk - 1, by omega⟩
    by_cases hlt : i < xs1.length
    · have bt : (i : Int) < (xs1.length : Int) := by omega
      obtain ⟨x, hx⟩ := get_of_lt hlt
      have hx256 := HB.out.1 x (List.mem_of_getElem? hx)
      obtain ⟨sb, so, rfl, _, e0⟩ := seg_u8 (HV1.out.below HQ.out.2.1) hx
      obtain ⟨c, hc⟩ : ∃ c, x % n = c := ⟨_, rfl⟩
      have hcn : c < n := by rw [← hc]; exact Nat.mod_lt _ hn2.1
      have hm1 : (x : Int) % (n : Int) = (c : Int) := by rw [← hc]; rfl
      have hm2 : Int.tmod (x : Int) (n : Int) = (c : Int) := by rw [← hc]; rfl
      have hn0 : ((n : Int) == 0) = false := by simp; omega
      have HTK := hide (bld_take (n := n) (fr := rc 1) (Q := List.replicate n []) hx)
      rw [hc] at HTK
      have hQl : (bld n (rc 1) (List.replicate n []) (xs1.take i)).length = n := by rw [bld_len]; simp
      have HQB : Hid (∀ c (ys : List Fr), (bld n (rc 1) (List.replicate n []) (xs1.take i))[c]? = some ys → ys.length ≤ 100) := (show ∀ c ys, _ from fun c2 ys h2 => by
        have h3 := bld_get (fr := rc 1) hn2.1 (xs1.take i) (List.replicate n []) (by simp) c2 (by rw [← hQl]; exact lt_of_get h2)
        rw [List.getD_eq_getElem?_getD, h2] at h3
        have h4 := List.countP_le_length (p := fun x => x % n == c2) (l := xs1.take i)
        have h5 : (xs1.take i).length ≤ xs1.length := by rw [List.length_take]; omega
        have h6 : ((List.replicate n ([] : List Fr)).getD c2 []).length = 0 := by simp [List.getD_eq_getElem?_getD, List.getElem?_replicate]; split <;> rfl
        have h7 : ys = _ := h3
        rw [h7, List.length_append, h6, List.length_replicate]
        omega)
      generalize bld n (rc 1) (List.replicate n []) (xs1.take i) = Q at *
      clear hx hc
      obtain ⟨v, hv⟩ := get_of_lt (show c < vs.length by rw [HQ.out.1.len, hQl]; exact hcn)
      obtain ⟨ys, hys⟩ := get_of_lt (show c < Q.length by rw [hQl]; exact hcn)
      have hyl : ys.length ≤ 100 := HQB.out c ys hys
      have hrow := HQ.out.1.row c v ys hv hys
      obtain ⟨va, vc, rfl⟩ := hrow.shape
      have HROW := hide hrow
      have cq := HQ.out.1.cell hv
      have hqlt := HQ.out.1.box.lt
      have HVV := hide hv
      have HYY := hide hys
      generalize hyn : ys.length = yn at *
      have HYN := hide hyn
      clear hv hys hrow hyn
      have KC : Hid (∀ w', Below wr.heap.size wr w' → w'.cell? ⟨qb, c, none⟩ = some (.slice va yn vc)) := fun w' hb => (hb.cell (p := ⟨qb, c, none⟩) hqlt).trans cq
      have BD : Hid (Below wr.heap.size wr wr.drew) := (Below.refl _ _).drew
      have bc : (c : Int) < (n : Int) := by omega
      go_wp2_with fail
      refine wp_region_M (S := fun w' => w'.cell? ⟨qb, c, none⟩ = some (.slice va yn vc)) (late := [9, 10]) (by kernel_rfl) (KC.out _ BD.out) (fun hHeld => ?_)
      (try simp only [List.size_toArray, List.length_cons, List.length_nil, Nat.zero_add, Nat.reduceAdd, Array.replicate, List.replicate])
      refine wpAnyM_take (i := 0) (oi := ⟨_, _, _, _, _, _⟩) (v := ?_) rfl (by kernel_rfl) (by kernel_rfl) (by kernel_rfl) (by kernel_rfl) (fun _ _ _ h => h) (Or.inl ⟨by rfl, ?_⟩) hHeld ?_
      rotate_left
      · (intro w' hSw; (try dsimp only at hSw); go_simp; try (with_reducible rfl))
      (try simp only [Act.put, List.setIfInBounds_toArray, List.set_cons_zero, List.set_cons_succ])
      refine wpAnyM_take (i := 1) (oi := ⟨_, _, _, _, _, _⟩) (v := ?_) rfl (by kernel_rfl) (by kernel_rfl) (by kernel_rfl) (by kernel_rfl) (fun _ _ _ h => h) (Or.inl ⟨by rfl, ?_⟩) hHeld ?_
      rotate_left
      · (intro w' hSw; (try dsimp only at hSw); go_simp; try (with_reducible rfl))
      (try simp only [Act.put, List.setIfInBounds_toArray, List.set_cons_zero, List.set_cons_succ])
      refine wpAnyM_take (i := 2) (oi := ⟨_, _, _, _, _, _⟩) (v := ?_) rfl (by kernel_rfl) (by kernel_rfl) (by kernel_rfl) (by kernel_rfl) (fun _ _ _ h => h) (Or.inl ⟨by rfl, ?_⟩) hHeld ?_
      rotate_left
      · (intro w' hSw; (try dsimp only at hSw); go_simp; try (with_reducible rfl))
      (try simp only [Act.put, List.setIfInBounds_toArray, List.set_cons_zero, List.set_cons_succ])
      refine wpAnyM_take (i := 3) (oi := ⟨_, _, _, _, _, _⟩) (v := ?_) rfl (by kernel_rfl) (by kernel_rfl) (by kernel_rfl) (by kernel_rfl) (fun _ _ _ h => h) (Or.inl ⟨by rfl, ?_⟩) hHeld ?_
      rotate_left
      · (intro w' hSw; (try dsimp only at hSw); go_simp; try (with_reducible rfl))
      (try simp only [Act.put, List.setIfInBounds_toArray, List.set_cons_zero, List.set_cons_succ])
      refine wpAnyM_take (i := 4) (oi := ⟨_, _, _, _, _, _⟩) (v := ?_) rfl (by kernel_rfl) (by kernel_rfl) (by kernel_rfl) (by kernel_rfl) (fun _ _ _ h => h) (Or.inl ⟨by rfl, ?_⟩) hHeld ?_
      rotate_left
      · (intro w' hSw; (try dsimp only at hSw); go_simp; try (with_reducible rfl))
      (try simp only [Act.put, List.setIfInBounds_toArray, List.set_cons_zero, List.set_cons_succ])
      refine wpAnyM_take (i := 5) (oi := ⟨_, _, _, _, _, _⟩) (v := ?_) rfl (by kernel_rfl) (by kernel_rfl) (by kernel_rfl) (by kernel_rfl) (fun _ _ _ h => h) (Or.inl ⟨by rfl, ?_⟩) hHeld ?_
      rotate_left
      · (intro w' hSw; (try dsimp only at hSw); go_simp; try (with_reducible rfl))
      (try simp only [Act.put, List.setIfInBounds_toArray, List.set_cons_zero, List.set_cons_succ])
      refine wpAnyM_one (i := 6) (o := ⟨_, _, _, _, _, _⟩) (by kernel_rfl) rfl (fun K hK => ?_)
      go_simp
      go_at_call 26
      refine (rec_any _ 1).mono ?_
      rintro e w3 ⟨rfl, b3⟩
      have B3 := hide (BD.out.trans (b3.mono BD.out.size))
      clear b3
      have B4 := hide (B3.out.trans ((below_box w3 (.cells #[.int .i64 (rc 1).kd, .int .i64 (rc 1).ke, .int .i64 (rc 1).ti, .int .i64 (rc 1).va, .int .i64 (rc 1).ma, .int .u64 (rc 1).n, .bool (rc 1).ov] 37)).mono B3.out.size))
      refine hK.out _ _ (KC.out _ B3.out) (fun hHeld => ?_)
      clear hK K
      (try simp only [List.setIfInBounds_toArray, List.set_cons_zero, List.set_cons_succ])
      refine wpAnyM_one (i := 7) (o := ⟨_, _, _, _, _, _⟩) (by kernel_rfl) rfl (fun K hK => ?_)
      go_simp
      refine hK.out _ _ (KC.out _ B4.out) (fun hHeld => ?_)
      clear hK K
      (try simp only [List.setIfInBounds_toArray, List.set_cons_zero, List.set_cons_succ])
      refine wpAnyM_one (i := 8) (o := ⟨_, _, _, _, _, _⟩) (by kernel_rfl) rfl (fun K hK => ?_)
      (refine step_row Try.infoFr Try.underlying60 rfl (by decide) (by decide) Fr.cs_len Fr.cs_one rfl _ _ rfl w.heap.size (.slice va yn vc) ys rfl ((HROW.out.below B4.out)) ⟨w3.heap.size, 0, none⟩ 1 (rc 1) rfl (newF w3 rfl (rc 1)) (by rw [HYN.out]; omega) (Nat.le_trans HQ.out.2.1.size B4.out.size) ?_; intro v5 w5 h5 g5 k5; have Q4 := HQ.out.below B4.out; have hb5 := Q4.qbox HVV.out HYY.out g5; have HNQ2 := hide (Q4.app HVV.out h5 g5 k5 HYY.out); have fr5 := hb5.free; have d5 : w5.cell? ⟨qb, c, none⟩ = some (.slice va yn vc) := (by rw [hb5.cellAt]; simpa using HVV.out); obtain ⟨a5, e5, hv5⟩ := h5.shape; generalize hn5 : (ys ++ [(rc 1)]).length = n5 at hv5; subst hv5; clear h5 g5 k5 Q4 hb5 hn5)
      refine hK.out _ _ (d5) (fun hHeld => ?_)
      clear hK K
      (try simp only [List.setIfInBounds_toArray, List.set_cons_zero, List.set_cons_succ])
      refine wpAnyM_last (i := 9) (o := ⟨_, _, _, _, _, _⟩) (by kernel_rfl) (by rfl) rfl (fun K hK => ?_)
      go_simp
      refine hK.out _ _ ?_
      clear hK K
      (try simp only [List.setIfInBounds_toArray, List.set_cons_zero, List.set_cons_succ])
      refine wpAnyM_last (i := 10) (o := ⟨_, _, _, _, _, _⟩) (by kernel_rfl) (by rfl) rfl (fun K hK => ?_)
      go_simp
      refine hK.out _ _ ?_
      clear hK K
      (try simp only [List.setIfInBounds_toArray, List.set_cons_zero, List.set_cons_succ])
      refine wpAnyM_done (by kernel_rfl) ?_ _
      go_wp2_with fail
      go_roundg go
      case rel => exact ⟨i + 1, _, by go_num, by omega, by omega, (show QW _ _ _ _ _ by rw [HTK.out]; have e : Q.getD c [] = ys := (by rw [List.getD_eq_getElem?_getD, HYY.out]; rfl); rw [e]; exact HNQ2.out)⟩
      case measure => omega
    · have bt : ¬ (i : Int) < (xs1.length : Int) := by omega
      have HQ2 : Hid (QW w qb vs (bld n (br false) (bld n (rc 1) (List.replicate n []) xs1) ((List.range n).take 0)) wr) := (show QW _ _ _ _ _ by have := HQ.out; rw [List.take_of_length_le (by omega)] at this; exact this)
      have HQL2 : Hid ((bld n (rc 1) (List.replicate n []) xs1).length = n) := (show _ = _ by rw [bld_len]; simp)
      have HBO2 : Hid (∀ (c : Nat) (ys : List Fr), (bld n (rc 1) (List.replicate n []) xs1)[c]? = some ys → ys.length ≤ 30) := (show ∀ c ys, _ from fun c ys h => by have := bld_bound (fr := rc 1) hn2.1 (by simp) nil_bound xs1 c ys h; omega)
      have HQG1 : Hid (∀ c, c < n → (bld n (rc 1) (List.replicate n []) xs1).getD c [] = List.replicate (xs1.countP fun x => x % n == c) (rc 1)) := (show ∀ c, _ from fun c hc => by
        rw [bld_get hn2.1 _ _ (by simp) c hc]
        have : (List.replicate n ([] : List Fr)).getD c [] = [] := by rw [List.getD_eq_getElem?_getD, List.getElem?_replicate, if_pos hc]; rfl
        rw [this]; rfl)
      clear HQ HG0
      generalize bld n (rc 1) (List.replicate n []) xs1 = Q1 at *
      go_wp2_with fail
      go_loopg [12] (n + 1) (fun gh iv wr => ∃ (i : Nat) (vs : List Value), iv = .int .i64 (i : Int) ∧ i ≤ n ∧ n + 1 ≤ gh + i ∧ Hid (QW w qb vs (bld n (br false) Q1 ((List.range n).take i)) wr))
      case atStart => exact ⟨0, _, rfl, by omega, by omega, HQ2⟩
      case round =>
        obtain ⟨i, vs, rfl, hi, hg, HQ⟩ := hrel
        obtain ⟨go, rfl⟩ : ∃ go, gk = go + 1 := ⟨gk - 1, by omega⟩
        by_cases hlt : i < n
        · have bt : (i : Int) < (n : Int) := by omega
          have hx : (List.range n)[i]? = some i := List.getElem?_range hlt
          have hc : i % n = i := Nat.mod_eq_of_lt (by omega)
          have hcn : i < n := by omega
          have HTK := hide (bld_take (n := n) (fr := (br false)) (Q := Q1) hx)
          rw [hc] at HTK
          have hQl : (bld n (br false) Q1 ((List.range n).take i)).length = n := by rw [bld_len]; exact HQL2.out
          have HQB : Hid (∀ (c : Nat) (ys : List Fr), (bld n (br false) Q1 ((List.range n).take i))[c]? = some ys → ys.length ≤ 100) := (show ∀ c ys, _ from fun c2 ys h2 => by
            have h3 := bld_bound (fr := (br false)) hn2.1 HQL2.out HBO2.out ((List.range n).take i) c2 ys h2
            have h5 : ((List.range n).take i).length ≤ n := by rw [List.length_take]; first | omega | (rw [List.length_range]; omega)
            omega)
          generalize bld n (br false) Q1 ((List.range n).take i) = Q at *
          clear hx hc
          obtain ⟨v, hv⟩ := get_of_lt (show i < vs.length by rw [HQ.out.1.len, hQl]; exact hcn)
          obtain ⟨ys, hys⟩ := get_of_lt (show i < Q.length by rw [hQl]; exact hcn)
          have hyl : ys.length ≤ 100 := HQB.out i ys hys
          have hrow := HQ.out.1.row i v ys hv hys
          obtain ⟨va, vc, rfl⟩ := hrow.shape
          have HROW := hide hrow
          have cq := HQ.out.1.cell hv
          have hqlt := HQ.out.1.box.lt
          have HVV := hide hv
          have HYY := hide hys
          generalize hyn : ys.length = yn at *
          have HYN := hide hyn
          clear hv hys hrow hyn
          have KC : Hid (∀ w', Below wr.heap.size wr w' → w'.cell? ⟨qb, i, none⟩ = some (.slice va yn vc)) := fun w' hb => (hb.cell (p := ⟨qb, i, none⟩) hqlt).trans cq
          have BD : Hid (Below wr.heap.size wr wr.drew) := (Below.refl _ _).drew
          have bc : (i : Int) < (n : Int) := by omega
          go_wp2_with fail
          refine wp_region_M (S := fun w' => w'.cell? ⟨qb, i, none⟩ = some (.slice va yn vc)) (late := [9, 10]) (by kernel_rfl) (KC.out _ BD.out) (fun hHeld => ?_)
          (try simp only [List.size_toArray, List.length_cons, List.length_nil, Nat.zero_add, Nat.reduceAdd, Array.replicate, List.replicate])
          refine wpAnyM_take (i := 0) (oi := ⟨_, _, _, _, _, _⟩) (v := ?_) rfl (by kernel_rfl) (by kernel_rfl) (by kernel_rfl) (by kernel_rfl) (fun _ _ _ h => h) (Or.inl ⟨by rfl, ?_⟩) hHeld ?_
          rotate_left
          · (intro w' hSw; (try dsimp only at hSw); go_simp; try (with_reducible rfl))
          (try simp only [Act.put, List.setIfInBounds_toArray, List.set_cons_zero, List.set_cons_succ])
          refine wpAnyM_take (i := 1) (oi := ⟨_, _, _, _, _, _⟩) (v := ?_) rfl (by kernel_rfl) (by kernel_rfl) (by kernel_rfl) (by kernel_rfl) (fun _ _ _ h => h) (Or.inl ⟨by rfl, ?_⟩) hHeld ?_
          rotate_left
          · (intro w' hSw; (try dsimp only at hSw); go_simp; try (with_reducible rfl))
          (try simp only [Act.put, List.setIfInBounds_toArray, List.set_cons_zero, List.set_cons_succ])
          refine wpAnyM_take (i := 2) (oi := ⟨_, _, _, _, _, _⟩) (v := ?_) rfl (by kernel_rfl) (by kernel_rfl) (by kernel_rfl) (by kernel_rfl) (fun _ _ _ h => h) (Or.inl ⟨by rfl, ?_⟩) hHeld ?_
          rotate_left
          · (intro w' hSw; (try dsimp only at hSw); go_simp; try (with_reducible rfl))
          (try simp only [Act.put, List.setIfInBounds_toArray, List.set_cons_zero, List.set_cons_succ])
          refine wpAnyM_take (i := 3) (oi := ⟨_, _, _, _, _, _⟩) (v := ?_) rfl (by kernel_rfl) (by kernel_rfl) (by kernel_rfl) (by kernel_rfl) (fun _ _ _ h => h) (Or.inl ⟨by rfl, ?_⟩) hHeld ?_
          rotate_left
          · (intro w' hSw; (try dsimp only at hSw); go_simp; try (with_reducible rfl))
          (try simp only [Act.put, List.setIfInBounds_toArray, List.set_cons_zero, List.set_cons_succ])
          refine wpAnyM_take (i := 4) (oi := ⟨_, _, _, _, _, _⟩) (v := ?_) rfl (by kernel_rfl) (by kernel_rfl) (by kernel_rfl) (by kernel_rfl) (fun _ _ _ h => h) (Or.inl ⟨by rfl, ?_⟩) hHeld ?_
          rotate_left
          · (intro w' hSw; (try dsimp only at hSw); go_simp; try (with_reducible rfl))
          (try simp only [Act.put, List.setIfInBounds_toArray, List.set_cons_zero, List.set_cons_succ])
          refine wpAnyM_take (i := 5) (oi := ⟨_, _, _, _, _, _⟩) (v := ?_) rfl (by kernel_rfl) (by kernel_rfl) (by kernel_rfl) (by kernel_rfl) (fun _ _ _ h => h) (Or.inl ⟨by rfl, ?_⟩) hHeld ?_
          rotate_left
          · (intro w' hSw; (try dsimp only at hSw); go_simp; try (with_reducible rfl))
          (try simp only [Act.put, List.setIfInBounds_toArray, List.set_cons_zero, List.set_cons_succ])
          refine wpAnyM_one (i := 6) (o := ⟨_, _, _, _, _, _⟩) (by kernel_rfl) rfl (fun K hK => ?_)
          go_simp
          go_at_call 27
          refine (bar_any _ 9 false).mono ?_
          rintro e w3 ⟨rfl, b3⟩
          have B3 := hide (BD.out.trans (b3.mono BD.out.size))
          clear b3
          have B4 := hide (B3.out.trans ((below_box w3 (.cells #[.int .i64 (br false).kd, .int .i64 (br false).ke, .int .i64 (br false).ti, .int .i64 (br false).va, .int .i64 (br false).ma, .int .u64 (br false).n, .bool (br false).ov] 37)).mono B3.out.size))
          refine hK.out _ _ (KC.out _ B3.out) (fun hHeld => ?_)
          clear hK K
          (try simp only [List.setIfInBounds_toArray, List.set_cons_zero, List.set_cons_succ])
          refine wpAnyM_one (i := 7) (o := ⟨_, _, _, _, _, _⟩) (by kernel_rfl) rfl (fun K hK => ?_)
          go_simp
          refine hK.out _ _ (KC.out _ B4.out) (fun hHeld => ?_)
          clear hK K
          (try simp only [List.setIfInBounds_toArray, List.set_cons_zero, List.set_cons_succ])
          refine wpAnyM_one (i := 8) (o := ⟨_, _, _, _, _, _⟩) (by kernel_rfl) rfl (fun K hK => ?_)
          (refine step_row Try.infoFr Try.underlying60 rfl (by decide) (by decide) Fr.cs_len Fr.cs_one rfl _ _ rfl w.heap.size (.slice va yn vc) ys rfl ((HROW.out.below B4.out)) ⟨w3.heap.size, 0, none⟩ 1 (br false) rfl (newF w3 rfl (br false)) (by rw [HYN.out]; omega) (Nat.le_trans HQ.out.2.1.size B4.out.size) ?_; intro v5 w5 h5 g5 k5; have Q4 := HQ.out.below B4.out; have hb5 := Q4.qbox HVV.out HYY.out g5; have HNQ2 := hide (Q4.app HVV.out h5 g5 k5 HYY.out); have fr5 := hb5.free; have d5 : w5.cell? ⟨qb, i, none⟩ = some (.slice va yn vc) := (by rw [hb5.cellAt]; simpa using HVV.out); obtain ⟨a5, e5, hv5⟩ := h5.shape; generalize hn5 : (ys ++ [(br false)]).length = n5 at hv5; subst hv5; clear h5 g5 k5 Q4 hb5 hn5)
          refine hK.out _ _ (d5) (fun hHeld => ?_)
          clear hK K
          (try simp only [List.setIfInBounds_toArray, List.set_cons_zero, List.set_cons_succ])
          refine wpAnyM_last (i := 9) (o := ⟨_, _, _, _, _, _⟩) (by kernel_rfl) (by rfl) rfl (fun K hK => ?_)
          go_simp
          refine hK.out _ _ ?_
          clear hK K
          (try simp only [List.setIfInBounds_toArray, List.set_cons_zero, List.set_cons_succ])
          refine wpAnyM_last (i := 10) (o := ⟨_, _, _, _, _, _⟩) (by kernel_rfl) (by rfl) rfl (fun K hK => ?_)
          go_simp
          refine hK.out _ _ ?_
          clear hK K
          (try simp only [List.setIfInBounds_toArray, List.set_cons_zero, List.set_cons_succ])
          refine wpAnyM_done (by kernel_rfl) ?_ _
          go_wp2_with fail
          go_roundg go
          case rel => exact ⟨i + 1, _, by go_num, by omega, by omega, (show QW _ _ _ _ _ by rw [HTK.out]; have e : Q.getD i [] = ys := (by rw [List.getD_eq_getElem?_getD, HYY.out]; rfl); rw [e]; exact HNQ2.out)⟩
          case measure => omega
        · have bt : ¬ (i : Int) < (n : Int) := by omega
          have HQ3 : Hid (QW w qb vs (bld n (rc 2) (bld n (br false) Q1 (List.range n)) (xs2.take 0)) wr) := (show QW _ _ _ _ _ by have := HQ.out; rw [List.take_of_length_le (by simp; omega)] at this; exact this)
          have HQL3 : Hid ((bld n (br false) Q1 (List.range n)).length = n) := (show _ = _ by rw [bld_len]; exact HQL2.out)
          have HBO3 : Hid (∀ (c : Nat) (ys : List Fr), (bld n (br false) Q1 (List.range n))[c]? = some ys → ys.length ≤ 36) := (show ∀ c ys, _ from fun c ys h => by have := bld_bound (fr := br false) hn2.1 HQL2.out HBO2.out (List.range n) c ys h; simp at this; omega)
          have HQG2 : Hid (∀ c, c < n → (bld n (br false) Q1 (List.range n)).getD c [] = List.replicate (xs1.countP fun x => x % n == c) (rc 1) ++ [br false]) := (show ∀ c, _ from fun c hc => by rw [bld_get hn2.1 _ _ HQL2.out c hc, HQG1.out c hc, range_count hn2.2 hc]; rfl)
          clear HQ HQ2
          generalize bld n (br false) Q1 (List.range n) = Q2 at *
          go_wp2_with fail
          go_loopg [13, 14] (xs2.length + 1) (fun gh iv _ wr => ∃ (i : Nat) (vs : List Value), iv = .int .i64 (i : Int) ∧ i ≤ xs2.length ∧ xs2.length + 1 ≤ gh + i ∧ Hid (QW w qb vs (bld n (rc 2) Q2 (xs2.take i)) wr))
          case atStart => exact ⟨0, _, rfl, by omega, by omega, HQ3⟩
          case round =>
            obtain ⟨i, vs, rfl, hi, hg, HQ⟩ := hrel
            obtain ⟨go, rfl⟩ : ∃ go, gk = go + 1 := ⟨gk - 1, by omega⟩
            by_cases hlt : i < xs2.length
            · have bt : (i : Int) < (xs2.length : Int) := by omega
              obtain ⟨x, hx⟩ := get_of_lt hlt
              have hx256 := HB.out.2.1 x (List.mem_of_getElem? hx)
              obtain ⟨sb, so, rfl, _, e0⟩ := seg_u8 (HV2.out.below HQ.out.2.1) hx
              obtain ⟨c, hc⟩ : ∃ c, x % n = c := ⟨_, rfl⟩
              have hcn : c < n := by rw [← hc]; exact Nat.mod_lt _ hn2.1
              have hm1 : (x : Int) % (n : Int) = (c : Int) := by rw [← hc]; rfl
              have hm2 : Int.tmod (x : Int) (n : Int) = (c : Int) := by rw [← hc]; rfl
              have hn0 : ((n : Int) == 0) = false := by simp; omega
              have HTK := hide (bld_take (n := n) (fr := (rc 2)) (Q := Q2) hx)
              rw [hc] at HTK
              have hQl : (bld n (rc 2) Q2 (xs2.take i)).length = n := by rw [bld_len]; exact HQL3.out
              have HQB : Hid (∀ (c : Nat) (ys : List Fr), (bld n (rc 2) Q2 (xs2.take i))[c]? = some ys → ys.length ≤ 100) := (show ∀ c ys, _ from fun c2 ys h2 => by
                have h3 := bld_bound (fr := (rc 2)) hn2.1 HQL3.out HBO3.out (xs2.take i) c2 ys h2
                have h5 : (xs2.take i).length ≤ xs2.length := by rw [List.length_take]; first | omega | (rw [List.length_range]; omega)
                omega)
              generalize bld n (rc 2) Q2 (xs2.take i) = Q at *
              clear hx hc
              obtain ⟨v, hv⟩ := get_of_lt (show c < vs.length by rw [HQ.out.1.len, hQl]; exact hcn)
              obtain ⟨ys, hys⟩ := get_of_lt (show c < Q.length by rw [hQl]; exact hcn)
              have hyl : ys.length ≤ 100 := HQB.out c ys hys
              have hrow := HQ.out.1.row c v ys hv hys
              obtain ⟨va, vc, rfl⟩ := hrow.shape
              have HROW := hide hrow
              have cq := HQ.out.1.cell hv
              have hqlt := HQ.out.1.box.lt
              have HVV := hide hv
              have HYY := hide hys
              generalize hyn : ys.length = yn at *
              have HYN := hide hyn
              clear hv hys hrow hyn
              have KC : Hid (∀ w', Below wr.heap.size wr w' → w'.cell? ⟨qb, c, none⟩ = some (.slice va yn vc)) := fun w' hb => (hb.cell (p := ⟨qb, c, none⟩) hqlt).trans cq
              have BD : Hid (Below wr.heap.size wr wr.drew) := (Below.refl _ _).drew
              have bc : (c : Int) < (n : Int) := by omega
              go_wp2_with fail
              refine wp_region_M (S := fun w' => w'.cell? ⟨qb, c, none⟩ = some (.slice va yn vc)) (late := [9, 10]) (by kernel_rfl) (KC.out _ BD.out) (fun hHeld => ?_)
              (try simp only [List.size_toArray, List.length_cons, List.length_nil, Nat.zero_add, Nat.reduceAdd, Array.replicate, List.replicate])
              refine wpAnyM_take (i := 0) (oi := ⟨_, _, _, _, _, _⟩) (v := ?_) rfl (by kernel_rfl) (by kernel_rfl) (by kernel_rfl) (by kernel_rfl) (fun _ _ _ h => h) (Or.inl ⟨by rfl, ?_⟩) hHeld ?_
              rotate_left
              · (intro w' hSw; (try dsimp only at hSw); go_simp; try (with_reducible rfl))
              (try simp only [Act.put, List.setIfInBounds_toArray, List.set_cons_zero, List.set_cons_succ])
              refine wpAnyM_take (i := 1) (oi := ⟨_, _, _, _, _, _⟩) (v := ?_) rfl (by kernel_rfl) (by kernel_rfl) (by kernel_rfl) (by kernel_rfl) (fun _ _ _ h => h) (Or.inl ⟨by rfl, ?_⟩) hHeld ?_
              rotate_left
              · (intro w' hSw; (try dsimp only at hSw); go_simp; try (with_reducible rfl))
              (try simp only [Act.put, List.setIfInBounds_toArray, List.set_cons_zero, List.set_cons_succ])
              refine wpAnyM_take (i := 2) (oi := ⟨_, _, _, _, _, _⟩) (v := ?_) rfl (by kernel_rfl) (by kernel_rfl) (by kernel_rfl) (by kernel_rfl) (fun _ _ _ h => h) (Or.inl ⟨by rfl, ?_⟩) hHeld ?_
              rotate_left
              · (intro w' hSw; (try dsimp only at hSw); go_simp; try (with_reducible rfl))
              (try simp only [Act.put, List.setIfInBounds_toArray, List.set_cons_zero, List.set_cons_succ])
              refine wpAnyM_take (i := 3) (oi := ⟨_, _, _, _, _, _⟩) (v := ?_) rfl (by kernel_rfl) (by kernel_rfl) (by kernel_rfl) (by kernel_rfl) (fun _ _ _ h => h) (Or.inl ⟨by rfl, ?_⟩) hHeld ?_
              rotate_left
              · (intro w' hSw; (try dsimp only at hSw); go_simp; try (with_reducible rfl))
              (try simp only [Act.put, List.setIfInBounds_toArray, List.set_cons_zero, List.set_cons_succ])
              refine wpAnyM_take (i := 4) (oi := ⟨_, _, _, _, _, _⟩) (v := ?_) rfl (by kernel_rfl) (by kernel_rfl) (by kernel_rfl) (by kernel_rfl) (fun _ _ _ h => h) (Or.inl ⟨by rfl, ?_⟩) hHeld ?_
              rotate_left
              · (intro w' hSw; (try dsimp only at hSw); go_simp; try (with_reducible rfl))
              (try simp only [Act.put, List.setIfInBounds_toArray, List.set_cons_zero, List.set_cons_succ])
              refine wpAnyM_take (i := 5) (oi := ⟨_, _, _, _, _, _⟩) (v := ?_) rfl (by kernel_rfl) (by kernel_rfl) (by kernel_rfl) (by kernel_rfl) (fun _ _ _ h => h) (Or.inl ⟨by rfl, ?_⟩) hHeld ?_
              rotate_left
              · (intro w' hSw; (try dsimp only at hSw); go_simp; try (with_reducible rfl))
              (try simp only [Act.put, List.setIfInBounds_toArray, List.set_cons_zero, List.set_cons_succ])
              refine wpAnyM_one (i := 6) (o := ⟨_, _, _, _, _, _⟩) (by kernel_rfl) rfl (fun K hK => ?_)
              go_simp
              go_at_call 26
              refine (rec_any _ 2).mono ?_
              rintro e w3 ⟨rfl, b3⟩
              have B3 := hide (BD.out.trans (b3.mono BD.out.size))
              clear b3
              have B4 := hide (B3.out.trans ((below_box w3 (.cells #[.int .i64 (rc 2).kd, .int .i64 (rc 2).ke, .int .i64 (rc 2).ti, .int .i64 (rc 2).va, .int .i64 (rc 2).ma, .int .u64 (rc 2).n, .bool (rc 2).ov] 37)).mono B3.out.size))
              refine hK.out _ _ (KC.out _ B3.out) (fun hHeld => ?_)
              clear hK K
              (try simp only [List.setIfInBounds_toArray, List.set_cons_zero, List.set_cons_succ])
              refine wpAnyM_one (i := 7) (o := ⟨_, _, _, _, _, _⟩) (by kernel_rfl) rfl (fun K hK => ?_)
              go_simp
              refine hK.out _ _ (KC.out _ B4.out) (fun hHeld => ?_)
              clear hK K
              (try simp only [List.setIfInBounds_toArray, List.set_cons_zero, List.set_cons_succ])
              refine wpAnyM_one (i := 8) (o := ⟨_, _, _, _, _, _⟩) (by kernel_rfl) rfl (fun K hK => ?_)
              (refine step_row Try.infoFr Try.underlying60 rfl (by decide) (by decide) Fr.cs_len Fr.cs_one rfl _ _ rfl w.heap.size (.slice va yn vc) ys rfl ((HROW.out.below B4.out)) ⟨w3.heap.size, 0, none⟩ 1 (rc 2) rfl (newF w3 rfl (rc 2)) (by rw [HYN.out]; omega) (Nat.le_trans HQ.out.2.1.size B4.out.size) ?_; intro v5 w5 h5 g5 k5; have Q4 := HQ.out.below B4.out; have hb5 := Q4.qbox HVV.out HYY.out g5; have HNQ2 := hide (Q4.app HVV.out h5 g5 k5 HYY.out); have fr5 := hb5.free; have d5 : w5.cell? ⟨qb, c, none⟩ = some (.slice va yn vc) := (by rw [hb5.cellAt]; simpa using HVV.out); obtain ⟨a5, e5, hv5⟩ := h5.shape; generalize hn5 : (ys ++ [(rc 2)]).length = n5 at hv5; subst hv5; clear h5 g5 k5 Q4 hb5 hn5)
              refine hK.out _ _ (d5) (fun hHeld => ?_)
              clear hK K
              (try simp only [List.setIfInBounds_toArray, List.set_cons_zero, List.set_cons_succ])
              refine wpAnyM_last (i := 9) (o := ⟨_, _, _, _, _, _⟩) (by kernel_rfl) (by rfl) rfl (fun K hK => ?_)
              go_simp
              refine hK.out _ _ ?_
              clear hK K
              (try simp only [List.setIfInBounds_toArray, List.set_cons_zero, List.set_cons_succ])
              refine wpAnyM_last (i := 10) (o := ⟨_, _, _, _, _, _⟩) (by kernel_rfl) (by rfl) rfl (fun K hK => ?_)
              go_simp
              refine hK.out _ _ ?_
              clear hK K
              (try simp only [List.setIfInBounds_toArray, List.set_cons_zero, List.set_cons_succ])
              refine wpAnyM_done (by kernel_rfl) ?_ _
              go_wp2_with fail
              go_roundg go
              case rel => exact ⟨i + 1, _, by go_num, by omega, by omega, (show QW _ _ _ _ _ by rw [HTK.out]; have e : Q.getD c [] = ys := (by rw [List.getD_eq_getElem?_getD, HYY.out]; rfl); rw [e]; exact HNQ2.out)⟩
              case measure => omega
            · have bt : ¬ (i : Int) < (xs2.length : Int) := by omega
              have HQ4 : Hid (QW w qb vs (bld n (rc 2) Q2 xs2) wr) := (show QW _ _ _ _ _ by have := HQ.out; rw [List.take_of_length_le (by omega)] at this; exact this)
              clear HQ HQ3
              have HQG3 : Hid (∀ c, c < n → (bld n (rc 2) Q2 xs2).getD c [] = lf false (xs1.countP fun x => x % n == c) (xs2.countP fun x => x % n == c)) := (show ∀ c, _ from fun c hc => by
                rw [bld_get hn2.1 _ _ HQL3.out c hc, HQG2.out c hc]
                unfold lf
                simp)
              have HQL4 : Hid ((bld n (rc 2) Q2 xs2).length = n) := (show _ = _ by rw [bld_len]; exact HQL3.out)
              generalize bld n (rc 2) Q2 xs2 = Q3 at *
              clear HQG2 HQG1 HBO2 HBO3
              have hch : chans (n : Int) = n := by unfold chans; rw [if_neg (by omega), if_neg (by omega)]; omega
              have HNW := hide (fun w => New_any (w := w) (n : Int))
              rw [hch] at HNW
              clear hch
              go_upto_region 22 with (go_at_call 9; refine (HNW.out _).mono ?_; rintro e w6 ⟨k, fp, rfl, g1, g2, g3⟩; have HA0 := hide (AW.new HQ4.out g1 g2 g3); clear g1 g2 g3)
              generalize wr.heap.size = b1 at *
              have HS0 : Hid (Gs.new n = alS n (List.replicate n false)) := (show _ = _ by unfold alS; rw [if_neg (by simp)])
              rw [HS0.out] at HA0
              obtain ⟨X0, hX0⟩ : ∃ X0, X0 = (List.range n).map fun c => xs1.countP fun x => x % n == c := ⟨_, rfl⟩
              obtain ⟨Y0, hY0⟩ : ∃ Y0, Y0 = (List.range n).map fun c => xs2.countP fun x => x % n == c := ⟨_, rfl⟩
              have HP0 : Hid (Pl n xs1.length xs2.length (List.replicate n false) X0 Y0 0 (xs1.length + xs2.length + n)) := (show Pl _ _ _ _ _ _ _ _ by
                have sx : X0.sum = xs1.length := by rw [hX0]; exact sum_counts hn2.1 xs1
                have sy : Y0.sum = xs2.length := by rw [hY0]; exact sum_counts hn2.1 xs2
                refine ⟨by simp, by rw [hX0]; simp, by rw [hY0]; simp, fun c h => ?_, fun _ => sy, by omega, by rw [sx, sy]; simp⟩
                rw [List.getD_eq_getElem?_getD, List.getElem?_replicate] at h
                split at h <;> simp at h)
              have HR0 : Hid (Q3.length = n ∧ ∀ c, c < n → Q3.getD c [] = qs (List.replicate n false) X0 Y0 c) := ⟨HQL4.out, fun c hc => by
                rw [HQG3.out c hc]
                unfold qs
                have e1 : (List.replicate n false).getD c false = false := by rw [List.getD_eq_getElem?_getD, List.getElem?_replicate, if_pos hc]; rfl
                have e2 : X0.getD c 0 = xs1.countP fun x => x % n == c := by rw [hX0, List.getD_eq_getElem?_getD, List.getElem?_map, List.getElem?_range hc]; rfl
                have e3 : Y0.getD c 0 = xs2.countP fun x => x % n == c := by rw [hY0, List.getD_eq_getElem?_getD, List.getElem?_map, List.getElem?_range hc]; rfl
                rw [e1, e2, e3]⟩
              clear hX0 hY0 HQG3 HQL4 HS0 HNW HQ4
              have hk0 : (List.replicate n false).all id = false := by
                obtain ⟨m, hm⟩ : ∃ m, n = m + 1 := ⟨n - 1, by omega⟩
                rw [hm, List.replicate_succ]; rfl
              go_wp2_with fail
              go_loopg [16, 17, 18, 19, 20, 21, 22] 1000 (fun gh kv tv lv iv _ _ _ wr => ∃ (i : Nat) (C : List Bool) (X Y : List Nat) (told left : Nat) (vs : List Value) (Q : List (List Fr)), kv = .bool (C.all id) ∧ tv = .int .i64 (told : Int) ∧ lv = .int .i64 (left : Int) ∧ iv = .int .i64 (i : Int) ∧ 1000 ≤ gh + i ∧ Hid (Pl n xs1.length xs2.length C X Y told left) ∧ Hid (Bd n (xs1.length + xs2.length + n) xs3.length (NRd C X Y) left i ∧ left ≤ xs1.length + xs2.length + n) ∧ Hid (Q.length = n ∧ ∀ c, c < n → Q.getD c [] = qs C X Y c) ∧ Hid (AW w qb k b1 (alS n C) vs Q wr))
              case atStart => exact ⟨0, List.replicate n false, X0, Y0, 0, xs1.length + xs2.length + n, _, Q3, by rw [hk0], rfl, by first | rfl | (congr 1; omega), rfl, by omega, HP0, ⟨Bd.start _ _ _ _ _, Nat.le_refl _⟩, HR0, HA0⟩
              case round =>
                obtain ⟨i, C, X, Y, told, left, vs, Q, rfl, rfl, rfl, rfl, hg, HP, HBD, HR, HA⟩ := hrel
                clear HP0 HR0 HA0 hk0
                obtain ⟨go, rfl⟩ : ∃ go, gk = go + 1 := ⟨gk - 1, by have := HBD.out.1.le hn2.2 (by omega); omega⟩
                have hi7 := HBD.out.1.le hn2.2 (show xs1.length + xs2.length + n ≤ 66 by omega)
                have hlf := HBD.out.2
                have htl : told ≤ xs1.length + xs2.length := by have := HP.out.tt; omega
                by_cases hl0 : 0 < left
                · have bl0 : (0 : Int) < (left : Int) := by omega
                  have HRD := hide (HP.out.rdy hl0)
                  have hn0 : ((n : Int) == 0) = false := by simp; omega
                  have bi : ¬ (1000 : Int) < (i : Int) := by omega
                  by_cases h3 : i < xs3.length
                  · have b3 : (i : Int) < (xs3.length : Int) := by omega
                    obtain ⟨x, hx⟩ := get_of_lt h3
                    have hx256 := HB.out.2.2 x (List.mem_of_getElem? hx)
                    obtain ⟨sb, so, rfl, _, e0⟩ := seg_u8 (HV3.out.below HA.out.bel) hx
                    obtain ⟨c, hc⟩ : ∃ c, x % n = c := ⟨_, rfl⟩
                    have hcn : c < n := by rw [← hc]; exact Nat.mod_lt _ hn2.1
                    have hm1 : (x : Int) % (n : Int) = (c : Int) := by rw [← hc]; rfl
                    have hm2 : Int.tmod (x : Int) (n : Int) = (c : Int) := by rw [← hc]; rfl
                    have HSEL : Hid (xs3.length ≤ i → c = i % n) := fun h => by omega
                    clear hx hc
                    go_upto_region 31 with fail
                    clear e0 hm1 hm2
                    obtain ⟨v, hv⟩ := get_of_lt (show c < vs.length by rw [HA.out.q.len, HR.out.1]; exact hcn)
                    have hys : Q[c]? = some (qs C X Y c) := by rw [getD_lt (d := []) (by rw [HR.out.1]; exact hcn), HR.out.2 c hcn]
                    have hrow := HA.out.q.row c v _ hv hys
                    obtain ⟨va, vc, rfl⟩ := hrow.shape
                    have cq := HA.out.q.cell hv
                    have bc : (c : Int) < (n : Int) := by omega
                    have HAF := hide (AF.of hn2.1 hn2.2 HP.out.lc hcn)
                    have HBL := hide (HA.out.blocked (c : Int))
                    rw [HAF.out.bl] at HBL
                    have HVV := hide hv
                    have HYY := hide hys
                    have HROW := hide hrow
                    clear hv hys hrow
                    by_cases hq : qs C X Y c = []
                    · have HNI := hide (HBD.out.1.idle hn2.1 (by omega) HRD.out HSEL.out (.inl hq))
                      rw [hq] at cq
                      go_wp2_with fail
                      go_roundg go
                      case rel => exact ⟨i + 1, C, X, Y, told, left, vs, Q, rfl, rfl, rfl, by go_num, by omega, HP, ⟨HNI.out, hlf⟩, HR, HA⟩
                      case measure => omega
                    · obtain ⟨f, zs, hfz⟩ : ∃ f zs, qs C X Y c = f :: zs := by
                        cases h : qs C X Y c with
                        | nil => exact absurd h hq
                        | cons f zs => exact ⟨f, zs, rfl⟩
                      cases hblk : (C.getD c false && !C.all id) with
                      | true =>
                        have HNI := hide (HBD.out.1.idle hn2.1 (by omega) HRD.out HSEL.out (.inr hblk))
                        rw [hblk] at HBL
                        have hz1 : (((qs C X Y c).length : Int) == 0) = false := by rw [hfz]; simp; omega
                        go_wp2_with (go_at_call 23; refine HBL.out.mono ?_; rintro e w9 ⟨rfl, rfl⟩)
                        go_roundg go
                        case rel => exact ⟨i + 1, C, X, Y, told, left, vs, Q, rfl, rfl, rfl, by go_num, by omega, HP, ⟨HNI.out, hlf⟩, HR, HA⟩
                        case measure => omega
                      | false =>
                        rw [hblk] at HBL
                        have hz1 : ((zs.length : Int) + 1 == 0) = false := by simp; omega
                        have her := HAF.out.er (by rw [HAF.out.bl]; exact hblk)
                        have hcp0 : (alS n C).cp.length ≤ 100000 := by unfold alS; split <;> simp [Gs.new]
                        have hCc : C[c]? = some (C.getD c false) := getD_lt (by rw [HP.out.lc]; exact hcn)
                        have hXc : X[c]? = some (X.getD c 0) := getD_lt (by rw [HP.out.lx]; exact hcn)
                        have hYc : Y[c]? = some (Y.getD c 0) := getD_lt (by rw [HP.out.ly]; exact hcn)
                        rw [hfz] at HROW HYY HVV cq
                        simp only [List.length_cons] at HROW HVV cq
                        have hfz2 := hfz
                        unfold qs at hfz2
                        cases hcf : C.getD c false with
                        | false =>
                          have ha : C.all id = false := by
                            rw [all_count]
                            rw [hcf] at hCc
                            have := count_come hCc
                            exact decide_eq_false (by omega)
                          rw [hcf] at hfz2 hCc
                          cases hxc : X.getD c 0 with
                          | zero =>
                            rw [hxc] at hfz2 hXc
                            unfold lf at hfz2
                            simp only [Bool.false_eq_true, if_false, List.replicate_zero, List.nil_append, List.cons.injEq] at hfz2
                            obtain ⟨rfl, hzs⟩ := hfz2
                            obtain ⟨hs, hkd⟩ := HAF.out.br1 hcf
                            obtain ⟨pl, hl1, htA⟩ := HP.out.barrier hXc hCc
                            have HPL := hide pl
                            have HZS : Hid (zs = qs (C.set c true) X Y c) := (show _ = _ by
                              unfold qs lf
                              rw [List.getD_eq_getElem?_getD (l := C.set c true), List.getElem?_set_self (lt_of_get hCc)]
                              simp only [Option.getD_some, if_true]
                              exact hzs.symm)
                            have HOT : Hid (∀ c2, c ≠ c2 → qs (C.set c true) X Y c2 = qs C X Y c2) := (show ∀ c2, _ from fun c2 h2 => by unfold qs; rw [List.getD_eq_getElem?_getD (l := C.set c true), List.getElem?_set_ne h2, ← List.getD_eq_getElem?_getD])
                            cases ha2 : (C.set c true).all id with
                            | true =>
                              rw [ha2] at hkd
                              simp only [if_true] at hkd
                              obtain rfl := htA ha2
                              rw [ha]
                              obtain ⟨st, hst⟩ : ∃ st, (alS n C).tkS (c : Int) (br false) = st := ⟨_, rfl⟩
                              have HTK := hide (HA.out.take (c : Int) (br false) hcp0 hs hst her)
                              rw [hst] at hkd
                              obtain ⟨k0, k1, k2, k3, k4, k5, k6⟩ := st
                              simp only at hkd
                              subst hkd
                              obtain ⟨g, off, cap, ev, hcell⟩ := HROW.out.read Fr.cs_len (i := 0) rfl
                              obtain ⟨rfl, _, rfl⟩ := Value.slice.inj ev
                              have d0 : wr.cell? ⟨g, off, none⟩ = some (.int .i64 3) := hcell 0 _ rfl
                              have d1 : wr.cell? ⟨g, off + 1, none⟩ = some (.int .i64 0) := hcell 1 _ rfl
                              have d2 : wr.cell? ⟨g, off + 2, none⟩ = some (.int .i64 0) := hcell 2 _ rfl
                              have d3 : wr.cell? ⟨g, off + 3, none⟩ = some (.int .i64 0) := hcell 3 _ rfl
                              have d4 : wr.cell? ⟨g, off + 4, none⟩ = some (.int .i64 0) := hcell 4 _ rfl
                              have d5 : wr.cell? ⟨g, off + 5, none⟩ = some (.int .u64 9) := hcell 5 _ rfl
                              have d6 : wr.cell? ⟨g, off + 6, none⟩ = some (.bool false) := hcell 6 _ rfl
                              have HTB := hide (HBD.out.1)
                              have hzl : ¬ ((zs.length : Int) + 1 < 1) := by omega
                              have hzl2 : (0 : Int) < (zs.length : Int) + 1 := by omega
                              clear hcell ev hs hst her hcf hblk hXc hYc hCc hzs hfz hq
                              generalize hzn : zs.length = zn at *
                              have HZN := hide hzn
                              clear hzn
                              go_upto_region 33 with (first | (go_at_call 23; refine HBL.out.mono ?_; rintro e w9 ⟨rfl, rfl⟩) | (go_at_call 13; refine HTK.out.mono ?_; rintro e w5 ⟨rfl, g5⟩; have G5 := hide (g5.below (below_box w5 (.cells #[.int .i64 3, .int .i64 k1, .int .i64 k2, .int .i64 k3, .int .i64 k4, .int .u64 k5, .int .u64 k6] 43))); have HQS := hide (Nat.lt_of_lt_of_le g5.qlt g5.ble); clear g5))
                              refine wp_at (fun W => AW w qb k b1 (alS n (C.set c true)) vs Q W ∧ BoxT 43 W w5.heap.size #[.int .i64 3, .int .i64 k1, .int .i64 k2, .int .i64 k3, .int .i64 k4, .int .u64 k5, .int .u64 k6]) ⟨G5.out, BoxT.new _ _ _⟩ ?_
                              generalize w5.heap.size = sbx at *
                              clear G5 HTK HBL d0 d1 d2 d3 d4 d5 d6 cq HROW
                              rintro V ⟨AV, BV⟩
                              have cq2 := AV.q.cell HVV.out
                              have rowV := AV.q.row c _ _ HVV.out HYY.out
                              obtain ⟨g', off', ea, _, hcap1, t1, t2⟩ := rowV.tail Fr.cs_len
                              cases ea
                              have frq := AV.q.box.free
                              rw [HZN.out] at t1 t2
                              have hlc : zn + 1 ≤ vc := by
                                rcases rowV with ⟨_, h⟩ | ⟨_, _, cp, _, e, _, _, h4, _⟩
                                · cases h
                                · obtain ⟨_, _, rfl⟩ := Value.slice.inj e
                                  simp only [List.length_cons] at h4
                                  rw [HZN.out] at h4
                                  exact h4
                              have hcapI : (1 : Int) ≤ (vc : Int) := by omega
                              have hlcI : (zn : Int) + 1 ≤ (vc : Int) := by omega
                              have hlfI : (1 : Int) ≤ (zn : Int) + 1 := by omega
                              have HNT : Hid (Bd n (xs1.length + xs2.length + n) xs3.length (NRd (C.set c true) X Y) (left - 1) (i + 1)) := (show Bd _ _ _ _ _ _ from Bd.taken (left := left - 1) (by rw [Nat.sub_add_cancel hl1]; exact HTB.out) hn2.1 hn2.2 (by omega) HRD.out)
                              have HRN : Hid ((Q.set c zs).length = n ∧ ∀ c2, c2 < n → (Q.set c zs).getD c2 [] = qs (C.set c true) X Y c2) := (show _ ∧ _ from ⟨by rw [List.length_set]; exact HR.out.1, fun c2 h2 => by
                                by_cases e : c = c2
                                · subst e
                                  rw [List.getD_eq_getElem?_getD, List.getElem?_set_self (by rw [HR.out.1]; exact hcn)]
                                  exact HZS.out
                                · rw [List.getD_eq_getElem?_getD, List.getElem?_set_ne e, ← List.getD_eq_getElem?_getD, HR.out.2 c2 h2]
                                  exact (HOT.out c2 e).symm⟩)
                              have HT12 := hide (And.intro t1 t2)
                              by_cases hv1 : vc = 1
                              · subst hv1
                                have HZ9 : Hid (Row 37 7 Fr.cs w.heap.size V (.slice (some ⟨g, off, none⟩) 0 0) zs) := (show Row _ _ _ _ _ _ _ by have h := (HT12.out.2 rfl).1; rw [show zn = 0 by omega] at h; exact h)
                                go_upto_region 34 with fail
                                refine wp_at (fun W => AW w qb k b1 (alS n (C.set c true)) (vs.set c (.slice (some ⟨g, off, none⟩) 0 0)) (Q.set c zs) W ∧ BoxT 43 W sbx #[.int .i64 3, .int .i64 k1, .int .i64 k2, .int .i64 k3, .int .i64 k4, .int .u64 k5, .int .u64 k6]) ⟨AV.pop HVV.out HYY.out HZ9.out (fun _ e => e), BV.other _ _ (Nat.ne_of_gt HQS.out)⟩ ?_
                                clear t1 t2 AV BV frq cq2 rowV
                                rintro V2 ⟨AV2, BV2⟩
                                obtain ⟨f0, f1, f2, f3, f4, f5, f6⟩ := BV2.all7
                                have HAV2 := hide AV2
                                clear AV2 BV2
                                go_wp2_with fail
                                go_roundg go
                                case rel => exact ⟨i + 1, (C.set c true), X, Y, xs1.length, left - 1, vs.set c (.slice (some ⟨g, off, none⟩) 0 0), Q.set c zs, by rw [ha2], by first | rfl | go_num | (congr 1; omega), by first | go_num | (congr 1; omega), by go_num, by omega, HPL, ⟨HNT.out, by omega⟩, HRN, HAV2⟩
                                case measure => omega
                              · have hv1I : ¬ (vc : Int) - 1 = 0 := by omega
                                have HZ9 : Hid (Row 37 7 Fr.cs w.heap.size V (.slice (some ⟨g, off + 7, none⟩) zs.length (vc - 1)) zs) := (show Row _ _ _ _ _ _ _ by have h := HT12.out.1 hv1; rw [← HZN.out] at h; exact h)
                                go_upto_region 34 with fail
                                refine wp_at (fun W => AW w qb k b1 (alS n (C.set c true)) (vs.set c (.slice (some ⟨g, off + 7, none⟩) zs.length (vc - 1))) (Q.set c zs) W ∧ BoxT 43 W sbx #[.int .i64 3, .int .i64 k1, .int .i64 k2, .int .i64 k3, .int .i64 k4, .int .u64 k5, .int .u64 k6]) ⟨AV.pop HVV.out HYY.out HZ9.out (fun _ e => e), BV.other _ _ (Nat.ne_of_gt HQS.out)⟩ ?_
                                clear t1 t2 AV BV frq cq2 rowV
                                rintro V2 ⟨AV2, BV2⟩
                                obtain ⟨f0, f1, f2, f3, f4, f5, f6⟩ := BV2.all7
                                have HAV2 := hide AV2
                                clear AV2 BV2
                                go_wp2_with fail
                                go_roundg go
                                case rel => exact ⟨i + 1, (C.set c true), X, Y, xs1.length, left - 1, vs.set c (.slice (some ⟨g, off + 7, none⟩) zs.length (vc - 1)), Q.set c zs, by rw [ha2], by first | rfl | go_num | (congr 1; omega), by first | go_num | (congr 1; omega), by go_num, by omega, HPL, ⟨HNT.out, by omega⟩, HRN, HAV2⟩
                                case measure => omega
                            | false =>
                              rw [ha2] at hkd
                              simp only [Bool.false_eq_true, if_false] at hkd
                              rw [ha]
                              obtain ⟨st, hst⟩ : ∃ st, (alS n C).tkS (c : Int) (br false) = st := ⟨_, rfl⟩
                              have HTK := hide (HA.out.take (c : Int) (br false) hcp0 hs hst her)
                              rw [hst] at hkd
                              obtain ⟨k0, k1, k2, k3, k4, k5, k6⟩ := st
                              simp only at hkd
                              subst hkd
                              obtain ⟨g, off, cap, ev, hcell⟩ := HROW.out.read Fr.cs_len (i := 0) rfl
                              obtain ⟨rfl, _, rfl⟩ := Value.slice.inj ev
                              have d0 : wr.cell? ⟨g, off, none⟩ = some (.int .i64 3) := hcell 0 _ rfl
                              have d1 : wr.cell? ⟨g, off + 1, none⟩ = some (.int .i64 0) := hcell 1 _ rfl
                              have d2 : wr.cell? ⟨g, off + 2, none⟩ = some (.int .i64 0) := hcell 2 _ rfl
                              have d3 : wr.cell? ⟨g, off + 3, none⟩ = some (.int .i64 0) := hcell 3 _ rfl
                              have d4 : wr.cell? ⟨g, off + 4, none⟩ = some (.int .i64 0) := hcell 4 _ rfl
                              have d5 : wr.cell? ⟨g, off + 5, none⟩ = some (.int .u64 9) := hcell 5 _ rfl
                              have d6 : wr.cell? ⟨g, off + 6, none⟩ = some (.bool false) := hcell 6 _ rfl
                              have HTB := hide (HBD.out.1)
                              have hzl : ¬ ((zs.length : Int) + 1 < 1) := by omega
                              have hzl2 : (0 : Int) < (zs.length : Int) + 1 := by omega
                              clear hcell ev hs hst her hcf hblk hXc hYc hCc hzs hfz hq
                              generalize hzn : zs.length = zn at *
                              have HZN := hide hzn
                              clear hzn
                              go_upto_region 33 with (first | (go_at_call 23; refine HBL.out.mono ?_; rintro e w9 ⟨rfl, rfl⟩) | (go_at_call 13; refine HTK.out.mono ?_; rintro e w5 ⟨rfl, g5⟩; have G5 := hide (g5.below (below_box w5 (.cells #[.int .i64 0, .int .i64 k1, .int .i64 k2, .int .i64 k3, .int .i64 k4, .int .u64 k5, .int .u64 k6] 43))); have HQS := hide (Nat.lt_of_lt_of_le g5.qlt g5.ble); clear g5))
                              refine wp_at (fun W => AW w qb k b1 (alS n (C.set c true)) vs Q W ∧ BoxT 43 W w5.heap.size #[.int .i64 0, .int .i64 k1, .int .i64 k2, .int .i64 k3, .int .i64 k4, .int .u64 k5, .int .u64 k6]) ⟨G5.out, BoxT.new _ _ _⟩ ?_
                              generalize w5.heap.size = sbx at *
                              clear G5 HTK HBL d0 d1 d2 d3 d4 d5 d6 cq HROW
                              rintro V ⟨AV, BV⟩
                              have cq2 := AV.q.cell HVV.out
                              have rowV := AV.q.row c _ _ HVV.out HYY.out
                              obtain ⟨g', off', ea, _, hcap1, t1, t2⟩ := rowV.tail Fr.cs_len
                              cases ea
                              have frq := AV.q.box.free
                              rw [HZN.out] at t1 t2
                              have hlc : zn + 1 ≤ vc := by
                                rcases rowV with ⟨_, h⟩ | ⟨_, _, cp, _, e, _, _, h4, _⟩
                                · cases h
                                · obtain ⟨_, _, rfl⟩ := Value.slice.inj e
                                  simp only [List.length_cons] at h4
                                  rw [HZN.out] at h4
                                  exact h4
                              have hcapI : (1 : Int) ≤ (vc : Int) := by omega
                              have hlcI : (zn : Int) + 1 ≤ (vc : Int) := by omega
                              have hlfI : (1 : Int) ≤ (zn : Int) + 1 := by omega
                              have HNT : Hid (Bd n (xs1.length + xs2.length + n) xs3.length (NRd (C.set c true) X Y) (left - 1) (i + 1)) := (show Bd _ _ _ _ _ _ from Bd.taken (left := left - 1) (by rw [Nat.sub_add_cancel hl1]; exact HTB.out) hn2.1 hn2.2 (by omega) HRD.out)
                              have HRN : Hid ((Q.set c zs).length = n ∧ ∀ c2, c2 < n → (Q.set c zs).getD c2 [] = qs (C.set c true) X Y c2) := (show _ ∧ _ from ⟨by rw [List.length_set]; exact HR.out.1, fun c2 h2 => by
                                by_cases e : c = c2
                                · subst e
                                  rw [List.getD_eq_getElem?_getD, List.getElem?_set_self (by rw [HR.out.1]; exact hcn)]
                                  exact HZS.out
                                · rw [List.getD_eq_getElem?_getD, List.getElem?_set_ne e, ← List.getD_eq_getElem?_getD, HR.out.2 c2 h2]
                                  exact (HOT.out c2 e).symm⟩)
                              have HT12 := hide (And.intro t1 t2)
                              by_cases hv1 : vc = 1
                              · subst hv1
                                have HZ9 : Hid (Row 37 7 Fr.cs w.heap.size V (.slice (some ⟨g, off, none⟩) 0 0) zs) := (show Row _ _ _ _ _ _ _ by have h := (HT12.out.2 rfl).1; rw [show zn = 0 by omega] at h; exact h)
                                go_upto_region 34 with fail
                                refine wp_at (fun W => AW w qb k b1 (alS n (C.set c true)) (vs.set c (.slice (some ⟨g, off, none⟩) 0 0)) (Q.set c zs) W ∧ BoxT 43 W sbx #[.int .i64 0, .int .i64 k1, .int .i64 k2, .int .i64 k3, .int .i64 k4, .int .u64 k5, .int .u64 k6]) ⟨AV.pop HVV.out HYY.out HZ9.out (fun _ e => e), BV.other _ _ (Nat.ne_of_gt HQS.out)⟩ ?_
                                clear t1 t2 AV BV frq cq2 rowV
                                rintro V2 ⟨AV2, BV2⟩
                                obtain ⟨f0, f1, f2, f3, f4, f5, f6⟩ := BV2.all7
                                have HAV2 := hide AV2
                                clear AV2 BV2
                                go_wp2_with fail
                                go_roundg go
                                case rel => exact ⟨i + 1, (C.set c true), X, Y, told, left - 1, vs.set c (.slice (some ⟨g, off, none⟩) 0 0), Q.set c zs, by rw [ha2], by first | rfl | go_num | (congr 1; omega), by first | go_num | (congr 1; omega), by go_num, by omega, HPL, ⟨HNT.out, by omega⟩, HRN, HAV2⟩
                                case measure => omega
                              · have hv1I : ¬ (vc : Int) - 1 = 0 := by omega
                                have HZ9 : Hid (Row 37 7 Fr.cs w.heap.size V (.slice (some ⟨g, off + 7, none⟩) zs.length (vc - 1)) zs) := (show Row _ _ _ _ _ _ _ by have h := HT12.out.1 hv1; rw [← HZN.out] at h; exact h)
                                go_upto_region 34 with fail
                                refine wp_at (fun W => AW w qb k b1 (alS n (C.set c true)) (vs.set c (.slice (some ⟨g, off + 7, none⟩) zs.length (vc - 1))) (Q.set c zs) W ∧ BoxT 43 W sbx #[.int .i64 0, .int .i64 k1, .int .i64 k2, .int .i64 k3, .int .i64 k4, .int .u64 k5, .int .u64 k6]) ⟨AV.pop HVV.out HYY.out HZ9.out (fun _ e => e), BV.other _ _ (Nat.ne_of_gt HQS.out)⟩ ?_
                                clear t1 t2 AV BV frq cq2 rowV
                                rintro V2 ⟨AV2, BV2⟩
                                obtain ⟨f0, f1, f2, f3, f4, f5, f6⟩ := BV2.all7
                                have HAV2 := hide AV2
                                clear AV2 BV2
                                go_wp2_with fail
                                go_roundg go
                                case rel => exact ⟨i + 1, (C.set c true), X, Y, told, left - 1, vs.set c (.slice (some ⟨g, off + 7, none⟩) zs.length (vc - 1)), Q.set c zs, by rw [ha2], by first | rfl | go_num | (congr 1; omega), by first | go_num | (congr 1; omega), by go_num, by omega, HPL, ⟨HNT.out, by omega⟩, HRN, HAV2⟩
                                case measure => omega
                          | succ x =>
                            rw [hxc] at hfz2 hXc
                            unfold lf at hfz2
                            simp only [Bool.false_eq_true, if_false, List.replicate_succ, List.cons_append, List.cons.injEq] at hfz2
                            obtain ⟨rfl, hzs⟩ := hfz2
                            obtain ⟨hs, hkd, hva⟩ := HAF.out.rc1 (by rw [HAF.out.bl]; exact hblk) 1 (.inl rfl)
                            obtain ⟨pl, hl1⟩ := HP.out.ahead hXc hcf
                            have HPL := hide pl
                            have HZS : Hid (zs = qs C (X.set c x) Y c) := (show _ = _ by
                              unfold qs lf
                              rw [hcf, List.getD_eq_getElem?_getD (l := X.set c x), List.getElem?_set_self (lt_of_get hXc)]
                              simp only [Bool.false_eq_true, if_false, Option.getD_some]
                              exact hzs.symm)
                            have HOT : Hid (∀ c2, c ≠ c2 → qs C (X.set c x) Y c2 = qs C X Y c2) := (show ∀ c2, _ from fun c2 h2 => by unfold qs; rw [List.getD_eq_getElem?_getD (l := X.set c x), List.getElem?_set_ne h2, ← List.getD_eq_getElem?_getD])
                            rw [ha]
                            obtain ⟨st, hst⟩ : ∃ st, (alS n C).tkS (c : Int) (rc 1) = st := ⟨_, rfl⟩
                            have HTK := hide (HA.out.take (c : Int) (rc 1) hcp0 hs hst her)
                            rw [hst] at hkd hva
                            obtain ⟨k0, k1, k2, k3, k4, k5, k6⟩ := st
                            simp only at hkd hva
                            subst hkd hva
                            obtain ⟨g, off, cap, ev, hcell⟩ := HROW.out.read Fr.cs_len (i := 0) rfl
                            obtain ⟨rfl, _, rfl⟩ := Value.slice.inj ev
                            have d0 : wr.cell? ⟨g, off, none⟩ = some (.int .i64 1) := hcell 0 _ rfl
                            have d1 : wr.cell? ⟨g, off + 1, none⟩ = some (.int .i64 0) := hcell 1 _ rfl
                            have d2 : wr.cell? ⟨g, off + 2, none⟩ = some (.int .i64 0) := hcell 2 _ rfl
                            have d3 : wr.cell? ⟨g, off + 3, none⟩ = some (.int .i64 1) := hcell 3 _ rfl
                            have d4 : wr.cell? ⟨g, off + 4, none⟩ = some (.int .i64 0) := hcell 4 _ rfl
                            have d5 : wr.cell? ⟨g, off + 5, none⟩ = some (.int .u64 0) := hcell 5 _ rfl
                            have d6 : wr.cell? ⟨g, off + 6, none⟩ = some (.bool false) := hcell 6 _ rfl
                            have HTB := hide (HBD.out.1)
                            have hzl : ¬ ((zs.length : Int) + 1 < 1) := by omega
                            have hzl2 : (0 : Int) < (zs.length : Int) + 1 := by omega
                            clear hcell ev hs hst her hcf hblk hXc hYc hCc hzs hfz hq
                            generalize hzn : zs.length = zn at *
                            have HZN := hide hzn
                            clear hzn
                            go_upto_region 33 with (first | (go_at_call 23; refine HBL.out.mono ?_; rintro e w9 ⟨rfl, rfl⟩) | (go_at_call 13; refine HTK.out.mono ?_; rintro e w5 ⟨rfl, g5⟩; have G5 := hide (g5.below (below_box w5 (.cells #[.int .i64 1, .int .i64 k1, .int .i64 k2, .int .i64 1, .int .i64 k4, .int .u64 k5, .int .u64 k6] 43))); have HQS := hide (Nat.lt_of_lt_of_le g5.qlt g5.ble); clear g5))
                            refine wp_at (fun W => AW w qb k b1 (alS n C) vs Q W ∧ BoxT 43 W w5.heap.size #[.int .i64 1, .int .i64 k1, .int .i64 k2, .int .i64 1, .int .i64 k4, .int .u64 k5, .int .u64 k6]) ⟨G5.out, BoxT.new _ _ _⟩ ?_
                            generalize w5.heap.size = sbx at *
                            clear G5 HTK HBL d0 d1 d2 d3 d4 d5 d6 cq HROW
                            rintro V ⟨AV, BV⟩
                            have cq2 := AV.q.cell HVV.out
                            have rowV := AV.q.row c _ _ HVV.out HYY.out
                            obtain ⟨g', off', ea, _, hcap1, t1, t2⟩ := rowV.tail Fr.cs_len
                            cases ea
                            have frq := AV.q.box.free
                            rw [HZN.out] at t1 t2
                            have hlc : zn + 1 ≤ vc := by
                              rcases rowV with ⟨_, h⟩ | ⟨_, _, cp, _, e, _, _, h4, _⟩
                              · cases h
                              · obtain ⟨_, _, rfl⟩ := Value.slice.inj e
                                simp only [List.length_cons] at h4
                                rw [HZN.out] at h4
                                exact h4
                            have hcapI : (1 : Int) ≤ (vc : Int) := by omega
                            have hlcI : (zn : Int) + 1 ≤ (vc : Int) := by omega
                            have hlfI : (1 : Int) ≤ (zn : Int) + 1 := by omega
                            have HNT : Hid (Bd n (xs1.length + xs2.length + n) xs3.length (NRd C (X.set c x) Y) (left - 1) (i + 1)) := (show Bd _ _ _ _ _ _ from Bd.taken (left := left - 1) (by rw [Nat.sub_add_cancel hl1]; exact HTB.out) hn2.1 hn2.2 (by omega) HRD.out)
                            have HRN : Hid ((Q.set c zs).length = n ∧ ∀ c2, c2 < n → (Q.set c zs).getD c2 [] = qs C (X.set c x) Y c2) := (show _ ∧ _ from ⟨by rw [List.length_set]; exact HR.out.1, fun c2 h2 => by
                              by_cases e : c = c2
                              · subst e
                                rw [List.getD_eq_getElem?_getD, List.getElem?_set_self (by rw [HR.out.1]; exact hcn)]
                                exact HZS.out
                              · rw [List.getD_eq_getElem?_getD, List.getElem?_set_ne e, ← List.getD_eq_getElem?_getD, HR.out.2 c2 h2]
                                exact (HOT.out c2 e).symm⟩)
                            have HT12 := hide (And.intro t1 t2)
                            by_cases hv1 : vc = 1
                            · subst hv1
                              have HZ9 : Hid (Row 37 7 Fr.cs w.heap.size V (.slice (some ⟨g, off, none⟩) 0 0) zs) := (show Row _ _ _ _ _ _ _ by have h := (HT12.out.2 rfl).1; rw [show zn = 0 by omega] at h; exact h)
                              go_upto_region 34 with fail
                              refine wp_at (fun W => AW w qb k b1 (alS n C) (vs.set c (.slice (some ⟨g, off, none⟩) 0 0)) (Q.set c zs) W ∧ BoxT 43 W sbx #[.int .i64 1, .int .i64 k1, .int .i64 k2, .int .i64 1, .int .i64 k4, .int .u64 k5, .int .u64 k6]) ⟨AV.pop HVV.out HYY.out HZ9.out (fun _ e => e), BV.other _ _ (Nat.ne_of_gt HQS.out)⟩ ?_
                              clear t1 t2 AV BV frq cq2 rowV
                              rintro V2 ⟨AV2, BV2⟩
                              obtain ⟨f0, f1, f2, f3, f4, f5, f6⟩ := BV2.all7
                              have HAV2 := hide AV2
                              clear AV2 BV2
                              go_wp2_with fail
                              go_roundg go
                              case rel => exact ⟨i + 1, C, (X.set c x), Y, (told + 1), left - 1, vs.set c (.slice (some ⟨g, off, none⟩) 0 0), Q.set c zs, by rw [ha], by first | rfl | go_num | (congr 1; omega), by first | go_num | (congr 1; omega), by go_num, by omega, HPL, ⟨HNT.out, by omega⟩, HRN, HAV2⟩
                              case measure => omega
                            · have hv1I : ¬ (vc : Int) - 1 = 0 := by omega
                              have HZ9 : Hid (Row 37 7 Fr.cs w.heap.size V (.slice (some ⟨g, off + 7, none⟩) zs.length (vc - 1)) zs) := (show Row _ _ _ _ _ _ _ by have h := HT12.out.1 hv1; rw [← HZN.out] at h; exact h)
                              go_upto_region 34 with fail
                              refine wp_at (fun W => AW w qb k b1 (alS n C) (vs.set c (.slice (some ⟨g, off + 7, none⟩) zs.length (vc - 1))) (Q.set c zs) W ∧ BoxT 43 W sbx #[.int .i64 1, .int .i64 k1, .int .i64 k2, .int .i64 1, .int .i64 k4, .int .u64 k5, .int .u64 k6]) ⟨AV.pop HVV.out HYY.out HZ9.out (fun _ e => e), BV.other _ _ (Nat.ne_of_gt HQS.out)⟩ ?_
                              clear t1 t2 AV BV frq cq2 rowV
                              rintro V2 ⟨AV2, BV2⟩
                              obtain ⟨f0, f1, f2, f3, f4, f5, f6⟩ := BV2.all7
                              have HAV2 := hide AV2
                              clear AV2 BV2
                              go_wp2_with fail
                              go_roundg go
                              case rel => exact ⟨i + 1, C, (X.set c x), Y, (told + 1), left - 1, vs.set c (.slice (some ⟨g, off + 7, none⟩) zs.length (vc - 1)), Q.set c zs, by rw [ha], by first | rfl | go_num | (congr 1; omega), by first | go_num | (congr 1; omega), by go_num, by omega, HPL, ⟨HNT.out, by omega⟩, HRN, HAV2⟩
                              case measure => omega
                        | true =>
                          have ha : C.all id = true := by
                            rw [hcf] at hblk
                            simpa using hblk
                          rw [hcf] at hfz2
                          cases hyc : Y.getD c 0 with
                          | zero =>
                            rw [hyc] at hfz2
                            unfold lf at hfz2
                            simp at hfz2
                          | succ y =>
                            rw [hyc] at hfz2 hYc
                            unfold lf at hfz2
                            simp only [if_true, List.replicate_succ, List.cons.injEq] at hfz2
                            obtain ⟨rfl, hzs⟩ := hfz2
                            obtain ⟨hs, hkd, hva⟩ := HAF.out.rc1 (by rw [HAF.out.bl]; exact hblk) 2 (.inr rfl)
                            obtain ⟨pl, hl1⟩ := HP.out.behind hYc ha
                            have HPL := hide pl
                            have HZS : Hid (zs = qs C X (Y.set c y) c) := (show _ = _ by
                              unfold qs lf
                              rw [hcf, List.getD_eq_getElem?_getD (l := Y.set c y), List.getElem?_set_self (lt_of_get hYc)]
                              simp only [if_true, Option.getD_some]
                              exact hzs.symm)
                            have HOT : Hid (∀ c2, c ≠ c2 → qs C X (Y.set c y) c2 = qs C X Y c2) := (show ∀ c2, _ from fun c2 h2 => by unfold qs; rw [List.getD_eq_getElem?_getD (l := Y.set c y), List.getElem?_set_ne h2, ← List.getD_eq_getElem?_getD])
                            rw [ha]
                            obtain ⟨st, hst⟩ : ∃ st, (alS n C).tkS (c : Int) (rc 2) = st := ⟨_, rfl⟩
                            have HTK := hide (HA.out.take (c : Int) (rc 2) hcp0 hs hst her)
                            rw [hst] at hkd hva
                            obtain ⟨k0, k1, k2, k3, k4, k5, k6⟩ := st
                            simp only at hkd hva
                            subst hkd hva
                            obtain ⟨g, off, cap, ev, hcell⟩ := HROW.out.read Fr.cs_len (i := 0) rfl
                            obtain ⟨rfl, _, rfl⟩ := Value.slice.inj ev
                            have d0 : wr.cell? ⟨g, off, none⟩ = some (.int .i64 1) := hcell 0 _ rfl
                            have d1 : wr.cell? ⟨g, off + 1, none⟩ = some (.int .i64 0) := hcell 1 _ rfl
                            have d2 : wr.cell? ⟨g, off + 2, none⟩ = some (.int .i64 0) := hcell 2 _ rfl
                            have d3 : wr.cell? ⟨g, off + 3, none⟩ = some (.int .i64 2) := hcell 3 _ rfl
                            have d4 : wr.cell? ⟨g, off + 4, none⟩ = some (.int .i64 0) := hcell 4 _ rfl
                            have d5 : wr.cell? ⟨g, off + 5, none⟩ = some (.int .u64 0) := hcell 5 _ rfl
                            have d6 : wr.cell? ⟨g, off + 6, none⟩ = some (.bool false) := hcell 6 _ rfl
                            have HTB := hide (HBD.out.1)
                            have hzl : ¬ ((zs.length : Int) + 1 < 1) := by omega
                            have hzl2 : (0 : Int) < (zs.length : Int) + 1 := by omega
                            clear hcell ev hs hst her hcf hblk hXc hYc hCc hzs hfz hq
                            generalize hzn : zs.length = zn at *
                            have HZN := hide hzn
                            clear hzn
                            go_upto_region 33 with (first | (go_at_call 23; refine HBL.out.mono ?_; rintro e w9 ⟨rfl, rfl⟩) | (go_at_call 13; refine HTK.out.mono ?_; rintro e w5 ⟨rfl, g5⟩; have G5 := hide (g5.below (below_box w5 (.cells #[.int .i64 1, .int .i64 k1, .int .i64 k2, .int .i64 2, .int .i64 k4, .int .u64 k5, .int .u64 k6] 43))); have HQS := hide (Nat.lt_of_lt_of_le g5.qlt g5.ble); clear g5))
                            refine wp_at (fun W => AW w qb k b1 (alS n C) vs Q W ∧ BoxT 43 W w5.heap.size #[.int .i64 1, .int .i64 k1, .int .i64 k2, .int .i64 2, .int .i64 k4, .int .u64 k5, .int .u64 k6]) ⟨G5.out, BoxT.new _ _ _⟩ ?_
                            generalize w5.heap.size = sbx at *
                            clear G5 HTK HBL d0 d1 d2 d3 d4 d5 d6 cq HROW
                            rintro V ⟨AV, BV⟩
                            have cq2 := AV.q.cell HVV.out
                            have rowV := AV.q.row c _ _ HVV.out HYY.out
                            obtain ⟨g', off', ea, _, hcap1, t1, t2⟩ := rowV.tail Fr.cs_len
                            cases ea
                            have frq := AV.q.box.free
                            rw [HZN.out] at t1 t2
                            have hlc : zn + 1 ≤ vc := by
                              rcases rowV with ⟨_, h⟩ | ⟨_, _, cp, _, e, _, _, h4, _⟩
                              · cases h
                              · obtain ⟨_, _, rfl⟩ := Value.slice.inj e
                                simp only [List.length_cons] at h4
                                rw [HZN.out] at h4
                                exact h4
                            have hcapI : (1 : Int) ≤ (vc : Int) := by omega
                            have hlcI : (zn : Int) + 1 ≤ (vc : Int) := by omega
                            have hlfI : (1 : Int) ≤ (zn : Int) + 1 := by omega
                            have HNT : Hid (Bd n (xs1.length + xs2.length + n) xs3.length (NRd C X (Y.set c y)) (left - 1) (i + 1)) := (show Bd _ _ _ _ _ _ from Bd.taken (left := left - 1) (by rw [Nat.sub_add_cancel hl1]; exact HTB.out) hn2.1 hn2.2 (by omega) HRD.out)
                            have HRN : Hid ((Q.set c zs).length = n ∧ ∀ c2, c2 < n → (Q.set c zs).getD c2 [] = qs C X (Y.set c y) c2) := (show _ ∧ _ from ⟨by rw [List.length_set]; exact HR.out.1, fun c2 h2 => by
                              by_cases e : c = c2
                              · subst e
                                rw [List.getD_eq_getElem?_getD, List.getElem?_set_self (by rw [HR.out.1]; exact hcn)]
                                exact HZS.out
                              · rw [List.getD_eq_getElem?_getD, List.getElem?_set_ne e, ← List.getD_eq_getElem?_getD, HR.out.2 c2 h2]
                                exact (HOT.out c2 e).symm⟩)
                            have HT12 := hide (And.intro t1 t2)
                            by_cases hv1 : vc = 1
                            · subst hv1
                              have HZ9 : Hid (Row 37 7 Fr.cs w.heap.size V (.slice (some ⟨g, off, none⟩) 0 0) zs) := (show Row _ _ _ _ _ _ _ by have h := (HT12.out.2 rfl).1; rw [show zn = 0 by omega] at h; exact h)
                              go_upto_region 34 with fail
                              refine wp_at (fun W => AW w qb k b1 (alS n C) (vs.set c (.slice (some ⟨g, off, none⟩) 0 0)) (Q.set c zs) W ∧ BoxT 43 W sbx #[.int .i64 1, .int .i64 k1, .int .i64 k2, .int .i64 2, .int .i64 k4, .int .u64 k5, .int .u64 k6]) ⟨AV.pop HVV.out HYY.out HZ9.out (fun _ e => e), BV.other _ _ (Nat.ne_of_gt HQS.out)⟩ ?_
                              clear t1 t2 AV BV frq cq2 rowV
                              rintro V2 ⟨AV2, BV2⟩
                              obtain ⟨f0, f1, f2, f3, f4, f5, f6⟩ := BV2.all7
                              have HAV2 := hide AV2
                              clear AV2 BV2
                              go_wp2_with fail
                              go_roundg go
                              case rel => exact ⟨i + 1, C, X, (Y.set c y), (told + 1), left - 1, vs.set c (.slice (some ⟨g, off, none⟩) 0 0), Q.set c zs, by rw [ha], by first | rfl | go_num | (congr 1; omega), by first | go_num | (congr 1; omega), by go_num, by omega, HPL, ⟨HNT.out, by omega⟩, HRN, HAV2⟩
                              case measure => omega
                            · have hv1I : ¬ (vc : Int) - 1 = 0 := by omega
                              have HZ9 : Hid (Row 37 7 Fr.cs w.heap.size V (.slice (some ⟨g, off + 7, none⟩) zs.length (vc - 1)) zs) := (show Row _ _ _ _ _ _ _ by have h := HT12.out.1 hv1; rw [← HZN.out] at h; exact h)
                              go_upto_region 34 with fail
                              refine wp_at (fun W => AW w qb k b1 (alS n C) (vs.set c (.slice (some ⟨g, off + 7, none⟩) zs.length (vc - 1))) (Q.set c zs) W ∧ BoxT 43 W sbx #[.int .i64 1, .int .i64 k1, .int .i64 k2, .int .i64 2, .int .i64 k4, .int .u64 k5, .int .u64 k6]) ⟨AV.pop HVV.out HYY.out HZ9.out (fun _ e => e), BV.other _ _ (Nat.ne_of_gt HQS.out)⟩ ?_
                              clear t1 t2 AV BV frq cq2 rowV
                              rintro V2 ⟨AV2, BV2⟩
                              obtain ⟨f0, f1, f2, f3, f4, f5, f6⟩ := BV2.all7
                              have HAV2 := hide AV2
                              clear AV2 BV2
                              go_wp2_with fail
                              go_roundg go
                              case rel => exact ⟨i + 1, C, X, (Y.set c y), (told + 1), left - 1, vs.set c (.slice (some ⟨g, off + 7, none⟩) zs.length (vc - 1)), Q.set c zs, by rw [ha], by first | rfl | go_num | (congr 1; omega), by first | go_num | (congr 1; omega), by go_num, by omega, HPL, ⟨HNT.out, by omega⟩, HRN, HAV2⟩
                              case measure => omega
                  · have b3 : ¬ (i : Int) < (xs3.length : Int) := by omega
                    obtain ⟨c, hc⟩ : ∃ c, i % n = c := ⟨_, rfl⟩
                    have hcn : c < n := by rw [← hc]; exact Nat.mod_lt _ hn2.1
                    have hm1 : (i : Int) % (n : Int) = (c : Int) := by rw [← hc]; rfl
                    have hm2 : Int.tmod (i : Int) (n : Int) = (c : Int) := by rw [← hc]; rfl
                    have HSEL : Hid (xs3.length ≤ i → c = i % n) := fun h => hc.symm
                    clear hc
                    go_upto_region 31 with fail
                    clear hm1 hm2
                    obtain ⟨v, hv⟩ := get_of_lt (show c < vs.length by rw [HA.out.q.len, HR.out.1]; exact hcn)
                    have hys : Q[c]? = some (qs C X Y c) := by rw [getD_lt (d := []) (by rw [HR.out.1]; exact hcn), HR.out.2 c hcn]
                    have hrow := HA.out.q.row c v _ hv hys
                    obtain ⟨va, vc, rfl⟩ := hrow.shape
                    have cq := HA.out.q.cell hv
                    have bc : (c : Int) < (n : Int) := by omega
                    have HAF := hide (AF.of hn2.1 hn2.2 HP.out.lc hcn)
                    have HBL := hide (HA.out.blocked (c : Int))
                    rw [HAF.out.bl] at HBL
                    have HVV := hide hv
                    have HYY := hide hys
                    have HROW := hide hrow
                    clear hv hys hrow
                    by_cases hq : qs C X Y c = []
                    · have HNI := hide (HBD.out.1.idle hn2.1 (by omega) HRD.out HSEL.out (.inl hq))
                      rw [hq] at cq
                      go_wp2_with fail
                      go_roundg go
                      case rel => exact ⟨i + 1, C, X, Y, told, left, vs, Q, rfl, rfl, rfl, by go_num, by omega, HP, ⟨HNI.out, hlf⟩, HR, HA⟩
                      case measure => omega
                    · obtain ⟨f, zs, hfz⟩ : ∃ f zs, qs C X Y c = f :: zs := by
                        cases h : qs C X Y c with
                        | nil => exact absurd h hq
                        | cons f zs => exact ⟨f, zs, rfl⟩
                      cases hblk : (C.getD c false && !C.all id) with
                      | true =>
                        have HNI := hide (HBD.out.1.idle hn2.1 (by omega) HRD.out HSEL.out (.inr hblk))
                        rw [hblk] at HBL
                        have hz1 : (((qs C X Y c).length : Int) == 0) = false := by rw [hfz]; simp; omega
                        go_wp2_with (go_at_call 23; refine HBL.out.mono ?_; rintro e w9 ⟨rfl, rfl⟩)
                        go_roundg go
                        case rel => exact ⟨i + 1, C, X, Y, told, left, vs, Q, rfl, rfl, rfl, by go_num, by omega, HP, ⟨HNI.out, hlf⟩, HR, HA⟩
                        case measure => omega
                      | false =>
                        rw [hblk] at HBL
                        have hz1 : ((zs.length : Int) + 1 == 0) = false := by simp; omega
                        have her := HAF.out.er (by rw [HAF.out.bl]; exact hblk)
                        have hcp0 : (alS n C).cp.length ≤ 100000 := by unfold alS; split <;> simp [Gs.new]
                        have hCc : C[c]? = some (C.getD c false) := getD_lt (by rw [HP.out.lc]; exact hcn)
                        have hXc : X[c]? = some (X.getD c 0) := getD_lt (by rw [HP.out.lx]; exact hcn)
                        have hYc : Y[c]? = some (Y.getD c 0) := getD_lt (by rw [HP.out.ly]; exact hcn)
                        rw [hfz] at HROW HYY HVV cq
                        simp only [List.length_cons] at HROW HVV cq
                        have hfz2 := hfz
                        unfold qs at hfz2
                        cases hcf : C.getD c false with
                        | false =>
                          have ha : C.all id = false := by
                            rw [all_count]
                            rw [hcf] at hCc
                            have := count_come hCc
                            exact decide_eq_false (by omega)
                          rw [hcf] at hfz2 hCc
                          cases hxc : X.getD c 0 with
                          | zero =>
                            rw [hxc] at hfz2 hXc
                            unfold lf at hfz2
                            simp only [Bool.false_eq_true, if_false, List.replicate_zero, List.nil_append, List.cons.injEq] at hfz2
                            obtain ⟨rfl, hzs⟩ := hfz2
                            obtain ⟨hs, hkd⟩ := HAF.out.br1 hcf
                            obtain ⟨pl, hl1, htA⟩ := HP.out.barrier hXc hCc
                            have HPL := hide pl
                            have HZS : Hid (zs = qs (C.set c true) X Y c) := (show _ = _ by
                              unfold qs lf
                              rw [List.getD_eq_getElem?_getD (l := C.set c true), List.getElem?_set_self (lt_of_get hCc)]
                              simp only [Option.getD_some, if_true]
                              exact hzs.symm)
                            have HOT : Hid (∀ c2, c ≠ c2 → qs (C.set c true) X Y c2 = qs C X Y c2) := (show ∀ c2, _ from fun c2 h2 => by unfold qs; rw [List.getD_eq_getElem?_getD (l := C.set c true), List.getElem?_set_ne h2, ← List.getD_eq_getElem?_getD])
                            cases ha2 : (C.set c true).all id with
                            | true =>
                              rw [ha2] at hkd
                              simp only [if_true] at hkd
                              obtain rfl := htA ha2
                              rw [ha]
                              obtain ⟨st, hst⟩ : ∃ st, (alS n C).tkS (c : Int) (br false) = st := ⟨_, rfl⟩
                              have HTK := hide (HA.out.take (c : Int) (br false) hcp0 hs hst her)
                              rw [hst] at hkd
                              obtain ⟨k0, k1, k2, k3, k4, k5, k6⟩ := st
                              simp only at hkd
                              subst hkd
                              obtain ⟨g, off, cap, ev, hcell⟩ := HROW.out.read Fr.cs_len (i := 0) rfl
                              obtain ⟨rfl, _, rfl⟩ := Value.slice.inj ev
                              have d0 : wr.cell? ⟨g, off, none⟩ = some (.int .i64 3) := hcell 0 _ rfl
                              have d1 : wr.cell? ⟨g, off + 1, none⟩ = some (.int .i64 0) := hcell 1 _ rfl
                              have d2 : wr.cell? ⟨g, off + 2, none⟩ = some (.int .i64 0) := hcell 2 _ rfl
                              have d3 : wr.cell? ⟨g, off + 3, none⟩ = some (.int .i64 0) := hcell 3 _ rfl
                              have d4 : wr.cell? ⟨g, off + 4, none⟩ = some (.int .i64 0) := hcell 4 _ rfl
                              have d5 : wr.cell? ⟨g, off + 5, none⟩ = some (.int .u64 9) := hcell 5 _ rfl
                              have d6 : wr.cell? ⟨g, off + 6, none⟩ = some (.bool false) := hcell 6 _ rfl
                              have HTB := hide (HBD.out.1)
                              have hzl : ¬ ((zs.length : Int) + 1 < 1) := by omega
                              have hzl2 : (0 : Int) < (zs.length : Int) + 1 := by omega
                              clear hcell ev hs hst her hcf hblk hXc hYc hCc hzs hfz hq
                              generalize hzn : zs.length = zn at *
                              have HZN := hide hzn
                              clear hzn
                              go_upto_region 33 with (first | (go_at_call 23; refine HBL.out.mono ?_; rintro e w9 ⟨rfl, rfl⟩) | (go_at_call 13; refine HTK.out.mono ?_; rintro e w5 ⟨rfl, g5⟩; have G5 := hide (g5.below (below_box w5 (.cells #[.int .i64 3, .int .i64 k1, .int .i64 k2, .int .i64 k3, .int .i64 k4, .int .u64 k5, .int .u64 k6] 43))); have HQS := hide (Nat.lt_of_lt_of_le g5.qlt g5.ble); clear g5))
                              refine wp_at (fun W => AW w qb k b1 (alS n (C.set c true)) vs Q W ∧ BoxT 43 W w5.heap.size #[.int .i64 3, .int .i64 k1, .int .i64 k2, .int .i64 k3, .int .i64 k4, .int .u64 k5, .int .u64 k6]) ⟨G5.out, BoxT.new _ _ _⟩ ?_
                              generalize w5.heap.size = sbx at *
                              clear G5 HTK HBL d0 d1 d2 d3 d4 d5 d6 cq HROW
                              rintro V ⟨AV, BV⟩
                              have cq2 := AV.q.cell HVV.out
                              have rowV := AV.q.row c _ _ HVV.out HYY.out
                              obtain ⟨g', off', ea, _, hcap1, t1, t2⟩ := rowV.tail Fr.cs_len
                              cases ea
                              have frq := AV.q.box.free
                              rw [HZN.out] at t1 t2
                              have hlc : zn + 1 ≤ vc := by
                                rcases rowV with ⟨_, h⟩ | ⟨_, _, cp, _, e, _, _, h4, _⟩
                                · cases h
                                · obtain ⟨_, _, rfl⟩ := Value.slice.inj e
                                  simp only [List.length_cons] at h4
                                  rw [HZN.out] at h4
                                  exact h4
                              have hcapI : (1 : Int) ≤ (vc : Int) := by omega
                              have hlcI : (zn : Int) + 1 ≤ (vc : Int) := by omega
                              have hlfI : (1 : Int) ≤ (zn : Int) + 1 := by omega
                              have HNT : Hid (Bd n (xs1.length + xs2.length + n) xs3.length (NRd (C.set c true) X Y) (left - 1) (i + 1)) := (show Bd _ _ _ _ _ _ from Bd.taken (left := left - 1) (by rw [Nat.sub_add_cancel hl1]; exact HTB.out) hn2.1 hn2.2 (by omega) HRD.out)
                              have HRN : Hid ((Q.set c zs).length = n ∧ ∀ c2, c2 < n → (Q.set c zs).getD c2 [] = qs (C.set c true) X Y c2) := (show _ ∧ _ from ⟨by rw [List.length_set]; exact HR.out.1, fun c2 h2 => by
                                by_cases e : c = c2
                                · subst e
                                  rw [List.getD_eq_getElem?_getD, List.getElem?_set_self (by rw [HR.out.1]; exact hcn)]
                                  exact HZS.out
                                · rw [List.getD_eq_getElem?_getD, List.getElem?_set_ne e, ← List.getD_eq_getElem?_getD, HR.out.2 c2 h2]
                                  exact (HOT.out c2 e).symm⟩)
                              have HT12 := hide (And.intro t1 t2)
                              by_cases hv1 : vc = 1
                              · subst hv1
                                have HZ9 : Hid (Row 37 7 Fr.cs w.heap.size V (.slice (some ⟨g, off, none⟩) 0 0) zs) := (show Row _ _ _ _ _ _ _ by have h := (HT12.out.2 rfl).1; rw [show zn = 0 by omega] at h; exact h)
                                go_upto_region 34 with fail
                                refine wp_at (fun W => AW w qb k b1 (alS n (C.set c true)) (vs.set c (.slice (some ⟨g, off, none⟩) 0 0)) (Q.set c zs) W ∧ BoxT 43 W sbx #[.int .i64 3, .int .i64 k1, .int .i64 k2, .int .i64 k3, .int .i64 k4, .int .u64 k5, .int .u64 k6]) ⟨AV.pop HVV.out HYY.out HZ9.out (fun _ e => e), BV.other _ _ (Nat.ne_of_gt HQS.out)⟩ ?_
                                clear t1 t2 AV BV frq cq2 rowV
                                rintro V2 ⟨AV2, BV2⟩
                                obtain ⟨f0, f1, f2, f3, f4, f5, f6⟩ := BV2.all7
                                have HAV2 := hide AV2
                                clear AV2 BV2
                                go_wp2_with fail
                                go_roundg go
                                case rel => exact ⟨i + 1, (C.set c true), X, Y, xs1.length, left - 1, vs.set c (.slice (some ⟨g, off, none⟩) 0 0), Q.set c zs, by rw [ha2], by first | rfl | go_num | (congr 1; omega), by first | go_num | (congr 1; omega), by go_num, by omega, HPL, ⟨HNT.out, by omega⟩, HRN, HAV2⟩
                                case measure => omega
                              · have hv1I : ¬ (vc : Int) - 1 = 0 := by omega
                                have HZ9 : Hid (Row 37 7 Fr.cs w.heap.size V (.slice (some ⟨g, off + 7, none⟩) zs.length (vc - 1)) zs) := (show Row _ _ _ _ _ _ _ by have h := HT12.out.1 hv1; rw [← HZN.out] at h; exact h)
                                go_upto_region 34 with fail
                                refine wp_at (fun W => AW w qb k b1 (alS n (C.set c true)) (vs.set c (.slice (some ⟨g, off + 7, none⟩) zs.length (vc - 1))) (Q.set c zs) W ∧ BoxT 43 W sbx #[.int .i64 3, .int .i64 k1, .int .i64 k2, .int .i64 k3, .int .i64 k4, .int .u64 k5, .int .u64 k6]) ⟨AV.pop HVV.out HYY.out HZ9.out (fun _ e => e), BV.other _ _ (Nat.ne_of_gt HQS.out)⟩ ?_
                                clear t1 t2 AV BV frq cq2 rowV
                                rintro V2 ⟨AV2, BV2⟩
                                obtain ⟨f0, f1, f2, f3, f4, f5, f6⟩ := BV2.all7
                                have HAV2 := hide AV2
                                clear AV2 BV2
                                go_wp2_with fail
                                go_roundg go
                                case rel => exact ⟨i + 1, (C.set c true), X, Y, xs1.length, left - 1, vs.set c (.slice (some ⟨g, off + 7, none⟩) zs.length (vc - 1)), Q.set c zs, by rw [ha2], by first | rfl | go_num | (congr 1; omega), by first | go_num | (congr 1; omega), by go_num, by omega, HPL, ⟨HNT.out, by omega⟩, HRN, HAV2⟩
                                case measure => omega
                            | false =>
                              rw [ha2] at hkd
                              simp only [Bool.false_eq_true, if_false] at hkd
                              rw [ha]
                              obtain ⟨st, hst⟩ : ∃ st, (alS n C).tkS (c : Int) (br false) = st := ⟨_, rfl⟩
                              have HTK := hide (HA.out.take (c : Int) (br false) hcp0 hs hst her)
                              rw [hst] at hkd
                              obtain ⟨k0, k1, k2, k3, k4, k5, k6⟩ := st
                              simp only at hkd
                              subst hkd
                              obtain ⟨g, off, cap, ev, hcell⟩ := HROW.out.read Fr.cs_len (i := 0) rfl
                              obtain ⟨rfl, _, rfl⟩ := Value.slice.inj ev
                              have d0 : wr.cell? ⟨g, off, none⟩ = some (.int .i64 3) := hcell 0 _ rfl
                              have d1 : wr.cell? ⟨g, off + 1, none⟩ = some (.int .i64 0) := hcell 1 _ rfl
                              have d2 : wr.cell? ⟨g, off + 2, none⟩ = some (.int .i64 0) := hcell 2 _ rfl
                              have d3 : wr.cell? ⟨g, off + 3, none⟩ = some (.int .i64 0) := hcell 3 _ rfl
                              have d4 : wr.cell? ⟨g, off + 4, none⟩ = some (.int .i64 0) := hcell 4 _ rfl
                              have d5 : wr.cell? ⟨g, off + 5, none⟩ = some (.int .u64 9) := hcell 5 _ rfl
                              have d6 : wr.cell? ⟨g, off + 6, none⟩ = some (.bool false) := hcell 6 _ rfl
                              have HTB := hide (HBD.out.1)
                              have hzl : ¬ ((zs.length : Int) + 1 < 1) := by omega
                              have hzl2 : (0 : Int) < (zs.length : Int) + 1 := by omega
                              clear hcell ev hs hst her hcf hblk hXc hYc hCc hzs hfz hq
                              generalize hzn : zs.length = zn at *
                              have HZN := hide hzn
                              clear hzn
                              go_upto_region 33 with (first | (go_at_call 23; refine HBL.out.mono ?_; rintro e w9 ⟨rfl, rfl⟩) | (go_at_call 13; refine HTK.out.mono ?_; rintro e w5 ⟨rfl, g5⟩; have G5 := hide (g5.below (below_box w5 (.cells #[.int .i64 0, .int .i64 k1, .int .i64 k2, .int .i64 k3, .int .i64 k4, .int .u64 k5, .int .u64 k6] 43))); have HQS := hide (Nat.lt_of_lt_of_le g5.qlt g5.ble); clear g5))
                              refine wp_at (fun W => AW w qb k b1 (alS n (C.set c true)) vs Q W ∧ BoxT 43 W w5.heap.size #[.int .i64 0, .int .i64 k1, .int .i64 k2, .int .i64 k3, .int .i64 k4, .int .u64 k5, .int .u64 k6]) ⟨G5.out, BoxT.new _ _ _⟩ ?_
                              generalize w5.heap.size = sbx at *
                              clear G5 HTK HBL d0 d1 d2 d3 d4 d5 d6 cq HROW
                              rintro V ⟨AV, BV⟩
                              have cq2 := AV.q.cell HVV.out
                              have rowV := AV.q.row c _ _ HVV.out HYY.out
                              obtain ⟨g', off', ea, _, hcap1, t1, t2⟩ := rowV.tail Fr.cs_len
                              cases ea
                              have frq := AV.q.box.free
                              rw [HZN.out] at t1 t2
                              have hlc : zn + 1 ≤ vc := by
                                rcases rowV with ⟨_, h⟩ | ⟨_, _, cp, _, e, _, _, h4, _⟩
                                · cases h
                                · obtain ⟨_, _, rfl⟩ := Value.slice.inj e
                                  simp only [List.length_cons] at h4
                                  rw [HZN.out] at h4
                                  exact h4
                              have hcapI : (1 : Int) ≤ (vc : Int) := by omega
                              have hlcI : (zn : Int) + 1 ≤ (vc : Int) := by omega
                              have hlfI : (1 : Int) ≤ (zn : Int) + 1 := by omega
                              have HNT : Hid (Bd n (xs1.length + xs2.length + n) xs3.length (NRd (C.set c true) X Y) (left - 1) (i + 1)) := (show Bd _ _ _ _ _ _ from Bd.taken (left := left - 1) (by rw [Nat.sub_add_cancel hl1]; exact HTB.out) hn2.1 hn2.2 (by omega) HRD.out)
                              have HRN : Hid ((Q.set c zs).length = n ∧ ∀ c2, c2 < n → (Q.set c zs).getD c2 [] = qs (C.set c true) X Y c2) := (show _ ∧ _ from ⟨by rw [List.length_set]; exact HR.out.1, fun c2 h2 => by
                                by_cases e : c = c2
                                · subst e
                                  rw [List.getD_eq_getElem?_getD, List.getElem?_set_self (by rw [HR.out.1]; exact hcn)]
                                  exact HZS.out
                                · rw [List.getD_eq_getElem?_getD, List.getElem?_set_ne e, ← List.getD_eq_getElem?_getD, HR.out.2 c2 h2]
                                  exact (HOT.out c2 e).symm⟩)
                              have HT12 := hide (And.intro t1 t2)
                              by_cases hv1 : vc = 1
                              · subst hv1
                                have HZ9 : Hid (Row 37 7 Fr.cs w.heap.size V (.slice (some ⟨g, off, none⟩) 0 0) zs) := (show Row _ _ _ _ _ _ _ by have h := (HT12.out.2 rfl).1; rw [show zn = 0 by omega] at h; exact h)
                                go_upto_region 34 with fail
                                refine wp_at (fun W => AW w qb k b1 (alS n (C.set c true)) (vs.set c (.slice (some ⟨g, off, none⟩) 0 0)) (Q.set c zs) W ∧ BoxT 43 W sbx #[.int .i64 0, .int .i64 k1, .int .i64 k2, .int .i64 k3, .int .i64 k4, .int .u64 k5, .int .u64 k6]) ⟨AV.pop HVV.out HYY.out HZ9.out (fun _ e => e), BV.other _ _ (Nat.ne_of_gt HQS.out)⟩ ?_
                                clear t1 t2 AV BV frq cq2 rowV
                                rintro V2 ⟨AV2, BV2⟩
                                obtain ⟨f0, f1, f2, f3, f4, f5, f6⟩ := BV2.all7
                                have HAV2 := hide AV2
                                clear AV2 BV2
                                go_wp2_with fail
                                go_roundg go
                                case rel => exact ⟨i + 1, (C.set c true), X, Y, told, left - 1, vs.set c (.slice (some ⟨g, off, none⟩) 0 0), Q.set c zs, by rw [ha2], by first | rfl | go_num | (congr 1; omega), by first | go_num | (congr 1; omega), by go_num, by omega, HPL, ⟨HNT.out, by omega⟩, HRN, HAV2⟩
                                case measure => omega
                              · have hv1I : ¬ (vc : Int) - 1 = 0 := by omega
                                have HZ9 : Hid (Row 37 7 Fr.cs w.heap.size V (.slice (some ⟨g, off + 7, none⟩) zs.length (vc - 1)) zs) := (show Row _ _ _ _ _ _ _ by have h := HT12.out.1 hv1; rw [← HZN.out] at h; exact h)
                                go_upto_region 34 with fail
                                refine wp_at (fun W => AW w qb k b1 (alS n (C.set c true)) (vs.set c (.slice (some ⟨g, off + 7, none⟩) zs.length (vc - 1))) (Q.set c zs) W ∧ BoxT 43 W sbx #[.int .i64 0, .int .i64 k1, .int .i64 k2, .int .i64 k3, .int .i64 k4, .int .u64 k5, .int .u64 k6]) ⟨AV.pop HVV.out HYY.out HZ9.out (fun _ e => e), BV.other _ _ (Nat.ne_of_gt HQS.out)⟩ ?_
                                clear t1 t2 AV BV frq cq2 rowV
                                rintro V2 ⟨AV2, BV2⟩
                                obtain ⟨f0, f1, f2, f3, f4, f5, f6⟩ := BV2.all7
                                have HAV2 := hide AV2
                                clear AV2 BV2
                                go_wp2_with fail
                                go_roundg go
                                case rel => exact ⟨i + 1, (C.set c true), X, Y, told, left - 1, vs.set c (.slice (some ⟨g, off + 7, none⟩) zs.length (vc - 1)), Q.set c zs, by rw [ha2], by first | rfl | go_num | (congr 1; omega), by first | go_num | (congr 1; omega), by go_num, by omega, HPL, ⟨HNT.out, by omega⟩, HRN, HAV2⟩
                                case measure => omega
                          | succ x =>
                            rw [hxc] at hfz2 hXc
                            unfold lf at hfz2
                            simp only [Bool.false_eq_true, if_false, List.replicate_succ, List.cons_append, List.cons.injEq] at hfz2
                            obtain ⟨rfl, hzs⟩ := hfz2
                            obtain ⟨hs, hkd, hva⟩ := HAF.out.rc1 (by rw [HAF.out.bl]; exact hblk) 1 (.inl rfl)
                            obtain ⟨pl, hl1⟩ := HP.out.ahead hXc hcf
                            have HPL := hide pl
                            have HZS : Hid (zs = qs C (X.set c x) Y c) := (show _ = _ by
                              unfold qs lf
                              rw [hcf, List.getD_eq_getElem?_getD (l := X.set c x), List.getElem?_set_self (lt_of_get hXc)]
                              simp only [Bool.false_eq_true, if_false, Option.getD_some]
                              exact hzs.symm)
                            have HOT : Hid (∀ c2, c ≠ c2 → qs C (X.set c x) Y c2 = qs C X Y c2) := (show ∀ c2, _ from fun c2 h2 => by unfold qs; rw [List.getD_eq_getElem?_getD (l := X.set c x), List.getElem?_set_ne h2, ← List.getD_eq_getElem?_getD])
                            rw [ha]
                            obtain ⟨st, hst⟩ : ∃ st, (alS n C).tkS (c : Int) (rc 1) = st := ⟨_, rfl⟩
                            have HTK := hide (HA.out.take (c : Int) (rc 1) hcp0 hs hst her)
                            rw [hst] at hkd hva
                            obtain ⟨k0, k1, k2, k3, k4, k5, k6⟩ := st
                            simp only at hkd hva
                            subst hkd hva
                            obtain ⟨g, off, cap, ev, hcell⟩ := HROW.out.read Fr.cs_len (i := 0) rfl
                            obtain ⟨rfl, _, rfl⟩ := Value.slice.inj ev
                            have d0 : wr.cell? ⟨g, off, none⟩ = some (.int .i64 1) := hcell 0 _ rfl
                            have d1 : wr.cell? ⟨g, off + 1, none⟩ = some (.int .i64 0) := hcell 1 _ rfl
                            have d2 : wr.cell? ⟨g, off + 2, none⟩ = some (.int .i64 0) := hcell 2 _ rfl
                            have d3 : wr.cell? ⟨g, off + 3, none⟩ = some (.int .i64 1) := hcell 3 _ rfl
                            have d4 : wr.cell? ⟨g, off + 4, none⟩ = some (.int .i64 0) := hcell 4 _ rfl
                            have d5 : wr.cell? ⟨g, off + 5, none⟩ = some (.int .u64 0) := hcell 5 _ rfl
                            have d6 : wr.cell? ⟨g, off + 6, none⟩ = some (.bool false) := hcell 6 _ rfl
                            have HTB := hide (HBD.out.1)
                            have hzl : ¬ ((zs.length : Int) + 1 < 1) := by omega
                            have hzl2 : (0 : Int) < (zs.length : Int) + 1 := by omega
                            clear hcell ev hs hst her hcf hblk hXc hYc hCc hzs hfz hq
                            generalize hzn : zs.length = zn at *
                            have HZN := hide hzn
                            clear hzn
                            go_upto_region 33 with (first | (go_at_call 23; refine HBL.out.mono ?_; rintro e w9 ⟨rfl, rfl⟩) | (go_at_call 13; refine HTK.out.mono ?_; rintro e w5 ⟨rfl, g5⟩; have G5 := hide (g5.below (below_box w5 (.cells #[.int .i64 1, .int .i64 k1, .int .i64 k2, .int .i64 1, .int .i64 k4, .int .u64 k5, .int .u64 k6] 43))); have HQS := hide (Nat.lt_of_lt_of_le g5.qlt g5.ble); clear g5))
                            refine wp_at (fun W => AW w qb k b1 (alS n C) vs Q W ∧ BoxT 43 W w5.heap.size #[.int .i64 1, .int .i64 k1, .int .i64 k2, .int .i64 1, .int .i64 k4, .int .u64 k5, .int .u64 k6]) ⟨G5.out, BoxT.new _ _ _⟩ ?_
                            generalize w5.heap.size = sbx at *
                            clear G5 HTK HBL d0 d1 d2 d3 d4 d5 d6 cq HROW
                            rintro V ⟨AV, BV⟩
                            have cq2 := AV.q.cell HVV.out
                            have rowV := AV.q.row c _ _ HVV.out HYY.out
                            obtain ⟨g', off', ea, _, hcap1, t1, t2⟩ := rowV.tail Fr.cs_len
                            cases ea
                            have frq := AV.q.box.free
                            rw [HZN.out] at t1 t2
                            have hlc : zn + 1 ≤ vc := by
                              rcases rowV with ⟨_, h⟩ | ⟨_, _, cp, _, e, _, _, h4, _⟩
                              · cases h
                              · obtain ⟨_, _, rfl⟩ := Value.slice.inj e
                                simp only [List.length_cons] at h4
                                rw [HZN.out] at h4
                                exact h4
                            have hcapI : (1 : Int) ≤ (vc : Int) := by omega
                            have hlcI : (zn : Int) + 1 ≤ (vc : Int) := by omega
                            have hlfI : (1 : Int) ≤ (zn : Int) + 1 := by omega
                            have HNT : Hid (Bd n (xs1.length + xs2.length + n) xs3.length (NRd C (X.set c x) Y) (left - 1) (i + 1)) := (show Bd _ _ _ _ _ _ from Bd.taken (left := left - 1) (by rw [Nat.sub_add_cancel hl1]; exact HTB.out) hn2.1 hn2.2 (by omega) HRD.out)
                            have HRN : Hid ((Q.set c zs).length = n ∧ ∀ c2, c2 < n → (Q.set c zs).getD c2 [] = qs C (X.set c x) Y c2) := (show _ ∧ _ from ⟨by rw [List.length_set]; exact HR.out.1, fun c2 h2 => by
                              by_cases e : c = c2
                              · subst e
                                rw [List.getD_eq_getElem?_getD, List.getElem?_set_self (by rw [HR.out.1]; exact hcn)]
                                exact HZS.out
                              · rw [List.getD_eq_getElem?_getD, List.getElem?_set_ne e, ← List.getD_eq_getElem?_getD, HR.out.2 c2 h2]
                                exact (HOT.out c2 e).symm⟩)
                            have HT12 := hide (And.intro t1 t2)
                            by_cases hv1 : vc = 1
                            · subst hv1
                              have HZ9 : Hid (Row 37 7 Fr.cs w.heap.size V (.slice (some ⟨g, off, none⟩) 0 0) zs) := (show Row _ _ _ _ _ _ _ by have h := (HT12.out.2 rfl).1; rw [show zn = 0 by omega] at h; exact h)
                              go_upto_region 34 with fail
                              refine wp_at (fun W => AW w qb k b1 (alS n C) (vs.set c (.slice (some ⟨g, off, none⟩) 0 0)) (Q.set c zs) W ∧ BoxT 43 W sbx #[.int .i64 1, .int .i64 k1, .int .i64 k2, .int .i64 1, .int .i64 k4, .int .u64 k5, .int .u64 k6]) ⟨AV.pop HVV.out HYY.out HZ9.out (fun _ e => e), BV.other _ _ (Nat.ne_of_gt HQS.out)⟩ ?_
                              clear t1 t2 AV BV frq cq2 rowV
                              rintro V2 ⟨AV2, BV2⟩
                              obtain ⟨f0, f1, f2, f3, f4, f5, f6⟩ := BV2.all7
                              have HAV2 := hide AV2
                              clear AV2 BV2
                              go_wp2_with fail
                              go_roundg go
                              case rel => exact ⟨i + 1, C, (X.set c x), Y, (told + 1), left - 1, vs.set c (.slice (some ⟨g, off, none⟩) 0 0), Q.set c zs, by rw [ha], by first | rfl | go_num | (congr 1; omega), by first | go_num | (congr 1; omega), by go_num, by omega, HPL, ⟨HNT.out, by omega⟩, HRN, HAV2⟩
                              case measure => omega
                            · have hv1I : ¬ (vc : Int) - 1 = 0 := by omega
                              have HZ9 : Hid (Row 37 7 Fr.cs w.heap.size V (.slice (some ⟨g, off + 7, none⟩) zs.length (vc - 1)) zs) := (show Row _ _ _ _ _ _ _ by have h := HT12.out.1 hv1; rw [← HZN.out] at h; exact h)
                              go_upto_region 34 with fail
                              refine wp_at (fun W => AW w qb k b1 (alS n C) (vs.set c (.slice (some ⟨g, off + 7, none⟩) zs.length (vc - 1))) (Q.set c zs) W ∧ BoxT 43 W sbx #[.int .i64 1, .int .i64 k1, .int .i64 k2, .int .i64 1, .int .i64 k4, .int .u64 k5, .int .u64 k6]) ⟨AV.pop HVV.out HYY.out HZ9.out (fun _ e => e), BV.other _ _ (Nat.ne_of_gt HQS.out)⟩ ?_
                              clear t1 t2 AV BV frq cq2 rowV
                              rintro V2 ⟨AV2, BV2⟩
                              obtain ⟨f0, f1, f2, f3, f4, f5, f6⟩ := BV2.all7
                              have HAV2 := hide AV2
                              clear AV2 BV2
                              go_wp2_with fail
                              go_roundg go
                              case rel => exact ⟨i + 1, C, (X.set c x), Y, (told + 1), left - 1, vs.set c (.slice (some ⟨g, off + 7, none⟩) zs.length (vc - 1)), Q.set c zs, by rw [ha], by first | rfl | go_num | (congr 1; omega), by first | go_num | (congr 1; omega), by go_num, by omega, HPL, ⟨HNT.out, by omega⟩, HRN, HAV2⟩
                              case measure => omega
                        | true =>
                          have ha : C.all id = true := by
                            rw [hcf] at hblk
                            simpa using hblk
                          rw [hcf] at hfz2
                          cases hyc : Y.getD c 0 with
                          | zero =>
                            rw [hyc] at hfz2
                            unfold lf at hfz2
                            simp at hfz2
                          | succ y =>
                            rw [hyc] at hfz2 hYc
                            unfold lf at hfz2
                            simp only [if_true, List.replicate_succ, List.cons.injEq] at hfz2
                            obtain ⟨rfl, hzs⟩ := hfz2
                            obtain ⟨hs, hkd, hva⟩ := HAF.out.rc1 (by rw [HAF.out.bl]; exact hblk) 2 (.inr rfl)
                            obtain ⟨pl, hl1⟩ := HP.out.behind hYc ha
                            have HPL := hide pl
                            have HZS : Hid (zs = qs C X (Y.set c y) c) := (show _ = _ by
                              unfold qs lf
                              rw [hcf, List.getD_eq_getElem?_getD (l := Y.set c y), List.getElem?_set_self (lt_of_get hYc)]
                              simp only [if_true, Option.getD_some]
                              exact hzs.symm)
                            have HOT : Hid (∀ c2, c ≠ c2 → qs C X (Y.set c y) c2 = qs C X Y c2) := (show ∀ c2, _ from fun c2 h2 => by unfold qs; rw [List.getD_eq_getElem?_getD (l := Y.set c y), List.getElem?_set_ne h2, ← List.getD_eq_getElem?_getD])
                            rw [ha]
                            obtain ⟨st, hst⟩ : ∃ st, (alS n C).tkS (c : Int) (rc 2) = st := ⟨_, rfl⟩
                            have HTK := hide (HA.out.take (c : Int) (rc 2) hcp0 hs hst her)
                            rw [hst] at hkd hva
                            obtain ⟨k0, k1, k2, k3, k4, k5, k6⟩ := st
                            simp only at hkd hva
                            subst hkd hva
                            obtain ⟨g, off, cap, ev, hcell⟩ := HROW.out.read Fr.cs_len (i := 0) rfl
                            obtain ⟨rfl, _, rfl⟩ := Value.slice.inj ev
                            have d0 : wr.cell? ⟨g, off, none⟩ = some (.int .i64 1) := hcell 0 _ rfl
                            have d1 : wr.cell? ⟨g, off + 1, none⟩ = some (.int .i64 0) := hcell 1 _ rfl
                            have d2 : wr.cell? ⟨g, off + 2, none⟩ = some (.int .i64 0) := hcell 2 _ rfl
                            have d3 : wr.cell? ⟨g, off + 3, none⟩ = some (.int .i64 2) := hcell 3 _ rfl
                            have d4 : wr.cell? ⟨g, off + 4, none⟩ = some (.int .i64 0) := hcell 4 _ rfl
                            have d5 : wr.cell? ⟨g, off + 5, none⟩ = some (.int .u64 0) := hcell 5 _ rfl
                            have d6 : wr.cell? ⟨g, off + 6, none⟩ = some (.bool false) := hcell 6 _ rfl
                            have HTB := hide (HBD.out.1)
                            have hzl : ¬ ((zs.length : Int) + 1 < 1) := by omega
                            have hzl2 : (0 : Int) < (zs.length : Int) + 1 := by omega
                            clear hcell ev hs hst her hcf hblk hXc hYc hCc hzs hfz hq
                            generalize hzn : zs.length = zn at *
                            have HZN := hide hzn
                            clear hzn
                            go_upto_region 33 with (first | (go_at_call 23; refine HBL.out.mono ?_; rintro e w9 ⟨rfl, rfl⟩) | (go_at_call 13; refine HTK.out.mono ?_; rintro e w5 ⟨rfl, g5⟩; have G5 := hide (g5.below (below_box w5 (.cells #[.int .i64 1, .int .i64 k1, .int .i64 k2, .int .i64 2, .int .i64 k4, .int .u64 k5, .int .u64 k6] 43))); have HQS := hide (Nat.lt_of_lt_of_le g5.qlt g5.ble); clear g5))
                            refine wp_at (fun W => AW w qb k b1 (alS n C) vs Q W ∧ BoxT 43 W w5.heap.size #[.int .i64 1, .int .i64 k1, .int .i64 k2, .int .i64 2, .int .i64 k4, .int .u64 k5, .int .u64 k6]) ⟨G5.out, BoxT.new _ _ _⟩ ?_
                            generalize w5.heap.size = sbx at *
                            clear G5 HTK HBL d0 d1 d2 d3 d4 d5 d6 cq HROW
                            rintro V ⟨AV, BV⟩
                            have cq2 := AV.q.cell HVV.out
                            have rowV := AV.q.row c _ _ HVV.out HYY.out
                            obtain ⟨g', off', ea, _, hcap1, t1, t2⟩ := rowV.tail Fr.cs_len
                            cases ea
                            have frq := AV.q.box.free
                            rw [HZN.out] at t1 t2
                            have hlc : zn + 1 ≤ vc := by
                              rcases rowV with ⟨_, h⟩ | ⟨_, _, cp, _, e, _, _, h4, _⟩
                              · cases h
                              · obtain ⟨_, _, rfl⟩ := Value.slice.inj e
                                simp only [List.length_cons] at h4
                                rw [HZN.out] at h4
                                exact h4
                            have hcapI : (1 : Int) ≤ (vc : Int) := by omega
                            have hlcI : (zn : Int) + 1 ≤ (vc : Int) := by omega
                            have hlfI : (1 : Int) ≤ (zn : Int) + 1 := by omega
                            have HNT : Hid (Bd n (xs1.length + xs2.length + n) xs3.length (NRd C X (Y.set c y)) (left - 1) (i + 1)) := (show Bd _ _ _ _ _ _ from Bd.taken (left := left - 1) (by rw [Nat.sub_add_cancel hl1]; exact HTB.out) hn2.1 hn2.2 (by omega) HRD.out)
                            have HRN : Hid ((Q.set c zs).length = n ∧ ∀ c2, c2 < n → (Q.set c zs).getD c2 [] = qs C X (Y.set c y) c2) := (show _ ∧ _ from ⟨by rw [List.length_set]; exact HR.out.1, fun c2 h2 => by
                              by_cases e : c = c2
                              · subst e
                                rw [List.getD_eq_getElem?_getD, List.getElem?_set_self (by rw [HR.out.1]; exact hcn)]
                                exact HZS.out
                              · rw [List.getD_eq_getElem?_getD, List.getElem?_set_ne e, ← List.getD_eq_getElem?_getD, HR.out.2 c2 h2]
                                exact (HOT.out c2 e).symm⟩)
                            have HT12 := hide (And.intro t1 t2)
                            by_cases hv1 : vc = 1
                            · subst hv1
                              have HZ9 : Hid (Row 37 7 Fr.cs w.heap.size V (.slice (some ⟨g, off, none⟩) 0 0) zs) := (show Row _ _ _ _ _ _ _ by have h := (HT12.out.2 rfl).1; rw [show zn = 0 by omega] at h; exact h)
                              go_upto_region 34 with fail
                              refine wp_at (fun W => AW w qb k b1 (alS n C) (vs.set c (.slice (some ⟨g, off, none⟩) 0 0)) (Q.set c zs) W ∧ BoxT 43 W sbx #[.int .i64 1, .int .i64 k1, .int .i64 k2, .int .i64 2, .int .i64 k4, .int .u64 k5, .int .u64 k6]) ⟨AV.pop HVV.out HYY.out HZ9.out (fun _ e => e), BV.other _ _ (Nat.ne_of_gt HQS.out)⟩ ?_
                              clear t1 t2 AV BV frq cq2 rowV
                              rintro V2 ⟨AV2, BV2⟩
                              obtain ⟨f0, f1, f2, f3, f4, f5, f6⟩ := BV2.all7
                              have HAV2 := hide AV2
                              clear AV2 BV2
                              go_wp2_with fail
                              go_roundg go
                              case rel => exact ⟨i + 1, C, X, (Y.set c y), (told + 1), left - 1, vs.set c (.slice (some ⟨g, off, none⟩) 0 0), Q.set c zs, by rw [ha], by first | rfl | go_num | (congr 1; omega), by first | go_num | (congr 1; omega), by go_num, by omega, HPL, ⟨HNT.out, by omega⟩, HRN, HAV2⟩
                              case measure => omega
                            · have hv1I : ¬ (vc : Int) - 1 = 0 := by omega
                              have HZ9 : Hid (Row 37 7 Fr.cs w.heap.size V (.slice (some ⟨g, off + 7, none⟩) zs.length (vc - 1)) zs) := (show Row _ _ _ _ _ _ _ by have h := HT12.out.1 hv1; rw [← HZN.out] at h; exact h)
                              go_upto_region 34 with fail
                              refine wp_at (fun W => AW w qb k b1 (alS n C) (vs.set c (.slice (some ⟨g, off + 7, none⟩) zs.length (vc - 1))) (Q.set c zs) W ∧ BoxT 43 W sbx #[.int .i64 1, .int .i64 k1, .int .i64 k2, .int .i64 2, .int .i64 k4, .int .u64 k5, .int .u64 k6]) ⟨AV.pop HVV.out HYY.out HZ9.out (fun _ e => e), BV.other _ _ (Nat.ne_of_gt HQS.out)⟩ ?_
                              clear t1 t2 AV BV frq cq2 rowV
                              rintro V2 ⟨AV2, BV2⟩
                              obtain ⟨f0, f1, f2, f3, f4, f5, f6⟩ := BV2.all7
                              have HAV2 := hide AV2
                              clear AV2 BV2
                              go_wp2_with fail
                              go_roundg go
                              case rel => exact ⟨i + 1, C, X, (Y.set c y), (told + 1), left - 1, vs.set c (.slice (some ⟨g, off + 7, none⟩) zs.length (vc - 1)), Q.set c zs, by rw [ha], by first | rfl | go_num | (congr 1; omega), by first | go_num | (congr 1; omega), by go_num, by omega, HPL, ⟨HNT.out, by omega⟩, HRN, HAV2⟩
                              case measure => omega
                · obtain rfl : left = 0 := by omega
                  have hc0 : C.count false = 0 := by have := HP.out.lt; omega
                  have ha : C.all id = true := by rw [all_count]; exact decide_eq_true hc0
                  obtain rfl : told = xs1.length + xs2.length := by have := HP.out.tt; have := HP.out.lt; omega
                  rw [ha]
                  go_wp2_with fail
                  go_ret
                  exact ⟨by simp, HA.out.bel⟩
end Go.Proofs.Ytmipgfobggbndaa
