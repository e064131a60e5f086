/-
  ExprDeep, the wide tree.
-/
import Derived.Test.YtjdefmjcnpgjiaaDoorEWideP
namespace Go.Proofs.YtjdefmjcnpgjiaaDoor
open Go.RowKit

theorem At3.shape {w : World} {base : Nat} {v : Value} {n : Nat} {xs : List Value} (h : At3 w base v n xs) : ∃ g off cap, v = .slice (some ⟨g, off, none⟩) n cap ∧ n ≤ cap ∧ cap ≤ maxLen := by
  obtain ⟨g, off, cap, cur, h1, h2, h3, h4, h5, _⟩ := h
  exact ⟨g, off, cap, h1, h4, h5⟩
theorem At3.cell {w : World} {base g off n cap : Nat} {xs : List Value} (h : At3 w base (.slice (some ⟨g, off, none⟩) n cap) n xs) {j : Nat} {u : Value} (hj : xs[j]? = some u) : w.cell? ⟨g, off + j, none⟩ = some u := by
  obtain ⟨g', off', cap', cur, e1, h2, h3, h4, h5, h6, h7, h8⟩ := h
  simp only [Value.slice.injEq, Option.some.injEq, Addr.mk.injEq] at e1
  obtain ⟨⟨rfl, rfl, _⟩, _, rfl⟩ := e1
  have := (List.getElem?_eq_some_iff.1 hj).1
  simp only [World.cell?, h3]
  rw [h8 j (by omega)]
  exact hj
theorem At3.tail2 {w : World} {base g off n cap : Nat} {xs ys : List Value} (h : At3 w base (.slice (some ⟨g, off, none⟩) (n + 2) cap) (n + 2) (ys ++ xs)) (hy : ys.length = 6) : At3 w base (.slice (some ⟨g, off + 6, none⟩) n (cap - 2)) n xs := by
  obtain ⟨g', off', cap', cur, e1, h2, h3, h4, h5, h6, h7, h8⟩ := h
  simp only [Value.slice.injEq, Option.some.injEq, Addr.mk.injEq] at e1
  obtain ⟨⟨rfl, rfl, _⟩, _, rfl⟩ := e1
  refine ⟨g, off + 6, cap - 2, cur, rfl, h2, h3, by omega, by omega, by omega, by rw [List.length_append, hy] at h7; omega, fun j hj => ?_⟩
  have := h8 (6 + j) (by omega)
  rw [List.getElem?_append_right (by omega), hy] at this
  rw [show off + 6 + j = off + (6 + j) by omega, this]
  congr 1
  omega
theorem At3.tail2' {w : World} {base g off n cap : Nat} {xs ys : List Value} (h : At3 w base (.slice (some ⟨g, off, none⟩) (n + 2) cap) (n + 2) (ys ++ xs)) (hy : ys.length = 6) : At3 w base (.slice (if cap = 2 then some ⟨g, off, none⟩ else some ⟨g, off + 6, none⟩) n (cap - 2)) n xs := by
  have h' := h.tail2 hy
  split
  · rename_i hc
    subst hc
    obtain ⟨g', off', cap', cur, e1, h2, h3, h4, h5, h6, h7, h8⟩ := h'
    simp only [Value.slice.injEq, Option.some.injEq, Addr.mk.injEq] at e1
    obtain ⟨⟨rfl, rfl, _⟩, _, rfl⟩ := e1
    exact ⟨g, off, 2 - 2, cur, rfl, h2, h3, h4, h5, by omega, h7, fun j hj => by omega⟩
  · exact h'
theorem wfin_at {N : Nat} {x : Ex} (h1 : 1 ≤ N) (h2 : N ≤ 40) (h : [sh2 x] = wit (N - 1) (List.replicate N (1, 1))) : size x = 2 * N - 1 ∧ (2 * N - 1 ≤ 32 → dep x ≤ 8) := by
  have := List.all_eq_true.1 wfin N (List.mem_range.2 (by omega))
  rw [← h] at this
  have h3 : (N == 0 || (size x == 2 * N - 1 && (decide (32 < size x) || decide (dep x ≤ 8)))) = true := this
  simp only [Bool.or_eq_true, Bool.and_eq_true, beq_iff_eq, decide_eq_true_eq] at h3
  omega
theorem LE.own {w : World} {v v' : Value} {x : Ex} (h : LE w v x) (e : v'.ownBlock = v.ownBlock) : LE w v' x := ⟨h.in_, h.free, fun g hg => h.off g (e.symm.trans hg), h.low, h.f⟩
theorem e1' {v : Value} {a b : Nat} (h : v.ownBlock = some a) (h' : v.ownBlock = some b) : a = b := Option.some.inj (h.symm.trans h')
set_option maxHeartbeats 4000000 in
set_option maxRecDepth 100000 in
theorem deep_yes {w : World} (hg : Glob w) (n : Int) :
    Calls Tryd.prog 6 #[.int .i64 n, .bool true] w fun r w' => r = .returned (.bool true) ∧ Below w.heap.size w w' := by
  have HG := hide hg
  clear hg
  obtain ⟨N, hN1, hN2, hN⟩ := cut40 n
  go_enter Tryd.func6, Tryd.ntmps6
  go_wp2_with (go_at_call 8; refine (known_any HG.out).mono ?_; rintro r w1 ⟨rfl, hb1⟩; have HB1 := hide hb1; clear hb1)
  (try rw [hN])
  generalize (wrap64 (n.tmod 40 + 40)).tmod 40 = r1 at *
  generalize wrap64 (n.tmod 40 + 40) = r2 at *
  generalize n.tmod 40 = r3 at *
  clear hN
  have HD : Hid (LW w ((w1.alloc (.cells #[.int .i64 4, .int .i64 0, .slice none 0 0] 24)).alloc (.cells #[.int .i64 4, .int .i64 0, .slice none 0 0] 24)) (w1.heap.size + 1) (.slice (some ⟨w1.heap.size + 1, 0, none⟩) 1 1) (List.replicate 1 (leaf 4 0))) := by
    have b1 := below1 w1 (.cells #[.int .i64 4, .int .i64 0, .slice none 0 0] 24)
    have b2 := below1 (w1.alloc (.cells #[.int .i64 4, .int .i64 0, .slice none 0 0] 24)) (.cells #[.int .i64 4, .int .i64 0, .slice none 0 0] 24)
    have b12 := HB1.out.trans (b1.mono HB1.out.size)
    refine ⟨b12.trans (b2.mono b12.size), by have := HB1.out.size; omega, ⟨w1.heap.size + 1, 0, 1, _, rfl, Nat.le_refl _, at_new' _ _ _ (by simp), Nat.le_refl _, by decide, Nat.le_refl _, rfl, fun j hj => ?_⟩, fun x hx => ?_⟩
    · match j, hj with
      | 0, _ => rfl
      | 1, _ => rfl
      | 2, _ => rfl
    · rw [List.eq_of_mem_replicate hx]
      exact ⟨leaf_in (by omega) (by omega) (by omega) (by omega), leaf_free _ _ _, fun _ _ => offB.leaf _ _ _, lowB.leaf _ _ _, Sh.leaf4.f⟩
  have HX : Hid (Bx ((w1.alloc (.cells #[.int .i64 4, .int .i64 0, .slice none 0 0] 24)).alloc (.cells #[.int .i64 4, .int .i64 0, .slice none 0 0] 24)) w1.heap.size (.int .i64 4) (.int .i64 0) (.slice none 0 0)) :=
    (Bx.new w1 _ _ _).below (below1 _ _)
  generalize w1.heap.size = B at *
  go_loopw [7] (fun v wx => ∃ (k : Nat), 1 ≤ k ∧ k ≤ N ∧ Hid (LW w wx (B + 1) v (List.replicate k (leaf 4 0))) ∧ Hid (Bx wx B (.int .i64 4) (.int .i64 0) (.slice none 0 0))) (fun v _ => N - (match v with | .slice _ m _ => m | _ => 0))
  case atStart => exact ⟨1, Nat.le_refl _, hN1, HD, HX⟩
  case round =>
    clear HD HX
    obtain ⟨k, hk1, hkN, HD, HX⟩ := hrel
    obtain ⟨g, off, cap, e1, hc1, hc2⟩ := HD.out.at_.shape
    rw [List.length_replicate] at e1 hc1
    subst e1
    obtain ⟨c0, c1, c2⟩ := HX.out.cells
    by_cases hlt : k < N
    · have hbz := below1 wr (.cells #[.int .i64 4, .int .i64 0, .slice none 0 0] 24)
      have HX2 := hide (HX.out.below hbz)
      have HA := hide (HD.out.at_.below hbz)
      have HBE := hide (HD.out.bel.trans (hbz.mono HD.out.bel.size))
      have HAL : Hid (∀ x ∈ List.replicate k (leaf 4 0) ++ [leaf 4 0], LE (wr.alloc (.cells #[.int .i64 4, .int .i64 0, .slice none 0 0] 24)) (.slice (some ⟨g, off, none⟩) k cap) x) := fun x hx => by
        have : x = leaf 4 0 := by
          rcases List.mem_append.1 hx with h | h
          · exact List.eq_of_mem_replicate h
          · exact List.mem_singleton.1 h
        rw [this]
        exact ⟨leaf_in (by omega) (by omega) (by omega) (by omega), leaf_free _ _ _, fun _ _ => offB.leaf _ _ _, lowB.leaf _ _ _, Sh.leaf4.f⟩
      have hBl := HX.out.lt
      clear hbz
      go_wp2_with (first | (at_builtin; refine stop_here ?_) | fail)
      unfold Hid
      refine wpList_plain rfl fun K hK => wp_app_at (v := .slice (some ⟨g, off, none⟩) k cap) _ _ rfl rfl HA.out ⟨wr.heap.size, 0, none⟩ 1 (leaf 4 0).cs rfl rfl (new_cs wr (leaf 4 0)) (fun u hu => by simp [Ex.cs] at hu; rcases hu with rfl | rfl | rfl <;> rfl) (by simp; omega) (by simp; omega) ?_
      intro v' w' q1 q2 q3 _
      refine hK _ _ ?_
      clear hK K
      have HN := hide (LW.push HBE.out HD.out.base0 HA.out (by simpa using q1) q2 q3 HAL.out)
      have HX3 : Hid (Bx w' B (.int .i64 4) (.int .i64 0) (.slice none 0 0)) := by
        obtain ⟨g', e1, e2, _⟩ := HA.out.own
        exact (q2.block B HX2.out.lt (by rw [e1]; intro e; cases e; omega)).trans HX2.out
      obtain ⟨g', off', cap', e1, _, _⟩ := HN.out.at_.shape
      rw [List.length_append, List.length_replicate, List.length_singleton] at e1
      clear q1 q2 q3
      subst e1
      go_wp2_with fail
      go_roundw
      case rel => exact ⟨k + 1, by omega, by omega, by rw [List.replicate_succ']; exact HN, HX3⟩
      case measure => simp; omega
    · have hkN' : k = N := by omega
      subst hkN'
      go_wp2_with fail
      clear c0 c1 c2 HX
      go_loopw [7] (fun v wx => ∃ (j : Nat) (l : List Ex), l.length + j = k ∧ 1 ≤ l.length ∧ Hid (LW w wx (B + 1) v l) ∧ Hid (l.map sh2 = wit j (List.replicate k (1, 1)))) (fun v _ => (match v with | .slice _ m _ => m | _ => 0))
      case atStart => exact ⟨0, List.replicate k (leaf 4 0), by simp, by simp; omega, HD, by show _ = _; rw [List.map_replicate, show sh2 (leaf 4 0) = (1, 1) by simp [sh2, leaf, dep_mk, size_mk]]; rfl⟩
      case round =>
        clear HD
        obtain ⟨j, l, hlj, hl1, HD, HM⟩ := hrel
        obtain ⟨g, off, cap, e1, hc1, hc2⟩ := HD.out.at_.shape
        subst e1
        match l, hlj, hl1, HD, HM, hc1 with
        | [x], hlj, _, HD, HM, hc1 =>
          simp only [List.length_cons, List.length_nil, Nat.zero_add] at hlj hc1 ⊢
          have hj : j = k - 1 := by omega
          subst hj
          have hLE := HD.out.all x (by simp)
          have hfin := wfin_at (N := k) (x := x) hk1 (by omega) HM.out
          have hA := HD.out.at_
          have c0 := hA.cell (j := 0) rfl
          have c1 := hA.cell (j := 1) rfl
          have c2 := hA.cell (j := 2) rfl
          simp only [Nat.add_zero] at c0
          have HCK : Hid (∀ w', Below wr.heap.size wr w' → Calls Tryd.prog 11 #[x.val] w' fun r w'' => r = .returned (.int .i64 (chk x)) ∧ Below w'.heap.size w' w'') := fun w' hw' =>
            check_any x (hLE.in_.below hw') (hLE.free.below hw') (Sh.small ⟨hLE.f, rfl, hfin.1⟩ (by omega))
          have hck := Sh.chk ⟨hLE.f, rfl, hfin.1⟩
          have hBE := hide HD.out.bel
          obtain ⟨xo, xn, xa, xc, xl⟩ := x
          unfold Ex.val at HCK
          simp only at c0 c1 c2 HCK
          clear hA hLE HM HD
          by_cases h8 : 2 * k - 1 ≤ 32
          · have i8 : 2 * (k : Int) - 1 ≤ 32 := by omega
            rw [if_neg (by have := hfin.2 h8; omega)] at hck
            rw [hck] at HCK
            clear hck hfin
            go_wp2_with (go_at_call 11; refine (HCK.out _ (Below.refl _ _)).mono ?_; rintro r w2 ⟨rfl, hb2⟩)
            go_ret
            exact ⟨rfl, hBE.out.trans (hb2.mono hBE.out.size)⟩
          · have i8 : ¬ 2 * (k : Int) - 1 ≤ 32 := by omega
            rw [if_pos (by omega)] at hck
            rw [hck] at HCK
            clear hck hfin
            go_wp2_with (first | (go_at_call 11; refine (HCK.out _ (Below.refl _ _)).mono ?_; rintro r w2 ⟨rfl, hb2⟩; have d0 := (hb2.cell (p := ⟨g, off, none⟩) (cell_lt c0)).trans c0; have d1 := (hb2.cell (p := ⟨g, off + 1, none⟩) (cell_lt c0)).trans c1; have d2 := (hb2.cell (p := ⟨g, off + 2, none⟩) (cell_lt c0)).trans c2; have HB2 := hide hb2; clear hb2) | (go_at_call 11; refine (HCK.out _ HB2.out).mono ?_; rintro r w3 ⟨rfl, hb3⟩))
            go_ret
            refine ⟨?_, hBE.out.trans ((HB2.out.trans (hb3.mono HB2.out.size)).mono hBE.out.size)⟩
            show Ending.returned (.bool (!decide (2 * (k : Int) - 1 ≤ 32))) = _
            rw [decide_eq_false (by omega)]
            rfl
        | x :: y :: r, hlj, _, HD, HM, hc1 =>
          simp only [List.length_cons] at hlj hc1 ⊢
          have hA := HD.out.at_
          have HS : Hid (∀ W, Below wr.heap.size wr W → W.cell? ⟨g, off, none⟩ = some (.int .i64 x.op) ∧ W.cell? ⟨g, off + 1, none⟩ = some (.int .i64 x.n) ∧ W.cell? ⟨g, off + 2, none⟩ = some (.slice x.a x.l.length x.c) ∧ W.cell? ⟨g, off + 3, none⟩ = some (.int .i64 y.op) ∧ W.cell? ⟨g, off + 4, none⟩ = some (.int .i64 y.n) ∧ W.cell? ⟨g, off + 5, none⟩ = some (.slice y.a y.l.length y.c)) := fun W hW => by
            have hA' := hA.below hW
            exact ⟨hA'.cell (j := 0) rfl, hA'.cell (j := 1) rfl, hA'.cell (j := 2) rfl, hA'.cell (j := 3) rfl, hA'.cell (j := 4) rfl, hA'.cell (j := 5) rfl⟩
          clear hA
          go_upto_region 10 with fail
          have a1 : (2 : Int) ≤ (r.length : Int) + 1 + 1 := by omega
          have a2 : (0 : Int) < (r.length : Int) + 1 + 1 := by omega
          have a3 : (1 : Int) < (r.length : Int) + 1 + 1 := by omega
          have hdr : Below wr.heap.size wr wr.drew := (Below.refl _ wr).drew
          have HB0 := hide hdr
          have hHeld := HS.out _ hdr
          clear hdr
          refine wp_region_M (S := fun w' => w'.cell? ⟨g, off, none⟩ = some (.int .i64 x.op) ∧ w'.cell? ⟨g, off + 1, none⟩ = some (.int .i64 x.n) ∧ w'.cell? ⟨g, off + 2, none⟩ = some (.slice x.a x.l.length x.c) ∧ w'.cell? ⟨g, off + 3, none⟩ = some (.int .i64 y.op) ∧ w'.cell? ⟨g, off + 4, none⟩ = some (.int .i64 y.n) ∧ w'.cell? ⟨g, off + 5, none⟩ = some (.slice y.a y.l.length y.c)) (late := [11]) (by kernel_rfl) hHeld (fun hHeld => ?_)
          (try simp only [List.size_toArray, List.length_cons, List.length_nil, Nat.zero_add, Nat.reduceAdd, Array.replicate, List.replicate])
          refine wpAnyM_take (i := 0) (oi := ⟨_, _, _, _, _, _⟩) (v := ?_) rfl (by kernel_rfl) (by kernel_rfl) (by kernel_rfl) (by kernel_rfl) (fun _ _ _ h => h) (Or.inl ⟨by rfl, ?_⟩) hHeld ?_
          rotate_left
          · (intro w' hSw; (try dsimp only at hSw); go_simp; try (with_reducible rfl))
          (try simp only [Act.put, List.setIfInBounds_toArray, List.set_cons_zero, List.set_cons_succ])
          refine wpAnyM_take (i := 1) (oi := ⟨_, _, _, _, _, _⟩) (v := ?_) rfl (by kernel_rfl) (by kernel_rfl) (by kernel_rfl) (by kernel_rfl) (fun _ _ _ h => h) (Or.inl ⟨by rfl, ?_⟩) hHeld ?_
          rotate_left
          · (intro w' hSw; (try dsimp only at hSw); go_simp; try (with_reducible rfl))
          (try simp only [Act.put, List.setIfInBounds_toArray, List.set_cons_zero, List.set_cons_succ])
          refine wpAnyM_take (i := 2) (oi := ⟨_, _, _, _, _, _⟩) (v := ?_) rfl (by kernel_rfl) (by kernel_rfl) (by kernel_rfl) (by kernel_rfl) (fun _ _ _ h => h) (Or.inl ⟨by rfl, ?_⟩) hHeld ?_
          rotate_left
          · (intro w' hSw; (try dsimp only at hSw); go_simp; try (with_reducible rfl))
          (try simp only [Act.put, List.setIfInBounds_toArray, List.set_cons_zero, List.set_cons_succ])
          refine wpAnyM_take (i := 3) (oi := ⟨_, _, _, _, _, _⟩) (v := ?_) rfl (by kernel_rfl) (by kernel_rfl) (by kernel_rfl) (by kernel_rfl) (fun _ _ _ h => h) (Or.inl ⟨by rfl, ?_⟩) hHeld ?_
          rotate_left
          · (intro w' hSw; (try dsimp only at hSw); go_simp; try (with_reducible rfl))
          (try simp only [Act.put, List.setIfInBounds_toArray, List.set_cons_zero, List.set_cons_succ])
          refine wpAnyM_take (i := 4) (oi := ⟨_, _, _, _, _, _⟩) (v := ?_) rfl (by kernel_rfl) (by kernel_rfl) (by kernel_rfl) (by kernel_rfl) (fun _ _ _ h => h) (Or.inl ⟨by rfl, ?_⟩) hHeld ?_
          rotate_left
          · (intro w' hSw; (try dsimp only at hSw); go_simp; try (with_reducible rfl))
          (try simp only [Act.put, List.setIfInBounds_toArray, List.set_cons_zero, List.set_cons_succ])
          refine wpAnyM_take (i := 5) (oi := ⟨_, _, _, _, _, _⟩) (v := ?_) rfl (by kernel_rfl) (by kernel_rfl) (by kernel_rfl) (by kernel_rfl) (fun _ _ _ h => h) (Or.inl ⟨by rfl, ?_⟩) hHeld ?_
          rotate_left
          · (intro w' hSw; (try dsimp only at hSw); go_simp; try (with_reducible rfl))
          (try simp only [Act.put, List.setIfInBounds_toArray, List.set_cons_zero, List.set_cons_succ])
          refine wpAnyM_take (i := 6) (oi := ⟨_, _, _, _, _, _⟩) (v := ?_) rfl (by kernel_rfl) (by kernel_rfl) (by kernel_rfl) (by kernel_rfl) (fun _ _ _ h => h) (Or.inl ⟨by rfl, ?_⟩) hHeld ?_
          rotate_left
          · (intro w' hSw; (try dsimp only at hSw); go_simp; try (with_reducible rfl))
          (try simp only [Act.put, List.setIfInBounds_toArray, List.set_cons_zero, List.set_cons_succ])
          refine wpAnyM_take (i := 7) (oi := ⟨_, _, _, _, _, _⟩) (v := ?_) rfl (by kernel_rfl) (by kernel_rfl) (by kernel_rfl) (by kernel_rfl) (fun _ _ _ h => h) (Or.inl ⟨by rfl, ?_⟩) hHeld ?_
          rotate_left
          · (intro w' hSw; (try dsimp only at hSw); go_simp; try (with_reducible rfl))
          (try simp only [Act.put, List.setIfInBounds_toArray, List.set_cons_zero, List.set_cons_succ])
          clear hHeld
          refine wpAnyM_one (i := 8) (o := ⟨_, _, _, _, _, _⟩) (by kernel_rfl) rfl (fun K hK => ?_)
          go_simp
          go_at_call 17
          have hx := HD.out.all x (by simp)
          have hy := HD.out.all y (by simp)
          have hvx : x.val = .agg #[.int .i64 x.op, .int .i64 x.n, .slice x.a x.l.length x.c] := by obtain ⟨op, n, a, c, l⟩ := x; simp [Ex.val]
          have hvy : y.val = .agg #[.int .i64 y.op, .int .i64 y.n, .slice y.a y.l.length y.c] := by obtain ⟨op, n, a, c, l⟩ := y; simp [Ex.val]
          have htw := two_any 10 x y (by decide) (by decide) (hx.in_.below HB0.out) (hy.in_.below HB0.out)
          rw [hvx, hvy] at htw
          refine htw.mono ?_
          clear htw hvx hvy
          rintro rr w3 ⟨q, rfl, hin, hfr, hgs, hb⟩
          have hb1 : Below wr.heap.size wr w3 := HB0.out.trans (hb.mono HB0.out.size)
          obtain ⟨g0, eg1, eg2, eg3⟩ := HD.out.at_.own
          have hqw := mk2_lt hin
          have hLE3 : LE w3 (.slice (some ⟨g, off, none⟩) (r.length + 1 + 1) cap) (mk2 10 q x y) := by
            refine ⟨hin, hfr (hx.free.below HB0.out) (hy.free.below HB0.out), fun g1 e => ?_, lowB.mk2 hqw (hx.low.mono hb1.size) (hy.low.mono hb1.size), formed_two hx.f hy.f⟩
            have e2 := e1' e eg1
            exact offB.mk2 (by have := HB0.out.size; omega) (hx.off g1 e) (hy.off g1 e)
          have HL3 := hide hLE3
          have HB3 := hide hb1
          refine hK.out _ _ (HS.out _ hb1) (fun hHeld => ?_)
          clear hK K hHeld
          (try simp only [List.setIfInBounds_toArray, List.set_cons_zero, List.set_cons_succ])
          clear hb hb1 hin hgs hfr hLE3 hx hy
          refine wpAnyM_one (i := 9) (o := ⟨_, _, _, _, _, _⟩) (by kernel_rfl) rfl (fun K hK => ?_)
          go_simp
          have hb4 := HB3.out.trans ((below1 w3 (.cells #[.int .i64 10, .int .i64 0, .slice (some ⟨q, 0, none⟩) 2 2] 24)).mono HB3.out.size)
          refine hK.out _ _ (HS.out _ hb4) (fun hHeld => ?_)
          clear hK K hHeld
          (try simp only [List.setIfInBounds_toArray, List.set_cons_zero, List.set_cons_succ])
          have HB4 := hide hb4
          clear hb4
          refine wpAnyM_one (i := 10) (o := ⟨_, _, _, _, _, _⟩) (by kernel_rfl) rfl (fun K hK => ?_)
          rw [if_pos (by kernel_rfl)]
          have hfl : (x :: y :: r).flatMap Ex.cs = (x.cs ++ y.cs) ++ r.flatMap Ex.cs := by simp [List.flatMap_cons]
          have hA0 := HD.out.at_.below HB4.out
          rw [hfl] at hA0
          have hA1 := At3.tail2' (n := r.length) hA0 rfl
          have HA := hide hA1
          have hob : (Value.slice (if cap = 2 then some ⟨g, off, none⟩ else some ⟨g, off + 6, none⟩) r.length (cap - 2)).ownBlock = (Value.slice (some ⟨g, off, none⟩) (r.length + 1 + 1) cap).ownBlock := by
            by_cases hc : cap = 2
            · simp [hc, Value.ownBlock]
            · simp [hc, Value.ownBlock]
          have HAL : Hid (∀ z ∈ r ++ [mk2 10 q x y], LE (w3.alloc (.cells #[.int .i64 10, .int .i64 0, .slice (some ⟨q, 0, none⟩) 2 2] 24)) (.slice (if cap = 2 then some ⟨g, off, none⟩ else some ⟨g, off + 6, none⟩) r.length (cap - 2)) z) := fun z hz => by
            rcases List.mem_append.1 hz with h | h
            · exact ((HD.out.all z (by simp [h])).below HB4.out).own hob
            · rw [List.mem_singleton.1 h]
              exact (HL3.out.below (below1 _ _)).own hob
          have hbs := HB4.out.size
          have hBw : B + 1 ≤ (w3.alloc (.cells #[.int .i64 10, .int .i64 0, .slice (some ⟨q, 0, none⟩) 2 2] 24)).heap.size := by omega
          clear hfl hA0 hA1 hob
          refine wp_app_at (v := .slice (if cap = 2 then some ⟨g, off, none⟩ else some ⟨g, off + 6, none⟩) r.length (cap - 2)) _ _ rfl rfl HA.out ⟨w3.heap.size, 0, none⟩ 1 (mk2 10 q x y).cs rfl rfl (new_cs w3 (mk2 10 q x y)) (fun u hu => by simp [Ex.cs] at hu; rcases hu with rfl | rfl | rfl <;> rfl) (by omega) hBw ?_
          intro v' w' q1 q2 q3 q4
          have hcell : ∀ j, j < 6 → w'.cell? ⟨g, off + j, none⟩ = (w3.alloc (.cells #[.int .i64 10, .int .i64 0, .slice (some ⟨q, 0, none⟩) 2 2] 24)).cell? ⟨g, off + j, none⟩ := fun j hj => by
            by_cases hc : cap = 2
            · exact q4 g off 0 (by simp [hc]) _ (.inr (Nat.zero_le _))
            · exact q4 g (off + 6) (cap - 2) (by simp [hc]) _ (.inl (by omega))
          obtain ⟨s0, s1, s2, s3, s4, s5⟩ := HS.out _ HB4.out
          refine hK.out _ _ ⟨(hcell 0 (by omega)).trans s0, (hcell 1 (by omega)).trans s1, (hcell 2 (by omega)).trans s2, (hcell 3 (by omega)).trans s3, (hcell 4 (by omega)).trans s4, (hcell 5 (by omega)).trans s5⟩ (fun hHeld => ?_)
          have HN := hide (LW.push (HD.out.bel.trans (HB4.out.mono HD.out.bel.size)) HD.out.base0 HA.out q1 q2 q3 HAL.out)
          have HM2 : Hid ((r ++ [mk2 10 q x y]).map sh2 = wit (j + 1) (List.replicate k (1, 1))) := by
            show _ = wst (wit j (List.replicate k (1, 1)))
            rw [← HM.out, List.map_append, List.map_cons, List.map_cons, List.map_cons, List.map_nil, sh2_two]
            rfl
          obtain ⟨g', off', cap', e1, _, _⟩ := HN.out.at_.shape
          rw [List.length_append, List.length_singleton] at e1
          clear hK K hHeld q1 q2 q3 q4 hcell s0 s1 s2 s3 s4 s5
          subst e1
          (try simp only [List.setIfInBounds_toArray, List.set_cons_zero, List.set_cons_succ])
          refine wpAnyM_last (i := 11) (o := ⟨_, _, _, _, _, _⟩) (by kernel_rfl) (by rfl) rfl (fun K hK => ?_)
          go_simp
          refine hK.out _ _ ?_
          clear hK K
          (try simp only [List.setIfInBounds_toArray, List.set_cons_zero, List.set_cons_succ])
          refine wpAnyM_done (by kernel_rfl) ?_ _
          go_wp2_with fail
          go_roundw
          case rel => exact ⟨j + 1, r ++ [mk2 10 q x y], by simp; omega, by simp, HN, HM2⟩
          case measure => simp
end Go.Proofs.YtjdefmjcnpgjiaaDoor
