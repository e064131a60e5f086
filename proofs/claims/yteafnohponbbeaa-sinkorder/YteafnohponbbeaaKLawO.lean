/-
  SinkOrder.
-/
import Derived.Test.YteafnohponbbeaaKOrdO
import Derived.Test.YteafnohponbbeaaKOpen
import Derived.Test.YteafnohponbbeaaKLawG
import Derived.Test.YteafnohponbbeaaKLawR
namespace Go.Proofs.Yteafnohponbbeaa
open Go.RowKit

set_option maxHeartbeats 4000000 in
set_option maxRecDepth 100000 in
theorem SinkOrder_walk {w : World} {ao bo : Option Addr} {ac bc : Nat} {ps cs : List Nat} (hl : LSeg 1 u8cs w.heap.size w (.slice ao ps.length ac) ps) (hl2 : LSeg 1 u8cs w.heap.size w (.slice bo cs.length bc) cs) (hb8 : ∀ x ∈ ps, x < 256) (hc8 : ∀ x ∈ cs, x < 256) :
    Calls Try.prog 7 #[.slice ao ps.length ac, .slice bo cs.length bc] w fun e w' => e = .returned (.bool true) ∧ Below w.heap.size w w' := by
  have HL := hide hl
  have HL2 := hide hl2
  have HB8 := hide hb8
  have HC8 := hide hc8
  have HKN := hide (known_any w)
  clear hl hl2 hb8 hc8
  by_cases h60 : 60 < ps.length
  · have b60 : (60 : Int) < (ps.length : Int) := by omega
    go_enter Try.func7, Try.ntmps7
    go_wp2_with (first | (go_at_call 8; refine HKN.out.mono ?_; rintro e w1 ⟨rfl, b1⟩; have B1 := hide b1; clear b1) | fail)
    go_ret
    exact ⟨rfl, B1.out⟩
  · have b60 : ¬ (60 : Int) < (ps.length : Int) := by omega
    by_cases h61 : 60 < cs.length
    · have b61 : (60 : Int) < (cs.length : Int) := by omega
      go_enter Try.func7, Try.ntmps7
      go_wp2_with (first | (go_at_call 8; refine HKN.out.mono ?_; rintro e w1 ⟨rfl, b1⟩; have B1 := hide b1; clear b1) | fail)
      go_ret
      exact ⟨rfl, B1.out⟩
    · have b61 : ¬ (60 : Int) < (cs.length : Int) := by omega
      go_enter Try.func7, Try.ntmps7
      go_wp2_with (first | (go_at_call 8; refine HKN.out.mono ?_; rintro e w1 ⟨rfl, b1⟩; have B1 := hide b1; clear b1) | (go_at_call 10; refine (KW.new _).mono ?_; rintro e w3 ⟨la, rfl, k1⟩; have G0 := hide (GO.start B1.out k1); clear k1) | fail)
      clear HKN B1
      clear b60 b61
      have HP6 : Hid (ps.length ≤ 60) := (show _ ≤ _ by omega)
      have D0 := hide Od.start
      go_loopg [8, 9, 10, 11, 12, 13] (ps.length + 1) (fun gh wv iv pv xv qv nv wr => ∃ (i : Nat) (o : List (List Rc)) (S : Int → List Rc) (C : Int → Nat) (va vb : Array Value) (R : List Rw), iv = .int .i64 (i : Int) ∧ i ≤ ps.length ∧ ps.length + 1 ≤ gh + i ∧ Hid (R[3]? = some (wv, o.flatten)) ∧ Hid (Od i S C va vb R) ∧ Hid (GO w wr la (odF S C) o (3 * i) w3.heap.size va (w3.heap.size + 1) vb R))
      case atStart => exact ⟨0, [], fun _ => [], fun _ => 0, _, _, _, rfl, by omega, by omega, (show _ = _ from rfl), D0, G0⟩
      case round =>
        clear G0 D0
        obtain ⟨i, o, S, C, va, vb, R, rfl, hi, hg, HR3, HD, HG⟩ := hrel
        obtain ⟨go, rfl⟩ : ∃ go, gk = go + 1 := ⟨gk - 1, by omega⟩
        have hp60 := HP6.out
        by_cases hlt : i < ps.length
        · have bt : (i : Int) < (ps.length : Int) := by omega
          obtain ⟨b, hbb⟩ := get_of_lt hlt
          obtain ⟨nb, no, rfl, _, _, d⟩ := (HL.out.below HG.out.world).readAt hbb
          have e0 : wr.cell? ⟨nb, no + i, none⟩ = some (.int .u8 (b : Int)) := by have := d 0 _ rfl; simpa using this
          have hb8 := HB8.out b (List.mem_of_getElem? hbb)
          have htm : Int.tmod (b : Int) 3 = ((b % 3 : Nat) : Int) := rfl
          obtain ⟨p, hp⟩ : ∃ p, b % 3 = p := ⟨_, rfl⟩
          rw [hp] at htm
          have hp3 : p < 3 := by omega
          have hp0i : (0 : Int) ≤ (p : Int) := by omega
          have hp3i : (p : Int) < 3 := by omega
          clear d hp hbb
          obtain ⟨v, hv1, hv2⟩ := HD.out.pt p hp3
          obtain ⟨sa, sc, hsv⟩ := (HG.out.rowAt hv2).shape
          have hsl := (HD.out.le p hp3)
          obtain ⟨sl, hse⟩ : ∃ sl, (S (p : Int)).length = sl := ⟨_, rfl⟩
          rw [hse] at hsv hsl
          dsimp only at hsv
          subst hsv
          obtain ⟨s1, hs1⟩ : ∃ s1, sl + 1 = s1 := ⟨_, rfl⟩
          have he1 : (sl : Int) + 1 = (s1 : Int) := by omega
          have c1 : wr.cell? ⟨w3.heap.size, p, none⟩ = some (.slice sa sl sc) := by rw [HG.out.boxA.cellAt]; exact hv1
          have HSE := hide hse
          have HV1 := hide hv1
          have HV2 := hide hv2
          have hsl2 := hsl.2
          have fr1 := HG.out.boxA.free
          have HLE := hide hsl
          clear hv1 hv2 hse hsl
          have HX := hide (HG.out.fresh (below_box wr (.cells #[.int .i64 (p : Int), .int .i64 (s1 : Int), .int .i64 (i : Int)] 39)) (own_box (base := wr.heap.size) (⟨(p : Int), (s1 : Int), (i : Int)⟩ : Rc) (BoxT.new 39 wr #[.int .i64 (p : Int), .int .i64 (s1 : Int), .int .i64 (i : Int)]) (Nat.le_refl _)))
          have HXd := hide (HX.out.below (Below.refl _ _).drew)
          have HRL : Hid ((R ++ [((Value.slice (some ⟨wr.heap.size, 0, none⟩) 1 1 : Value), [(⟨(p : Int), (s1 : Int), (i : Int)⟩ : Rc)])])[4]? = some ((Value.slice (some ⟨wr.heap.size, 0, none⟩) 1 1 : Value), [(⟨(p : Int), (s1 : Int), (i : Int)⟩ : Rc)])) := (show _ = _ by
            rw [← HD.out.len]; exact List.getElem?_concat_length)
          have HRP : Hid ((R ++ [((Value.slice (some ⟨wr.heap.size, 0, none⟩) 1 1 : Value), [(⟨(p : Int), (s1 : Int), (i : Int)⟩ : Rc)])])[p]? = some (.slice sa sl sc, S (p : Int))) := (show _ = _ by
            rw [List.getElem?_append_left (lt_of_get HV2.out)]; exact HV2.out)
          have KC : Hid (∀ (w' : World) (f' : Int → PS) (o' : List (List Rc)) (W' : Nat) (R' : List Rw), GO w w' la f' o' W' w3.heap.size va (w3.heap.size + 1) vb R' → R'[4]? = some ((Value.slice (some ⟨wr.heap.size, 0, none⟩) 1 1 : Value), [(⟨(p : Int), (s1 : Int), (i : Int)⟩ : Rc)]) → (w'.cell? ⟨w3.heap.size, p, none⟩ = some (.slice sa sl sc) ∧ w'.cell? ⟨wr.heap.size, 0, none⟩ = some (.int .i64 (p : Int)) ∧ w'.cell? ⟨wr.heap.size, 1, none⟩ = some (.int .i64 (s1 : Int)) ∧ w'.cell? ⟨wr.heap.size, 2, none⟩ = some (.int .i64 (i : Int)))) := fun w' f' o' W' R' h h2 =>
            ⟨by rw [h.boxA.cellAt]; exact HV1.out, box_own (h.rowAt h2)⟩
          have HST : Hid (stE (odF S C) (p : Int) s1 = 0 ∧ stF (odF S C) (p : Int) s1 [(⟨(p : Int), (s1 : Int), (i : Int)⟩ : Rc), (⟨(p : Int), (s1 : Int), (i : Int)⟩ : Rc)] = odF (updR S (p : Int) (S (p : Int) ++ [(⟨(p : Int), (s1 : Int), (i : Int)⟩ : Rc)])) C) := (show _ ∧ _ by
            have h9 := odF_stage (S := S) (C := C) (p := (p : Int)) (by have := HD.out.le p hp3; omega) (⟨(p : Int), (s1 : Int), (i : Int)⟩ : Rc)
            rw [HSE.out, hs1] at h9
            exact h9)
          have hin : In64 (p : Int) := by unfold In64; omega
          have hW5 : 3 * i ≤ 500000 := by omega
          have hs61 : s1 ≤ 61 := by omega
          have HS1 := hide hs1
          have HWR := hide (wrap2 (s1 := s1) (by omega))
          clear hs1
          go_upto_region 14 with fail
          clear c1 fr1 e0
          refine wp_region_M (S := fun w' => w'.cell? ⟨w3.heap.size, p, none⟩ = some (.slice sa sl sc) ∧ w'.cell? ⟨wr.heap.size, 0, none⟩ = some (.int .i64 (p : Int)) ∧ w'.cell? ⟨wr.heap.size, 1, none⟩ = some (.int .i64 (s1 : Int)) ∧ w'.cell? ⟨wr.heap.size, 2, none⟩ = some (.int .i64 (i : Int))) (late := []) (by kernel_rfl) (KC.out _ _ _ _ _ HXd.out HRL.out) (fun hHeld => ?_)
          (try simp only [List.size_toArray, List.length_cons, List.length_nil, Nat.zero_add, Nat.reduceAdd, Array.replicate, List.replicate])
          refine wpAnyM_take (i := 0) (oi := ⟨_, _, _, _, _, _⟩) (v := ?_) rfl (by kernel_rfl) (by kernel_rfl) (by kernel_rfl) (by kernel_rfl) (fun _ _ _ h => h) (Or.inl ⟨by rfl, ?_⟩) hHeld ?_
          rotate_left
          · (intro w' hSw; (try dsimp only at hSw); go_simp; try (with_reducible rfl))
          (try simp only [Act.put, List.setIfInBounds_toArray, List.set_cons_zero, List.set_cons_succ])
          refine wpAnyM_take (i := 1) (oi := ⟨_, _, _, _, _, _⟩) (v := ?_) rfl (by kernel_rfl) (by kernel_rfl) (by kernel_rfl) (by kernel_rfl) (fun _ _ _ h => h) (Or.inl ⟨by rfl, ?_⟩) hHeld ?_
          rotate_left
          · (intro w' hSw; (try dsimp only at hSw); go_simp; try (with_reducible rfl))
          (try simp only [Act.put, List.setIfInBounds_toArray, List.set_cons_zero, List.set_cons_succ])
          refine wpAnyM_take (i := 2) (oi := ⟨_, _, _, _, _, _⟩) (v := ?_) rfl (by kernel_rfl) (by kernel_rfl) (by kernel_rfl) (by kernel_rfl) (fun _ _ _ h => h) (Or.inl ⟨by rfl, ?_⟩) hHeld ?_
          rotate_left
          · (intro w' hSw; (try dsimp only at hSw); go_simp; try (with_reducible rfl))
          (try simp only [Act.put, List.setIfInBounds_toArray, List.set_cons_zero, List.set_cons_succ])
          refine wpAnyM_take (i := 3) (oi := ⟨_, _, _, _, _, _⟩) (v := ?_) rfl (by kernel_rfl) (by kernel_rfl) (by kernel_rfl) (by kernel_rfl) (fun _ _ _ h => h) (Or.inl ⟨by rfl, ?_⟩) hHeld ?_
          rotate_left
          · (intro w' hSw; (try dsimp only at hSw); go_simp; try (with_reducible rfl))
          (try simp only [Act.put, List.setIfInBounds_toArray, List.set_cons_zero, List.set_cons_succ])
          refine wpAnyM_take (i := 4) (oi := ⟨_, _, _, _, _, _⟩) (v := ?_) rfl (by kernel_rfl) (by kernel_rfl) (by kernel_rfl) (by kernel_rfl) (fun _ _ _ h => h) (Or.inl ⟨by rfl, ?_⟩) hHeld ?_
          rotate_left
          · (intro w' hSw; (try dsimp only at hSw); go_simp; try (with_reducible rfl))
          (try simp only [Act.put, List.setIfInBounds_toArray, List.set_cons_zero, List.set_cons_succ])
          refine wpAnyM_take (i := 5) (oi := ⟨_, _, _, _, _, _⟩) (v := ?_) rfl (by kernel_rfl) (by kernel_rfl) (by kernel_rfl) (by kernel_rfl) (fun _ _ _ h => h) (Or.inl ⟨by rfl, ?_⟩) hHeld ?_
          rotate_left
          · (intro w' hSw; (try dsimp only at hSw); go_simp; try (with_reducible rfl))
          (try simp only [Act.put, List.setIfInBounds_toArray, List.set_cons_zero, List.set_cons_succ])
          refine wpAnyM_take (i := 6) (oi := ⟨_, _, _, _, _, _⟩) (v := ?_) rfl (by kernel_rfl) (by kernel_rfl) (by kernel_rfl) (by kernel_rfl) (fun _ _ _ h => h) (Or.inl ⟨by rfl, ?_⟩) hHeld ?_
          rotate_left
          · (intro w' hSw; (try dsimp only at hSw); go_simp; try (with_reducible rfl))
          (try simp only [Act.put, List.setIfInBounds_toArray, List.set_cons_zero, List.set_cons_succ])
          refine wpAnyM_take (i := 7) (oi := ⟨_, _, _, _, _, _⟩) (v := ?_) rfl (by kernel_rfl) (by kernel_rfl) (by kernel_rfl) (by kernel_rfl) (fun _ _ _ h => h) (Or.inl ⟨by rfl, ?_⟩) hHeld ?_
          rotate_left
          · (intro w' hSw; (try dsimp only at hSw); go_simp; try (with_reducible rfl))
          (try simp only [Act.put, List.setIfInBounds_toArray, List.set_cons_zero, List.set_cons_succ])
          refine wpAnyM_take (i := 8) (oi := ⟨_, _, _, _, _, _⟩) (v := ?_) rfl (by kernel_rfl) (by kernel_rfl) (by kernel_rfl) (by kernel_rfl) (fun _ _ _ h => h) (Or.inl ⟨by rfl, ?_⟩) hHeld ?_
          rotate_left
          · (intro w' hSw; (try dsimp only at hSw); go_simp; try (with_reducible rfl))
          (try simp only [Act.put, List.setIfInBounds_toArray, List.set_cons_zero, List.set_cons_succ])
          refine wpAnyM_take (i := 9) (oi := ⟨_, _, _, _, _, _⟩) (v := ?_) rfl (by kernel_rfl) (by kernel_rfl) (by kernel_rfl) (by kernel_rfl) (fun _ _ _ h => h) (Or.inl ⟨by rfl, ?_⟩) hHeld ?_
          rotate_left
          · (intro w' hSw; (try dsimp only at hSw); go_simp; try (with_reducible rfl))
          (try simp only [Act.put, List.setIfInBounds_toArray, List.set_cons_zero, List.set_cons_succ])
          refine wpAnyM_one (i := 10) (o := ⟨_, _, _, _, _, _⟩) (by kernel_rfl) rfl (fun K hK => ?_)
          go_simp
          have HX2 := hide ((HX.out.below (below_box _ (.cells #[.int .i64 (p : Int), .int .i64 (s1 : Int), .int .i64 (i : Int), .int .i64 (p : Int), .int .i64 (s1 : Int), .int .i64 (i : Int)] 39))).below (Below.refl _ _).drew)
          refine hK.out _ _ (KC.out _ _ _ _ _ HX2.out HRL.out) (fun hHeld => ?_)
          clear hK K
          (try simp only [List.setIfInBounds_toArray, List.set_cons_zero, List.set_cons_succ])
          have HSG := hide (seg_rr (n := wr.heap.size + 1) (B := ((wr.alloc (.cells #[.int .i64 (p : Int), .int .i64 (s1 : Int), .int .i64 (i : Int)] 39)).alloc (.cells #[.int .i64 (p : Int), .int .i64 (s1 : Int), .int .i64 (i : Int), .int .i64 (p : Int), .int .i64 (s1 : Int), .int .i64 (i : Int)] 39)).drew.heap.size) (⟨(p : Int), (s1 : Int), (i : Int)⟩ : Rc) (BoxT.drew (BoxT.new_at (t := 39) (w := (wr.alloc (.cells #[.int .i64 (p : Int), .int .i64 (s1 : Int), .int .i64 (i : Int)] 39))) (cs := #[.int .i64 (p : Int), .int .i64 (s1 : Int), .int .i64 (i : Int), .int .i64 (p : Int), .int .i64 (s1 : Int), .int .i64 (i : Int)]) (by simp))) (by simp) 2)
          refine wpAnyM_one (i := 11) (o := ⟨_, _, _, _, _, _⟩) (by kernel_rfl) rfl (fun K hK => ?_)
          go_simp
          go_at_call 11
          rw [HWR.out]
          refine (HX2.out.stage hW5 hin s1 HSG.out (Nat.le_refl _) (by simp)).mono ?_
          rintro e w5 ⟨he, k5⟩
          rw [HST.out.1] at he
          subst he
          rw [HST.out.2] at k5
          have HG5 := hide k5
          clear k5
          refine hK.out _ _ (KC.out _ _ _ _ _ HG5.out HRL.out) (fun hHeld => ?_)
          clear hK K
          (try simp only [List.setIfInBounds_toArray, List.set_cons_zero, List.set_cons_succ])
          refine wpAnyM_take (i := 12) (oi := ⟨_, _, _, _, _, _⟩) (v := ?_) rfl (by kernel_rfl) (by kernel_rfl) (by kernel_rfl) (by kernel_rfl) (fun _ _ _ h => h) (Or.inl ⟨by rfl, ?_⟩) hHeld ?_
          rotate_left
          · (intro w' hSw; (try dsimp only at hSw); go_simp; try (with_reducible rfl))
          (try simp only [Act.put, List.setIfInBounds_toArray, List.set_cons_zero, List.set_cons_succ])
          refine wpAnyM_done (by kernel_rfl) ?_ _
          clear HX HXd HX2 HSG hHeld HG HST
          go_upto_region 16 with fail
          have HY := hide (HG5.out.below (Below.refl _ _).drew)
          refine wp_region_M (S := fun w' => w'.cell? ⟨w3.heap.size, p, none⟩ = some (.slice sa sl sc) ∧ w'.cell? ⟨wr.heap.size, 0, none⟩ = some (.int .i64 (p : Int)) ∧ w'.cell? ⟨wr.heap.size, 1, none⟩ = some (.int .i64 (s1 : Int)) ∧ w'.cell? ⟨wr.heap.size, 2, none⟩ = some (.int .i64 (i : Int))) (late := [8]) (by kernel_rfl) (KC.out _ _ _ _ _ HY.out HRL.out) (fun hHeld => ?_)
          (try simp only [List.size_toArray, List.length_cons, List.length_nil, Nat.zero_add, Nat.reduceAdd, Array.replicate, List.replicate])
          refine wpAnyM_take (i := 0) (oi := ⟨_, _, _, _, _, _⟩) (v := ?_) rfl (by kernel_rfl) (by kernel_rfl) (by kernel_rfl) (by kernel_rfl) (fun _ _ _ h => h) (Or.inl ⟨by rfl, ?_⟩) hHeld ?_
          rotate_left
          · (intro w' hSw; (try dsimp only at hSw); go_simp; try (with_reducible rfl))
          (try simp only [Act.put, List.setIfInBounds_toArray, List.set_cons_zero, List.set_cons_succ])
          refine wpAnyM_take (i := 1) (oi := ⟨_, _, _, _, _, _⟩) (v := ?_) rfl (by kernel_rfl) (by kernel_rfl) (by kernel_rfl) (by kernel_rfl) (fun _ _ _ h => h) (Or.inl ⟨by rfl, ?_⟩) hHeld ?_
          rotate_left
          · (intro w' hSw; (try dsimp only at hSw); go_simp; try (with_reducible rfl))
          (try simp only [Act.put, List.setIfInBounds_toArray, List.set_cons_zero, List.set_cons_succ])
          refine wpAnyM_take (i := 2) (oi := ⟨_, _, _, _, _, _⟩) (v := ?_) rfl (by kernel_rfl) (by kernel_rfl) (by kernel_rfl) (by kernel_rfl) (fun _ _ _ h => h) (Or.inl ⟨by rfl, ?_⟩) hHeld ?_
          rotate_left
          · (intro w' hSw; (try dsimp only at hSw); go_simp; try (with_reducible rfl))
          (try simp only [Act.put, List.setIfInBounds_toArray, List.set_cons_zero, List.set_cons_succ])
          refine wpAnyM_take (i := 3) (oi := ⟨_, _, _, _, _, _⟩) (v := ?_) rfl (by kernel_rfl) (by kernel_rfl) (by kernel_rfl) (by kernel_rfl) (fun _ _ _ h => h) (Or.inl ⟨by rfl, ?_⟩) hHeld ?_
          rotate_left
          · (intro w' hSw; (try dsimp only at hSw); go_simp; try (with_reducible rfl))
          (try simp only [Act.put, List.setIfInBounds_toArray, List.set_cons_zero, List.set_cons_succ])
          refine wpAnyM_take (i := 4) (oi := ⟨_, _, _, _, _, _⟩) (v := ?_) rfl (by kernel_rfl) (by kernel_rfl) (by kernel_rfl) (by kernel_rfl) (fun _ _ _ h => h) (Or.inl ⟨by rfl, ?_⟩) hHeld ?_
          rotate_left
          · (intro w' hSw; (try dsimp only at hSw); go_simp; try (with_reducible rfl))
          (try simp only [Act.put, List.setIfInBounds_toArray, List.set_cons_zero, List.set_cons_succ])
          refine wpAnyM_one (i := 5) (o := ⟨_, _, _, _, _, _⟩) (by kernel_rfl) rfl (fun K hK => ?_)
          go_simp
          have HY2 := hide ((HG5.out.below (below_box _ (.cells #[.int .i64 (p : Int), .int .i64 (s1 : Int), .int .i64 (i : Int)] 39))).below (Below.refl _ _).drew)
          refine hK.out _ _ (KC.out _ _ _ _ _ HY2.out HRL.out) (fun hHeld => ?_)
          clear hK K
          (try simp only [List.setIfInBounds_toArray, List.set_cons_zero, List.set_cons_succ])
          have HSG := hide (seg_one (cs := Rc.cs) (sz := 3) (n := w5.heap.size) (B := (w5.alloc (.cells #[.int .i64 (p : Int), .int .i64 (s1 : Int), .int .i64 (i : Int)] 39)).drew.heap.size) (⟨(p : Int), (s1 : Int), (i : Int)⟩ : Rc) (BoxT.drew (BoxT.new_at (t := 39) (w := w5) (cs := #[.int .i64 (p : Int), .int .i64 (s1 : Int), .int .i64 (i : Int)]) rfl)) (by simp) (fun j u hu => by simpa [Rc.cs] using hu) 1)
          refine wpAnyM_one (i := 6) (o := ⟨_, _, _, _, _, _⟩) (by kernel_rfl) rfl (fun K hK => ?_)
          (refine step_L Try.infoRc Try.underlying29 rfl (by decide) (by decide) Rc.cs_len Rc.cs_one rfl _ _ rfl w.heap.size (.slice sa sl sc) (S (p : Int)) rfl (HY2.out.rowAt HRP.out) (w5.alloc (.cells #[.int .i64 (p : Int), .int .i64 (s1 : Int), .int .i64 (i : Int)] 39)).drew.heap.size _ [(⟨(p : Int), (s1 : Int), (i : Int)⟩ : Rc)] rfl HSG.out (by have := HSE.out; have h2 : [(⟨(p : Int), (s1 : Int), (i : Int)⟩ : Rc)].length = 1 := rfl; omega) HY2.out.world.size ?_)
          intro v4 w4 h4 g4 k4
          obtain ⟨qa, qc, hv4⟩ := h4.shape
          rw [List.length_append, HSE.out, show sl + [(⟨(p : Int), (s1 : Int), (i : Int)⟩ : Rc)].length = s1 from HS1.out] at hv4
          subst hv4
          have HY4 := hide (HY2.out.app HRP.out g4 h4 k4)
          have HRL4 : Hid ((((R ++ [((Value.slice (some ⟨wr.heap.size, 0, none⟩) 1 1 : Value), [(⟨(p : Int), (s1 : Int), (i : Int)⟩ : Rc)])]).set p (Value.slice qa s1 qc, S (p : Int) ++ [(⟨(p : Int), (s1 : Int), (i : Int)⟩ : Rc)]))[4]?) = some ((Value.slice (some ⟨wr.heap.size, 0, none⟩) 1 1 : Value), [(⟨(p : Int), (s1 : Int), (i : Int)⟩ : Rc)])) := (show _ = _ by rw [List.getElem?_set_ne (by omega)]; exact HRL.out)
          clear h4 g4 k4
          refine hK.out _ _ (KC.out _ _ _ _ _ HY4.out HRL4.out) (fun hHeld => ?_)
          clear hK K
          (try simp only [List.setIfInBounds_toArray, List.set_cons_zero, List.set_cons_succ])
          refine wpAnyM_take (i := 7) (oi := ⟨_, _, _, _, _, _⟩) (v := ?_) rfl (by kernel_rfl) (by kernel_rfl) (by kernel_rfl) (by kernel_rfl) (fun _ _ _ h => h) (Or.inl ⟨by rfl, ?_⟩) hHeld ?_
          rotate_left
          · (intro w' hSw; (try dsimp only at hSw); go_simp; try (with_reducible rfl))
          (try simp only [Act.put, List.setIfInBounds_toArray, List.set_cons_zero, List.set_cons_succ])
          have fr4 := HY4.out.boxA.free
          refine wpAnyM_last (i := 8) (o := ⟨_, _, _, _, _, _⟩) (by kernel_rfl) (by rfl) rfl (fun K hK => ?_)
          go_simp
          refine hK.out _ _ ?_
          clear hK K
          (try simp only [List.setIfInBounds_toArray, List.set_cons_zero, List.set_cons_succ])
          refine wpAnyM_done (by kernel_rfl) ?_ _
          have HZ : Hid (GO w (w4.setCell ⟨w3.heap.size, p, none⟩ (.slice qa s1 qc)) la (odF (updR S (p : Int) (S (p : Int) ++ [(⟨(p : Int), (s1 : Int), (i : Int)⟩ : Rc)])) C) o (3 * (i + 1)) w3.heap.size (va.setIfInBounds p (.slice qa s1 qc)) (w3.heap.size + 1) vb (R.set p (.slice qa s1 qc, S (p : Int) ++ [(⟨(p : Int), (s1 : Int), (i : Int)⟩ : Rc)]))) := (show GO _ _ _ _ _ _ _ _ _ _ _ from by
            have h := HY4.out.setA p (.slice qa s1 qc)
            rw [List.set_append_left _ _ (lt_of_get HV2.out)] at h
            exact h.drop.up (by show 3 * i + 2 + 1 ≤ _; omega))
          have HD2 := hide (HD.out.grow hp3 (.slice qa s1 qc) (⟨(p : Int), (s1 : Int), (i : Int)⟩ : Rc))
          have HR32 : Hid ((R.set p (.slice qa s1 qc, S (p : Int) ++ [(⟨(p : Int), (s1 : Int), (i : Int)⟩ : Rc)]))[3]? = some (u8, o.flatten)) := (show _ = _ by rw [List.getElem?_set_ne (by omega)]; exact HR3.out)
          clear HY HY2 HY4 HRL4 HRL HRP HSG KC HV1 HV2 HSE HD HR3 HS1 HLE HWR fr4 hHeld
          generalize updR S (p : Int) (S (p : Int) ++ [(⟨(p : Int), (s1 : Int), (i : Int)⟩ : Rc)]) = S1 at *
          generalize va.setIfInBounds p (.slice qa s1 qc) = va1 at *
          generalize R.set p (.slice qa s1 qc, S (p : Int) ++ [(⟨(p : Int), (s1 : Int), (i : Int)⟩ : Rc)]) = R1 at *
          generalize w4.setCell ⟨w3.heap.size, p, none⟩ (.slice qa s1 qc) = w6 at *
          by_cases hcl : i < cs.length
          · have hnl : ¬ (cs.length : Int) ≤ (i : Int) := by omega
            have hnl2 : (i : Int) < (cs.length : Int) := by omega
            obtain ⟨b2, hbb⟩ := get_of_lt hcl
            obtain ⟨nb2, no2, rfl, _, _, d⟩ := (HL2.out.below HZ.out.world).readAt hbb
            have e2 : w6.cell? ⟨nb2, no2 + i, none⟩ = some (.int .u8 (b2 : Int)) := by have := d 0 _ rfl; simpa using this
            have hb28 := HC8.out b2 (List.mem_of_getElem? hbb)
            clear d hbb
            have htm2 : Int.tmod (b2 : Int) 3 = ((b2 % 3 : Nat) : Int) := rfl
            obtain ⟨r2, hr2⟩ : ∃ r2, b2 % 3 = r2 := ⟨_, rfl⟩
            rw [hr2] at htm2
            clear hr2
            by_cases hrz : r2 = 0
            · have hq0 : ((r2 : Int) == 0) = true := by rw [hrz]; rfl
              go_wp2_with fail
              go_roundg go
              case rel => exact ⟨i + 1, o, S1, C, va1, vb, R1, by go_num, by omega, by omega, HR32, HD2, HZ⟩
              case measure => omega
            · have hq0 : ((r2 : Int) == 0) = false := by simp; omega
              have htd3 : Int.tdiv (b2 : Int) 3 = ((b2 / 3 : Nat) : Int) := rfl
              obtain ⟨t3, ht3⟩ : ∃ t3, b2 / 3 = t3 := ⟨_, rfl⟩
              rw [ht3] at htd3
              have htm3 : Int.tmod (t3 : Int) 3 = ((t3 % 3 : Nat) : Int) := rfl
              obtain ⟨q, hq⟩ : ∃ q, t3 % 3 = q := ⟨_, rfl⟩
              rw [hq] at htm3
              have hq3 : q < 3 := by omega
              have hq0i : (0 : Int) ≤ (q : Int) := by omega
              have hq3i : (q : Int) < 3 := by omega
              have htd9 : Int.tdiv (b2 : Int) 9 = ((b2 / 9 : Nat) : Int) := rfl
              obtain ⟨t9, ht9⟩ : ∃ t9, b2 / 9 = t9 := ⟨_, rfl⟩
              rw [ht9] at htd9
              have ht85 : t3 ≤ 85 := by omega
              have ht28 : t9 ≤ 28 := by omega
              clear ht3 ht9 hq hrz
              obtain ⟨v, hv1, hv2⟩ := HD2.out.pt q hq3
              obtain ⟨ta, tc, htv⟩ := (HZ.out.rowAt hv2).shape
              have hcq := HD2.out.le q hq3
              have hbq := HD2.out.bx q hq3
              have HSL : Hid ((S1 (q : Int)).length = (S1 (q : Int)).length) := (show _ = _ from rfl)
              obtain ⟨sl2, hse2⟩ : ∃ sl2, (S1 (q : Int)).length = sl2 := ⟨_, rfl⟩
              obtain ⟨cq, hcqe⟩ : ∃ cq, C (q : Int) = cq := ⟨_, rfl⟩
              rw [hse2] at htv hcq
              rw [hcqe] at hcq hbq
              dsimp only at htv
              subst htv
              have HSE2 := hide hse2
              have HCQ := hide hcqe
              have HV1 := hide hv1
              have HV2 := hide hv2
              have cA : w6.cell? ⟨w3.heap.size, q, none⟩ = some (.slice ta sl2 tc) := by rw [HZ.out.boxA.cellAt]; exact hv1
              have cB : w6.cell? ⟨w3.heap.size + 1, q, none⟩ = some (.int .i64 (cq : Int)) := by rw [HZ.out.boxB.cellAt]; exact hbq
              clear hv1 hv2 hse2 hcqe hbq HSL
              obtain ⟨dd, hdd⟩ : ∃ dd, sl2 - cq + 1 = dd := ⟨_, rfl⟩
              have hd1 : (sl2 : Int) - (cq : Int) + 1 = (dd : Int) := by omega
              have hdz : ¬ (dd : Int) = 0 := by omega
              have hdzn : ¬ dd = 0 := by omega
              have hbm : Int.tmod (t9 : Int) (dd : Int) = ((t9 % dd : Nat) : Int) := rfl
              have htl : t9 % dd < dd := Nat.mod_lt _ (by omega)
              obtain ⟨tt, htt⟩ : ∃ tt, t9 % dd = tt := ⟨_, rfl⟩
              rw [htt] at hbm htl
              obtain ⟨n, hn⟩ : ∃ n, cq + tt = n := ⟨_, rfl⟩
              have hn1 : (cq : Int) + (tt : Int) = (n : Int) := by omega
              have hcn : cq ≤ n := by omega
              have hnl : n ≤ sl2 := by omega
              have hdd61 : dd ≤ 62 := by omega
              have hsl61 : sl2 ≤ 61 := by omega
              have hn60 : n ≤ 61 := by omega
              have hu2 : (sl2 : Int) - (cq : Int) = ((sl2 - cq : Nat) : Int) := by omega
              obtain ⟨u2, hu3⟩ : ∃ u2, sl2 - cq = u2 := ⟨_, rfl⟩
              rw [hu3] at hu2
              have hu4 : (u2 : Int) + 1 = (dd : Int) := by omega
              have W1 := hide (wrap64s (n := b2) (by omega))
              have W2 := hide (wrap64s (n := t9) (by omega))
              have W3 := hide (wrap64s (n := u2) (by omega))
              have W4 := hide (wrap64s (n := dd) (by omega))
              have W5 := hide (wrap64s (n := n) (by omega))
              clear htt hn hdd hu3
              go_upto_region 19 with fail
              refine wp_region_M (S := fun w' => w'.cell? ⟨w3.heap.size, q, none⟩ = some (.slice ta sl2 tc) ∧ w'.cell? ⟨w3.heap.size + 1, q, none⟩ = some (.int .i64 (cq : Int)) ∧ w'.cell? ⟨nb2, no2 + i, none⟩ = some (.int .u8 (b2 : Int))) (late := []) (by kernel_rfl) (⟨cA, cB, e2⟩) (fun hHeld => ?_)
              (try simp only [List.size_toArray, List.length_cons, List.length_nil, Nat.zero_add, Nat.reduceAdd, Array.replicate, List.replicate])
              refine wpAnyM_take (i := 0) (oi := ⟨_, _, _, _, _, _⟩) (v := ?_) rfl (by kernel_rfl) (by kernel_rfl) (by kernel_rfl) (by kernel_rfl) (fun _ _ _ h => h) (Or.inl ⟨by rfl, ?_⟩) hHeld ?_
              rotate_left
              · (intro w' hSw; (try dsimp only at hSw); go_simp; (try simp only [W1.out, htd9, W2.out, hu2, W3.out, hu4, W4.out, hdz, hdzn, if_false, hbm, hn1, W5.out]); try (with_reducible rfl))
              (try simp only [Act.put, List.setIfInBounds_toArray, List.set_cons_zero, List.set_cons_succ])
              refine wpAnyM_take (i := 1) (oi := ⟨_, _, _, _, _, _⟩) (v := ?_) rfl (by kernel_rfl) (by kernel_rfl) (by kernel_rfl) (by kernel_rfl) (fun _ _ _ h => h) (Or.inl ⟨by rfl, ?_⟩) hHeld ?_
              rotate_left
              · (intro w' hSw; (try dsimp only at hSw); go_simp; (try simp only [W1.out, htd9, W2.out, hu2, W3.out, hu4, W4.out, hdz, hdzn, if_false, hbm, hn1, W5.out]); try (with_reducible rfl))
              (try simp only [Act.put, List.setIfInBounds_toArray, List.set_cons_zero, List.set_cons_succ])
              refine wpAnyM_take (i := 2) (oi := ⟨_, _, _, _, _, _⟩) (v := ?_) rfl (by kernel_rfl) (by kernel_rfl) (by kernel_rfl) (by kernel_rfl) (fun _ _ _ h => h) (Or.inl ⟨by rfl, ?_⟩) hHeld ?_
              rotate_left
              · (intro w' hSw; (try dsimp only at hSw); go_simp; (try simp only [W1.out, htd9, W2.out, hu2, W3.out, hu4, W4.out, hdz, hdzn, if_false, hbm, hn1, W5.out]); try (with_reducible rfl))
              (try simp only [Act.put, List.setIfInBounds_toArray, List.set_cons_zero, List.set_cons_succ])
              refine wpAnyM_take (i := 3) (oi := ⟨_, _, _, _, _, _⟩) (v := ?_) rfl (by kernel_rfl) (by kernel_rfl) (by kernel_rfl) (by kernel_rfl) (fun _ _ _ h => h) (Or.inl ⟨by rfl, ?_⟩) hHeld ?_
              rotate_left
              · (intro w' hSw; (try dsimp only at hSw); go_simp; (try simp only [W1.out, htd9, W2.out, hu2, W3.out, hu4, W4.out, hdz, hdzn, if_false, hbm, hn1, W5.out]); try (with_reducible rfl))
              (try simp only [Act.put, List.setIfInBounds_toArray, List.set_cons_zero, List.set_cons_succ])
              refine wpAnyM_take (i := 4) (oi := ⟨_, _, _, _, _, _⟩) (v := ?_) rfl (by kernel_rfl) (by kernel_rfl) (by kernel_rfl) (by kernel_rfl) (fun _ _ _ h => h) (Or.inl ⟨by rfl, ?_⟩) hHeld ?_
              rotate_left
              · (intro w' hSw; (try dsimp only at hSw); go_simp; (try simp only [W1.out, htd9, W2.out, hu2, W3.out, hu4, W4.out, hdz, hdzn, if_false, hbm, hn1, W5.out]); try (with_reducible rfl))
              (try simp only [Act.put, List.setIfInBounds_toArray, List.set_cons_zero, List.set_cons_succ])
              refine wpAnyM_take (i := 5) (oi := ⟨_, _, _, _, _, _⟩) (v := ?_) rfl (by kernel_rfl) (by kernel_rfl) (by kernel_rfl) (by kernel_rfl) (fun _ _ _ h => h) (Or.inl ⟨by rfl, ?_⟩) hHeld ?_
              rotate_left
              · (intro w' hSw; (try dsimp only at hSw); go_simp; (try simp only [W1.out, htd9, W2.out, hu2, W3.out, hu4, W4.out, hdz, hdzn, if_false, hbm, hn1, W5.out]); try (with_reducible rfl))
              (try simp only [Act.put, List.setIfInBounds_toArray, List.set_cons_zero, List.set_cons_succ])
              refine wpAnyM_take (i := 6) (oi := ⟨_, _, _, _, _, _⟩) (v := ?_) rfl (by kernel_rfl) (by kernel_rfl) (by kernel_rfl) (by kernel_rfl) (fun _ _ _ h => h) (Or.inl ⟨by rfl, ?_⟩) hHeld ?_
              rotate_left
              · (intro w' hSw; (try dsimp only at hSw); go_simp; (try simp only [W1.out, htd9, W2.out, hu2, W3.out, hu4, W4.out, hdz, hdzn, if_false, hbm, hn1, W5.out]); try (with_reducible rfl))
              (try simp only [Act.put, List.setIfInBounds_toArray, List.set_cons_zero, List.set_cons_succ])
              refine wpAnyM_take (i := 7) (oi := ⟨_, _, _, _, _, _⟩) (v := ?_) rfl (by kernel_rfl) (by kernel_rfl) (by kernel_rfl) (by kernel_rfl) (fun _ _ _ h => h) (Or.inl ⟨by rfl, ?_⟩) hHeld ?_
              rotate_left
              · (intro w' hSw; (try dsimp only at hSw); go_simp; (try simp only [W1.out]); try (with_reducible rfl))
              (try simp only [Act.put, List.setIfInBounds_toArray, List.set_cons_zero, List.set_cons_succ])
              refine wpAnyM_take (i := 8) (oi := ⟨_, _, _, _, _, _⟩) (v := ?_) rfl (by kernel_rfl) (by kernel_rfl) (by kernel_rfl) (by kernel_rfl) (fun _ _ _ h => h) (Or.inl ⟨by rfl, ?_⟩) hHeld ?_
              rotate_left
              · (intro w' hSw; (try dsimp only at hSw); go_simp; (try simp only [W2.out]); try (with_reducible rfl))
              (try simp only [Act.put, List.setIfInBounds_toArray, List.set_cons_zero, List.set_cons_succ])
              refine wpAnyM_take (i := 9) (oi := ⟨_, _, _, _, _, _⟩) (v := ?_) rfl (by kernel_rfl) (by kernel_rfl) (by kernel_rfl) (by kernel_rfl) (fun _ _ _ h => h) (Or.inl ⟨by rfl, ?_⟩) hHeld ?_
              rotate_left
              · (intro w' hSw; (try dsimp only at hSw); go_simp; (try simp only [W1.out, htd9, W2.out, hu2, W3.out, hu4, W4.out, hdz, hdzn, if_false, hbm, hn1, W5.out]); try (with_reducible rfl))
              (try simp only [Act.put, List.setIfInBounds_toArray, List.set_cons_zero, List.set_cons_succ])
              refine wpAnyM_take (i := 10) (oi := ⟨_, _, _, _, _, _⟩) (v := ?_) rfl (by kernel_rfl) (by kernel_rfl) (by kernel_rfl) (by kernel_rfl) (fun _ _ _ h => h) (Or.inl ⟨by rfl, ?_⟩) hHeld ?_
              rotate_left
              · (intro w' hSw; (try dsimp only at hSw); go_simp; (try simp only [W1.out, htd9, W2.out, hu2, W3.out, hu4, W4.out, hdz, hdzn, if_false, hbm, hn1, W5.out]); try (with_reducible rfl))
              (try simp only [Act.put, List.setIfInBounds_toArray, List.set_cons_zero, List.set_cons_succ])
              refine wpAnyM_take (i := 11) (oi := ⟨_, _, _, _, _, _⟩) (v := ?_) rfl (by kernel_rfl) (by kernel_rfl) (by kernel_rfl) (by kernel_rfl) (fun _ _ _ h => h) (Or.inl ⟨by rfl, ?_⟩) hHeld ?_
              rotate_left
              · (intro w' hSw; (try dsimp only at hSw); go_simp; (try simp only [W1.out, htd9, W2.out, hu2, W3.out, hu4, W4.out, hdz, hdzn, if_false, hbm, hn1, W5.out]); try (with_reducible rfl))
              (try simp only [Act.put, List.setIfInBounds_toArray, List.set_cons_zero, List.set_cons_succ])
              refine wpAnyM_take (i := 12) (oi := ⟨_, _, _, _, _, _⟩) (v := ?_) rfl (by kernel_rfl) (by kernel_rfl) (by kernel_rfl) (by kernel_rfl) (fun _ _ _ h => h) (Or.inl ⟨by rfl, ?_⟩) hHeld ?_
              rotate_left
              · (intro w' hSw; (try dsimp only at hSw); go_simp; (try simp only [W1.out, htd9, W2.out, hu2, W3.out, hu4, W4.out, hdz, hdzn, if_false, hbm, hn1, W5.out]); try (with_reducible rfl))
              (try simp only [Act.put, List.setIfInBounds_toArray, List.set_cons_zero, List.set_cons_succ])
              refine wpAnyM_take (i := 13) (oi := ⟨_, _, _, _, _, _⟩) (v := ?_) rfl (by kernel_rfl) (by kernel_rfl) (by kernel_rfl) (by kernel_rfl) (fun _ _ _ h => h) (Or.inl ⟨by rfl, ?_⟩) hHeld ?_
              rotate_left
              · (intro w' hSw; (try dsimp only at hSw); go_simp; (try simp only [W1.out, htd9, W2.out, hu2, W3.out, hu4, W4.out, hdz, hdzn, if_false, hbm, hn1, W5.out]); try (with_reducible rfl))
              (try simp only [Act.put, List.setIfInBounds_toArray, List.set_cons_zero, List.set_cons_succ])
              refine wpAnyM_take (i := 14) (oi := ⟨_, _, _, _, _, _⟩) (v := ?_) rfl (by kernel_rfl) (by kernel_rfl) (by kernel_rfl) (by kernel_rfl) (fun _ _ _ h => h) (Or.inl ⟨by rfl, ?_⟩) hHeld ?_
              rotate_left
              · (intro w' hSw; (try dsimp only at hSw); go_simp; (try simp only [W1.out, htd9, W2.out, hu2, W3.out, hu4, W4.out, hdz, hdzn, if_false, hbm, hn1, W5.out]); try (with_reducible rfl))
              (try simp only [Act.put, List.setIfInBounds_toArray, List.set_cons_zero, List.set_cons_succ])
              refine wpAnyM_take (i := 15) (oi := ⟨_, _, _, _, _, _⟩) (v := ?_) rfl (by kernel_rfl) (by kernel_rfl) (by kernel_rfl) (by kernel_rfl) (fun _ _ _ h => h) (Or.inl ⟨by rfl, ?_⟩) hHeld ?_
              rotate_left
              · (intro w' hSw; (try dsimp only at hSw); go_simp; (try simp only [W1.out, htd9, W2.out, hu2, W3.out, hu4, W4.out, hdz, hdzn, if_false, hbm, hn1, W5.out]); try (with_reducible rfl))
              (try simp only [Act.put, List.setIfInBounds_toArray, List.set_cons_zero, List.set_cons_succ])
              refine wpAnyM_take (i := 16) (oi := ⟨_, _, _, _, _, _⟩) (v := ?_) rfl (by kernel_rfl) (by kernel_rfl) (by kernel_rfl) (by kernel_rfl) (fun _ _ _ h => h) (Or.inl ⟨by rfl, ?_⟩) hHeld ?_
              rotate_left
              · (intro w' hSw; (try dsimp only at hSw); go_simp; (try simp only [W3.out]); try (with_reducible rfl))
              (try simp only [Act.put, List.setIfInBounds_toArray, List.set_cons_zero, List.set_cons_succ])
              refine wpAnyM_take (i := 17) (oi := ⟨_, _, _, _, _, _⟩) (v := ?_) rfl (by kernel_rfl) (by kernel_rfl) (by kernel_rfl) (by kernel_rfl) (fun _ _ _ h => h) (Or.inl ⟨by rfl, ?_⟩) hHeld ?_
              rotate_left
              · (intro w' hSw; (try dsimp only at hSw); go_simp; (try simp only [W4.out]); try (with_reducible rfl))
              (try simp only [Act.put, List.setIfInBounds_toArray, List.set_cons_zero, List.set_cons_succ])
              refine wpAnyM_take (i := 18) (oi := ⟨_, _, _, _, _, _⟩) (v := ?_) rfl (by kernel_rfl) (by kernel_rfl) (by kernel_rfl) (by kernel_rfl) (fun _ _ _ h => h) (Or.inl ⟨by rfl, ?_⟩) hHeld ?_
              rotate_left
              · (intro w' hSw; (try dsimp only at hSw); go_simp; (try simp only [W1.out, htd9, W2.out, hu2, W3.out, hu4, W4.out, hdz, hdzn, if_false, hbm, hn1, W5.out]); try (with_reducible rfl))
              (try simp only [Act.put, List.setIfInBounds_toArray, List.set_cons_zero, List.set_cons_succ])
              refine wpAnyM_take (i := 19) (oi := ⟨_, _, _, _, _, _⟩) (v := ?_) rfl (by kernel_rfl) (by kernel_rfl) (by kernel_rfl) (by kernel_rfl) (fun _ _ _ h => h) (Or.inl ⟨by rfl, ?_⟩) hHeld ?_
              rotate_left
              · (intro w' hSw; (try dsimp only at hSw); go_simp; (try simp only [W5.out]); try (with_reducible rfl))
              (try simp only [Act.put, List.setIfInBounds_toArray, List.set_cons_zero, List.set_cons_succ])
              refine wpAnyM_take (i := 20) (oi := ⟨_, _, _, _, _, _⟩) (v := ?_) rfl (by kernel_rfl) (by kernel_rfl) (by kernel_rfl) (by kernel_rfl) (fun _ _ _ h => h) (Or.inl ⟨by rfl, ?_⟩) hHeld ?_
              rotate_left
              · (intro w' hSw; (try dsimp only at hSw); go_simp; (try simp only [W1.out, htd9, W2.out, hu2, W3.out, hu4, W4.out, hdz, hdzn, if_false, hbm, hn1, W5.out]); try (with_reducible rfl))
              (try simp only [Act.put, List.setIfInBounds_toArray, List.set_cons_zero, List.set_cons_succ])
              refine wpAnyM_done (by kernel_rfl) ?_ _
              clear hHeld
              clear hbm hn1 htd9 htm3 htd3 htm2 e2 hd1 hu2 hu4 W1 W2 W3 W4 W5 cA cB
              by_cases hn0 : n = 0
              · have hnz : ((n : Int) == 0) = true := by rw [hn0]; rfl
                go_wp2_with fail
                go_roundg go
                case rel => exact ⟨i + 1, o, S1, C, va1, vb, R1, by go_num, by omega, by omega, HR32, HD2, hide (HZ.out.below (Below.refl _ _).drew)⟩
                case measure => omega
              · have hnz : ((n : Int) == 0) = false := by simp; omega
                have HZd := hide (HZ.out.below (Below.refl _ _).drew)
                have hin : In64 (q : Int) := by unfold In64; omega
                have hW6 : 3 * (i + 1) ≤ 500000 := by omega
                have HCM := hide (odF_commit (S := S1) (C := C) (p := (q : Int)) (n := n) (by rw [HCQ.out]; exact hcn) (by rw [HSE2.out]; exact hnl))
                clear hdz hdzn htl
                go_wp2_with (first | (have chk := HZd; clear chk; go_at_call 13; refine (HZd.out.commit hW6 hin n).mono ?_; rintro e w7 ⟨he, k7⟩; rw [HCM.out.1] at he; subst he; rw [HCM.out.2.1] at k7; have HZ7 := hide k7; clear k7 HZd HZ) | fail)
                obtain ⟨oc, hoc⟩ : ∃ oc, cmO (odF S1 C) (q : Int) n = oc := ⟨_, rfl⟩
                rw [hoc] at HZ7
                have HOC : Hid (oc.flatten = dbl (((S1 (q : Int)).drop cq).take (n - cq))) := (show _ = _ by
                  have := HCM.out.2.2
                  rw [hoc, HCQ.out] at this
                  exact this)
                clear hoc HCM
                go_loopg [8] (n + 1) (fun gh wv wr => ∃ (cj : Nat) (vb' : Array Value) (R' : List Rw), cq ≤ cj ∧ cj ≤ n ∧ n + 1 ≤ gh + cj ∧ Hid (R'[3]? = some (wv, o.flatten ++ dbl (((S1 (q : Int)).drop cq).take (cj - cq)))) ∧ Hid (Od (i + 1) S1 (updN C (q : Int) cj) va1 vb' R') ∧ Hid (GO w wr la (odF S1 (updN C (q : Int) n)) (o ++ oc) (3 * (i + 1)) w3.heap.size va1 (w3.heap.size + 1) vb' R'))
                case atStart =>
                  refine ⟨cq, vb, R1, Nat.le_refl _, hcn, by omega, ?_, ?_, HZ7⟩
                  · show R1[3]? = _
                    rw [Nat.sub_self, List.take_zero]
                    show R1[3]? = some (_, o.flatten ++ [])
                    rw [List.append_nil]
                    exact HR32.out
                  · show Od _ _ _ _ _ _
                    rw [← HCQ.out, updN_same]
                    exact HD2.out
                case round =>
                  clear HZ7
                  obtain ⟨cj, vb', R', hc1, hc2, hgj, HRJ, HDJ, HGJ⟩ := hrel
                  obtain ⟨wl, hwl⟩ : ∃ w9 : World, w9 = wr := ⟨_, rfl⟩
                  rw [← hwl] at HGJ
                  subst hwl
                  obtain ⟨gi, rfl⟩ : ∃ gi, gk = gi + 1 := ⟨gk - 1, by omega⟩
                  have hbq := HDJ.out.bx q hq3
                  rw [updN_self] at hbq
                  have hsl62 : (S1 (q : Int)).length ≤ 61 := by have := HSE2.out; omega
                  have HBQ := hide hbq
                  have cB : wl.cell? ⟨w3.heap.size + 1, q, none⟩ = some (.int .i64 (cj : Int)) := by rw [HGJ.out.boxB.cellAt]; exact hbq
                  clear hbq
                  by_cases hjn : cj < n
                  · have btj : (cj : Int) < (n : Int) := by omega
                    obtain ⟨v', h1, h2⟩ := HDJ.out.pt q hq3
                    rw [HV1.out] at h1
                    cases h1
                    have hcs2 : cj < sl2 := by omega
                    obtain ⟨x, hx⟩ := get_of_lt (show cj < (S1 (q : Int)).length by have := HSE2.out; omega)
                    obtain ⟨vg, rfl, d0, d1, d2⟩ := own_rec (HGJ.out.rowAt h2) (show (S1 (q : Int)).length ≤ _ from by omega) hx
                    have HX := hide hx
                    have HQ2 := hide h2
                    clear h2 hx
                    have hci : (cj : Int) < (sl2 : Int) := by omega
                    have hc0 : (0 : Int) ≤ (cj : Int) := by omega
                    have cA : wl.cell? ⟨w3.heap.size, q, none⟩ = some (.slice (some ⟨vg, 0, none⟩) sl2 tc) := by rw [HGJ.out.boxA.cellAt]; exact HV1.out
                    have KC : Hid (∀ (w' : World) (f' : Int → PS) (o' : List (List Rc)) (W' : Nat) (R2 : List Rw), GO w w' la f' o' W' w3.heap.size va1 (w3.heap.size + 1) vb' R2 → R2[q]? = some (.slice (some ⟨vg, 0, none⟩) sl2 tc, S1 (q : Int)) → (w'.cell? ⟨w3.heap.size, q, none⟩ = some (.slice (some ⟨vg, 0, none⟩) sl2 tc) ∧ w'.cell? ⟨w3.heap.size + 1, q, none⟩ = some (.int .i64 (cj : Int)) ∧ w'.cell? ⟨vg, cj * 3, none⟩ = some (.int .i64 x.k) ∧ w'.cell? ⟨vg, cj * 3 + 1, none⟩ = some (.int .i64 x.t) ∧ w'.cell? ⟨vg, cj * 3 + 2, none⟩ = some (.int .i64 x.v))) := fun w' f' o' W' R2 h h3 => by
                      obtain ⟨g, e, d3, d4, d5⟩ := own_rec (h.rowAt h3) (show (S1 (q : Int)).length ≤ _ from by omega) HX.out
                      cases e
                      exact ⟨by rw [h.boxA.cellAt]; exact HV1.out, by rw [h.boxB.cellAt]; exact HBQ.out, d3, d4, d5⟩
                    obtain ⟨wa, wc_, hwv⟩ := (HGJ.out.rowAt HRJ.out).shape
                    have HLN : Hid ((o.flatten ++ dbl (((S1 (q : Int)).drop cq).take (cj - cq))).length ≤ 1000) := (show _ ≤ _ by
                      have h8 := HGJ.out.flat
                      rw [List.flatten_append, List.length_append] at h8
                      rw [List.length_append, dbl_len, List.length_take]
                      omega)
                    obtain ⟨nw, hnw⟩ : ∃ nw, (o.flatten ++ dbl (((S1 (q : Int)).drop cq).take (cj - cq))).length = nw := ⟨_, rfl⟩
                    dsimp only at hwv
                    rw [hnw] at hwv
                    subst hwv
                    have HNW := hide hnw
                    clear hnw
                    go_upto_region 25 with fail
                    have HGd := hide (HGJ.out.below (Below.refl _ _).drew)
                    refine wp_region_M (S := fun w' => w'.cell? ⟨w3.heap.size, q, none⟩ = some (.slice (some ⟨vg, 0, none⟩) sl2 tc) ∧ w'.cell? ⟨w3.heap.size + 1, q, none⟩ = some (.int .i64 (cj : Int)) ∧ w'.cell? ⟨vg, cj * 3, none⟩ = some (.int .i64 x.k) ∧ w'.cell? ⟨vg, cj * 3 + 1, none⟩ = some (.int .i64 x.t) ∧ w'.cell? ⟨vg, cj * 3 + 2, none⟩ = some (.int .i64 x.v)) (late := []) (by kernel_rfl) (KC.out _ _ _ _ _ HGd.out HQ2.out) (fun hHeld => ?_)
                    (try simp only [List.size_toArray, List.length_cons, List.length_nil, Nat.zero_add, Nat.reduceAdd, Array.replicate, List.replicate])
                    refine wpAnyM_take (i := 0) (oi := ⟨_, _, _, _, _, _⟩) (v := ?_) rfl (by kernel_rfl) (by kernel_rfl) (by kernel_rfl) (by kernel_rfl) (fun _ _ _ h => h) (Or.inl ⟨by rfl, ?_⟩) hHeld ?_
                    rotate_left
                    · (intro w' hSw; (try dsimp only at hSw); go_simp; try (with_reducible rfl))
                    (try simp only [Act.put, List.setIfInBounds_toArray, List.set_cons_zero, List.set_cons_succ])
                    refine wpAnyM_take (i := 1) (oi := ⟨_, _, _, _, _, _⟩) (v := ?_) rfl (by kernel_rfl) (by kernel_rfl) (by kernel_rfl) (by kernel_rfl) (fun _ _ _ h => h) (Or.inl ⟨by rfl, ?_⟩) hHeld ?_
                    rotate_left
                    · (intro w' hSw; (try dsimp only at hSw); go_simp; try (with_reducible rfl))
                    (try simp only [Act.put, List.setIfInBounds_toArray, List.set_cons_zero, List.set_cons_succ])
                    refine wpAnyM_take (i := 2) (oi := ⟨_, _, _, _, _, _⟩) (v := ?_) rfl (by kernel_rfl) (by kernel_rfl) (by kernel_rfl) (by kernel_rfl) (fun _ _ _ h => h) (Or.inl ⟨by rfl, ?_⟩) hHeld ?_
                    rotate_left
                    · (intro w' hSw; (try dsimp only at hSw); go_simp; try (with_reducible rfl))
                    (try simp only [Act.put, List.setIfInBounds_toArray, List.set_cons_zero, List.set_cons_succ])
                    refine wpAnyM_take (i := 3) (oi := ⟨_, _, _, _, _, _⟩) (v := ?_) rfl (by kernel_rfl) (by kernel_rfl) (by kernel_rfl) (by kernel_rfl) (fun _ _ _ h => h) (Or.inl ⟨by rfl, ?_⟩) hHeld ?_
                    rotate_left
                    · (intro w' hSw; (try dsimp only at hSw); go_simp; try (with_reducible rfl))
                    (try simp only [Act.put, List.setIfInBounds_toArray, List.set_cons_zero, List.set_cons_succ])
                    refine wpAnyM_take (i := 4) (oi := ⟨_, _, _, _, _, _⟩) (v := ?_) rfl (by kernel_rfl) (by kernel_rfl) (by kernel_rfl) (by kernel_rfl) (fun _ _ _ h => h) (Or.inl ⟨by rfl, ?_⟩) hHeld ?_
                    rotate_left
                    · (intro w' hSw; (try dsimp only at hSw); go_simp; try (with_reducible rfl))
                    (try simp only [Act.put, List.setIfInBounds_toArray, List.set_cons_zero, List.set_cons_succ])
                    refine wpAnyM_take (i := 5) (oi := ⟨_, _, _, _, _, _⟩) (v := ?_) rfl (by kernel_rfl) (by kernel_rfl) (by kernel_rfl) (by kernel_rfl) (fun _ _ _ h => h) (Or.inl ⟨by rfl, ?_⟩) hHeld ?_
                    rotate_left
                    · (intro w' hSw; (try dsimp only at hSw); go_simp; try (with_reducible rfl))
                    (try simp only [Act.put, List.setIfInBounds_toArray, List.set_cons_zero, List.set_cons_succ])
                    refine wpAnyM_take (i := 6) (oi := ⟨_, _, _, _, _, _⟩) (v := ?_) rfl (by kernel_rfl) (by kernel_rfl) (by kernel_rfl) (by kernel_rfl) (fun _ _ _ h => h) (Or.inl ⟨by rfl, ?_⟩) hHeld ?_
                    rotate_left
                    · (intro w' hSw; (try dsimp only at hSw); go_simp; try (with_reducible rfl))
                    (try simp only [Act.put, List.setIfInBounds_toArray, List.set_cons_zero, List.set_cons_succ])
                    refine wpAnyM_take (i := 7) (oi := ⟨_, _, _, _, _, _⟩) (v := ?_) rfl (by kernel_rfl) (by kernel_rfl) (by kernel_rfl) (by kernel_rfl) (fun _ _ _ h => h) (Or.inl ⟨by rfl, ?_⟩) hHeld ?_
                    rotate_left
                    · (intro w' hSw; (try dsimp only at hSw); go_simp; try (with_reducible rfl))
                    (try simp only [Act.put, List.setIfInBounds_toArray, List.set_cons_zero, List.set_cons_succ])
                    refine wpAnyM_take (i := 8) (oi := ⟨_, _, _, _, _, _⟩) (v := ?_) rfl (by kernel_rfl) (by kernel_rfl) (by kernel_rfl) (by kernel_rfl) (fun _ _ _ h => h) (Or.inl ⟨by rfl, ?_⟩) hHeld ?_
                    rotate_left
                    · (intro w' hSw; (try dsimp only at hSw); go_simp; try (with_reducible rfl))
                    (try simp only [Act.put, List.setIfInBounds_toArray, List.set_cons_zero, List.set_cons_succ])
                    refine wpAnyM_take (i := 9) (oi := ⟨_, _, _, _, _, _⟩) (v := ?_) rfl (by kernel_rfl) (by kernel_rfl) (by kernel_rfl) (by kernel_rfl) (fun _ _ _ h => h) (Or.inl ⟨by rfl, ?_⟩) hHeld ?_
                    rotate_left
                    · (intro w' hSw; (try dsimp only at hSw); go_simp; try (with_reducible rfl))
                    (try simp only [Act.put, List.setIfInBounds_toArray, List.set_cons_zero, List.set_cons_succ])
                    refine wpAnyM_take (i := 10) (oi := ⟨_, _, _, _, _, _⟩) (v := ?_) rfl (by kernel_rfl) (by kernel_rfl) (by kernel_rfl) (by kernel_rfl) (fun _ _ _ h => h) (Or.inl ⟨by rfl, ?_⟩) hHeld ?_
                    rotate_left
                    · (intro w' hSw; (try dsimp only at hSw); go_simp; try (with_reducible rfl))
                    (try simp only [Act.put, List.setIfInBounds_toArray, List.set_cons_zero, List.set_cons_succ])
                    refine wpAnyM_take (i := 11) (oi := ⟨_, _, _, _, _, _⟩) (v := ?_) rfl (by kernel_rfl) (by kernel_rfl) (by kernel_rfl) (by kernel_rfl) (fun _ _ _ h => h) (Or.inl ⟨by rfl, ?_⟩) hHeld ?_
                    rotate_left
                    · (intro w' hSw; (try dsimp only at hSw); go_simp; try (with_reducible rfl))
                    (try simp only [Act.put, List.setIfInBounds_toArray, List.set_cons_zero, List.set_cons_succ])
                    refine wpAnyM_take (i := 12) (oi := ⟨_, _, _, _, _, _⟩) (v := ?_) rfl (by kernel_rfl) (by kernel_rfl) (by kernel_rfl) (by kernel_rfl) (fun _ _ _ h => h) (Or.inl ⟨by rfl, ?_⟩) hHeld ?_
                    rotate_left
                    · (intro w' hSw; (try dsimp only at hSw); go_simp; try (with_reducible rfl))
                    (try simp only [Act.put, List.setIfInBounds_toArray, List.set_cons_zero, List.set_cons_succ])
                    refine wpAnyM_take (i := 13) (oi := ⟨_, _, _, _, _, _⟩) (v := ?_) rfl (by kernel_rfl) (by kernel_rfl) (by kernel_rfl) (by kernel_rfl) (fun _ _ _ h => h) (Or.inl ⟨by rfl, ?_⟩) hHeld ?_
                    rotate_left
                    · (intro w' hSw; (try dsimp only at hSw); go_simp; try (with_reducible rfl))
                    (try simp only [Act.put, List.setIfInBounds_toArray, List.set_cons_zero, List.set_cons_succ])
                    refine wpAnyM_take (i := 14) (oi := ⟨_, _, _, _, _, _⟩) (v := ?_) rfl (by kernel_rfl) (by kernel_rfl) (by kernel_rfl) (by kernel_rfl) (fun _ _ _ h => h) (Or.inl ⟨by rfl, ?_⟩) hHeld ?_
                    rotate_left
                    · (intro w' hSw; (try dsimp only at hSw); go_simp; try (with_reducible rfl))
                    (try simp only [Act.put, List.setIfInBounds_toArray, List.set_cons_zero, List.set_cons_succ])
                    refine wpAnyM_take (i := 15) (oi := ⟨_, _, _, _, _, _⟩) (v := ?_) rfl (by kernel_rfl) (by kernel_rfl) (by kernel_rfl) (by kernel_rfl) (fun _ _ _ h => h) (Or.inl ⟨by rfl, ?_⟩) hHeld ?_
                    rotate_left
                    · (intro w' hSw; (try dsimp only at hSw); go_simp; try (with_reducible rfl))
                    (try simp only [Act.put, List.setIfInBounds_toArray, List.set_cons_zero, List.set_cons_succ])
                    refine wpAnyM_take (i := 16) (oi := ⟨_, _, _, _, _, _⟩) (v := ?_) rfl (by kernel_rfl) (by kernel_rfl) (by kernel_rfl) (by kernel_rfl) (fun _ _ _ h => h) (Or.inl ⟨by rfl, ?_⟩) hHeld ?_
                    rotate_left
                    · (intro w' hSw; (try dsimp only at hSw); go_simp; try (with_reducible rfl))
                    (try simp only [Act.put, List.setIfInBounds_toArray, List.set_cons_zero, List.set_cons_succ])
                    refine wpAnyM_one (i := 17) (o := ⟨_, _, _, _, _, _⟩) (by kernel_rfl) rfl (fun K hK => ?_)
                    go_simp
                    have HY2 := hide ((HGJ.out.below (below_box _ (.cells #[.int .i64 x.k, .int .i64 x.t, .int .i64 x.v, .int .i64 x.k, .int .i64 x.t, .int .i64 x.v] 39))).below (Below.refl _ _).drew)
                    refine hK.out _ _ (KC.out _ _ _ _ _ HY2.out HQ2.out) (fun hHeld => ?_)
                    clear hK K
                    (try simp only [List.setIfInBounds_toArray, List.set_cons_zero, List.set_cons_succ])
                    have HSG := hide (seg_rr (n := wl.heap.size) (B := (wl.alloc (.cells #[.int .i64 x.k, .int .i64 x.t, .int .i64 x.v, .int .i64 x.k, .int .i64 x.t, .int .i64 x.v] 39)).drew.heap.size) x (BoxT.drew (BoxT.new_at (t := 39) (w := wl) (cs := #[.int .i64 x.k, .int .i64 x.t, .int .i64 x.v, .int .i64 x.k, .int .i64 x.t, .int .i64 x.v]) rfl)) (by simp) 2)
                    refine wpAnyM_one (i := 18) (o := ⟨_, _, _, _, _, _⟩) (by kernel_rfl) rfl (fun K hK => ?_)
                    (refine step_L Try.infoRc Try.underlying29 rfl (by decide) (by decide) Rc.cs_len Rc.cs_one rfl _ _ rfl w.heap.size (.slice wa nw wc_) _ rfl (HY2.out.rowAt HRJ.out) (wl.alloc (.cells #[.int .i64 x.k, .int .i64 x.t, .int .i64 x.v, .int .i64 x.k, .int .i64 x.t, .int .i64 x.v] 39)).drew.heap.size _ [x, x] rfl HSG.out (by have := HLN.out; simp only [List.length_cons, List.length_nil]; omega) HY2.out.world.size ?_)
                    intro v4 w4 h4 g4 k4
                    have HY4 := hide (HY2.out.app HRJ.out g4 h4 k4)
                    have HRL4 : Hid ((R'.set 3 (v4, o.flatten ++ dbl (((S1 (q : Int)).drop cq).take (cj - cq)) ++ [x, x]))[q]? = some (.slice (some ⟨vg, 0, none⟩) sl2 tc, S1 (q : Int))) := (show _ = _ by rw [List.getElem?_set_ne (by omega)]; exact HQ2.out)
                    clear h4 g4 k4
                    refine hK.out _ _ (KC.out _ _ _ _ _ HY4.out HRL4.out) (fun hHeld => ?_)
                    clear hK K
                    (try simp only [List.setIfInBounds_toArray, List.set_cons_zero, List.set_cons_succ])
                    refine wpAnyM_take (i := 19) (oi := ⟨_, _, _, _, _, _⟩) (v := ?_) rfl (by kernel_rfl) (by kernel_rfl) (by kernel_rfl) (by kernel_rfl) (fun _ _ _ h => h) (Or.inl ⟨by rfl, ?_⟩) hHeld ?_
                    rotate_left
                    · (intro w' hSw; (try dsimp only at hSw); go_simp; try (with_reducible rfl))
                    (try simp only [Act.put, List.setIfInBounds_toArray, List.set_cons_zero, List.set_cons_succ])
                    have fr4 := HY4.out.boxB.free
                    refine wpAnyM_done (by kernel_rfl) ?_ _
                    have cB4 := hHeld.2.1
                    obtain ⟨c1, hc1e⟩ : ∃ c1, cj + 1 = c1 := ⟨_, rfl⟩
                    have hc1i : (cj : Int) + 1 = (c1 : Int) := by omega
                    clear hHeld cA cB d0 d1 d2
                    go_wp2_with fail
                    go_roundg gi
                    case rel =>
                      refine ⟨c1, vb'.setIfInBounds q (.int .i64 (c1 : Int)), _, by omega, by omega, by omega, ?_, ?_, hide (HY4.out.setB q (.int .i64 (c1 : Int)))⟩
                      · show _ = _
                        rw [List.getElem?_set_self (by rw [HDJ.out.len]; omega), ← hc1e, dbl_take hc1 HX.out, List.append_assoc]
                      · have h9 := (HDJ.out.count hq3 (n := c1) (by have := HSE2.out; omega)).want (v4, o.flatten ++ dbl (((S1 (q : Int)).drop cq).take (cj - cq)) ++ [x, x])
                        rw [updN_twice] at h9
                        exact h9
                    case measure => omega
                  · obtain rfl : cj = n := by omega
                    have btj : ¬ ((cj : Nat) : Int) < (cj : Int) := by omega
                    go_wp2_with fail
                    have HRF : Hid (R'[3]? = some (u8, (o ++ oc).flatten)) := (show _ = _ by
                      rw [List.flatten_append, HOC.out]
                      exact HRJ.out)
                    go_roundg go
                    case rel => exact ⟨i + 1, o ++ oc, S1, updN C (q : Int) cj, va1, vb', R', by go_num, by omega, by omega, HRF, HDJ, HGJ⟩
                    case measure => omega
          · have hnl : (cs.length : Int) ≤ (i : Int) := by omega
            go_wp2_with fail
            go_roundg go
            case rel => exact ⟨i + 1, o, S1, C, va1, vb, R1, by go_num, by omega, by omega, HR32, HD2, HZ⟩
            case measure => omega
        · obtain rfl : i = ps.length := by omega
          have bt : ¬ ((ps.length : Nat) : Int) < (ps.length : Int) := by omega
          clear HB8 HC8 HL HL2
          have hWE : 3 * ps.length ≤ 500000 := by omega
          go_wp2_with fail
          go_loopg [14] 4 (fun gh pv wr => ∃ (p : Nat), pv = .int .i64 (p : Int) ∧ p ≤ 3 ∧ 4 ≤ gh + p ∧ Hid (GO w wr la (odF S C) o (3 * ps.length) w3.heap.size va (w3.heap.size + 1) vb R))
          case atStart => exact ⟨0, rfl, by omega, by omega, HG⟩
          case round =>
            clear HG
            obtain ⟨p, rfl, hp3', hgp, HGP⟩ := hrel
            obtain ⟨wl, hwl⟩ : ∃ w9 : World, w9 = wr := ⟨_, rfl⟩
            rw [← hwl] at HGP
            subst hwl
            obtain ⟨gi, rfl⟩ : ∃ gi, gk = gi + 1 := ⟨gk - 1, by omega⟩
            by_cases hp : p < 3
            · have btp : (p : Int) < 3 := by omega
              have hp0i : (0 : Int) ≤ (p : Int) := by omega
              have hin : In64 (p : Int) := by unfold In64; omega
              obtain ⟨v, hv1, hv2⟩ := HD.out.pt p hp
              obtain ⟨ta, tc, htv⟩ := (HGP.out.rowAt hv2).shape
              have hle := HD.out.le p hp
              have hbq := HD.out.bx p hp
              have HU9 := od_upto hle.1
              obtain ⟨sl, hse⟩ : ∃ sl, (S (p : Int)).length = sl := ⟨_, rfl⟩
              obtain ⟨cp, hce⟩ : ∃ cp, C (p : Int) = cp := ⟨_, rfl⟩
              have HLA : Hid ((odF S C (p : Int)).last = cp) := (show _ = _ from hce)
              obtain ⟨s2, hs2⟩ : ∃ s2, 2 * sl = s2 := ⟨_, rfl⟩
              obtain ⟨c2, hc2⟩ : ∃ c2, 2 * cp = c2 := ⟨_, rfl⟩
              obtain ⟨st, hst⟩ : ∃ st, sl - cp = st := ⟨_, rfl⟩
              have HU : Hid ((uptoS (odF S C (p : Int)) sl).length = s2 ∧ (uptoS (odF S C (p : Int)) cp).length = c2 ∧ (odF S C (p : Int)).stg.length = st) := (show _ ∧ _ ∧ _ by
                rw [hse, hce, hs2, hc2, hst] at HU9
                unfold odF
                rw [hce]
                exact HU9)
              dsimp only at htv
              rw [hse] at htv hle
              rw [hce] at hle hbq
              subst htv
              have hs2i : 2 * (sl : Int) = (s2 : Int) := by omega
              have hc2i : 2 * (cp : Int) = (c2 : Int) := by omega
              have hsti : (sl : Int) - (cp : Int) = (st : Int) := by omega
              have V1 := hide (wrap2 (s1 := sl) (by omega))
              have V2 := hide (wrap2 (s1 := cp) (by omega))
              have V3 := hide (wrap64s (n := sl) (by omega))
              have V4 := hide (wrap64s (n := cp) (by omega))
              have V5 := hide (wrap64s (n := s2) (by omega))
              have V6 := hide (wrap64s (n := c2) (by omega))
              have V7 := hide (wrap64s (n := st) (by omega))
              have V8 := hide (wrap64u (n := sl) (by omega))
              have V9 := hide (wrap64u (n := cp) (by omega))
              have KC : Hid (∀ w', Below wl.heap.size wl w' → (w'.cell? ⟨w3.heap.size, p, none⟩ = some (.slice ta sl tc) ∧ w'.cell? ⟨w3.heap.size + 1, p, none⟩ = some (.int .i64 (cp : Int)))) := fun w' h => ⟨by rw [(HGP.out.below h).boxA.cellAt]; exact hv1, by rw [(HGP.out.below h).boxB.cellAt]; exact hbq⟩
              have B0 : Hid (Below wl.heap.size wl wl.drew) := (Below.refl _ _).drew
              clear HU9 hv1 hv2 hbq hse hce hs2 hc2 hst
              go_upto_region 29 with fail
              refine wp_region_M (S := fun w' => w'.cell? ⟨w3.heap.size, p, none⟩ = some (.slice ta sl tc) ∧ w'.cell? ⟨w3.heap.size + 1, p, none⟩ = some (.int .i64 (cp : Int))) (late := []) (by kernel_rfl) (KC.out _ B0.out) (fun hHeld => ?_)
              (try simp only [List.size_toArray, List.length_cons, List.length_nil, Nat.zero_add, Nat.reduceAdd, Array.replicate, List.replicate])
              refine wpAnyM_take (i := 0) (oi := ⟨_, _, _, _, _, _⟩) (v := ?_) rfl (by kernel_rfl) (by kernel_rfl) (by kernel_rfl) (by kernel_rfl) (fun _ _ _ h => h) (Or.inl ⟨by rfl, ?_⟩) hHeld ?_
              rotate_left
              · (intro w' hSw; (try dsimp only at hSw); go_simp; (try simp only [V1.out, V2.out, V3.out, V4.out, hs2i, hc2i, hsti, V5.out, V6.out, V7.out, V8.out, V9.out]); (try simp only [bne_self_eq_false, beq_self_eq_true, Bool.not_true, ne_eq, not_true_eq_false, decide_false]); try (with_reducible rfl))
              (try simp only [Act.put, List.setIfInBounds_toArray, List.set_cons_zero, List.set_cons_succ])
              refine wpAnyM_take (i := 1) (oi := ⟨_, _, _, _, _, _⟩) (v := ?_) rfl (by kernel_rfl) (by kernel_rfl) (by kernel_rfl) (by kernel_rfl) (fun _ _ _ h => h) (Or.inl ⟨by rfl, ?_⟩) hHeld ?_
              rotate_left
              · (intro w' hSw; (try dsimp only at hSw); go_simp; (try simp only [V1.out, V2.out, V3.out, V4.out, hs2i, hc2i, hsti, V5.out, V6.out, V7.out, V8.out, V9.out]); (try simp only [bne_self_eq_false, beq_self_eq_true, Bool.not_true, ne_eq, not_true_eq_false, decide_false]); try (with_reducible rfl))
              (try simp only [Act.put, List.setIfInBounds_toArray, List.set_cons_zero, List.set_cons_succ])
              refine wpAnyM_take (i := 3) (oi := ⟨_, _, _, _, _, _⟩) (v := ?_) rfl (by kernel_rfl) (by kernel_rfl) (by kernel_rfl) (by kernel_rfl) (fun _ _ _ h => h) (Or.inl ⟨by rfl, ?_⟩) hHeld ?_
              rotate_left
              · (intro w' hSw; (try dsimp only at hSw); go_simp; (try simp only [V1.out, V2.out, V3.out, V4.out, hs2i, hc2i, hsti, V5.out, V6.out, V7.out, V8.out, V9.out]); (try simp only [bne_self_eq_false, beq_self_eq_true, Bool.not_true, ne_eq, not_true_eq_false, decide_false]); try (with_reducible rfl))
              (try simp only [Act.put, List.setIfInBounds_toArray, List.set_cons_zero, List.set_cons_succ])
              refine wpAnyM_take (i := 4) (oi := ⟨_, _, _, _, _, _⟩) (v := ?_) rfl (by kernel_rfl) (by kernel_rfl) (by kernel_rfl) (by kernel_rfl) (fun _ _ _ h => h) (Or.inl ⟨by rfl, ?_⟩) hHeld ?_
              rotate_left
              · (intro w' hSw; (try dsimp only at hSw); go_simp; (try simp only [V1.out, V2.out, V3.out, V4.out, hs2i, hc2i, hsti, V5.out, V6.out, V7.out, V8.out, V9.out]); (try simp only [bne_self_eq_false, beq_self_eq_true, Bool.not_true, ne_eq, not_true_eq_false, decide_false]); try (with_reducible rfl))
              (try simp only [Act.put, List.setIfInBounds_toArray, List.set_cons_zero, List.set_cons_succ])
              refine wpAnyM_take (i := 5) (oi := ⟨_, _, _, _, _, _⟩) (v := ?_) rfl (by kernel_rfl) (by kernel_rfl) (by kernel_rfl) (by kernel_rfl) (fun _ _ _ h => h) (Or.inl ⟨by rfl, ?_⟩) hHeld ?_
              rotate_left
              · (intro w' hSw; (try dsimp only at hSw); go_simp; (try simp only [V1.out, V2.out, V3.out, V4.out, hs2i, hc2i, hsti, V5.out, V6.out, V7.out, V8.out, V9.out]); (try simp only [bne_self_eq_false, beq_self_eq_true, Bool.not_true, ne_eq, not_true_eq_false, decide_false]); try (with_reducible rfl))
              (try simp only [Act.put, List.setIfInBounds_toArray, List.set_cons_zero, List.set_cons_succ])
              refine wpAnyM_take (i := 6) (oi := ⟨_, _, _, _, _, _⟩) (v := ?_) rfl (by kernel_rfl) (by kernel_rfl) (by kernel_rfl) (by kernel_rfl) (fun _ _ _ h => h) (Or.inl ⟨by rfl, ?_⟩) hHeld ?_
              rotate_left
              · (intro w' hSw; (try dsimp only at hSw); go_simp; (try simp only [V9.out]); (try simp only [bne_self_eq_false, beq_self_eq_true, Bool.not_true, ne_eq, not_true_eq_false, decide_false]); try (with_reducible rfl))
              (try simp only [Act.put, List.setIfInBounds_toArray, List.set_cons_zero, List.set_cons_succ])
              refine wpAnyM_one (i := 2) (o := ⟨_, _, _, _, _, _⟩) (by kernel_rfl) rfl (fun K hK => ?_)
              go_simp
              (try simp only [V1.out, V2.out, V3.out, V4.out, hs2i, hc2i, hsti, V5.out, V6.out, V7.out, V8.out, V9.out])
              go_at_call 19
              refine ((HGP.out.below B0.out).last hin).mono ?_
              rintro e w9 ⟨he, rfl⟩
              rw [HLA.out] at he
              subst he
              refine hK.out _ _ (KC.out _ B0.out) (fun hHeld => ?_)
              clear hK K
              (try simp only [List.setIfInBounds_toArray, List.set_cons_zero, List.set_cons_succ])
              refine wpAnyM_take (i := 7) (oi := ⟨_, _, _, _, _, _⟩) (v := ?_) rfl (by kernel_rfl) (by kernel_rfl) (by kernel_rfl) (by kernel_rfl) (fun _ _ _ h => h) (Or.inl ⟨by rfl, ?_⟩) hHeld ?_
              rotate_left
              · (intro w' hSw; (try dsimp only at hSw); go_simp; (try simp only [V1.out, V2.out, V3.out, V4.out, hs2i, hc2i, hsti, V5.out, V6.out, V7.out, V8.out, V9.out]); (try simp only [bne_self_eq_false, beq_self_eq_true, Bool.not_true, ne_eq, not_true_eq_false, decide_false]); try (with_reducible rfl))
              (try simp only [Act.put, List.setIfInBounds_toArray, List.set_cons_zero, List.set_cons_succ])
              refine wpAnyM_take (i := 8) (oi := ⟨_, _, _, _, _, _⟩) (v := ?_) rfl (by kernel_rfl) (by kernel_rfl) (by kernel_rfl) (by kernel_rfl) (fun _ _ _ h => h) (Or.inl ⟨by rfl, ?_⟩) hHeld ?_
              rotate_left
              · (intro w' hSw; (try dsimp only at hSw); go_simp; (try simp only [V1.out, V2.out, V3.out, V4.out, hs2i, hc2i, hsti, V5.out, V6.out, V7.out, V8.out, V9.out]); (try simp only [bne_self_eq_false, beq_self_eq_true, Bool.not_true, ne_eq, not_true_eq_false, decide_false]); try (with_reducible rfl))
              (try simp only [Act.put, List.setIfInBounds_toArray, List.set_cons_zero, List.set_cons_succ])
              refine wpAnyM_take (i := 9) (oi := ⟨_, _, _, _, _, _⟩) (v := ?_) rfl (by kernel_rfl) (by kernel_rfl) (by kernel_rfl) (by kernel_rfl) (fun _ _ _ h => h) (Or.inl ⟨by rfl, ?_⟩) hHeld ?_
              rotate_left
              · (intro w' hSw; (try dsimp only at hSw); go_simp; (try simp only [V1.out, V2.out, V3.out, V4.out, hs2i, hc2i, hsti, V5.out, V6.out, V7.out, V8.out, V9.out]); (try simp only [bne_self_eq_false, beq_self_eq_true, Bool.not_true, ne_eq, not_true_eq_false, decide_false]); try (with_reducible rfl))
              (try simp only [Act.put, List.setIfInBounds_toArray, List.set_cons_zero, List.set_cons_succ])
              refine wpAnyM_take (i := 10) (oi := ⟨_, _, _, _, _, _⟩) (v := ?_) rfl (by kernel_rfl) (by kernel_rfl) (by kernel_rfl) (by kernel_rfl) (fun _ _ _ h => h) (Or.inl ⟨by rfl, ?_⟩) hHeld ?_
              rotate_left
              · (intro w' hSw; (try dsimp only at hSw); go_simp; (try simp only [V1.out, V2.out, V3.out, V4.out, hs2i, hc2i, hsti, V5.out, V6.out, V7.out, V8.out, V9.out]); (try simp only [bne_self_eq_false, beq_self_eq_true, Bool.not_true, ne_eq, not_true_eq_false, decide_false]); try (with_reducible rfl))
              (try simp only [Act.put, List.setIfInBounds_toArray, List.set_cons_zero, List.set_cons_succ])
              refine wpAnyM_take (i := 13) (oi := ⟨_, _, _, _, _, _⟩) (v := ?_) rfl (by kernel_rfl) (by kernel_rfl) (by kernel_rfl) (by kernel_rfl) (fun _ _ _ h => h) (Or.inl ⟨by rfl, ?_⟩) hHeld ?_
              rotate_left
              · (intro w' hSw; (try dsimp only at hSw); go_simp; (try simp only [V1.out, V2.out, V3.out, V4.out, hs2i, hc2i, hsti, V5.out, V6.out, V7.out, V8.out, V9.out]); (try simp only [bne_self_eq_false, beq_self_eq_true, Bool.not_true, ne_eq, not_true_eq_false, decide_false]); try (with_reducible rfl))
              (try simp only [Act.put, List.setIfInBounds_toArray, List.set_cons_zero, List.set_cons_succ])
              refine wpAnyM_take (i := 14) (oi := ⟨_, _, _, _, _, _⟩) (v := ?_) rfl (by kernel_rfl) (by kernel_rfl) (by kernel_rfl) (by kernel_rfl) (fun _ _ _ h => h) (Or.inl ⟨by rfl, ?_⟩) hHeld ?_
              rotate_left
              · (intro w' hSw; (try dsimp only at hSw); go_simp; (try simp only [V1.out, V2.out, V3.out, V4.out, hs2i, hc2i, hsti, V5.out, V6.out, V7.out, V8.out, V9.out]); (try simp only [bne_self_eq_false, beq_self_eq_true, Bool.not_true, ne_eq, not_true_eq_false, decide_false]); try (with_reducible rfl))
              (try simp only [Act.put, List.setIfInBounds_toArray, List.set_cons_zero, List.set_cons_succ])
              refine wpAnyM_take (i := 15) (oi := ⟨_, _, _, _, _, _⟩) (v := ?_) rfl (by kernel_rfl) (by kernel_rfl) (by kernel_rfl) (by kernel_rfl) (fun _ _ _ h => h) (Or.inl ⟨by rfl, ?_⟩) hHeld ?_
              rotate_left
              · (intro w' hSw; (try dsimp only at hSw); go_simp; (try simp only [V1.out, V2.out, V3.out, V4.out, hs2i, hc2i, hsti, V5.out, V6.out, V7.out, V8.out, V9.out]); (try simp only [bne_self_eq_false, beq_self_eq_true, Bool.not_true, ne_eq, not_true_eq_false, decide_false]); try (with_reducible rfl))
              (try simp only [Act.put, List.setIfInBounds_toArray, List.set_cons_zero, List.set_cons_succ])
              refine wpAnyM_take (i := 16) (oi := ⟨_, _, _, _, _, _⟩) (v := ?_) rfl (by kernel_rfl) (by kernel_rfl) (by kernel_rfl) (by kernel_rfl) (fun _ _ _ h => h) (Or.inl ⟨by rfl, ?_⟩) hHeld ?_
              rotate_left
              · (intro w' hSw; (try dsimp only at hSw); go_simp; (try simp only [V1.out, V2.out, V3.out, V4.out, hs2i, hc2i, hsti, V5.out, V6.out, V7.out, V8.out, V9.out]); (try simp only [bne_self_eq_false, beq_self_eq_true, Bool.not_true, ne_eq, not_true_eq_false, decide_false]); try (with_reducible rfl))
              (try simp only [Act.put, List.setIfInBounds_toArray, List.set_cons_zero, List.set_cons_succ])
              refine wpAnyM_take (i := 17) (oi := ⟨_, _, _, _, _, _⟩) (v := ?_) rfl (by kernel_rfl) (by kernel_rfl) (by kernel_rfl) (by kernel_rfl) (fun _ _ _ h => h) (Or.inl ⟨by rfl, ?_⟩) hHeld ?_
              rotate_left
              · (intro w' hSw; (try dsimp only at hSw); go_simp; (try simp only [V1.out, V2.out, V3.out, V4.out, hs2i, hc2i, hsti, V5.out, V6.out, V7.out, V8.out, V9.out]); (try simp only [bne_self_eq_false, beq_self_eq_true, Bool.not_true, ne_eq, not_true_eq_false, decide_false]); try (with_reducible rfl))
              (try simp only [Act.put, List.setIfInBounds_toArray, List.set_cons_zero, List.set_cons_succ])
              refine wpAnyM_take (i := 18) (oi := ⟨_, _, _, _, _, _⟩) (v := ?_) rfl (by kernel_rfl) (by kernel_rfl) (by kernel_rfl) (by kernel_rfl) (fun _ _ _ h => h) (Or.inl ⟨by rfl, ?_⟩) hHeld ?_
              rotate_left
              · (intro w' hSw; (try dsimp only at hSw); go_simp; (try simp only [V1.out, V2.out, V3.out, V4.out, hs2i, hc2i, hsti, V5.out, V6.out, V7.out, V8.out, V9.out]); (try simp only [bne_self_eq_false, beq_self_eq_true, Bool.not_true, ne_eq, not_true_eq_false, decide_false]); try (with_reducible rfl))
              (try simp only [Act.put, List.setIfInBounds_toArray, List.set_cons_zero, List.set_cons_succ])
              refine wpAnyM_take (i := 19) (oi := ⟨_, _, _, _, _, _⟩) (v := ?_) rfl (by kernel_rfl) (by kernel_rfl) (by kernel_rfl) (by kernel_rfl) (fun _ _ _ h => h) (Or.inl ⟨by rfl, ?_⟩) hHeld ?_
              rotate_left
              · (intro w' hSw; (try dsimp only at hSw); go_simp; (try simp only [V1.out, V2.out, V3.out, V4.out, hs2i, hc2i, hsti, V5.out, V6.out, V7.out, V8.out, V9.out]); (try simp only [bne_self_eq_false, beq_self_eq_true, Bool.not_true, ne_eq, not_true_eq_false, decide_false]); try (with_reducible rfl))
              (try simp only [Act.put, List.setIfInBounds_toArray, List.set_cons_zero, List.set_cons_succ])
              refine wpAnyM_take (i := 20) (oi := ⟨_, _, _, _, _, _⟩) (v := ?_) rfl (by kernel_rfl) (by kernel_rfl) (by kernel_rfl) (by kernel_rfl) (fun _ _ _ h => h) (Or.inl ⟨by rfl, ?_⟩) hHeld ?_
              rotate_left
              · (intro w' hSw; (try dsimp only at hSw); go_simp; (try simp only [V7.out]); (try simp only [bne_self_eq_false, beq_self_eq_true, Bool.not_true, ne_eq, not_true_eq_false, decide_false]); try (with_reducible rfl))
              (try simp only [Act.put, List.setIfInBounds_toArray, List.set_cons_zero, List.set_cons_succ])
              refine wpAnyM_one (i := 11) (o := ⟨_, _, _, _, _, _⟩) (by kernel_rfl) rfl (fun K hK => ?_)
              go_simp
              (try simp only [V1.out, V2.out, V3.out, V4.out, hs2i, hc2i, hsti, V5.out, V6.out, V7.out, V8.out, V9.out])
              go_at_call 22
              refine ((HGP.out.below B0.out).staged hWE hin).mono ?_
              rintro e w1 ⟨u, rfl, o9, b9⟩
              obtain ⟨ua, uc, hu⟩ := o9.shape
              rw [List.length_map, HU.out.2.2] at hu
              subst hu
              have B1 : Hid (Below wl.heap.size wl w1) := B0.out.trans (b9.mono B0.out.size)
              clear o9 b9
              refine hK.out _ _ (KC.out _ B1.out) (fun hHeld => ?_)
              clear hK K
              (try simp only [List.setIfInBounds_toArray, List.set_cons_zero, List.set_cons_succ])
              refine wpAnyM_take (i := 12) (oi := ⟨_, _, _, _, _, _⟩) (v := ?_) rfl (by kernel_rfl) (by kernel_rfl) (by kernel_rfl) (by kernel_rfl) (fun _ _ _ h => h) (Or.inl ⟨by rfl, ?_⟩) hHeld ?_
              rotate_left
              · (intro w' hSw; (try dsimp only at hSw); go_simp; (try simp only [V1.out, V2.out, V3.out, V4.out, hs2i, hc2i, hsti, V5.out, V6.out, V7.out, V8.out, V9.out]); (try simp only [bne_self_eq_false, beq_self_eq_true, Bool.not_true, ne_eq, not_true_eq_false, decide_false]); try (with_reducible rfl))
              (try simp only [Act.put, List.setIfInBounds_toArray, List.set_cons_zero, List.set_cons_succ])
              refine wpAnyM_take (i := 21) (oi := ⟨_, _, _, _, _, _⟩) (v := ?_) rfl (by kernel_rfl) (by kernel_rfl) (by kernel_rfl) (by kernel_rfl) (fun _ _ _ h => h) (Or.inl ⟨by rfl, ?_⟩) hHeld ?_
              rotate_left
              · (intro w' hSw; (try dsimp only at hSw); go_simp; (try simp only [V1.out, V2.out, V3.out, V4.out, hs2i, hc2i, hsti, V5.out, V6.out, V7.out, V8.out, V9.out]); (try simp only [bne_self_eq_false, beq_self_eq_true, Bool.not_true, ne_eq, not_true_eq_false, decide_false]); try (with_reducible rfl))
              (try simp only [Act.put, List.setIfInBounds_toArray, List.set_cons_zero, List.set_cons_succ])
              refine wpAnyM_take (i := 22) (oi := ⟨_, _, _, _, _, _⟩) (v := ?_) rfl (by kernel_rfl) (by kernel_rfl) (by kernel_rfl) (by kernel_rfl) (fun _ _ _ h => h) (Or.inl ⟨by rfl, ?_⟩) hHeld ?_
              rotate_left
              · (intro w' hSw; (try dsimp only at hSw); go_simp; (try simp only [V1.out, V2.out, V3.out, V4.out, hs2i, hc2i, hsti, V5.out, V6.out, V7.out, V8.out, V9.out]); (try simp only [bne_self_eq_false, beq_self_eq_true, Bool.not_true, ne_eq, not_true_eq_false, decide_false]); try (with_reducible rfl))
              (try simp only [Act.put, List.setIfInBounds_toArray, List.set_cons_zero, List.set_cons_succ])
              refine wpAnyM_take (i := 23) (oi := ⟨_, _, _, _, _, _⟩) (v := ?_) rfl (by kernel_rfl) (by kernel_rfl) (by kernel_rfl) (by kernel_rfl) (fun _ _ _ h => h) (Or.inl ⟨by rfl, ?_⟩) hHeld ?_
              rotate_left
              · (intro w' hSw; (try dsimp only at hSw); go_simp; (try simp only [V1.out, V2.out, V3.out, V4.out, hs2i, hc2i, hsti, V5.out, V6.out, V7.out, V8.out, V9.out]); (try simp only [bne_self_eq_false, beq_self_eq_true, Bool.not_true, ne_eq, not_true_eq_false, decide_false]); try (with_reducible rfl))
              (try simp only [Act.put, List.setIfInBounds_toArray, List.set_cons_zero, List.set_cons_succ])
              refine wpAnyM_take (i := 24) (oi := ⟨_, _, _, _, _, _⟩) (v := ?_) rfl (by kernel_rfl) (by kernel_rfl) (by kernel_rfl) (by kernel_rfl) (fun _ _ _ h => h) (Or.inl ⟨by rfl, ?_⟩) hHeld ?_
              rotate_left
              · (intro w' hSw; (try dsimp only at hSw); go_simp; (try simp only [V1.out, V2.out, V3.out, V4.out, hs2i, hc2i, hsti, V5.out, V6.out, V7.out, V8.out, V9.out]); (try simp only [bne_self_eq_false, beq_self_eq_true, Bool.not_true, ne_eq, not_true_eq_false, decide_false]); try (with_reducible rfl))
              (try simp only [Act.put, List.setIfInBounds_toArray, List.set_cons_zero, List.set_cons_succ])
              refine wpAnyM_take (i := 25) (oi := ⟨_, _, _, _, _, _⟩) (v := ?_) rfl (by kernel_rfl) (by kernel_rfl) (by kernel_rfl) (by kernel_rfl) (fun _ _ _ h => h) (Or.inl ⟨by rfl, ?_⟩) hHeld ?_
              rotate_left
              · (intro w' hSw; (try dsimp only at hSw); go_simp; (try simp only [V1.out, V2.out, V3.out, V4.out, hs2i, hc2i, hsti, V5.out, V6.out, V7.out, V8.out, V9.out]); (try simp only [bne_self_eq_false, beq_self_eq_true, Bool.not_true, ne_eq, not_true_eq_false, decide_false]); try (with_reducible rfl))
              (try simp only [Act.put, List.setIfInBounds_toArray, List.set_cons_zero, List.set_cons_succ])
              refine wpAnyM_take (i := 26) (oi := ⟨_, _, _, _, _, _⟩) (v := ?_) rfl (by kernel_rfl) (by kernel_rfl) (by kernel_rfl) (by kernel_rfl) (fun _ _ _ h => h) (Or.inl ⟨by rfl, ?_⟩) hHeld ?_
              rotate_left
              · (intro w' hSw; (try dsimp only at hSw); go_simp; (try simp only [V1.out, V2.out, V3.out, V4.out, hs2i, hc2i, hsti, V5.out, V6.out, V7.out, V8.out, V9.out]); (try simp only [bne_self_eq_false, beq_self_eq_true, Bool.not_true, ne_eq, not_true_eq_false, decide_false]); try (with_reducible rfl))
              (try simp only [Act.put, List.setIfInBounds_toArray, List.set_cons_zero, List.set_cons_succ])
              refine wpAnyM_take (i := 27) (oi := ⟨_, _, _, _, _, _⟩) (v := ?_) rfl (by kernel_rfl) (by kernel_rfl) (by kernel_rfl) (by kernel_rfl) (fun _ _ _ h => h) (Or.inl ⟨by rfl, ?_⟩) hHeld ?_
              rotate_left
              · (intro w' hSw; (try dsimp only at hSw); go_simp; (try simp only [V1.out, V2.out, V3.out, V4.out, hs2i, hc2i, hsti, V5.out, V6.out, V7.out, V8.out, V9.out]); (try simp only [bne_self_eq_false, beq_self_eq_true, Bool.not_true, ne_eq, not_true_eq_false, decide_false]); try (with_reducible rfl))
              (try simp only [Act.put, List.setIfInBounds_toArray, List.set_cons_zero, List.set_cons_succ])
              refine wpAnyM_take (i := 28) (oi := ⟨_, _, _, _, _, _⟩) (v := ?_) rfl (by kernel_rfl) (by kernel_rfl) (by kernel_rfl) (by kernel_rfl) (fun _ _ _ h => h) (Or.inl ⟨by rfl, ?_⟩) hHeld ?_
              rotate_left
              · (intro w' hSw; (try dsimp only at hSw); go_simp; (try simp only [V1.out, V2.out, V3.out, V4.out, hs2i, hc2i, hsti, V5.out, V6.out, V7.out, V8.out, V9.out]); (try simp only [bne_self_eq_false, beq_self_eq_true, Bool.not_true, ne_eq, not_true_eq_false, decide_false]); try (with_reducible rfl))
              (try simp only [Act.put, List.setIfInBounds_toArray, List.set_cons_zero, List.set_cons_succ])
              refine wpAnyM_take (i := 29) (oi := ⟨_, _, _, _, _, _⟩) (v := ?_) rfl (by kernel_rfl) (by kernel_rfl) (by kernel_rfl) (by kernel_rfl) (fun _ _ _ h => h) (Or.inl ⟨by rfl, ?_⟩) hHeld ?_
              rotate_left
              · (intro w' hSw; (try dsimp only at hSw); go_simp; (try simp only [V1.out, V2.out, V3.out, V4.out, hs2i, hc2i, hsti, V5.out, V6.out, V7.out, V8.out, V9.out]); (try simp only [bne_self_eq_false, beq_self_eq_true, Bool.not_true, ne_eq, not_true_eq_false, decide_false]); try (with_reducible rfl))
              (try simp only [Act.put, List.setIfInBounds_toArray, List.set_cons_zero, List.set_cons_succ])
              refine wpAnyM_take (i := 30) (oi := ⟨_, _, _, _, _, _⟩) (v := ?_) rfl (by kernel_rfl) (by kernel_rfl) (by kernel_rfl) (by kernel_rfl) (fun _ _ _ h => h) (Or.inl ⟨by rfl, ?_⟩) hHeld ?_
              rotate_left
              · (intro w' hSw; (try dsimp only at hSw); go_simp; (try simp only [V8.out]); (try simp only [bne_self_eq_false, beq_self_eq_true, Bool.not_true, ne_eq, not_true_eq_false, decide_false]); try (with_reducible rfl))
              (try simp only [Act.put, List.setIfInBounds_toArray, List.set_cons_zero, List.set_cons_succ])
              refine wpAnyM_take (i := 33) (oi := ⟨_, _, _, _, _, _⟩) (v := ?_) rfl (by kernel_rfl) (by kernel_rfl) (by kernel_rfl) (by kernel_rfl) (fun _ _ _ h => h) (Or.inl ⟨by rfl, ?_⟩) hHeld ?_
              rotate_left
              · (intro w' hSw; (try dsimp only at hSw); go_simp; (try simp only [V1.out, V2.out, V3.out, V4.out, hs2i, hc2i, hsti, V5.out, V6.out, V7.out, V8.out, V9.out]); (try simp only [bne_self_eq_false, beq_self_eq_true, Bool.not_true, ne_eq, not_true_eq_false, decide_false]); try (with_reducible rfl))
              (try simp only [Act.put, List.setIfInBounds_toArray, List.set_cons_zero, List.set_cons_succ])
              refine wpAnyM_take (i := 34) (oi := ⟨_, _, _, _, _, _⟩) (v := ?_) rfl (by kernel_rfl) (by kernel_rfl) (by kernel_rfl) (by kernel_rfl) (fun _ _ _ h => h) (Or.inl ⟨by rfl, ?_⟩) hHeld ?_
              rotate_left
              · (intro w' hSw; (try dsimp only at hSw); go_simp; (try simp only [V1.out, V2.out, V3.out, V4.out, hs2i, hc2i, hsti, V5.out, V6.out, V7.out, V8.out, V9.out]); (try simp only [bne_self_eq_false, beq_self_eq_true, Bool.not_true, ne_eq, not_true_eq_false, decide_false]); try (with_reducible rfl))
              (try simp only [Act.put, List.setIfInBounds_toArray, List.set_cons_zero, List.set_cons_succ])
              refine wpAnyM_take (i := 35) (oi := ⟨_, _, _, _, _, _⟩) (v := ?_) rfl (by kernel_rfl) (by kernel_rfl) (by kernel_rfl) (by kernel_rfl) (fun _ _ _ h => h) (Or.inl ⟨by rfl, ?_⟩) hHeld ?_
              rotate_left
              · (intro w' hSw; (try dsimp only at hSw); go_simp; (try simp only [V1.out, V2.out, V3.out, V4.out, hs2i, hc2i, hsti, V5.out, V6.out, V7.out, V8.out, V9.out]); (try simp only [bne_self_eq_false, beq_self_eq_true, Bool.not_true, ne_eq, not_true_eq_false, decide_false]); try (with_reducible rfl))
              (try simp only [Act.put, List.setIfInBounds_toArray, List.set_cons_zero, List.set_cons_succ])
              refine wpAnyM_take (i := 36) (oi := ⟨_, _, _, _, _, _⟩) (v := ?_) rfl (by kernel_rfl) (by kernel_rfl) (by kernel_rfl) (by kernel_rfl) (fun _ _ _ h => h) (Or.inl ⟨by rfl, ?_⟩) hHeld ?_
              rotate_left
              · (intro w' hSw; (try dsimp only at hSw); go_simp; (try simp only [V1.out, V2.out, V3.out, V4.out, hs2i, hc2i, hsti, V5.out, V6.out, V7.out, V8.out, V9.out]); (try simp only [bne_self_eq_false, beq_self_eq_true, Bool.not_true, ne_eq, not_true_eq_false, decide_false]); try (with_reducible rfl))
              (try simp only [Act.put, List.setIfInBounds_toArray, List.set_cons_zero, List.set_cons_succ])
              refine wpAnyM_take (i := 37) (oi := ⟨_, _, _, _, _, _⟩) (v := ?_) rfl (by kernel_rfl) (by kernel_rfl) (by kernel_rfl) (by kernel_rfl) (fun _ _ _ h => h) (Or.inl ⟨by rfl, ?_⟩) hHeld ?_
              rotate_left
              · (intro w' hSw; (try dsimp only at hSw); go_simp; (try simp only [V5.out]); (try simp only [bne_self_eq_false, beq_self_eq_true, Bool.not_true, ne_eq, not_true_eq_false, decide_false]); try (with_reducible rfl))
              (try simp only [Act.put, List.setIfInBounds_toArray, List.set_cons_zero, List.set_cons_succ])
              refine wpAnyM_one (i := 31) (o := ⟨_, _, _, _, _, _⟩) (by kernel_rfl) rfl (fun K hK => ?_)
              go_simp
              (try simp only [V1.out, V2.out, V3.out, V4.out, hs2i, hc2i, hsti, V5.out, V6.out, V7.out, V8.out, V9.out])
              go_at_call 24
              refine ((HGP.out.below B1.out).upto hWE hin sl).mono ?_
              rintro e w2 ⟨u, rfl, o9, b9⟩
              obtain ⟨ub, ud, hu⟩ := o9.shape
              rw [HU.out.1] at hu
              subst hu
              have B2 : Hid (Below wl.heap.size wl w2) := B1.out.trans (b9.mono B1.out.size)
              clear o9 b9
              refine hK.out _ _ (KC.out _ B2.out) (fun hHeld => ?_)
              clear hK K
              (try simp only [List.setIfInBounds_toArray, List.set_cons_zero, List.set_cons_succ])
              refine wpAnyM_take (i := 32) (oi := ⟨_, _, _, _, _, _⟩) (v := ?_) rfl (by kernel_rfl) (by kernel_rfl) (by kernel_rfl) (by kernel_rfl) (fun _ _ _ h => h) (Or.inl ⟨by rfl, ?_⟩) hHeld ?_
              rotate_left
              · (intro w' hSw; (try dsimp only at hSw); go_simp; (try simp only [V1.out, V2.out, V3.out, V4.out, hs2i, hc2i, hsti, V5.out, V6.out, V7.out, V8.out, V9.out]); (try simp only [bne_self_eq_false, beq_self_eq_true, Bool.not_true, ne_eq, not_true_eq_false, decide_false]); try (with_reducible rfl))
              (try simp only [Act.put, List.setIfInBounds_toArray, List.set_cons_zero, List.set_cons_succ])
              refine wpAnyM_take (i := 38) (oi := ⟨_, _, _, _, _, _⟩) (v := ?_) rfl (by kernel_rfl) (by kernel_rfl) (by kernel_rfl) (by kernel_rfl) (fun _ _ _ h => h) (Or.inl ⟨by rfl, ?_⟩) hHeld ?_
              rotate_left
              · (intro w' hSw; (try dsimp only at hSw); go_simp; (try simp only [V1.out, V2.out, V3.out, V4.out, hs2i, hc2i, hsti, V5.out, V6.out, V7.out, V8.out, V9.out]); (try simp only [bne_self_eq_false, beq_self_eq_true, Bool.not_true, ne_eq, not_true_eq_false, decide_false]); try (with_reducible rfl))
              (try simp only [Act.put, List.setIfInBounds_toArray, List.set_cons_zero, List.set_cons_succ])
              refine wpAnyM_take (i := 39) (oi := ⟨_, _, _, _, _, _⟩) (v := ?_) rfl (by kernel_rfl) (by kernel_rfl) (by kernel_rfl) (by kernel_rfl) (fun _ _ _ h => h) (Or.inl ⟨by rfl, ?_⟩) hHeld ?_
              rotate_left
              · (intro w' hSw; (try dsimp only at hSw); go_simp; (try simp only [V1.out, V2.out, V3.out, V4.out, hs2i, hc2i, hsti, V5.out, V6.out, V7.out, V8.out, V9.out]); (try simp only [bne_self_eq_false, beq_self_eq_true, Bool.not_true, ne_eq, not_true_eq_false, decide_false]); try (with_reducible rfl))
              (try simp only [Act.put, List.setIfInBounds_toArray, List.set_cons_zero, List.set_cons_succ])
              refine wpAnyM_take (i := 40) (oi := ⟨_, _, _, _, _, _⟩) (v := ?_) rfl (by kernel_rfl) (by kernel_rfl) (by kernel_rfl) (by kernel_rfl) (fun _ _ _ h => h) (Or.inl ⟨by rfl, ?_⟩) hHeld ?_
              rotate_left
              · (intro w' hSw; (try dsimp only at hSw); go_simp; (try simp only [V1.out, V2.out, V3.out, V4.out, hs2i, hc2i, hsti, V5.out, V6.out, V7.out, V8.out, V9.out]); (try simp only [bne_self_eq_false, beq_self_eq_true, Bool.not_true, ne_eq, not_true_eq_false, decide_false]); try (with_reducible rfl))
              (try simp only [Act.put, List.setIfInBounds_toArray, List.set_cons_zero, List.set_cons_succ])
              refine wpAnyM_take (i := 41) (oi := ⟨_, _, _, _, _, _⟩) (v := ?_) rfl (by kernel_rfl) (by kernel_rfl) (by kernel_rfl) (by kernel_rfl) (fun _ _ _ h => h) (Or.inl ⟨by rfl, ?_⟩) hHeld ?_
              rotate_left
              · (intro w' hSw; (try dsimp only at hSw); go_simp; (try simp only [V1.out, V2.out, V3.out, V4.out, hs2i, hc2i, hsti, V5.out, V6.out, V7.out, V8.out, V9.out]); (try simp only [bne_self_eq_false, beq_self_eq_true, Bool.not_true, ne_eq, not_true_eq_false, decide_false]); try (with_reducible rfl))
              (try simp only [Act.put, List.setIfInBounds_toArray, List.set_cons_zero, List.set_cons_succ])
              refine wpAnyM_take (i := 42) (oi := ⟨_, _, _, _, _, _⟩) (v := ?_) rfl (by kernel_rfl) (by kernel_rfl) (by kernel_rfl) (by kernel_rfl) (fun _ _ _ h => h) (Or.inl ⟨by rfl, ?_⟩) hHeld ?_
              rotate_left
              · (intro w' hSw; (try dsimp only at hSw); go_simp; (try simp only [V1.out, V2.out, V3.out, V4.out, hs2i, hc2i, hsti, V5.out, V6.out, V7.out, V8.out, V9.out]); (try simp only [bne_self_eq_false, beq_self_eq_true, Bool.not_true, ne_eq, not_true_eq_false, decide_false]); try (with_reducible rfl))
              (try simp only [Act.put, List.setIfInBounds_toArray, List.set_cons_zero, List.set_cons_succ])
              refine wpAnyM_take (i := 43) (oi := ⟨_, _, _, _, _, _⟩) (v := ?_) rfl (by kernel_rfl) (by kernel_rfl) (by kernel_rfl) (by kernel_rfl) (fun _ _ _ h => h) (Or.inl ⟨by rfl, ?_⟩) hHeld ?_
              rotate_left
              · (intro w' hSw; (try dsimp only at hSw); go_simp; (try simp only [V1.out, V2.out, V3.out, V4.out, hs2i, hc2i, hsti, V5.out, V6.out, V7.out, V8.out, V9.out]); (try simp only [bne_self_eq_false, beq_self_eq_true, Bool.not_true, ne_eq, not_true_eq_false, decide_false]); try (with_reducible rfl))
              (try simp only [Act.put, List.setIfInBounds_toArray, List.set_cons_zero, List.set_cons_succ])
              refine wpAnyM_take (i := 44) (oi := ⟨_, _, _, _, _, _⟩) (v := ?_) rfl (by kernel_rfl) (by kernel_rfl) (by kernel_rfl) (by kernel_rfl) (fun _ _ _ h => h) (Or.inl ⟨by rfl, ?_⟩) hHeld ?_
              rotate_left
              · (intro w' hSw; (try dsimp only at hSw); go_simp; (try simp only [V1.out, V2.out, V3.out, V4.out, hs2i, hc2i, hsti, V5.out, V6.out, V7.out, V8.out, V9.out]); (try simp only [bne_self_eq_false, beq_self_eq_true, Bool.not_true, ne_eq, not_true_eq_false, decide_false]); try (with_reducible rfl))
              (try simp only [Act.put, List.setIfInBounds_toArray, List.set_cons_zero, List.set_cons_succ])
              refine wpAnyM_take (i := 45) (oi := ⟨_, _, _, _, _, _⟩) (v := ?_) rfl (by kernel_rfl) (by kernel_rfl) (by kernel_rfl) (by kernel_rfl) (fun _ _ _ h => h) (Or.inl ⟨by rfl, ?_⟩) hHeld ?_
              rotate_left
              · (intro w' hSw; (try dsimp only at hSw); go_simp; (try simp only [V1.out, V2.out, V3.out, V4.out, hs2i, hc2i, hsti, V5.out, V6.out, V7.out, V8.out, V9.out]); (try simp only [bne_self_eq_false, beq_self_eq_true, Bool.not_true, ne_eq, not_true_eq_false, decide_false]); try (with_reducible rfl))
              (try simp only [Act.put, List.setIfInBounds_toArray, List.set_cons_zero, List.set_cons_succ])
              refine wpAnyM_take (i := 46) (oi := ⟨_, _, _, _, _, _⟩) (v := ?_) rfl (by kernel_rfl) (by kernel_rfl) (by kernel_rfl) (by kernel_rfl) (fun _ _ _ h => h) (Or.inl ⟨by rfl, ?_⟩) hHeld ?_
              rotate_left
              · (intro w' hSw; (try dsimp only at hSw); go_simp; (try simp only [V9.out]); (try simp only [bne_self_eq_false, beq_self_eq_true, Bool.not_true, ne_eq, not_true_eq_false, decide_false]); try (with_reducible rfl))
              (try simp only [Act.put, List.setIfInBounds_toArray, List.set_cons_zero, List.set_cons_succ])
              refine wpAnyM_take (i := 49) (oi := ⟨_, _, _, _, _, _⟩) (v := ?_) rfl (by kernel_rfl) (by kernel_rfl) (by kernel_rfl) (by kernel_rfl) (fun _ _ _ h => h) (Or.inl ⟨by rfl, ?_⟩) hHeld ?_
              rotate_left
              · (intro w' hSw; (try dsimp only at hSw); go_simp; (try simp only [V1.out, V2.out, V3.out, V4.out, hs2i, hc2i, hsti, V5.out, V6.out, V7.out, V8.out, V9.out]); (try simp only [bne_self_eq_false, beq_self_eq_true, Bool.not_true, ne_eq, not_true_eq_false, decide_false]); try (with_reducible rfl))
              (try simp only [Act.put, List.setIfInBounds_toArray, List.set_cons_zero, List.set_cons_succ])
              refine wpAnyM_take (i := 50) (oi := ⟨_, _, _, _, _, _⟩) (v := ?_) rfl (by kernel_rfl) (by kernel_rfl) (by kernel_rfl) (by kernel_rfl) (fun _ _ _ h => h) (Or.inl ⟨by rfl, ?_⟩) hHeld ?_
              rotate_left
              · (intro w' hSw; (try dsimp only at hSw); go_simp; (try simp only [V1.out, V2.out, V3.out, V4.out, hs2i, hc2i, hsti, V5.out, V6.out, V7.out, V8.out, V9.out]); (try simp only [bne_self_eq_false, beq_self_eq_true, Bool.not_true, ne_eq, not_true_eq_false, decide_false]); try (with_reducible rfl))
              (try simp only [Act.put, List.setIfInBounds_toArray, List.set_cons_zero, List.set_cons_succ])
              refine wpAnyM_take (i := 51) (oi := ⟨_, _, _, _, _, _⟩) (v := ?_) rfl (by kernel_rfl) (by kernel_rfl) (by kernel_rfl) (by kernel_rfl) (fun _ _ _ h => h) (Or.inl ⟨by rfl, ?_⟩) hHeld ?_
              rotate_left
              · (intro w' hSw; (try dsimp only at hSw); go_simp; (try simp only [V1.out, V2.out, V3.out, V4.out, hs2i, hc2i, hsti, V5.out, V6.out, V7.out, V8.out, V9.out]); (try simp only [bne_self_eq_false, beq_self_eq_true, Bool.not_true, ne_eq, not_true_eq_false, decide_false]); try (with_reducible rfl))
              (try simp only [Act.put, List.setIfInBounds_toArray, List.set_cons_zero, List.set_cons_succ])
              refine wpAnyM_take (i := 52) (oi := ⟨_, _, _, _, _, _⟩) (v := ?_) rfl (by kernel_rfl) (by kernel_rfl) (by kernel_rfl) (by kernel_rfl) (fun _ _ _ h => h) (Or.inl ⟨by rfl, ?_⟩) hHeld ?_
              rotate_left
              · (intro w' hSw; (try dsimp only at hSw); go_simp; (try simp only [V6.out]); (try simp only [bne_self_eq_false, beq_self_eq_true, Bool.not_true, ne_eq, not_true_eq_false, decide_false]); try (with_reducible rfl))
              (try simp only [Act.put, List.setIfInBounds_toArray, List.set_cons_zero, List.set_cons_succ])
              refine wpAnyM_one (i := 47) (o := ⟨_, _, _, _, _, _⟩) (by kernel_rfl) rfl (fun K hK => ?_)
              go_simp
              (try simp only [V1.out, V2.out, V3.out, V4.out, hs2i, hc2i, hsti, V5.out, V6.out, V7.out, V8.out, V9.out])
              go_at_call 24
              refine ((HGP.out.below B2.out).upto hWE hin cp).mono ?_
              rintro e w10 ⟨u, rfl, o9, b9⟩
              obtain ⟨uf, ug, hu⟩ := o9.shape
              rw [HU.out.2.1] at hu
              subst hu
              have B3 : Hid (Below wl.heap.size wl w10) := B2.out.trans (b9.mono B2.out.size)
              clear o9 b9
              refine hK.out _ _ (KC.out _ B3.out) (fun hHeld => ?_)
              clear hK K
              (try simp only [List.setIfInBounds_toArray, List.set_cons_zero, List.set_cons_succ])
              refine wpAnyM_take (i := 48) (oi := ⟨_, _, _, _, _, _⟩) (v := ?_) rfl (by kernel_rfl) (by kernel_rfl) (by kernel_rfl) (by kernel_rfl) (fun _ _ _ h => h) (Or.inl ⟨by rfl, ?_⟩) hHeld ?_
              rotate_left
              · (intro w' hSw; (try dsimp only at hSw); go_simp; (try simp only [V1.out, V2.out, V3.out, V4.out, hs2i, hc2i, hsti, V5.out, V6.out, V7.out, V8.out, V9.out]); (try simp only [bne_self_eq_false, beq_self_eq_true, Bool.not_true, ne_eq, not_true_eq_false, decide_false]); try (with_reducible rfl))
              (try simp only [Act.put, List.setIfInBounds_toArray, List.set_cons_zero, List.set_cons_succ])
              refine wpAnyM_take (i := 53) (oi := ⟨_, _, _, _, _, _⟩) (v := ?_) rfl (by kernel_rfl) (by kernel_rfl) (by kernel_rfl) (by kernel_rfl) (fun _ _ _ h => h) (Or.inl ⟨by rfl, ?_⟩) hHeld ?_
              rotate_left
              · (intro w' hSw; (try dsimp only at hSw); go_simp; (try simp only [V1.out, V2.out, V3.out, V4.out, hs2i, hc2i, hsti, V5.out, V6.out, V7.out, V8.out, V9.out]); (try simp only [bne_self_eq_false, beq_self_eq_true, Bool.not_true, ne_eq, not_true_eq_false, decide_false]); try (with_reducible rfl))
              (try simp only [Act.put, List.setIfInBounds_toArray, List.set_cons_zero, List.set_cons_succ])
              refine wpAnyM_take (i := 54) (oi := ⟨_, _, _, _, _, _⟩) (v := ?_) rfl (by kernel_rfl) (by kernel_rfl) (by kernel_rfl) (by kernel_rfl) (fun _ _ _ h => h) (Or.inl ⟨by rfl, ?_⟩) hHeld ?_
              rotate_left
              · (intro w' hSw; (try dsimp only at hSw); go_simp; (try simp only [V1.out, V2.out, V3.out, V4.out, hs2i, hc2i, hsti, V5.out, V6.out, V7.out, V8.out, V9.out]); (try simp only [bne_self_eq_false, beq_self_eq_true, Bool.not_true, ne_eq, not_true_eq_false, decide_false]); try (with_reducible rfl))
              (try simp only [Act.put, List.setIfInBounds_toArray, List.set_cons_zero, List.set_cons_succ])
              refine wpAnyM_done (by kernel_rfl) ?_ _
              clear hHeld
              go_wp2_with fail
              go_roundg gi
              case rel => exact ⟨p + 1, by go_num, by omega, by omega, hide (HGP.out.below B3.out)⟩
              case measure => omega
            · obtain rfl : p = 3 := by omega
              have HFL : Hid (o.flatten.length ≤ 500000) := (show _ ≤ _ by have := HGP.out.flat; omega)
              go_wp2_with (first | (go_at_call 18; refine (HGP.out.all hWE).mono ?_; rintro e w5 ⟨u, rfl, o5, b5⟩; have U5 := hide o5; have B5 := hide b5; clear o5 b5) | (go_at_call 17; refine (hRecords_any (U5.out.seg Rc.cs_len (by have := HFL.out; omega)) (((HGP.out.below B5.out).rowAt HR3.out).seg Rc.cs_len (show o.flatten.length ≤ _ from by have := HFL.out; omega)) (by have := HFL.out; omega)).mono ?_; rintro e w6 ⟨rfl, b6⟩; have B6 := hide b6; clear b6) | fail)
              go_ret
              exact ⟨rfl, (HGP.out.below B5.out).world.trans (B6.out.mono (HGP.out.below B5.out).world.size)⟩

end Go.Proofs.Yteafnohponbbeaa
