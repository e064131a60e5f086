/-
  Put, walked.
-/
import Derived.Test.YtlikikiglicdlaaWPutP
namespace Go.Proofs.Ytlikikiglicdlaa
open Go.RowKit

theorem LSeg.span {B : Nat} {w : World} {ao : Option Addr} {n cap : Nat} {xs : List Sp} (h : LSeg 2 Sp.cs B w (.slice ao n cap) xs) {i : Nat} {x : Sp} (hx : xs[i]? = some x) : ∃ b o, ao = some ⟨b, o, none⟩ ∧ b < B ∧ w.cell? ⟨b, o + i * 2, none⟩ = some (.int .i64 x.f) ∧ w.cell? ⟨b, o + i * 2 + 1, none⟩ = some (.int .i64 x.t) := by
  obtain ⟨b, o, e, hb, _, d⟩ := h.readAt hx
  exact ⟨b, o, e, hb, d 0 _ rfl, d 1 _ rfl⟩
set_option maxHeartbeats 16000000 in
set_option maxRecDepth 100000 in
theorem Put_any {w : World} {v : Value} {l : List Pn} (hl : LSeg 4 Pn.cs w.heap.size w v l) (hn : l.length ≤ 50000) (k : Int) {size slide : Int} (hs : In64 size) (hsl : In64 slide) (a : Int) (r : Rc) :
    Calls Try.prog 15 #[.agg #[.int .i64 k, .int .i64 size, .int .i64 slide], .int .i64 a, v, r.val] w fun e w' => ∃ u, e = .returned u ∧ Row 46 4 Pn.cs w.heap.size w' u (pPut k size slide a l r) ∧ Below w.heap.size w w' := by
  obtain ⟨ao, cap, rfl⟩ := hl.shapeOf
  have hb2 := below_box2 w (.cells #[.int .i64 k, .int .i64 size, .int .i64 slide] 23) (.cells #[.int .i64 r.k, .int .i64 r.t, .int .i64 r.v] 37)
  have h2 := two2 w (.cells #[.int .i64 k, .int .i64 size, .int .i64 slide] 23) (.cells #[.int .i64 r.k, .int .i64 r.t, .int .i64 r.v] 37)
  have HC := hide (copied_any ((hl.below hb2).mono hb2.size) (by omega))
  have HSP := hide (fun W => Spans_any W k r.t hs hsl)
  have HSL := hide (pSpans_len k size slide r.t)
  have HB2 := hide hb2
  have HBW : Hid (BoxT 23 ((w.alloc (.cells #[.int .i64 k, .int .i64 size, .int .i64 slide] 23)).alloc (.cells #[.int .i64 r.k, .int .i64 r.t, .int .i64 r.v] 37)) w.heap.size #[.int .i64 k, .int .i64 size, .int .i64 slide]) := h2.1
  have HBR : Hid (BoxT 37 ((w.alloc (.cells #[.int .i64 k, .int .i64 size, .int .i64 slide] 23)).alloc (.cells #[.int .i64 r.k, .int .i64 r.t, .int .i64 r.v] 37)) (w.heap.size + 1) #[.int .i64 r.k, .int .i64 r.t, .int .i64 r.v]) := h2.2
  unfold pPut
  generalize pSpans k size slide r.t = sps at *
  have HFL := hide (fold_len k a r sps l)
  have HFO : Hid ((sps.drop 0).foldl (stepP k a r) l = sps.foldl (stepP k a r) l) := (show _ = _ by rw [List.drop_zero])
  generalize sps.foldl (stepP k a r) l = R at *
  have hsl2 : sps.length ≤ 64 := HSL.out
  have hrl : R.length ≤ 50064 := by have := HFL.out; omega
  clear hl hb2 h2
  have HR := hide (show r.cs = [.int .i64 r.k, .int .i64 r.t, .int .i64 r.v] from rfl)
  clear HR
  go_enter Try.func15, Try.ntmps15
  unfold Rc.val
  go_wp2_with (first
    | (go_at_call 29; refine HC.out.mono ?_; rintro e w1 ⟨u, rfl, o1, b1⟩; obtain ⟨ua, uc, rfl⟩ := o1.shape; have O1 := hide o1; have B1 := hide b1; obtain ⟨y0, y1, y2⟩ := (BoxT.below (t := 23) HBW.out b1).cells3; obtain ⟨z0, z1, z2⟩ := (BoxT.below (t := 37) HBR.out b1).cells3; clear o1 b1)
    | (go_at_call 12; refine (HSP.out _).mono ?_; rintro e w2 ⟨s, rfl, o2, b2⟩; obtain ⟨sa, sc, rfl⟩ := o2.shape; have HPI : Hid (PI w w2 k size slide r (.slice ua l.length uc) l (.slice sa sps.length sc) sps) := ⟨by have := O1.out.below b2; simpa using this, BoxT.below (t := 23) (BoxT.below (t := 23) HBW.out B1.out) b2, BoxT.below (t := 37) (BoxT.below (t := 37) HBR.out B1.out) b2, o2.mono (by have := B1.out.size; simpa using this), (HB2.out.trans (B1.out.mono HB2.out.size)).trans (b2.mono (HB2.out.trans (B1.out.mono HB2.out.size)).size)⟩; clear o2 b2 y0 y1 y2 z0 z1 z2))
  clear HC HSP HBW HBR HB2 O1 B1
  go_loopg [2, 10, 11, 12, 20] (sps.length + 1) (fun gh lv _ _ _ iv wr => ∃ (i : Nat) (l2 : List Pn), iv = .int .i64 (i : Int) ∧ i ≤ sps.length ∧ sps.length + 1 ≤ gh + i ∧ l2.length ≤ 50000 + i ∧ Hid (PI w wr k size slide r lv l2 (.slice sa sps.length sc) sps) ∧ Hid ((sps.drop i).foldl (stepP k a r) l2 = R))
  case atStart => exact ⟨0, l, rfl, by omega, by omega, by omega, HPI, HFO⟩
  case round =>
    clear HPI HFO
    obtain ⟨i, l2, rfl, hi, hg, hl2, HP, HF⟩ := hrel
    obtain ⟨go, rfl⟩ : ∃ go, gk = go + 1 := ⟨gk - 1, by omega⟩
    obtain ⟨a2, c2, rfl⟩ := HP.out.row.shape
    by_cases hlt : i < sps.length
    · obtain ⟨s, hsi⟩ := get_of_lt hlt
      have bt : (i : Int) < (sps.length : Int) := by omega
      obtain ⟨nb, no, ee, _, e0, e1⟩ := (HP.out.sp.seg Sp.cs_len (by omega)).span hsi
      subst ee
      have HF2 : Hid ((sps.drop (i + 1)).foldl (stepP k a r) (stepP k a r l2 s) = R) := (show _ = _ by have h1 := HF.out; rw [drop_at hsi] at h1; exact h1)
      have HST := hide (stepP_len k a r l2 s)
      have HSU : Hid (stepP k a r l2 s = if k = 3 then pSess (jn a) l2 ⟨r.k, s.f, s.t, zr a⟩ (vOf a r.v) else addSp (jn a) ⟨r.k, s.f, s.t, zr a⟩ (vOf a r.v) l2) := (show _ = _ from rfl)
      generalize stepP k a r l2 s = l3 at *
      have hbs : Below wr.heap.size wr (wr.alloc (.cells #[.int .i64 s.f, .int .i64 s.t] 31)) := below_box wr _
      have HPB := hide (HP.out.below hbs)
      have HNS := hide (BoxT.new 31 wr #[.int .i64 s.f, .int .i64 s.t])
      have HBS := hide hbs
      have HZ := hide (fun W => Zero_any W a)
      clear hsi HF hbs
      obtain ⟨rk, rt, rv⟩ := r
      obtain ⟨sf, st⟩ := s
      simp only at e0 e1 HPB HNS HBS HSU
      have KC : Hid (∀ w' : World, Below (wr.alloc (.cells #[.int .i64 sf, .int .i64 st] 31)).heap.size (wr.alloc (.cells #[.int .i64 sf, .int .i64 st] 31)) w' → w'.cell? ⟨w.heap.size + 1, 0, none⟩ = some (.int .i64 rk) ∧ w'.cell? ⟨wr.heap.size, 0, none⟩ = some (.int .i64 sf) ∧ w'.cell? ⟨wr.heap.size, 1, none⟩ = some (.int .i64 st)) := fun w' h => ⟨(by rw [(BoxT.below (t := 37) HPB.out.br h).cellAt]; rfl), (by rw [(BoxT.below (t := 31) HNS.out h).cellAt]; rfl), (by rw [(BoxT.below (t := 31) HNS.out h).cellAt]; rfl)⟩
      generalize zr a = za at *
      go_upto_region 5 with fail
      go_cut [11, 20] from 20 to 59 (fun pv iv wx => iv = .int .i64 (i : Int) ∧ ∃ K, pv = .pointer (some ⟨K, 0, none⟩) ∧ Hid (BoxT 46 wx K (Pn.cs ⟨rk, sf, st, za⟩).toArray) ∧ Hid (Below wr.heap.size wr wx))
      case first =>
        refine wp_region_M (S := fun w' => w'.cell? ⟨w.heap.size + 1, 0, none⟩ = some (.int .i64 rk) ∧ w'.cell? ⟨wr.heap.size, 0, none⟩ = some (.int .i64 sf) ∧ w'.cell? ⟨wr.heap.size, 1, none⟩ = some (.int .i64 st)) (late := []) (by kernel_rfl) (KC.out _ (Below.refl _ _).drew) (fun hHeld => ?_)
        (try simp only [List.size_toArray, List.length_cons, List.length_nil, Nat.zero_add, Nat.reduceAdd, Array.replicate, List.replicate])
        refine wpAnyM_take (i := 0) (oi := ⟨_, _, _, _, _, _⟩) (v := ?_) rfl (by kernel_rfl) (by kernel_rfl) (by kernel_rfl) (by kernel_rfl) (fun _ _ _ h => h) (Or.inl ⟨by rfl, ?_⟩) hHeld ?_
        rotate_left
        · (intro w' hSw; (try dsimp only at hSw); go_simp; try (with_reducible rfl))
        (try simp only [Act.put, List.setIfInBounds_toArray, List.set_cons_zero, List.set_cons_succ])
        refine wpAnyM_take (i := 1) (oi := ⟨_, _, _, _, _, _⟩) (v := ?_) rfl (by kernel_rfl) (by kernel_rfl) (by kernel_rfl) (by kernel_rfl) (fun _ _ _ h => h) (Or.inl ⟨by rfl, ?_⟩) hHeld ?_
        rotate_left
        · (intro w' hSw; (try dsimp only at hSw); go_simp; try (with_reducible rfl))
        (try simp only [Act.put, List.setIfInBounds_toArray, List.set_cons_zero, List.set_cons_succ])
        refine wpAnyM_take (i := 2) (oi := ⟨_, _, _, _, _, _⟩) (v := ?_) rfl (by kernel_rfl) (by kernel_rfl) (by kernel_rfl) (by kernel_rfl) (fun _ _ _ h => h) (Or.inl ⟨by rfl, ?_⟩) hHeld ?_
        rotate_left
        · (intro w' hSw; (try dsimp only at hSw); go_simp; try (with_reducible rfl))
        (try simp only [Act.put, List.setIfInBounds_toArray, List.set_cons_zero, List.set_cons_succ])
        refine wpAnyM_take (i := 3) (oi := ⟨_, _, _, _, _, _⟩) (v := ?_) rfl (by kernel_rfl) (by kernel_rfl) (by kernel_rfl) (by kernel_rfl) (fun _ _ _ h => h) (Or.inl ⟨by rfl, ?_⟩) hHeld ?_
        rotate_left
        · (intro w' hSw; (try dsimp only at hSw); go_simp; try (with_reducible rfl))
        (try simp only [Act.put, List.setIfInBounds_toArray, List.set_cons_zero, List.set_cons_succ])
        refine wpAnyM_two (i := 4) (j := 6) (oi := ⟨_, _, _, _, _, _⟩) (oj := ⟨_, _, _, _, _, _⟩) (by kernel_rfl) rfl rfl (fun K hK => ?_) (fun K hK => ?_)
        · go_simp
          go_at_call 30
          refine (HZ.out _).mono ?_
          rintro e w2 ⟨rfl, hb⟩
          have B2 : Hid (Below (wr.alloc (.cells #[.int .i64 sf, .int .i64 st] 31)).heap.size (wr.alloc (.cells #[.int .i64 sf, .int .i64 st] 31)) w2) := ((Below.refl _ _).drew).trans hb
          refine hK.out _ _ (KC.out _ B2.out) (fun hHeld => ?_)
          clear hK K hb
          (try simp only [List.setIfInBounds_toArray, List.set_cons_zero, List.set_cons_succ])
          refine wpAnyM_take (i := 5) (oi := ⟨_, _, _, _, _, _⟩) (v := ?_) rfl (by kernel_rfl) (by kernel_rfl) (by kernel_rfl) (by kernel_rfl) (fun _ _ _ h => h) (Or.inl ⟨by rfl, ?_⟩) hHeld ?_
          rotate_left
          · (intro w' hSw; (try dsimp only at hSw); go_simp; try (with_reducible rfl))
          (try simp only [Act.put, List.setIfInBounds_toArray, List.set_cons_zero, List.set_cons_succ])
          refine wpAnyM_one (i := 6) (o := ⟨_, _, _, _, _, _⟩) (by kernel_rfl) rfl (fun K hK => ?_)
          go_simp
          have HN2 := hide (BoxT.new 46 w2 #[.int .i64 0, .int .i64 0, .int .i64 0, .int .i64 0])
          have B3 := hide (B2.out.alloc B2.out.size (.cells #[.int .i64 0, .int .i64 0, .int .i64 0, .int .i64 0] 46))
          refine hK.out _ _ (KC.out _ B3.out) (fun hHeld => ?_)
          clear hK K
          (try simp only [List.setIfInBounds_toArray, List.set_cons_zero, List.set_cons_succ])
          obtain ⟨q0, q1, q2, q3⟩ := HN2.out.cells4
          have fz := fun j => HN2.out.free j
          refine wpAnyM_one (i := 7) (o := ⟨_, _, _, _, _, _⟩) (by kernel_rfl) rfl (fun K hK => ?_)
          go_simp
          have B4 := hide (B2.out.alloc B2.out.size (.cells #[.int .i64 rk, .int .i64 sf, .int .i64 st, .int .i64 za] 46))
          refine hK.out _ _ (KC.out _ B4.out) (fun _ => ?_)
          clear hK K
          refine wpAnyM_done (by kernel_rfl) ?_ _
          go_wp2_with fail
          go_meet
          case rel => exact ⟨rfl, _, rfl, hide (BoxT.new 46 w2 _), hide (HBS.out.trans (B4.out.mono HBS.out.size))⟩
        · go_simp
          have hz : Below (wr.alloc (.cells #[.int .i64 sf, .int .i64 st] 31)).heap.size (wr.alloc (.cells #[.int .i64 sf, .int .i64 st] 31)) ((wr.alloc (.cells #[.int .i64 sf, .int .i64 st] 31)).alloc (.cells #[.int .i64 0, .int .i64 0, .int .i64 0, .int .i64 0] 46)).drew := ((Below.refl _ _).alloc (Nat.le_refl _) _).drew
          have HN2 : Hid (BoxT 46 ((wr.alloc (.cells #[.int .i64 sf, .int .i64 st] 31)).alloc (.cells #[.int .i64 0, .int .i64 0, .int .i64 0, .int .i64 0] 46)).drew (wr.heap.size + 1) #[.int .i64 0, .int .i64 0, .int .i64 0, .int .i64 0]) := BoxT.drew (BoxT.new_at (t := 46) (w := wr.alloc (.cells #[.int .i64 sf, .int .i64 st] 31)) (by simp))
          have HZ0 := hide hz
          clear hz
          refine hK.out _ _ (KC.out _ HZ0.out) (fun hHeld => ?_)
          clear hK K
          (try simp only [List.setIfInBounds_toArray, List.set_cons_zero, List.set_cons_succ])
          refine wpAnyM_one (i := 4) (o := ⟨_, _, _, _, _, _⟩) (by kernel_rfl) rfl (fun K hK => ?_)
          go_simp
          go_at_call 30
          refine (HZ.out _).mono ?_
          rintro e w2 ⟨rfl, hb⟩
          have B2 := hide (HZ0.out.trans (hb.mono HZ0.out.size))
          have HN3 := hide (BoxT.below (t := 46) HN2.out hb)
          refine hK.out _ _ (KC.out _ B2.out) (fun hHeld => ?_)
          clear hK K hb
          (try simp only [List.setIfInBounds_toArray, List.set_cons_zero, List.set_cons_succ])
          refine wpAnyM_take (i := 5) (oi := ⟨_, _, _, _, _, _⟩) (v := ?_) rfl (by kernel_rfl) (by kernel_rfl) (by kernel_rfl) (by kernel_rfl) (fun _ _ _ h => h) (Or.inl ⟨by rfl, ?_⟩) hHeld ?_
          rotate_left
          · (intro w' hSw; (try dsimp only at hSw); go_simp; try (with_reducible rfl))
          (try simp only [Act.put, List.setIfInBounds_toArray, List.set_cons_zero, List.set_cons_succ])
          obtain ⟨q0, q1, q2, q3⟩ := HN3.out.cells4
          have fz := fun j => HN3.out.free j
          refine wpAnyM_one (i := 7) (o := ⟨_, _, _, _, _, _⟩) (by kernel_rfl) rfl (fun K hK => ?_)
          go_simp
          have B4 := hide (below_four B2.out (show (wr.alloc (.cells #[.int .i64 sf, .int .i64 st] 31)).heap.size ≤ wr.heap.size + 1 by simp) (.int .i64 rk) (.int .i64 sf) (.int .i64 st) (.int .i64 za))
          refine hK.out _ _ (KC.out _ B4.out) (fun _ => ?_)
          clear hK K
          refine wpAnyM_done (by kernel_rfl) ?_ _
          go_wp2_with fail
          go_meet
          case rel => exact ⟨rfl, _, rfl, hide (BoxT.four HN3.out _ _ _ _), hide (HBS.out.trans (B4.out.mono HBS.out.size))⟩
      case rest =>
        obtain ⟨rfl, K, rfl, HK, HBK⟩ := hcut
        have HPK := hide (HP.out.below HBK.out)
        obtain ⟨c0, c1, c2', c3⟩ := box4 HK.out
        obtain ⟨y0, y1, y2⟩ := HPK.out.bw.cells3
        simp only at c0 c1 c2' c3
        by_cases h3 : k = 3
        · subst h3
          rw [if_pos rfl] at HSU
          have HWS := hide (withSession_any HPK.out.row (by have := HPK.out.bw.lt; have h9 := HPK.out.br.lt; omega) (show l2.length ≤ 100000 by omega) ⟨rk, sf, st, za⟩ a)
          unfold Pn.val at HWS
          simp only at HWS
          clear HPB HNS HBS KC HP HBK
          go_upto_region 10 with (go_at_call 31; refine HWS.out.mono ?_; rintro e w3 ⟨v3, l4, i4, p4, rfl, o3, g3, k3, hp3, hs3, hn3⟩)
          obtain ⟨a3, cap3, rfl⟩ := o3.shape
          have HP3 := hide (HPK.out.grown g3 o3)
          obtain ⟨g, rfl, _, hbg, cg, fg, hset⟩ := o3.set3 hp3
          have HSET := hide hset
          have HGL := hide (o3.lt g rfl)
          have hi4 := lt_of_get hp3
          have bi4 : (i4 : Int) < (l4.length : Int) := by omega
          have zr2 : w3.drew.cell? ⟨w.heap.size + 1, 2, none⟩ = some (.int .i64 rv) := HP3.out.br.cells3.2.2
          have HP4 := hide hp3
          have HAD := hide (fun W => Add_any W a p4.a rv)
          have HSU2 : Hid (l3 = l4.set i4 (withA p4 (ad a p4.a rv))) := (show _ = _ by rw [HSU.out]; exact (hs3 (vOf a rv)).symm)
          generalize ad a p4.a rv = ads at *
          clear hset o3 g3 k3 hp3 hs3 fg HSU
          refine wp_region_M (S := fun w' => w'.cell? ⟨w.heap.size + 1, 2, none⟩ = some (.int .i64 rv)) (late := []) (by kernel_rfl) zr2 (fun hHeld => ?_)
          (try simp only [List.size_toArray, List.length_cons, List.length_nil, Nat.zero_add, Nat.reduceAdd, Array.replicate, List.replicate])
          refine wpAnyM_take (i := 0) (oi := ⟨_, _, _, _, _, _⟩) (v := ?_) rfl (by kernel_rfl) (by kernel_rfl) (by kernel_rfl) (by kernel_rfl) (fun _ _ _ h => h) (Or.inl ⟨by rfl, ?_⟩) hHeld ?_
          rotate_left
          · (intro w' hSw; (try dsimp only at hSw); go_simp; try (with_reducible rfl))
          (try simp only [Act.put, List.setIfInBounds_toArray, List.set_cons_zero, List.set_cons_succ])
          refine wpAnyM_take (i := 1) (oi := ⟨_, _, _, _, _, _⟩) (v := ?_) rfl (by kernel_rfl) (by kernel_rfl) (by kernel_rfl) (by kernel_rfl) (fun _ _ _ h => h) (Or.inl ⟨by rfl, ?_⟩) hHeld ?_
          rotate_left
          · (intro w' hSw; (try dsimp only at hSw); go_simp; try (with_reducible rfl))
          (try simp only [Act.put, List.setIfInBounds_toArray, List.set_cons_zero, List.set_cons_succ])
          refine wpAnyM_take (i := 2) (oi := ⟨_, _, _, _, _, _⟩) (v := ?_) rfl (by kernel_rfl) (by kernel_rfl) (by kernel_rfl) (by kernel_rfl) (fun _ _ _ h => h) (Or.inl ⟨by rfl, ?_⟩) hHeld ?_
          rotate_left
          · (intro w' hSw; (try dsimp only at hSw); go_simp; try (with_reducible rfl))
          (try simp only [Act.put, List.setIfInBounds_toArray, List.set_cons_zero, List.set_cons_succ])
          refine wpAnyM_take (i := 3) (oi := ⟨_, _, _, _, _, _⟩) (v := ?_) rfl (by kernel_rfl) (by kernel_rfl) (by kernel_rfl) (by kernel_rfl) (fun _ _ _ h => h) (Or.inl ⟨by rfl, ?_⟩) hHeld ?_
          rotate_left
          · (intro w' hSw; (try dsimp only at hSw); go_simp; try (with_reducible rfl))
          (try simp only [Act.put, List.setIfInBounds_toArray, List.set_cons_zero, List.set_cons_succ])
          refine wpAnyM_take (i := 4) (oi := ⟨_, _, _, _, _, _⟩) (v := ?_) rfl (by kernel_rfl) (by kernel_rfl) (by kernel_rfl) (by kernel_rfl) (fun _ _ _ h => h) (Or.inl ⟨by rfl, ?_⟩) hHeld ?_
          rotate_left
          · (intro w' hSw; (try dsimp only at hSw); go_simp; try (with_reducible rfl))
          (try simp only [Act.put, List.setIfInBounds_toArray, List.set_cons_zero, List.set_cons_succ])
          refine wpAnyM_take (i := 5) (oi := ⟨_, _, _, _, _, _⟩) (v := ?_) rfl (by kernel_rfl) (by kernel_rfl) (by kernel_rfl) (by kernel_rfl) (fun _ _ _ h => h) (Or.inl ⟨by rfl, ?_⟩) hHeld ?_
          rotate_left
          · (intro w' hSw; (try dsimp only at hSw); go_simp; try (with_reducible rfl))
          (try simp only [Act.put, List.setIfInBounds_toArray, List.set_cons_zero, List.set_cons_succ])
          refine wpAnyM_take (i := 6) (oi := ⟨_, _, _, _, _, _⟩) (v := ?_) rfl (by kernel_rfl) (by kernel_rfl) (by kernel_rfl) (by kernel_rfl) (fun _ _ _ h => h) (Or.inl ⟨by rfl, ?_⟩) hHeld ?_
          rotate_left
          · (intro w' hSw; (try dsimp only at hSw); go_simp; try (with_reducible rfl))
          (try simp only [Act.put, List.setIfInBounds_toArray, List.set_cons_zero, List.set_cons_succ])
          refine wpAnyM_take (i := 8) (oi := ⟨_, _, _, _, _, _⟩) (v := ?_) rfl (by kernel_rfl) (by kernel_rfl) (by kernel_rfl) (by kernel_rfl) (fun _ _ _ h => h) (Or.inl ⟨by rfl, ?_⟩) hHeld ?_
          rotate_left
          · (intro w' hSw; (try dsimp only at hSw); go_simp; try (with_reducible rfl))
          (try simp only [Act.put, List.setIfInBounds_toArray, List.set_cons_zero, List.set_cons_succ])
          refine wpAnyM_take (i := 9) (oi := ⟨_, _, _, _, _, _⟩) (v := ?_) rfl (by kernel_rfl) (by kernel_rfl) (by kernel_rfl) (by kernel_rfl) (fun _ _ _ h => h) (Or.inl ⟨by rfl, ?_⟩) hHeld ?_
          rotate_left
          · (intro w' hSw; (try dsimp only at hSw); go_simp; try (with_reducible rfl))
          (try simp only [Act.put, List.setIfInBounds_toArray, List.set_cons_zero, List.set_cons_succ])
          refine wpAnyM_one (i := 7) (o := ⟨_, _, _, _, _, _⟩) (by kernel_rfl) rfl (fun K hK => ?_)
          go_simp
          refine hK.out _ _ hHeld (fun hHeld => ?_)
          clear hK K
          (try simp only [List.setIfInBounds_toArray, List.set_cons_zero, List.set_cons_succ])
          refine wpAnyM_one (i := 10) (o := ⟨_, _, _, _, _, _⟩) (by kernel_rfl) rfl (fun K hK => ?_)
          go_simp
          go_at_call 33
          refine (HAD.out _).mono ?_
          rintro e w5 ⟨rfl, b5⟩
          have b6 : Below w3.heap.size w3 w5 := ((Below.refl _ _).drew).trans b5
          have HP5 := hide (HP3.out.below b6)
          have HP6 : Hid (PI w (w5.setCell ⟨g, i4 * 4 + 3, none⟩ (.int .i64 ads)) 3 size slide ⟨rk, rt, rv⟩ (.slice (some ⟨g, 0, none⟩) l4.length cap3) l3 (.slice (some ⟨nb, no, none⟩) sps.length sc) sps) := HP5.out.grown (grownBy_set w5 g _ _) (by rw [HSU2.out]; exact HSET.out w5 (b6.block g HGL.out) ads)
          have cg5 := (b6.cell (p := ⟨g, i4 * 4 + 3, none⟩) HGL.out).trans cg
          have fr5 : ∀ j, w5.frozen? ⟨g, j, none⟩ = false := fun j => by obtain ⟨g', eg, _, _, _, fr, _⟩ := HP5.out.row.set3 HP4.out; cases eg; exact fr j
          refine hK.out _ _ (by obtain ⟨_, _, z2⟩ := HP5.out.br.cells3; exact z2) (fun hHeld => ?_)
          clear hK K b5 b6
          (try simp only [List.setIfInBounds_toArray, List.set_cons_zero, List.set_cons_succ])
          refine wpAnyM_take (i := 11) (oi := ⟨_, _, _, _, _, _⟩) (v := ?_) rfl (by kernel_rfl) (by kernel_rfl) (by kernel_rfl) (by kernel_rfl) (fun _ _ _ h => h) (Or.inl ⟨by rfl, ?_⟩) hHeld ?_
          rotate_left
          · (intro w' hSw; (try dsimp only at hSw); go_simp; try (with_reducible rfl))
          (try simp only [Act.put, List.setIfInBounds_toArray, List.set_cons_zero, List.set_cons_succ])
          refine wpAnyM_take (i := 12) (oi := ⟨_, _, _, _, _, _⟩) (v := ?_) rfl (by kernel_rfl) (by kernel_rfl) (by kernel_rfl) (by kernel_rfl) (fun _ _ _ h => h) (Or.inl ⟨by rfl, ?_⟩) hHeld ?_
          rotate_left
          · (intro w' hSw; (try dsimp only at hSw); go_simp; try (with_reducible rfl))
          (try simp only [Act.put, List.setIfInBounds_toArray, List.set_cons_zero, List.set_cons_succ])
          refine wpAnyM_one (i := 13) (o := ⟨_, _, _, _, _, _⟩) (by kernel_rfl) rfl (fun K hK => ?_)
          go_simp
          refine hK.out _ _ (by obtain ⟨_, _, z2⟩ := HP6.out.br.cells3; exact z2) (fun hHeld => ?_)
          clear hK K
          refine wpAnyM_done (by kernel_rfl) ?_ _
          go_wp2_with fail
          go_roundg go
          case rel => exact ⟨i + 1, l3, by go_num, by omega, by omega, by have := HST.out; omega, HP6, HF2⟩
          case measure => omega
        · rw [if_neg h3] at HSU
          have hk3 : (k == 3) = false := by simp [h3]
          have HWS := hide (withSpan_any HPK.out.row (by have := HPK.out.bw.lt; have h9 := HPK.out.br.lt; omega) (show l2.length ≤ 100000 by omega) ⟨rk, sf, st, za⟩ a)
          unfold Pn.val at HWS
          simp only at HWS
          clear HPB HNS HBS KC HP HBK
          go_upto_region 10 with (go_at_call 32; refine HWS.out.mono ?_; rintro e w3 ⟨v3, l4, i4, p4, rfl, o3, g3, k3, hp3, hs3, hn3⟩)
          obtain ⟨a3, cap3, rfl⟩ := o3.shape
          have HP3 := hide (HPK.out.grown g3 o3)
          obtain ⟨g, rfl, _, hbg, cg, fg, hset⟩ := o3.set3 hp3
          have HSET := hide hset
          have HGL := hide (o3.lt g rfl)
          have hi4 := lt_of_get hp3
          have bi4 : (i4 : Int) < (l4.length : Int) := by omega
          have zr2 : w3.drew.cell? ⟨w.heap.size + 1, 2, none⟩ = some (.int .i64 rv) := HP3.out.br.cells3.2.2
          have HP4 := hide hp3
          have HAD := hide (fun W => Add_any W a p4.a rv)
          have HSU2 : Hid (l3 = l4.set i4 (withA p4 (ad a p4.a rv))) := (show _ = _ by rw [HSU.out]; exact (hs3 (vOf a rv)).symm)
          generalize ad a p4.a rv = ads at *
          clear hset o3 g3 k3 hp3 hs3 fg HSU
          refine wp_region_M (S := fun w' => w'.cell? ⟨w.heap.size + 1, 2, none⟩ = some (.int .i64 rv)) (late := []) (by kernel_rfl) zr2 (fun hHeld => ?_)
          (try simp only [List.size_toArray, List.length_cons, List.length_nil, Nat.zero_add, Nat.reduceAdd, Array.replicate, List.replicate])
          refine wpAnyM_take (i := 0) (oi := ⟨_, _, _, _, _, _⟩) (v := ?_) rfl (by kernel_rfl) (by kernel_rfl) (by kernel_rfl) (by kernel_rfl) (fun _ _ _ h => h) (Or.inl ⟨by rfl, ?_⟩) hHeld ?_
          rotate_left
          · (intro w' hSw; (try dsimp only at hSw); go_simp; try (with_reducible rfl))
          (try simp only [Act.put, List.setIfInBounds_toArray, List.set_cons_zero, List.set_cons_succ])
          refine wpAnyM_take (i := 1) (oi := ⟨_, _, _, _, _, _⟩) (v := ?_) rfl (by kernel_rfl) (by kernel_rfl) (by kernel_rfl) (by kernel_rfl) (fun _ _ _ h => h) (Or.inl ⟨by rfl, ?_⟩) hHeld ?_
          rotate_left
          · (intro w' hSw; (try dsimp only at hSw); go_simp; try (with_reducible rfl))
          (try simp only [Act.put, List.setIfInBounds_toArray, List.set_cons_zero, List.set_cons_succ])
          refine wpAnyM_take (i := 2) (oi := ⟨_, _, _, _, _, _⟩) (v := ?_) rfl (by kernel_rfl) (by kernel_rfl) (by kernel_rfl) (by kernel_rfl) (fun _ _ _ h => h) (Or.inl ⟨by rfl, ?_⟩) hHeld ?_
          rotate_left
          · (intro w' hSw; (try dsimp only at hSw); go_simp; try (with_reducible rfl))
          (try simp only [Act.put, List.setIfInBounds_toArray, List.set_cons_zero, List.set_cons_succ])
          refine wpAnyM_take (i := 3) (oi := ⟨_, _, _, _, _, _⟩) (v := ?_) rfl (by kernel_rfl) (by kernel_rfl) (by kernel_rfl) (by kernel_rfl) (fun _ _ _ h => h) (Or.inl ⟨by rfl, ?_⟩) hHeld ?_
          rotate_left
          · (intro w' hSw; (try dsimp only at hSw); go_simp; try (with_reducible rfl))
          (try simp only [Act.put, List.setIfInBounds_toArray, List.set_cons_zero, List.set_cons_succ])
          refine wpAnyM_take (i := 4) (oi := ⟨_, _, _, _, _, _⟩) (v := ?_) rfl (by kernel_rfl) (by kernel_rfl) (by kernel_rfl) (by kernel_rfl) (fun _ _ _ h => h) (Or.inl ⟨by rfl, ?_⟩) hHeld ?_
          rotate_left
          · (intro w' hSw; (try dsimp only at hSw); go_simp; try (with_reducible rfl))
          (try simp only [Act.put, List.setIfInBounds_toArray, List.set_cons_zero, List.set_cons_succ])
          refine wpAnyM_take (i := 5) (oi := ⟨_, _, _, _, _, _⟩) (v := ?_) rfl (by kernel_rfl) (by kernel_rfl) (by kernel_rfl) (by kernel_rfl) (fun _ _ _ h => h) (Or.inl ⟨by rfl, ?_⟩) hHeld ?_
          rotate_left
          · (intro w' hSw; (try dsimp only at hSw); go_simp; try (with_reducible rfl))
          (try simp only [Act.put, List.setIfInBounds_toArray, List.set_cons_zero, List.set_cons_succ])
          refine wpAnyM_take (i := 6) (oi := ⟨_, _, _, _, _, _⟩) (v := ?_) rfl (by kernel_rfl) (by kernel_rfl) (by kernel_rfl) (by kernel_rfl) (fun _ _ _ h => h) (Or.inl ⟨by rfl, ?_⟩) hHeld ?_
          rotate_left
          · (intro w' hSw; (try dsimp only at hSw); go_simp; try (with_reducible rfl))
          (try simp only [Act.put, List.setIfInBounds_toArray, List.set_cons_zero, List.set_cons_succ])
          refine wpAnyM_take (i := 8) (oi := ⟨_, _, _, _, _, _⟩) (v := ?_) rfl (by kernel_rfl) (by kernel_rfl) (by kernel_rfl) (by kernel_rfl) (fun _ _ _ h => h) (Or.inl ⟨by rfl, ?_⟩) hHeld ?_
          rotate_left
          · (intro w' hSw; (try dsimp only at hSw); go_simp; try (with_reducible rfl))
          (try simp only [Act.put, List.setIfInBounds_toArray, List.set_cons_zero, List.set_cons_succ])
          refine wpAnyM_take (i := 9) (oi := ⟨_, _, _, _, _, _⟩) (v := ?_) rfl (by kernel_rfl) (by kernel_rfl) (by kernel_rfl) (by kernel_rfl) (fun _ _ _ h => h) (Or.inl ⟨by rfl, ?_⟩) hHeld ?_
          rotate_left
          · (intro w' hSw; (try dsimp only at hSw); go_simp; try (with_reducible rfl))
          (try simp only [Act.put, List.setIfInBounds_toArray, List.set_cons_zero, List.set_cons_succ])
          refine wpAnyM_one (i := 7) (o := ⟨_, _, _, _, _, _⟩) (by kernel_rfl) rfl (fun K hK => ?_)
          go_simp
          refine hK.out _ _ hHeld (fun hHeld => ?_)
          clear hK K
          (try simp only [List.setIfInBounds_toArray, List.set_cons_zero, List.set_cons_succ])
          refine wpAnyM_one (i := 10) (o := ⟨_, _, _, _, _, _⟩) (by kernel_rfl) rfl (fun K hK => ?_)
          go_simp
          go_at_call 33
          refine (HAD.out _).mono ?_
          rintro e w5 ⟨rfl, b5⟩
          have b6 : Below w3.heap.size w3 w5 := ((Below.refl _ _).drew).trans b5
          have HP5 := hide (HP3.out.below b6)
          have HP6 : Hid (PI w (w5.setCell ⟨g, i4 * 4 + 3, none⟩ (.int .i64 ads)) k size slide ⟨rk, rt, rv⟩ (.slice (some ⟨g, 0, none⟩) l4.length cap3) l3 (.slice (some ⟨nb, no, none⟩) sps.length sc) sps) := HP5.out.grown (grownBy_set w5 g _ _) (by rw [HSU2.out]; exact HSET.out w5 (b6.block g HGL.out) ads)
          have cg5 := (b6.cell (p := ⟨g, i4 * 4 + 3, none⟩) HGL.out).trans cg
          have fr5 : ∀ j, w5.frozen? ⟨g, j, none⟩ = false := fun j => by obtain ⟨g', eg, _, _, _, fr, _⟩ := HP5.out.row.set3 HP4.out; cases eg; exact fr j
          refine hK.out _ _ (by obtain ⟨_, _, z2⟩ := HP5.out.br.cells3; exact z2) (fun hHeld => ?_)
          clear hK K b5 b6
          (try simp only [List.setIfInBounds_toArray, List.set_cons_zero, List.set_cons_succ])
          refine wpAnyM_take (i := 11) (oi := ⟨_, _, _, _, _, _⟩) (v := ?_) rfl (by kernel_rfl) (by kernel_rfl) (by kernel_rfl) (by kernel_rfl) (fun _ _ _ h => h) (Or.inl ⟨by rfl, ?_⟩) hHeld ?_
          rotate_left
          · (intro w' hSw; (try dsimp only at hSw); go_simp; try (with_reducible rfl))
          (try simp only [Act.put, List.setIfInBounds_toArray, List.set_cons_zero, List.set_cons_succ])
          refine wpAnyM_take (i := 12) (oi := ⟨_, _, _, _, _, _⟩) (v := ?_) rfl (by kernel_rfl) (by kernel_rfl) (by kernel_rfl) (by kernel_rfl) (fun _ _ _ h => h) (Or.inl ⟨by rfl, ?_⟩) hHeld ?_
          rotate_left
          · (intro w' hSw; (try dsimp only at hSw); go_simp; try (with_reducible rfl))
          (try simp only [Act.put, List.setIfInBounds_toArray, List.set_cons_zero, List.set_cons_succ])
          refine wpAnyM_one (i := 13) (o := ⟨_, _, _, _, _, _⟩) (by kernel_rfl) rfl (fun K hK => ?_)
          go_simp
          refine hK.out _ _ (by obtain ⟨_, _, z2⟩ := HP6.out.br.cells3; exact z2) (fun hHeld => ?_)
          clear hK K
          refine wpAnyM_done (by kernel_rfl) ?_ _
          go_wp2_with fail
          go_roundg go
          case rel => exact ⟨i + 1, l3, by go_num, by omega, by omega, by have := HST.out; omega, HP6, HF2⟩
          case measure => omega
    · have bt : ¬ (i : Int) < (sps.length : Int) := by omega
      have hRE : l2 = R := by have h1 := HF.out; rw [drop_end hlt] at h1; exact h1
      subst hRE
      have HSO := hide (Sort_any (HP.out.row.seg Pn.cs_len (by omega)) (by omega))
      clear HF HFL
      go_wp2_with (go_at_call 24; refine HSO.out.mono ?_; rintro e w6 ⟨u, rfl, o6, b6⟩)
      go_ret
      exact ⟨_, rfl, o6.mono HP.out.bel.size, HP.out.bel.trans (b6.mono HP.out.bel.size)⟩
end Go.Proofs.Ytlikikiglicdlaa
