/-
  The document's Put, walked.
-/
import Derived.Test.YtlikikiglicdlaaWInto
import Derived.Test.YtlikikiglicdlaaWRSp
namespace Go.Proofs.Ytlikikiglicdlaa
open Go.RowKit

theorem put_is {k size slide a : Int} {r : Rc} {l M : List Pn} (hw : FitW k size slide) (ha : 1 ≤ a ∧ a ≤ 5) (hr : RcOk r) (h : Apart (sess k) l) (hf : sess k = true → ∀ x ∈ l, Full x) (hc : Comes (sess k) (jn a) (frs k size slide a r ++ l) M) (hm : Rising M) : M = pPut k size slide a l r :=
  rising_eq hm (srt_rising _) (Comes.unique (jn_comm a) (jn_assoc a) hc (put_comes hw ha hr h hf))
theorem LSeg.spanAt {B : Nat} {w : World} {ao : Option Addr} {n cap : Nat} {xs : List Sp} (h : LSeg 2 Sp.cs B w (.slice ao n cap) xs) {i : Nat} {x : Sp} (hx : xs[i]? = some x) : ∃ b o, ao = some ⟨b, o, none⟩ ∧ b < B ∧ w.cell? ⟨b, o + i * 2, none⟩ = some (.int .i64 x.f) ∧ w.cell? ⟨b, o + i * 2 + 1, none⟩ = some (.int .i64 x.t) := by
  obtain ⟨b, o, e, hb, _, hc⟩ := h.readAt hx
  exact ⟨b, o, e, hb, hc 0 _ rfl, hc 1 _ rfl⟩
set_option maxHeartbeats 32000000 in
set_option maxRecDepth 100000 in
theorem rPut_any {w : World} {v : Value} {l : List Pn} (hl : LSeg 4 Pn.cs w.heap.size w v l) (hn : l.length ≤ 40000) {k size slide a : Int} (hw : FitW k size slide) (ha : 1 ≤ a ∧ a ≤ 5) (rk rt rv : Int) (hr : RcOk ⟨rk, rt, rv⟩) (hap : Apart (sess k) l) (hfu : sess k = true → ∀ x ∈ l, Full x) :
    Calls Try.prog 17 #[.agg #[.int .i64 k, .int .i64 size, .int .i64 slide], .int .i64 a, v, .agg #[.int .i64 rk, .int .i64 rt, .int .i64 rv]] w fun e w' => ∃ u, e = .returned u ∧ LSeg 4 Pn.cs w'.heap.size w' u (pPut k size slide a l ⟨rk, rt, rv⟩) ∧ Below w.heap.size w w' := by
  obtain ⟨ao, cap, rfl⟩ := hl.shapeOf
  have HB0 := hide (below_box2 w (.cells #[.int .i64 k, .int .i64 size, .int .i64 slide] 23) (.cells #[.int .i64 rk, .int .i64 rt, .int .i64 rv] 37))
  have HXW := hide (BoxT.alloc (t := 23) (BoxT.new 23 w #[.int .i64 k, .int .i64 size, .int .i64 slide]) (.cells #[.int .i64 rk, .int .i64 rt, .int .i64 rv] 37))
  have HXR : Hid (BoxT 37 ((w.alloc (.cells #[.int .i64 k, .int .i64 size, .int .i64 slide] 23)).alloc (.cells #[.int .i64 rk, .int .i64 rt, .int .i64 rv] 37)) (w.heap.size + 1) #[.int .i64 rk, .int .i64 rt, .int .i64 rv]) := by
    have h1 := BoxT.new 37 (w.alloc (.cells #[.int .i64 k, .int .i64 size, .int .i64 slide] 23)) #[.int .i64 rk, .int .i64 rt, .int .i64 rv]
    have e : (w.alloc (.cells #[.int .i64 k, .int .i64 size, .int .i64 slide] 23)).heap.size = w.heap.size + 1 := by simp
    rw [e] at h1
    exact h1
  have HSO := hide (rSort_any (hl.on HB0.out) (by omega))
  have HSP := hide (fun W => rSpans_any W hw hr.1)
  have HIS : Hid (∀ M, Comes (sess k) (jn a) (frs k size slide a ⟨rk, rt, rv⟩ ++ l) M → Rising M → M = pPut k size slide a l ⟨rk, rt, rv⟩) := (show ∀ M, _ from fun M h1 h2 => put_is hw ha hr hap hfu h1 h2)
  have HSF : Hid (k = 3 → ∀ s ∈ pSpans k size slide rt, s.f < s.t) := (show _ → _ from fun e => spans_full hw hr.1 (by unfold sess; simpa using e))
  have HSL : Hid ((pSpans k size slide rt).length ≤ 64) := (show _ ≤ _ from pSpans_len k size slide rt)
  have HFR : Hid (frs k size slide a ⟨rk, rt, rv⟩ = (pSpans k size slide rt).map fun sp => (⟨rk, sp.f, sp.t, ad a (zr a) rv⟩ : Pn)) := (show _ = _ from rfl)
  have HAP : Hid (Comes (sess k) (jn a) l (srt l)) := (show Comes _ _ _ _ from (Comes.refl hap).perm (.refl _) (srt_perm l).symm)
  have HFL : Hid (k = 3 → ∀ x ∈ l, Full x) := (show _ → _ from fun e => hfu (by unfold sess; simpa using e))
  have HRI := hide (srt_rising l)
  have HLL : Hid ((srt l).length ≤ 40000) := (show _ ≤ _ by rw [srt_len]; exact hn)
  rw [HFR.out] at HIS
  clear hl hap hfu hr hw HFR
  generalize srt l = L at *
  generalize pPut k size slide a l ⟨rk, rt, rv⟩ = PP at *
  generalize pSpans k size slide rt = ss at *
  go_enter Try.func17, Try.ntmps17
  go_upto_region 1 with fail
  generalize (w.alloc (.cells #[.int .i64 k, .int .i64 size, .int .i64 slide] 23)).alloc (.cells #[.int .i64 rk, .int .i64 rt, .int .i64 rv] 37) = W1 at *
  go_upto_region 2 with (first | (go_at_call 25; refine HSO.out.mono ?_; rintro e w3 ⟨u3, rfl, o3, b3⟩; have O3 := hide (o3.seg Pn.cs_len (by have := HLL.out; omega)); have B3 := hide b3; obtain ⟨ua, uc, rfl⟩ := o3.shape; clear o3 b3) | fail)
  have X3 := hide (BoxT.below (t := 23) HXW.out B3.out)
  have Y3 := hide (BoxT.below (t := 37) HXR.out B3.out)
  obtain ⟨x0, x1, x2⟩ := X3.out.cells3
  obtain ⟨y0, y1, y2⟩ := Y3.out.cells3
  go_upto_region 3 with (first | (go_at_call 14; refine (HSP.out _).mono ?_; rintro e w4 ⟨u4, rfl, o4, b4⟩; have S4 := hide (o4.seg Sp.cs_len (by have := HSL.out; omega)); have B4 := hide b4; obtain ⟨sa, sc, rfl⟩ := o4.shape; clear o4 b4) | fail)
  have X4 := hide (BoxT.below (t := 23) X3.out B4.out)
  have Y4 := hide (BoxT.below (t := 37) Y3.out B4.out)
  have O4 := hide (O3.out.on B4.out)
  have BW : Hid (Below w.heap.size w w4) := (show Below _ _ _ from (HB0.out.trans (B3.out.mono HB0.out.size)).trans (B4.out.mono (Nat.le_trans HB0.out.size B3.out.size)))
  have hss : ss.length ≤ 64 := HSL.out
  clear x0 x1 x2 y0 y1 y2 X3 Y3 O3 HXW HXR HSO HSP B3 B4 HB0
  go_wp2_with fail
  go_loopg [2, 10] (ss.length + 1) (fun gh lv iv wr => ∃ (i : Nat) (M : List Pn), iv = .int .i64 (i : Int) ∧ i ≤ ss.length ∧ ss.length + 1 ≤ gh + i ∧ Hid (LSeg 4 Pn.cs wr.heap.size wr lv M) ∧ Hid (Below w4.heap.size w4 wr) ∧ Hid (Rising M) ∧ Hid (Comes (sess k) (jn a) (((ss.take i).map fun sp => (⟨rk, sp.f, sp.t, ad a (zr a) rv⟩ : Pn)) ++ l) M))
  case atStart => exact ⟨0, L, rfl, by omega, by omega, O4, Below.refl _ _, HRI, (show Comes _ _ _ _ by simpa using HAP.out)⟩
  case round =>
    clear O4 HAP HRI HLL
    obtain ⟨i, M, rfl, hi, hg, GM, GB, GR, GC⟩ := hrel
    obtain ⟨go, rfl⟩ : ∃ go, gk = go + 1 := ⟨gk - 1, by omega⟩
    obtain ⟨ma, mc, rfl⟩ := GM.out.shapeOf
    by_cases hlt : i < ss.length
    · as_aux_lemma =>
      obtain ⟨sp, hx⟩ := get_of_lt hlt
      have bt : (i : Int) < (ss.length : Int) := by omega
      obtain ⟨sb, so, rfl, slt, e0, e1⟩ := (S4.out.below GB.out).spanAt hx
      have HML : Hid (M.length ≤ 50000) := (show _ ≤ _ by
        have h1 := GC.out.1.len
        have := HSL.out
        rw [List.length_append, List.length_map, List.length_take] at h1
        omega)
      have HFU : Hid (k = 3 → sp.f < sp.t ∧ ∀ x ∈ M, Full x) := (show _ → _ from fun e => ⟨HSF.out e sp (List.mem_of_getElem? hx), GC.out.1.keeps (fun x y => jp_full) (fun y hy => by
        rcases List.mem_append.1 hy with hy | hy
        · obtain ⟨z, hz, rfl⟩ := List.mem_map.1 hy
          exact HSF.out e z (List.mem_of_mem_take hz)
        · exact HFL.out e y hy)⟩)
      have HTK : Hid (((ss.take (i + 1)).map fun sp => (⟨rk, sp.f, sp.t, ad a (zr a) rv⟩ : Pn)) = ((ss.take i).map fun sp => (⟨rk, sp.f, sp.t, ad a (zr a) rv⟩ : Pn)) ++ [⟨rk, sp.f, sp.t, ad a (zr a) rv⟩]) := (show _ = _ by
        have e : ss[i] = sp := by rw [List.getElem?_eq_getElem hlt] at hx; exact Option.some.inj hx
        rw [List.take_succ_eq_append_getElem hlt, e, List.map_append]
        rfl)
      have HIN : Hid (∀ W, Below wr.heap.size wr W → Calls Try.prog 34 #[.agg #[.int .i64 k, .int .i64 size, .int .i64 slide], .int .i64 a, .slice ma M.length mc, .agg #[.int .i64 rk, .int .i64 rt, .int .i64 rv], .agg #[.int .i64 sp.f, .int .i64 sp.t]] W (IPost W k a ⟨rk, sp.f, sp.t, ad a (zr a) rv⟩ M)) := (show ∀ W, _ from fun W h => rInto_any (GM.out.on h) HML.out k size slide a rk rt rv sp.f sp.t GC.out.2 HFU.out)
      have HE := hide (And.intro e0 e1)
      have HSB := hide slt
      obtain ⟨sf, st⟩ := sp
      simp only at HE HIN HTK
      have KC : Hid (∀ w' : World, Below wr.heap.size wr w' → w'.cell? ⟨w.heap.size, 0, none⟩ = some (.int .i64 k) ∧ w'.cell? ⟨w.heap.size, 1, none⟩ = some (.int .i64 size) ∧ w'.cell? ⟨w.heap.size, 2, none⟩ = some (.int .i64 slide) ∧ w'.cell? ⟨w.heap.size + 1, 0, none⟩ = some (.int .i64 rk) ∧ w'.cell? ⟨w.heap.size + 1, 1, none⟩ = some (.int .i64 rt) ∧ w'.cell? ⟨w.heap.size + 1, 2, none⟩ = some (.int .i64 rv) ∧ w'.cell? ⟨sb, so + i * 2, none⟩ = some (.int .i64 sf) ∧ w'.cell? ⟨sb, so + i * 2 + 1, none⟩ = some (.int .i64 st)) := (show ∀ w' : World, _ from fun w' h => by
        have hb := GB.out.trans (h.mono GB.out.size)
        have h2 := BoxT.below (t := 23) X4.out hb
        have h3 := BoxT.below (t := 37) Y4.out hb
        have hl2 : sb < wr.heap.size := Nat.lt_of_lt_of_le HSB.out GB.out.size
        exact ⟨by rw [h2.cellAt]; rfl, by rw [h2.cellAt]; rfl, by rw [h2.cellAt]; rfl, by rw [h3.cellAt]; rfl, by rw [h3.cellAt]; rfl, by rw [h3.cellAt]; rfl, (h.cell (p := ⟨sb, so + i * 2, none⟩) hl2).trans HE.out.1, (h.cell (p := ⟨sb, so + i * 2 + 1, none⟩) hl2).trans HE.out.2⟩)
      clear hx slt e0 e1
      go_wp2_with fail
      refine wp_region_M (S := fun w' => w'.cell? ⟨w.heap.size, 0, none⟩ = some (.int .i64 k) ∧ w'.cell? ⟨w.heap.size, 1, none⟩ = some (.int .i64 size) ∧ w'.cell? ⟨w.heap.size, 2, none⟩ = some (.int .i64 slide) ∧ w'.cell? ⟨w.heap.size + 1, 0, none⟩ = some (.int .i64 rk) ∧ w'.cell? ⟨w.heap.size + 1, 1, none⟩ = some (.int .i64 rt) ∧ w'.cell? ⟨w.heap.size + 1, 2, none⟩ = some (.int .i64 rv) ∧ w'.cell? ⟨sb, so + i * 2, none⟩ = some (.int .i64 sf) ∧ w'.cell? ⟨sb, so + i * 2 + 1, none⟩ = some (.int .i64 st)) (late := []) (by kernel_rfl) (KC.out _ ((Below.refl _ _).drew)) (fun hHeld => ?_)
      (try simp only [List.size_toArray, List.length_cons, List.length_nil, Nat.zero_add, Nat.reduceAdd, Array.replicate, List.replicate])
      refine wpAnyM_take (i := 0) (oi := ⟨_, _, _, _, _, _⟩) (v := ?_) rfl (by kernel_rfl) (by kernel_rfl) (by kernel_rfl) (by kernel_rfl) (fun _ _ _ h => h) (Or.inl ⟨by rfl, ?_⟩) hHeld ?_
      rotate_left
      · (intro w' hSw; (try dsimp only at hSw); go_simp; try (with_reducible rfl))
      (try simp only [Act.put, List.setIfInBounds_toArray, List.set_cons_zero, List.set_cons_succ])
      refine wpAnyM_take (i := 1) (oi := ⟨_, _, _, _, _, _⟩) (v := ?_) rfl (by kernel_rfl) (by kernel_rfl) (by kernel_rfl) (by kernel_rfl) (fun _ _ _ h => h) (Or.inl ⟨by rfl, ?_⟩) hHeld ?_
      rotate_left
      · (intro w' hSw; (try dsimp only at hSw); go_simp; try (with_reducible rfl))
      (try simp only [Act.put, List.setIfInBounds_toArray, List.set_cons_zero, List.set_cons_succ])
      refine wpAnyM_take (i := 2) (oi := ⟨_, _, _, _, _, _⟩) (v := ?_) rfl (by kernel_rfl) (by kernel_rfl) (by kernel_rfl) (by kernel_rfl) (fun _ _ _ h => h) (Or.inl ⟨by rfl, ?_⟩) hHeld ?_
      rotate_left
      · (intro w' hSw; (try dsimp only at hSw); go_simp; try (with_reducible rfl))
      (try simp only [Act.put, List.setIfInBounds_toArray, List.set_cons_zero, List.set_cons_succ])
      refine wpAnyM_take (i := 3) (oi := ⟨_, _, _, _, _, _⟩) (v := ?_) rfl (by kernel_rfl) (by kernel_rfl) (by kernel_rfl) (by kernel_rfl) (fun _ _ _ h => h) (Or.inl ⟨by rfl, ?_⟩) hHeld ?_
      rotate_left
      · (intro w' hSw; (try dsimp only at hSw); go_simp; try (with_reducible rfl))
      (try simp only [Act.put, List.setIfInBounds_toArray, List.set_cons_zero, List.set_cons_succ])
      refine wpAnyM_take (i := 4) (oi := ⟨_, _, _, _, _, _⟩) (v := ?_) rfl (by kernel_rfl) (by kernel_rfl) (by kernel_rfl) (by kernel_rfl) (fun _ _ _ h => h) (Or.inl ⟨by rfl, ?_⟩) hHeld ?_
      rotate_left
      · (intro w' hSw; (try dsimp only at hSw); go_simp; try (with_reducible rfl))
      (try simp only [Act.put, List.setIfInBounds_toArray, List.set_cons_zero, List.set_cons_succ])
      refine wpAnyM_take (i := 5) (oi := ⟨_, _, _, _, _, _⟩) (v := ?_) rfl (by kernel_rfl) (by kernel_rfl) (by kernel_rfl) (by kernel_rfl) (fun _ _ _ h => h) (Or.inl ⟨by rfl, ?_⟩) hHeld ?_
      rotate_left
      · (intro w' hSw; (try dsimp only at hSw); go_simp; try (with_reducible rfl))
      (try simp only [Act.put, List.setIfInBounds_toArray, List.set_cons_zero, List.set_cons_succ])
      refine wpAnyM_take (i := 6) (oi := ⟨_, _, _, _, _, _⟩) (v := ?_) rfl (by kernel_rfl) (by kernel_rfl) (by kernel_rfl) (by kernel_rfl) (fun _ _ _ h => h) (Or.inl ⟨by rfl, ?_⟩) hHeld ?_
      rotate_left
      · (intro w' hSw; (try dsimp only at hSw); go_simp; try (with_reducible rfl))
      (try simp only [Act.put, List.setIfInBounds_toArray, List.set_cons_zero, List.set_cons_succ])
      refine wpAnyM_take (i := 7) (oi := ⟨_, _, _, _, _, _⟩) (v := ?_) rfl (by kernel_rfl) (by kernel_rfl) (by kernel_rfl) (by kernel_rfl) (fun _ _ _ h => h) (Or.inl ⟨by rfl, ?_⟩) hHeld ?_
      rotate_left
      · (intro w' hSw; (try dsimp only at hSw); go_simp; try (with_reducible rfl))
      (try simp only [Act.put, List.setIfInBounds_toArray, List.set_cons_zero, List.set_cons_succ])
      refine wpAnyM_one (i := 8) (o := ⟨_, _, _, _, _, _⟩) (by kernel_rfl) rfl (fun K hK => ?_)
      go_simp
      go_at_call 34
      refine (HIN.out _ (Below.refl _ _).drew).mono ?_
      rintro e w5 ⟨u5, M5, rfl, o5, b5, r5, c5⟩
      have B5 : Hid (Below wr.heap.size wr w5) := (show Below _ _ _ from ((Below.refl _ _).drew).trans b5)
      have O5 := hide o5
      have R5 := hide r5
      have C5 := hide c5
      obtain ⟨ua, uc, rfl⟩ := o5.shapeOf
      refine hK.out _ _ (KC.out _ B5.out) (fun hHeld => ?_)
      clear hK K o5 b5 r5 c5
      (try simp only [List.setIfInBounds_toArray, List.set_cons_zero, List.set_cons_succ])
      refine wpAnyM_one (i := 9) (o := ⟨_, _, _, _, _, _⟩) (by kernel_rfl) rfl (fun K hK => ?_)
      go_simp
      refine hK.out _ _ (KC.out _ B5.out) (fun hHeld => ?_)
      clear hK K
      (try simp only [List.setIfInBounds_toArray, List.set_cons_zero, List.set_cons_succ])
      refine wpAnyM_done (by kernel_rfl) ?_ _
      have HC6 : Hid (Comes (sess k) (jn a) (((ss.take (i + 1)).map fun sp => (⟨rk, sp.f, sp.t, ad a (zr a) rv⟩ : Pn)) ++ l) M5) := (show Comes _ _ _ _ by
        rw [HTK.out]
        have h1 := Comes.step (q := [⟨rk, sf, st, ad a (zr a) rv⟩]) GC.out C5.out
        refine h1.perm ?_ (.refl _)
        rw [List.append_assoc, List.singleton_append, List.singleton_append]
        exact List.perm_middle.symm)
      have HB6 := hide (GB.out.trans (B5.out.mono GB.out.size))
      go_wp2_with fail
      go_roundg go
      case rel => exact ⟨i + 1, M5, by go_num, by omega, by omega, O5, HB6, R5, HC6⟩
      case measure => omega
    · obtain rfl : i = ss.length := by omega
      have bt : ¬ ((ss.length : Nat) : Int) < (ss.length : Int) := by omega
      have HE := hide (HIS.out M (by have := GC.out; rwa [List.take_of_length_le (Nat.le_refl _)] at this) GR.out)
      go_wp2_with fail
      go_ret
      exact ⟨_, rfl, by rw [← HE.out]; exact GM.out, BW.out.trans (GB.out.mono BW.out.size)⟩
end Go.Proofs.Ytlikikiglicdlaa
