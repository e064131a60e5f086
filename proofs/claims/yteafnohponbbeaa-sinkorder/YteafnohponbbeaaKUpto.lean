/-
  Upto.
-/
import Derived.Test.YteafnohponbbeaaKFn
namespace Go.Proofs.Yteafnohponbbeaa
open Go.RowKit

/-- What Upto tells. -/
def uptoS (s : PS) (n : Nat) : List Rc := ((s.com.filter (fun x => decide (x.1 ≤ n)) ++ s.stg.filter (fun x => decide (x.1 ≤ n))).map Prod.snd).flatten
theorem pr_filter (l : List Tx) (n : Nat) : (l.map Tx.pr).filter (fun x => decide (x.1 ≤ n)) = (l.filter (fun x => decide (x.n ≤ n))).map Tx.pr := by
  induction l with
  | nil => rfl
  | cons x l ih =>
    rw [List.map_cons, List.filter_cons, List.filter_cons, ih]
    show (if decide (x.n ≤ n) = true then _ else _) = _
    split
    · rw [List.map_cons]
    · rfl
theorem pr_snd (l : List Tx) : (l.map Tx.pr).map Prod.snd = l.map Tx.rs := by rw [List.map_map]; rfl
theorem upto_eq (p : Pt) (n : Nat) : uptoS p.ps n = ((p.com.filter (fun x => decide (x.n ≤ n)) ++ p.stg.filter (fun x => decide (x.n ≤ n))).map Tx.rs).flatten := by
  unfold uptoS Pt.ps
  rw [pr_filter, pr_filter, ← List.map_append, pr_snd]
theorem LSeg.take {α : Type} {sz : Nat} {cs : α → List Value} {B : Nat} {w : World} {ao : Option Addr} {n c k : Nat} {xs : List α} (h : LSeg sz cs B w (.slice ao n c) xs) (hk : k ≤ xs.length) : LSeg sz cs B w (.slice ao k c) (xs.take k) := by
  obtain ⟨a', c', e, hl, hc⟩ := h
  cases e
  have e1 : (xs.take k).length = k := by rw [List.length_take]; omega
  refine ⟨ao, c, by rw [e1], by omega, ?_⟩
  rcases hc with rfl | ⟨b, off, h1, h2, h3⟩
  · exact .inl (by simp)
  · refine .inr ⟨b, off, h1, h2, fun i x hi j u hu => h3 i x ?_ j u hu⟩
    rw [List.getElem?_take] at hi
    split at hi
    · exact hi
    · cases hi
theorem two_seg {w : World} {B N : Nat} {x y : Sx} (hb : BoxT 63 w N #[x.v, y.v]) (hN : N < B) : LSeg 1 Sx.cs B w (.slice (some ⟨N, 0, none⟩) 2 2) [x, y] := by
  refine ⟨_, _, rfl, by simp, .inr ⟨N, 0, rfl, hN, fun i z hi j u hu => ?_⟩⟩
  match j, hu with
  | j + 1, hu => simp [Sx.cs] at hu
  | 0, hu =>
    obtain rfl : z.v = u := by simpa [Sx.cs] using hu
    rw [hb.cellAt]
    match i, hi with
    | 0, hi => obtain rfl : x = z := by simpa using hi
               rfl
    | 1, hi => obtain rfl : y = z := by simpa using hi
               rfl
    | i + 2, hi => simp at hi
set_option maxHeartbeats 4000000 in
set_option maxRecDepth 100000 in
theorem Upto_any {w : World} {l mm : Nat} {ov : Value} {fq : Nat → Prop} {f : Int → PS} {O : List Tx} {W : Nat} {Ms : List Pt} (h : LX w l mm ov fq f O W Ms) (hW : W ≤ 500000) {k : Int} (hk : In64 k) (n : Nat) :
    Calls Try.prog 24 #[.pointer (some ⟨l, 0, none⟩), .int .i64 k, .int .u64 (n : Int)] w fun e w' => ∃ u, e = .returned u ∧ OwnL 39 3 Rc.cs w.heap.size w' u (uptoS (f k) n) ∧ Below w.heap.size w w' := by
  obtain ⟨p, R, P⟩ := h.pick hk
  have hlook := P.look w rfl
  rw [P.ps, upto_eq]
  obtain ⟨c0, c1⟩ := P.g.box.cells2
  have hp := P.g.pts p (List.mem_cons_self ..)
  have hpp := P.pl.pp p (List.mem_cons_self ..)
  have hwt : sumw p.com + sumw p.stg ≤ 500000 := by
    have h1 := P.pl.wt
    have h2 := P.pl.cw p (List.mem_cons_self ..)
    rw [sumS_cons] at h1
    omega
  obtain ⟨ca, cc, sa, sc, hcv, hsv, hv⟩ := hp.shape
  rw [hv] at hlook
  have hcom := hp.cr
  have hstg := hp.sr
  rw [hcv] at hcom
  rw [hsv] at hstg
  have lc := sumw_len p.com
  have ls := sumw_len p.stg
  have hcl := hcom.own_shape.2
  have hsl := hstg.own_shape.2
  have segc := hcom.seg Tx.cs_len (by omega)
  have segs := hstg.seg Tx.cs_len (by omega)
  have hrows : ∀ x ∈ p.com ++ p.stg, LSeg 3 Rc.cs w.heap.size w x.v x.rs := fun x hx => by
    have h4 : x.rs.length ≤ 500000 := by
      obtain ⟨a, b, e⟩ := List.append_of_mem hx
      have := congrArg sumw e
      rw [sumw_append, sumw_append, sumw_cons] at this
      omega
    rcases List.mem_append.1 hx with hx | hx
    · exact (hp.co x hx).row.seg Rc.cs_len (by omega)
    · exact (hp.so x hx).row.seg Rc.cs_len (by omega)
  have hrc := hpp.rc
  have hrs := hpp.rs
  generalize p.com = C at *
  generalize p.stg = S at *
  obtain ⟨cn, hcn⟩ : ∃ cn, C.length = cn := ⟨_, rfl⟩
  obtain ⟨sn, hsn⟩ : ∃ sn, S.length = sn := ⟨_, rfl⟩
  rw [hcn, hsn] at hlook
  rw [hcn] at segc hcl
  rw [hsn] at segs hsl
  generalize hla : (p.last : Int) = la at *
  obtain ⟨W1, hW1⟩ : ∃ W1, W1 = w.alloc (.cells #[.slice ca cn cc, .slice sa sn sc, .int .u64 la] 65) := ⟨_, rfl⟩
  have hb1 : Below w.heap.size w W1 := by rw [hW1]; exact below_box w _
  have hs1 : W1.heap.size = w.heap.size + 1 := by rw [hW1]; simp
  have k0 : BoxT 65 W1 w.heap.size #[.slice ca cn cc, .slice sa sn sc, .int .u64 la] := by rw [hW1]; exact BoxT.new _ _ _
  have HU1 : Hid (∀ w', Below W1.heap.size W1 w' → Calls Try.prog 30 #[.slice ca cn cc, .int .u64 (n : Int)] w' fun e w'' => (∃ k : Nat, e = .returned (.slice ca k cc) ∧ k ≤ C.length ∧ C.take k = C.filter (fun x => decide (x.n ≤ n)) ∧ C.drop k = C.filter (fun x => decide (n < x.n))) ∧ Below w'.heap.size w' w'') := fun w' hb => upTo_any (segc.below (hb1.trans (hb.mono hb1.size))) (by have := hb1.size; have := hb.size; omega) (by omega) (by omega) hrc
  have HU2 : Hid (∀ w', Below W1.heap.size W1 w' → Calls Try.prog 30 #[.slice sa sn sc, .int .u64 (n : Int)] w' fun e w'' => (∃ k : Nat, e = .returned (.slice sa k sc) ∧ k ≤ S.length ∧ S.take k = S.filter (fun x => decide (x.n ≤ n)) ∧ S.drop k = S.filter (fun x => decide (n < x.n))) ∧ Below w'.heap.size w' w'') := fun w' hb => upTo_any (segs.below (hb1.trans (hb.mono hb1.size))) (by have := hb1.size; have := hb.size; omega) (by omega) (by omega) hrs
  have KC : Hid (∀ w' : World, Below W1.heap.size W1 w' → w'.cell? ⟨w.heap.size, 0, none⟩ = some (.slice ca cn cc) ∧ w'.cell? ⟨w.heap.size, 1, none⟩ = some (.slice sa sn sc)) := fun w' hb => ⟨(k0.below hb).cells3.1, (k0.below hb).cells3.2.1⟩
  have HB1 := hide hb1
  have HRW := hide hrows
  have HSC := hide segc
  have HSS := hide segs
  have HWT := hide hwt
  have HCN := hide hcn
  have HSN := hide hsn
  clear h P hp hpp hv hcv hsv hcom hstg lc ls segc segs hrows hrc hrs hb1 k0 hs1 hwt hcn hsn hla hcl hsl
  generalize hRES : ((C.filter (fun x => decide (x.n ≤ n)) ++ S.filter (fun x => decide (x.n ≤ n))).map Tx.rs).flatten = RES
  have HRES := hide hRES
  clear hRES
  go_enter Try.func24, Try.ntmps24
  go_wp2_with (at_lookup; refine wp_lookM rfl _ _ 59 false rfl _ _ rfl rfl hlook ?_)
  rw [← hW1]
  clear hW1 hlook
  refine wp_region_M (S := fun w' => w'.cell? ⟨w.heap.size, 0, none⟩ = some (.slice ca cn cc) ∧ w'.cell? ⟨w.heap.size, 1, none⟩ = some (.slice sa sn sc)) (late := []) (by kernel_rfl) (KC.out _ (Below.refl _ _).drew) (fun hHeld => ?_)
  (try simp only [List.size_toArray, List.length_cons, List.length_nil, Nat.zero_add, Nat.reduceAdd, Array.replicate, List.replicate])
  refine wpAnyM_take (i := 0) (oi := ⟨_, _, _, _, _, _⟩) (v := ?_) rfl (by kernel_rfl) (by kernel_rfl) (by kernel_rfl) (by kernel_rfl) (fun _ _ _ h => h) (Or.inl ⟨by rfl, ?_⟩) hHeld ?_
  rotate_left
  · (intro w' hSw; (try dsimp only at hSw); go_simp; try (with_reducible rfl))
  (try simp only [Act.put, List.setIfInBounds_toArray, List.set_cons_zero, List.set_cons_succ])
  refine wpAnyM_take (i := 1) (oi := ⟨_, _, _, _, _, _⟩) (v := ?_) rfl (by kernel_rfl) (by kernel_rfl) (by kernel_rfl) (by kernel_rfl) (fun _ _ _ h => h) (Or.inl ⟨by rfl, ?_⟩) hHeld ?_
  rotate_left
  · (intro w' hSw; (try dsimp only at hSw); go_simp; try (with_reducible rfl))
  (try simp only [Act.put, List.setIfInBounds_toArray, List.set_cons_zero, List.set_cons_succ])
  refine wpAnyM_take (i := 2) (oi := ⟨_, _, _, _, _, _⟩) (v := ?_) rfl (by kernel_rfl) (by kernel_rfl) (by kernel_rfl) (by kernel_rfl) (fun _ _ _ h => h) (Or.inl ⟨by rfl, ?_⟩) hHeld ?_
  rotate_left
  · (intro w' hSw; (try dsimp only at hSw); go_simp; try (with_reducible rfl))
  (try simp only [Act.put, List.setIfInBounds_toArray, List.set_cons_zero, List.set_cons_succ])
  refine wpAnyM_take (i := 4) (oi := ⟨_, _, _, _, _, _⟩) (v := ?_) rfl (by kernel_rfl) (by kernel_rfl) (by kernel_rfl) (by kernel_rfl) (fun _ _ _ h => h) (Or.inl ⟨by rfl, ?_⟩) hHeld ?_
  rotate_left
  · (intro w' hSw; (try dsimp only at hSw); go_simp; try (with_reducible rfl))
  (try simp only [Act.put, List.setIfInBounds_toArray, List.set_cons_zero, List.set_cons_succ])
  refine wpAnyM_take (i := 5) (oi := ⟨_, _, _, _, _, _⟩) (v := ?_) rfl (by kernel_rfl) (by kernel_rfl) (by kernel_rfl) (by kernel_rfl) (fun _ _ _ h => h) (Or.inl ⟨by rfl, ?_⟩) hHeld ?_
  rotate_left
  · (intro w' hSw; (try dsimp only at hSw); go_simp; try (with_reducible rfl))
  (try simp only [Act.put, List.setIfInBounds_toArray, List.set_cons_zero, List.set_cons_succ])
  refine wpAnyM_take (i := 6) (oi := ⟨_, _, _, _, _, _⟩) (v := ?_) rfl (by kernel_rfl) (by kernel_rfl) (by kernel_rfl) (by kernel_rfl) (fun _ _ _ h => h) (Or.inl ⟨by rfl, ?_⟩) hHeld ?_
  rotate_left
  · (intro w' hSw; (try dsimp only at hSw); go_simp; try (with_reducible rfl))
  (try simp only [Act.put, List.setIfInBounds_toArray, List.set_cons_zero, List.set_cons_succ])
  refine wpAnyM_take (i := 11) (oi := ⟨_, _, _, _, _, _⟩) (v := ?_) rfl (by kernel_rfl) (by kernel_rfl) (by kernel_rfl) (by kernel_rfl) (fun _ _ _ h => h) (Or.inl ⟨by rfl, ?_⟩) hHeld ?_
  rotate_left
  · (intro w' hSw; (try dsimp only at hSw); go_simp; try (with_reducible rfl))
  (try simp only [Act.put, List.setIfInBounds_toArray, List.set_cons_zero, List.set_cons_succ])
  refine wpAnyM_one (i := 3) (o := ⟨_, _, _, _, _, _⟩) (by kernel_rfl) rfl (fun K hK => ?_)
  go_simp
  go_at_call 30
  refine (HU1.out _ (Below.refl _ _).drew).mono ?_
  rintro e w2 ⟨⟨k1, rfl, hk1, q1, -⟩, b2⟩
  have B2 : Hid (Below W1.heap.size W1 w2) := (Below.refl _ _).drew.trans b2
  have Q1 := hide q1
  have HK1 := hide hk1
  clear b2 q1 hk1
  refine hK.out _ _ (KC.out _ B2.out) (fun hHeld => ?_)
  clear hK K
  (try simp only [List.setIfInBounds_toArray, List.set_cons_zero, List.set_cons_succ])
  refine wpAnyM_one (i := 7) (o := ⟨_, _, _, _, _, _⟩) (by kernel_rfl) rfl (fun K hK => ?_)
  go_simp
  go_at_call 30
  refine (HU2.out _ B2.out).mono ?_
  rintro e w3 ⟨⟨k2, rfl, hk2, q2, -⟩, b3⟩
  have B3 : Hid (Below W1.heap.size W1 w3) := B2.out.trans (b3.mono B2.out.size)
  have Q2 := hide q2
  have HK2 := hide hk2
  clear b3 q2 hk2
  refine hK.out _ _ (KC.out _ B3.out) (fun hHeld => ?_)
  clear hK K
  (try simp only [List.setIfInBounds_toArray, List.set_cons_zero, List.set_cons_succ])
  have L1 : Hid ((C.take k1).length = k1) := (show _ = _ by rw [List.length_take]; have := HK1.out; omega)
  have L2 : Hid ((S.take k2).length = k2) := (show _ = _ by rw [List.length_take]; have := HK2.out; omega)
  have B4 : Hid (Below W1.heap.size W1 (w3.alloc (.cells #[.slice ca k1 cc, .slice sa k2 sc] 63))) := B3.out.alloc B3.out.size _
  have BX : Hid (BoxT 63 (w3.alloc (.cells #[.slice ca k1 cc, .slice sa k2 sc] 63)) w3.heap.size #[.slice ca k1 cc, .slice sa k2 sc]) := BoxT.new _ _ _
  refine wpAnyM_one (i := 8) (o := ⟨_, _, _, _, _, _⟩) (by kernel_rfl) rfl (fun K hK => ?_)
  go_simp
  refine hK.out _ _ (KC.out _ B4.out) (fun hHeld => ?_)
  clear hK K
  (try simp only [List.setIfInBounds_toArray, List.set_cons_zero, List.set_cons_succ])
  have HCC : Hid (Calls Try.prog 33 #[.slice (some ⟨w3.heap.size, 0, none⟩) 2 2] (w3.alloc (.cells #[.slice ca k1 cc, .slice sa k2 sc] 63)) fun e w' => ∃ u, e = .returned u ∧ OwnL 69 2 Tx.cs w.heap.size w' u (C.take k1 ++ S.take k2) ∧ Below W1.heap.size W1 w') := by
    have hcl : C.length ≤ 500000 := by have := sumw_len C; have := HWT.out; omega
    have hsl : S.length ≤ 500000 := by have := sumw_len S; have := HWT.out; omega
    have hbw := HB1.out.trans (B4.out.mono HB1.out.size)
    have t1 : LSeg 2 Tx.cs w.heap.size (w3.alloc (.cells #[.slice ca k1 cc, .slice sa k2 sc] 63)) (.slice ca k1 cc) (C.take k1) := by
      exact LSeg.take (HSC.out.below hbw) HK1.out
    have t2 : LSeg 2 Tx.cs w.heap.size (w3.alloc (.cells #[.slice ca k1 cc, .slice sa k2 sc] 63)) (.slice sa k2 sc) (S.take k2) := by
      exact LSeg.take (HSS.out.below hbw) HK2.out
    have hz := hbw.size
    have e1 : (⟨ca, cc, C.take k1⟩ : Sx).v = .slice ca k1 cc := by unfold Sx.v; simp only [L1.out]
    have e2 : (⟨sa, sc, S.take k2⟩ : Sx).v = .slice sa k2 sc := by unfold Sx.v; simp only [L2.out]
    have hseg : LSeg 1 Sx.cs (w3.alloc (.cells #[.slice ca k1 cc, .slice sa k2 sc] 63)).heap.size (w3.alloc (.cells #[.slice ca k1 cc, .slice sa k2 sc] 63)) (.slice (some ⟨w3.heap.size, 0, none⟩) 2 2) [⟨ca, cc, C.take k1⟩, ⟨sa, sc, S.take k2⟩] := two_seg (by rw [e1, e2]; exact BX.out) BX.out.lt
    refine (ConcatTx_any hseg (Nat.le_refl _) (fun x hx => ?_) (by simp [List.length_take]; omega) (by simp)).mono ?_
    · rcases List.mem_cons.1 hx with rfl | hx
      · rw [e1]; exact t1.mono hz
      · obtain rfl := List.mem_singleton.1 hx
        rw [e2]; exact t2.mono hz
    · rintro e w' ⟨u, rfl, o1, b1⟩
      refine ⟨u, rfl, ?_, B4.out.trans (b1.mono B4.out.size)⟩
      have o2 := o1.mono hz
      simpa using o2
  refine wpAnyM_one (i := 9) (o := ⟨_, _, _, _, _, _⟩) (by kernel_rfl) rfl (fun K hK => ?_)
  go_simp
  go_at_call 33
  refine (HCC.out).mono ?_
  rintro e w5 ⟨u, rfl, o5, b5⟩
  obtain ⟨ua, uc, hu5⟩ := o5.shape
  have O5 := hide o5
  have B5 := hide b5
  have HU5 := hide hu5
  generalize hz5 : (C.take k1 ++ S.take k2).length = z5 at hu5
  subst hu5
  have HZ5 := hide hz5
  clear o5 b5 hz5
  refine hK.out _ _ (KC.out _ B5.out) (fun hHeld => ?_)
  clear hK K
  (try simp only [List.setIfInBounds_toArray, List.set_cons_zero, List.set_cons_succ])
  refine wpAnyM_take (i := 10) (oi := ⟨_, _, _, _, _, _⟩) (v := ?_) rfl (by kernel_rfl) (by kernel_rfl) (by kernel_rfl) (by kernel_rfl) (fun _ _ _ h => h) (Or.inl ⟨by rfl, ?_⟩) hHeld ?_
  rotate_left
  · (intro w' hSw; (try dsimp only at hSw); go_simp; try (with_reducible rfl))
  (try simp only [Act.put, List.setIfInBounds_toArray, List.set_cons_zero, List.set_cons_succ])
  refine wpAnyM_done (by kernel_rfl) ?_ _
  clear hHeld
  have HRES2 : Hid (((C.take k1 ++ S.take k2).map Tx.rs).flatten = RES) := (show _ = _ by rw [Q1.out, Q2.out]; exact HRES.out)
  have HZR : Hid (∀ x ∈ C.take k1 ++ S.take k2, LSeg 3 Rc.cs w.heap.size w x.v x.rs) := fun x hx => HRW.out x (by
    rcases List.mem_append.1 hx with hx | hx
    · exact List.mem_append_left _ (List.mem_of_mem_take hx)
    · exact List.mem_append_right _ (List.mem_of_mem_take hx))
  have HZW : Hid (sumw (C.take k1 ++ S.take k2) ≤ 500000) := (show _ ≤ _ by
    rw [Q1.out, Q2.out, sumw_append]
    have := sumw_filter (fun x => decide (x.n ≤ n)) C
    have := sumw_filter (fun x => decide (x.n ≤ n)) S
    have := HWT.out
    omega)
  clear HRES HRW HWT HSC HSS HU1 HU2 HCC
  generalize hZ : C.take k1 ++ S.take k2 = Z at *
  have hz7 : z5 ≤ 500000 := by have := HZ5.out; have := sumw_len Z; have := HZW.out; omega
  have BW : Hid (Below w.heap.size w w5) := HB1.out.trans (B5.out.mono HB1.out.size)
  have HOS : Hid (LSeg 2 Tx.cs w5.heap.size w5 (.slice ua z5 uc) Z) := O5.out.seg Tx.cs_len (by have := HZ5.out; omega)
  clear hZ B2 B3 B4 BX Q1 Q2 L1 L2 HK1 HK2 KC
  go_wp2_with fail
  go_loopg [8, 10, 28] (z5 + 1) (fun gh uv tv iv wr => ∃ i : Nat, iv = .int .i64 (i : Int) ∧ i ≤ z5 ∧ z5 + 1 ≤ gh + i ∧ Hid (OwnL 39 3 Rc.cs w5.heap.size wr uv ((Z.take i).map Tx.rs).flatten) ∧ Hid (Below w5.heap.size w5 wr))
  case atStart => exact ⟨0, rfl, by omega, by omega, (show OwnL _ _ _ _ _ _ _ by simpa using OwnL.nil _ _ _ _ _), Below.refl _ _⟩
  case round =>
    obtain ⟨i, rfl, hi, hg, HO, HB⟩ := hrel
    obtain ⟨go, rfl⟩ : ∃ go, gk = go + 1 := ⟨gk - 1, by omega⟩
    by_cases hlt : i < z5
    · obtain ⟨x, hxx⟩ := get_of_lt (show i < Z.length by have := HZ5.out; omega)
      have bt : (i : Int) < (z5 : Int) := by omega
      obtain ⟨nb, no, rfl, nlt, e0, e1⟩ := (HOS.out.below HB.out).tx hxx
      have HEQ : Hid (((Z.take (i + 1)).map Tx.rs).flatten = ((Z.take i).map Tx.rs).flatten ++ x.rs) := (show _ = _ by
        obtain ⟨h1, rfl⟩ := List.getElem?_eq_some_iff.1 hxx
        rw [List.take_succ_eq_append_getElem h1, List.map_append, List.flatten_append]; simp)
      have HLN : Hid (((Z.take i).map Tx.rs).flatten.length + x.rs.length ≤ 1000000) := (show _ ≤ _ by
        rw [← List.length_append, ← HEQ.out]
        have h1 := sumw_flat (Z.take (i + 1))
        have h2 : sumw Z = sumw (Z.take (i + 1)) + sumw (Z.drop (i + 1)) := by rw [← sumw_append, List.take_append_drop]
        have := HZW.out
        omega)
      have HXS := hide ((HZR.out x (List.mem_of_getElem? hxx)).below (BW.out.trans (HB.out.mono BW.out.size)))
      obtain ⟨xn, xa, xc, xr⟩ := x
      unfold Tx.v at e1 HXS
      simp only at e0 e1 HEQ HLN HXS
      generalize xr.length = xl at e1 HXS
      have B2 := hide (HB.out.trans ((below_box wr (.cells #[.int .u64 (xn : Int), .slice xa xl xc] 69)).mono HB.out.size))
      have HBS : Hid (w5.heap.size ≤ (wr.alloc (.cells #[.int .u64 (xn : Int), .slice xa xl xc] 69)).heap.size) := B2.out.size
      have HX2 := hide (HXS.out.below ((below_box wr (.cells #[.int .u64 (xn : Int), .slice xa xl xc] 69)).mono (by have := BW.out.size; have := HB.out.size; omega)))
      clear hxx HXS
      go_wp2_with (first | (at_builtin; refine app_segL Try.infoRc Try.underlying29 rfl (by decide) (by decide) Rc.cs_len Rc.cs_one rfl _ _ rfl w5.heap.size _ _ rfl (HO.out.alloc _) w.heap.size _ xr rfl HX2.out HLN.out HBS.out ?_; intro v4 w4 h4 g4 k4; have H4 := hide h4; have B4 := hide (B2.out.grown g4 HBS.out (fun g e => HO.out.at g e)); clear h4 g4 k4) | fail)
      go_roundg go
      case rel =>
        refine ⟨i + 1, by go_num, by omega, by omega, (show OwnL _ _ _ _ _ _ _ by rw [HEQ.out]; exact H4.out), B4⟩
      case measure => omega
    · obtain rfl : i = z5 := by omega
      have bt : ¬ ((i : Nat) : Int) < (i : Int) := by omega
      go_wp2_with fail
      go_ret
      refine ⟨_, rfl, ?_, BW.out.trans (HB.out.mono BW.out.size)⟩
      have := HO.out.mono BW.out.size
      rw [List.take_of_length_le (by have := HZ5.out; omega), HRES2.out] at this
      exact this

end Go.Proofs.Yteafnohponbbeaa
