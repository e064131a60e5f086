/-
  Commit.
-/
import Derived.Test.YteafnohponbbeaaKLk
namespace Go.Proofs.Yteafnohponbbeaa
open Go.RowKit

/-- In the midst of Commit's loop. -/
def CI (w wr : World) (l mm : Nat) (fq : Nat → Prop) (p : Pt) (R : List Pt) (O : List Tx) (la : Int) (i : Nat) : Prop :=
  ∃ ov1 fq1 cv1, LK w wr l mm ov1 fq fq1 ({ p with cv := cv1, com := p.com ++ kp (p.stg.take i) } :: R) (O ++ kp (p.stg.take i)) #[cv1, p.sv, .int .u64 la]
theorem CI.skip {w wr w' : World} {l mm : Nat} {fq : Nat → Prop} {p : Pt} {R : List Pt} {O : List Tx} {la : Int} {i : Nat} {x : Tx} (h : CI w wr l mm fq p R O la i) (hb : Below wr.heap.size wr w') (hx : p.stg[i]? = some x) (he : x.rs.length = 0) : CI w w' l mm fq p R O la (i + 1) := by
  obtain ⟨ov1, fq1, cv1, h⟩ := h
  have e : kp (p.stg.take (i + 1)) = kp (p.stg.take i) := by
    obtain ⟨h1, rfl⟩ := List.getElem?_eq_some_iff.1 hx
    rw [List.take_succ_eq_append_getElem h1, kp_snoc, if_pos (by simpa using he)]
  refine ⟨ov1, fq1, cv1, ?_⟩
  rw [e]
  exact h.below hb
theorem CI.next {w w' : World} {l mm : Nat} {fq fq1 : Nat → Prop} {p : Pt} {R : List Pt} {O : List Tx} {la : Int} {i : Nat} {x : Tx} {ov1 cv1 : Value} (hx : p.stg[i]? = some x) (he : ¬ x.rs.length = 0)
    (h : LK w w' l mm ov1 fq fq1 ({ p with cv := cv1, com := (p.com ++ kp (p.stg.take i)) ++ [x] } :: R) ((O ++ kp (p.stg.take i)) ++ [x]) #[cv1, p.sv, .int .u64 la]) : CI w w' l mm fq p R O la (i + 1) := by
  have e : kp (p.stg.take (i + 1)) = kp (p.stg.take i) ++ [x] := by
    obtain ⟨h1, rfl⟩ := List.getElem?_eq_some_iff.1 hx
    rw [List.take_succ_eq_append_getElem h1, kp_snoc, if_neg (by simpa using he)]
  refine ⟨ov1, fq1, cv1, ?_⟩
  rw [e, ← List.append_assoc, ← List.append_assoc]
  exact h
theorem gone_all {w : World} {g off n c k : Nat} {S : List Tx} (h : Row 69 2 Tx.cs 0 w (.slice (some ⟨g, off, none⟩) n c) S) (hk : k ≤ S.length) : Gone w (.slice (some ⟨g, off, none⟩) 0 0) 0 (some ⟨g, off, none⟩) k := by
  rcases h with ⟨e, rfl⟩ | ⟨g, off, cap, cur, e, h2, h3, h4, h5, h6, h7⟩
  · cases e
  · cases e
    exact .inr ⟨g, off, cur, rfl, h3, by omega, off, 0, rfl, .inl (by omega)⟩
theorem c1_at {x : Tx} {v : Value} (hv : x.v = v) : ∀ (j : Nat) (u : Value), (Tx.c1 x)[j]? = some u → (#[v] : Array Value)[j]? = some u := by
  intro j u hu
  subst hv
  simpa [Tx.c1] using hu
set_option maxHeartbeats 4000000 in
set_option maxRecDepth 100000 in
theorem Commit_yes {w : World} {l mm : Nat} {ov : Value} {fq : Nat → Prop} {f : Int → PS} {O : List Tx} {W : Nat} {Ms : List Pt} (h : LX w l mm ov fq f O W Ms) (hW : W ≤ 500000) {k : Int} (hk : In64 k) {n : Nat} (hn : (f k).last < n) (hno : hasN (f k) n = true) :
    Calls Try.prog 13 #[.pointer (some ⟨l, 0, none⟩), .int .i64 k, .int .u64 (n : Int)] w fun e w' => e = .returned (.int .i64 0) ∧ ∃ O', SPost w w' l mm fq (upd f k (commitS (f k) n)) O' W ∧ O'.map Tx.rs = O.map Tx.rs ++ outS (f k) n := by
  obtain ⟨p, R, P⟩ := h.pick hk
  have hlook := P.look w rfl
  obtain ⟨c0, c1⟩ := P.g.box.cells2
  have hp := P.g.pts p (List.mem_cons_self ..)
  have hpp := P.pl.pp p (List.mem_cons_self ..)
  obtain ⟨ca, cc, sa, sc, hcv, hsv, hv⟩ := hp.shape
  rw [hv] at hlook
  have hstg := hp.sr
  rw [hsv] at hstg
  have hlen : p.stg.length ≤ 500000 := by
    have := P.pl.wt
    rw [sumS_cons] at this
    have := sumw_len p.stg
    omega
  have hsc := hstg.own_shape.2
  have segs := hstg.seg Tx.cs_len (by omega)
  obtain ⟨cn, hcn⟩ : ∃ cn, p.com.length = cn := ⟨_, rfl⟩
  rw [hcn] at hcv hlook
  obtain ⟨sn, hsn⟩ : ∃ sn, p.stg.length = sn := ⟨_, rfl⟩
  rw [hsn] at hsv hlook hstg segs hsc
  have hn2 : ¬ (n : Int) ≤ (p.last : Int) := by rw [P.ps] at hn; have : p.last < n := hn; omega
  have hnl : p.last < n := by rw [P.ps] at hn; exact hn
  rw [P.ps, hasN_eq] at hno
  obtain ⟨la, hla⟩ : ∃ la : Int, (p.last : Int) = la := ⟨_, rfl⟩
  rw [hla] at hlook hn2
  obtain ⟨W1, hW1⟩ : ∃ W1, W1 = w.alloc (.cells #[.slice ca cn cc, .slice sa sn sc, .int .u64 (la : Int)] 65) := ⟨_, rfl⟩
  have hb1 : Below w.heap.size w W1 := by rw [hW1]; exact below_box w _
  have k0 : BoxT 65 W1 w.heap.size #[.slice ca cn cc, .slice sa sn sc, .int .u64 (la : Int)] := by rw [hW1]; exact BoxT.new _ _ _
  have HU : Hid (Calls Try.prog 30 #[.slice sa sn sc, .int .u64 (n : Int)] W1 fun e w'' => (∃ k : Nat, e = .returned (.slice sa k sc) ∧ k ≤ p.stg.length ∧ p.stg.take k = p.stg.filter (fun x => decide (x.n ≤ n)) ∧ p.stg.drop k = p.stg.filter (fun x => decide (n < x.n))) ∧ Below W1.heap.size W1 w'') := upTo_any (segs.below hb1) hb1.size (by omega) (by omega) hpp.rs
  have HB1 := hide hb1
  have HSG := hide (segs.below hb1)
  have HNO := hide hno
  have HLE := hide hlen
  have HSN := hide hsn
  have HP := hide P
  have HSV := hide hsv
  have HCV := hide hcv
  have HLA := hide hla
  have HSC := hide hsc
  have HK0 := hide k0
  have HNL := hide hnl
  have hlw := P.g.box.lt
  have HBD : Hid (∀ i, (O ++ kp (p.stg.take i)).length ≤ 500000 ∧ (p.com ++ kp (p.stg.take i)).length ≤ 500000) := fun i => by
    have h1 := P.pl.wt
    rw [sumS_cons] at h1
    have h2 := P.pl.cw p (List.mem_cons_self ..)
    have h3 := sumw_len O
    have h4 := sumw_len p.com
    have h5 := sumw_len (kp (p.stg.take i))
    have h6 := sumw_kp (p.stg.take i)
    have h7 : sumw (p.stg.take i) + sumw (p.stg.drop i) = sumw p.stg := by rw [← sumw_append, List.take_append_drop]
    rw [List.length_append, List.length_append]
    omega
  clear h P hp hpp hcv hsv hv hstg hlen hsc segs hcn hsn hla hn hb1 k0 hno hnl
  go_enter Try.func13, Try.ntmps13
  go_upto_region 5 with (first | (at_lookup; refine wp_lookM rfl _ _ 59 false rfl _ _ rfl rfl hlook ?_) | (go_at_call 30; rw [← hW1]; refine HU.out.mono ?_; rintro e w2 ⟨⟨k1, rfl, hk1, q1, q2⟩, b2⟩; have B2 := hide b2; have Q1 := hide q1; have Q2 := hide q2; have HK1 := hide hk1; clear b2 q1 q2 hk1) | fail)
  clear hlook hW1 HU hn2
  have HSG2 := hide (LSeg.take (HSG.out.below (B2.out.mono HB1.out.size)) HK1.out)
  have HEND := hide (HB1.out.trans (B2.out.mono HB1.out.size))
  have HLT : Hid ((p.stg.take k1).length = k1) := (show _ = _ by rw [List.length_take]; have := HK1.out; omega)
  have h0 : k1 ≠ 0 := fun e => by
    have h1 := HNO.out
    rw [← Q1.out, e] at h1
    simp at h1
  obtain ⟨m, hm⟩ : ∃ m, k1 = m + 1 := ⟨k1 - 1, by omega⟩
  obtain ⟨x, hx⟩ := get_of_lt (show m < (p.stg.take k1).length by have := HLT.out; omega)
  have hne : x.n = n := by
    have h1 := HNO.out
    rw [← Q1.out, List.getLast?_eq_getElem?, HLT.out, hm, Nat.add_sub_cancel, ← hm, hx] at h1
    simpa using h1
  obtain ⟨g, off, rfl, nlt, e0, e1⟩ := HSG2.out.tx hx
  have HST0 : Hid (CI w w2 l mm fq p R O la 0) := ⟨ov, fq, p.cv, by
    rw [List.take_zero, show kp [] = [] from rfl, List.append_nil, List.append_nil]
    exact ⟨HP.out.g.below HEND.out, by have := HK0.out.below B2.out; rw [HCV.out, HSV.out]; exact this, FT.of_below HEND.out, HEND.out.block mm HP.out.g.ml, fun e => by have := HP.out.g.flt _ e; omega, HP.out.g.ml, hlw⟩⟩
  have beq : ((x.n : Int) != (n : Int)) = false := by rw [hne]; simp
  have hm6 : m ≤ 500000 := by have := HK1.out; have := HLE.out; omega
  have bz : ((m : Int) + 1 == 0) = false := by simp; omega
  have bt : ((m + 1 : Nat) : Int) - 1 < ((m + 1 : Nat) : Int) := by omega
  generalize x.n = xn at *
  subst hm
  clear hx h0 hne e1 HK0 HSG HSG2 HNO nlt
  go_wp2_with fail
  clear beq bz bt e0
  go_loopg [10, 41] (m + 2) (fun gh tv iv wr => ∃ i : Nat, iv = .int .i64 (i : Int) ∧ i ≤ m + 1 ∧ m + 2 ≤ gh + i ∧ Hid (CI w wr l mm fq p R O la i))
  case atStart => exact ⟨0, rfl, by omega, by omega, HST0⟩
  case round =>
    obtain ⟨i, rfl, hi, hg, HC⟩ := hrel
    obtain ⟨go, rfl⟩ : ∃ go, gk = go + 1 := ⟨gk - 1, by omega⟩
    by_cases hlt : i < m + 1
    · have bt : (i : Int) < (m : Int) + 1 := by omega
      obtain ⟨x, hx⟩ := get_of_lt (show i < p.stg.length by have := HK1.out; omega)
      obtain ⟨ov1, fq1, cv1, h1⟩ := HC.out
      have H1 := hide h1
      have hpt := h1.g.pts _ (List.mem_cons_self ..)
      have HX := hide (hpt.so x (List.mem_of_getElem? hx))
      have hseg := hpt.sr.seg Tx.cs_len (by show p.stg.length ≤ _; have := HLE.out; omega)
      have hseg2 : LSeg 2 Tx.cs wr.heap.size wr (.slice (some ⟨g, off, none⟩) sn sc) p.stg := by rw [← HSV.out]; exact hseg
      obtain ⟨nb, no, e, nlt, e0, e1⟩ := hseg2.tx hx
      cases e
      have HXX := hide hx
      have HXM := hide (List.mem_of_getElem? hx)
      have B2 := hide (below_box wr (.cells #[.int .u64 (x.n : Int), x.v] 69))
      have KB : Hid (BoxT 69 (wr.alloc (.cells #[.int .u64 (x.n : Int), x.v] 69)) wr.heap.size #[.int .u64 (x.n : Int), x.v]) := BoxT.new _ _ _
      obtain ⟨xl, hxl⟩ : ∃ xl, x.rs.length = xl := ⟨_, rfl⟩
      have hxv : x.v = .slice x.a xl x.c := by unfold Tx.v; rw [hxl]
      have HXV := hide hxv
      rw [hxv] at e1 KB B2
      obtain ⟨xn, hxn⟩ : ∃ xn, x.n = xn := ⟨_, rfl⟩
      obtain ⟨xa, hxa⟩ : ∃ xa, x.a = xa := ⟨_, rfl⟩
      obtain ⟨xc, hxc⟩ : ∃ xc, x.c = xc := ⟨_, rfl⟩
      rw [hxn, hxa, hxc] at KB B2
      rw [hxn] at e0
      rw [hxa, hxc] at e1 HXV
      have HXL := hide hxl
      have HXN := hide hxn
      clear h1 hpt hseg hseg2 hx hxv hxl hxn hxa hxc
      by_cases h0 : xl = 0
      · have bz : ¬ (0 : Int) < (xl : Int) := by omega
        have HZ := hide h0
        clear h0
        go_wp2_with fail
        go_roundg go
        case rel => exact ⟨i + 1, by go_num, by omega, by omega, HC.out.skip B2.out HXX.out (HXL.out.trans HZ.out)⟩
        case measure => omega
      · have bz : (0 : Int) < (xl : Int) := by omega
        have HZ := hide h0
        clear h0
        have HXV : Hid (x.v = .slice xa xl xc) := HXV
        go_upto_region 11 with fail
        have H2 := hide (H1.out.below B2.out)
        have KC : Hid (∀ w' : World, Below (wr.alloc (.cells #[.int .u64 (xn : Int), .slice xa xl xc] 69)).heap.size (wr.alloc (.cells #[.int .u64 (xn : Int), .slice xa xl xc] 69)) w' → w'.cell? ⟨l, 1, none⟩ = some ov1 ∧ w'.cell? ⟨wr.heap.size, 1, none⟩ = some (.slice xa xl xc)) := fun w' hb => ⟨(H2.out.g.below hb).box.cells2.2, (KB.out.below hb).cells2.2⟩
        have B3 : Hid (Below (wr.alloc (.cells #[.int .u64 (xn : Int), .slice xa xl xc] 69)).heap.size (wr.alloc (.cells #[.int .u64 (xn : Int), .slice xa xl xc] 69)) (((wr.alloc (.cells #[.int .u64 (xn : Int), .slice xa xl xc] 69)).alloc (.cells #[.slice xa xl xc] 29)).drew)) := ((Below.refl _ _).alloc (Nat.le_refl _) _).drew
        have BX : Hid (BoxT 29 (((wr.alloc (.cells #[.int .u64 (xn : Int), .slice xa xl xc] 69)).alloc (.cells #[.slice xa xl xc] 29)).drew) (wr.heap.size + 1) #[.slice xa xl xc]) := BoxT.drew (BoxT.new_at (by simp))
        have H3 := hide (H2.out.below B3.out)
        refine wp_region_M (S := fun w' => w'.cell? ⟨l, 1, none⟩ = some ov1 ∧ w'.cell? ⟨wr.heap.size, 1, none⟩ = some (.slice xa xl xc)) (late := [9, 10, 11]) (by kernel_rfl) (KC.out _ (Below.refl _ _).drew) (fun hHeld => ?_)
        (try simp only [List.size_toArray, List.length_cons, List.length_nil, Nat.zero_add, Nat.reduceAdd, Array.replicate, List.replicate])
        refine wpAnyM_take (i := 0) (oi := ⟨_, _, _, _, _, _⟩) (v := ?_) rfl (by kernel_rfl) (by kernel_rfl) (by kernel_rfl) (by kernel_rfl) (fun _ _ _ h => h) (Or.inl ⟨by rfl, ?_⟩) hHeld ?_
        rotate_left
        · (intro w' hSw; (try dsimp only at hSw); go_simp; try (with_reducible rfl))
        (try simp only [Act.put, List.setIfInBounds_toArray, List.set_cons_zero, List.set_cons_succ])
        refine wpAnyM_take (i := 1) (oi := ⟨_, _, _, _, _, _⟩) (v := ?_) rfl (by kernel_rfl) (by kernel_rfl) (by kernel_rfl) (by kernel_rfl) (fun _ _ _ h => h) (Or.inl ⟨by rfl, ?_⟩) hHeld ?_
        rotate_left
        · (intro w' hSw; (try dsimp only at hSw); go_simp; try (with_reducible rfl))
        (try simp only [Act.put, List.setIfInBounds_toArray, List.set_cons_zero, List.set_cons_succ])
        refine wpAnyM_take (i := 2) (oi := ⟨_, _, _, _, _, _⟩) (v := ?_) rfl (by kernel_rfl) (by kernel_rfl) (by kernel_rfl) (by kernel_rfl) (fun _ _ _ h => h) (Or.inl ⟨by rfl, ?_⟩) hHeld ?_
        rotate_left
        · (intro w' hSw; (try dsimp only at hSw); go_simp; try (with_reducible rfl))
        (try simp only [Act.put, List.setIfInBounds_toArray, List.set_cons_zero, List.set_cons_succ])
        refine wpAnyM_take (i := 3) (oi := ⟨_, _, _, _, _, _⟩) (v := ?_) rfl (by kernel_rfl) (by kernel_rfl) (by kernel_rfl) (by kernel_rfl) (fun _ _ _ h => h) (Or.inl ⟨by rfl, ?_⟩) hHeld ?_
        rotate_left
        · (intro w' hSw; (try dsimp only at hSw); go_simp; try (with_reducible rfl))
        (try simp only [Act.put, List.setIfInBounds_toArray, List.set_cons_zero, List.set_cons_succ])
        refine wpAnyM_take (i := 4) (oi := ⟨_, _, _, _, _, _⟩) (v := ?_) rfl (by kernel_rfl) (by kernel_rfl) (by kernel_rfl) (by kernel_rfl) (fun _ _ _ h => h) (Or.inl ⟨by rfl, ?_⟩) hHeld ?_
        rotate_left
        · (intro w' hSw; (try dsimp only at hSw); go_simp; try (with_reducible rfl))
        (try simp only [Act.put, List.setIfInBounds_toArray, List.set_cons_zero, List.set_cons_succ])
        refine wpAnyM_take (i := 5) (oi := ⟨_, _, _, _, _, _⟩) (v := ?_) rfl (by kernel_rfl) (by kernel_rfl) (by kernel_rfl) (by kernel_rfl) (fun _ _ _ h => h) (Or.inl ⟨by rfl, ?_⟩) hHeld ?_
        rotate_left
        · (intro w' hSw; (try dsimp only at hSw); go_simp; try (with_reducible rfl))
        (try simp only [Act.put, List.setIfInBounds_toArray, List.set_cons_zero, List.set_cons_succ])
        refine wpAnyM_take (i := 6) (oi := ⟨_, _, _, _, _, _⟩) (v := ?_) rfl (by kernel_rfl) (by kernel_rfl) (by kernel_rfl) (by kernel_rfl) (fun _ _ _ h => h) (Or.inl ⟨by rfl, ?_⟩) hHeld ?_
        rotate_left
        · (intro w' hSw; (try dsimp only at hSw); go_simp; try (with_reducible rfl))
        (try simp only [Act.put, List.setIfInBounds_toArray, List.set_cons_zero, List.set_cons_succ])
        refine wpAnyM_one (i := 7) (o := ⟨_, _, _, _, _, _⟩) (by kernel_rfl) rfl (fun K hK => ?_)
        go_simp
        refine hK.out _ _ (KC.out _ B3.out) (fun hHeld => ?_)
        clear hK K
        (try simp only [List.setIfInBounds_toArray, List.set_cons_zero, List.set_cons_succ])
        refine wpAnyM_one (i := 8) (o := ⟨_, _, _, _, _, _⟩) (by kernel_rfl) rfl (fun K hK => ?_)
        (refine step_L Try.infoRs Try.underlying60 rfl (by decide) (by decide) Tx.c1_len Tx.c1_one rfl _ _ rfl 0 ov1 (O ++ kp (p.stg.take i)) rfl H3.out.g.out _ _ [x] rfl (seg_one x BX.out BX.out.lt (c1_at HXV.out) 1) (by have := (HBD.out i).1; simp only [List.length_singleton]; omega) (Nat.zero_le _) ?_; intro v5 w5 o5 g5 k5)
        obtain ⟨a5, c5, hv5⟩ := o5.shape
        obtain ⟨n5, hn5⟩ : ∃ n5, ((O ++ kp (p.stg.take i)) ++ [x]).length = n5 := ⟨_, rfl⟩
        rw [hn5] at hv5
        subst hv5
        have HS5 : Hid (BoxT 62 w5 l #[.map (some mm), ov1] ∧ BoxT 69 w5 wr.heap.size #[.int .u64 (xn : Int), .slice xa xl xc]) := by
            have hkeep : ∀ (t : TypeId) (b : Nat) (ar : Array Value), t ≠ 29 → BoxT t _ b ar → BoxT t w5 b ar := fun t b ar ht hb => hb.back (g5.block b hb.lt (fun e => by obtain ⟨cur, hc⟩ := H3.out.g.out.has b e.symm; exact BoxT.ne (t := t) (t' := 29) hb hc ht rfl))
            exact ⟨hkeep _ _ _ (by decide) H3.out.g.box, hkeep _ _ _ (by decide) (KB.out.below B3.out)⟩
        have HXT : Hid (TxOk (((wr.alloc (.cells #[.int .u64 (xn : Int), .slice xa xl xc] 69)).alloc (.cells #[.slice xa xl xc] 29)).drew) fq1 x) := (H3.out.g.pts _ (List.mem_cons_self ..)).so x HXM.out
        have H6 := hide (H3.out.outA g5 o5 (fun g e => by
            rcases k5 with k | k
            · exact .inl (by rw [← k]; exact e)
            · rw [k] at e; cases e; exact .inr (Nat.le_refl _)) HXT.out)
        have KB6 : Hid (BoxT 69 (w5.setCell ⟨l, 1, none⟩ (.slice a5 n5 c5)) wr.heap.size #[.int .u64 (xn : Int), .slice xa xl xc]) := HS5.out.2.other 1 _ (fun e => by have := H1.out.g.box.lt; omega)
        have fr5 := HS5.out.1.free
        clear o5 g5 k5 hn5
        refine hK.out _ _ (⟨HS5.out.1.cells2.2, HS5.out.2.cells2.2⟩) (fun hHeld => ?_)
        clear hK K
        (try simp only [List.setIfInBounds_toArray, List.set_cons_zero, List.set_cons_succ])
        refine wpAnyM_last (i := 9) (o := ⟨_, _, _, _, _, _⟩) (by kernel_rfl) (by rfl) rfl (fun K hK => ?_)
        go_simp
        refine hK.out _ _ ?_
        clear hK K
        (try simp only [List.setIfInBounds_toArray, List.set_cons_zero, List.set_cons_succ])
        refine wpAnyM_last (i := 10) (o := ⟨_, _, _, _, _, _⟩) (by kernel_rfl) (by rfl) rfl (fun K hK => ?_)
        go_simp
        refine hK.out _ _ ?_
        clear hK K
        (try simp only [List.setIfInBounds_toArray, List.set_cons_zero, List.set_cons_succ])
        refine wpAnyM_last (i := 11) (o := ⟨_, _, _, _, _, _⟩) (by kernel_rfl) (by rfl) rfl (fun K hK => ?_)
        go_simp
        refine hK.out _ _ ?_
        clear hK K
        (try simp only [List.setIfInBounds_toArray, List.set_cons_zero, List.set_cons_succ])
        refine wpAnyM_done (by kernel_rfl) ?_ _
        obtain ⟨w6, hw6⟩ : ∃ w6, w6 = w5.setCell ⟨l, 1, none⟩ (.slice a5 n5 c5) := ⟨_, rfl⟩
        rw [← hw6] at H6 KB6
        rw [← hw6]
        clear hw6 HS5 fr5 KC H3 H2 BX KB
        have B7 := hide (below_box w6 (.cells #[.int .u64 (xn : Int), .slice xa xl xc] 69))
        have H7 := hide (H6.out.below B7.out)
        have BY : Hid (BoxT 69 (w6.alloc (.cells #[.int .u64 (xn : Int), .slice xa xl xc] 69)) w6.heap.size #[.int .u64 (x.n : Int), x.v]) := (show BoxT _ _ _ _ by rw [HXN.out, HXV.out]; exact BoxT.new _ _ _)
        obtain ⟨y0, y1, y2⟩ := H6.out.k.cells3
        obtain ⟨z0, z1⟩ := KB6.out.cells2
        go_wp2_with (first | (at_builtin; refine app_row Try.infoTx Try.underlying63 rfl (by decide) (by decide) Tx.cs_len Tx.cs_one rfl _ _ rfl 0 cv1 (p.com ++ kp (p.stg.take i)) rfl (H7.out.g.pts _ (List.mem_cons_self ..)).cr _ _ x rfl (newTx BY.out) (by have := (HBD.out i).2; omega) (Nat.zero_le _) ?_; intro v8 w8 o8 g8 k8; obtain ⟨a8, c8, hv8⟩ := o8.shape; obtain ⟨n8, hn8⟩ : ∃ n8, ((p.com ++ kp (p.stg.take i)) ++ [x]).length = n8 := ⟨_, rfl⟩; rw [hn8] at hv8; subst hv8; have K8 := hide (keep65 H7.out.k (H7.out.g.pts _ (List.mem_cons_self ..)).cr g8); have fr8 := K8.out.free; obtain ⟨u0, u1, u2⟩ := K8.out.cells3; have H9 := hide (H7.out.comB g8 o8 k8 ((H7.out.g.pts _ (List.mem_cons_self ..)).so x HXM.out)); clear o8 g8 k8 hn8) | fail)
        go_roundg go
        case rel => exact ⟨i + 1, by go_num, by omega, by omega, CI.next HXX.out (by rw [HXL.out]; exact HZ.out) H9.out⟩
        case measure => omega
    · obtain rfl : i = m + 1 := by omega
      have bt : ¬ ((m : Int) + 1 < (m : Int) + 1) := by omega
      obtain ⟨ov1, fq1, cv1, h1⟩ := HC.out
      have H1 := hide h1
      have hpt := h1.g.pts _ (List.mem_cons_self ..)
      obtain ⟨ca1, cc1, hcv1⟩ : ∃ ca1 cc1, cv1 = .slice ca1 (p.com ++ kp (p.stg.take (m + 1))).length cc1 := by obtain ⟨a, c, e⟩ := hpt.cr.shape; exact ⟨a, c, e⟩
      obtain ⟨cn1, hcn1⟩ : ∃ cn1, (p.com ++ kp (p.stg.take (m + 1))).length = cn1 := ⟨_, rfl⟩
      rw [hcn1] at hcv1
      subst hcv1
      have R2 : Hid (Row 69 2 Tx.cs 0 wr (.slice (some ⟨g, off, none⟩) sn sc) p.stg) := (show Row _ _ _ _ _ _ _ by rw [← HSV.out]; exact hpt.sr)
      have fr1 := h1.k.free
      clear h1 hpt hcn1
      obtain ⟨wo, rfl⟩ : ∃ wo, wo = wr := ⟨_, rfl⟩
      have hk1 : m + 1 ≤ sn := by have := HK1.out; have := HSN.out; omega
      have hsc := HSC.out
      have H2 : Hid (LK w (wo.setCell ⟨w.heap.size, 2, none⟩ (.int .u64 (n : Int))) l mm ov1 fq fq1 ({ p with cv := .slice ca1 cn1 cc1, com := p.com ++ kp (p.stg.take (m + 1)) } :: R) (O ++ kp (p.stg.take (m + 1))) #[.slice ca1 cn1 cc1, p.sv, .int .u64 (n : Int)]) := (show LK _ _ _ _ _ _ _ _ _ _ by have := H1.out.setK 2 (.int .u64 (n : Int)); simpa using this)
      obtain ⟨v0, v1, v2⟩ := H1.out.k.cells3
      obtain ⟨y0, y1, y2⟩ := H2.out.k.cells3
      rw [HSV.out] at y1
      have R3 : Hid (Row 69 2 Tx.cs 0 (wo.setCell ⟨w.heap.size, 2, none⟩ (.int .u64 (n : Int))) (.slice (some ⟨g, off, none⟩) sn sc) p.stg) := (show Row _ _ _ _ _ _ _ by rw [← HSV.out]; exact (H2.out.g.pts _ (List.mem_cons_self ..)).sr)
      go_upto_region 15 with fail
      go_cut [] from 69 to 76 (fun wx => ∃ v5 fq5, Hid (LK w wx l mm ov1 fq fq5 ({ p with cv := .slice ca1 cn1 cc1, com := p.com ++ kp (p.stg.take (m + 1)), sv := v5, stg := p.stg.drop (m + 1), last := n } :: R) (O ++ kp (p.stg.take (m + 1))) #[.slice ca1 cn1 cc1, v5, .int .u64 (n : Int)]))
      case first =>
        have hlt2 : (p.stg.drop (m + 1)).length ≤ 1000000 := by rw [List.length_drop]; have := HLE.out; omega
        have i0 : (0 : Int) ≤ (m : Int) + 1 := by omega
        have i1 : (m : Int) + 1 ≤ (sn : Int) := by omega
        have i2 : (sn : Int) ≤ (sc : Int) := by omega
        have hdr := Row.drop Tx.cs_len R3.out HK1.out
        by_cases hkc : m + 1 = sc
        · obtain ⟨hd, hnil⟩ := hdr.2 hkc
          obtain rfl : sn = m + 1 := by omega
          obtain rfl : sc = m + 1 := by omega
          have HNIL := hide hnil
          have HWO := hide (without_any (gc := m + 1) hd (gone_all R3.out HK1.out) (by simp))
          clear hdr hd hnil hlt2 hsc hk1
          go_wp2_with (first | (go_at_call 31; refine HWO.out.mono ?_; rintro e w3 ⟨u, rfl, o3, g3, b3⟩; obtain ⟨ua, uc, hu⟩ := o3.shape; obtain ⟨un, hun⟩ : ∃ un, (([] : List Tx)).length = un := ⟨_, rfl⟩; rw [hun] at hu; subst hu; have K3 := hide (keep65 H2.out.k R3.out g3); have HF := hide (H2.out.stgC (by rw [HSV.out]; exact g3) (by rw [HNIL.out]; exact o3) (by rw [HSV.out]; exact b3) (fun x hx => List.mem_of_mem_drop hx) n); obtain ⟨t0, t1, t2⟩ := K3.out.cells3; have fr3 := K3.out.free; clear o3 g3 b3 hun) | fail)
          go_meet
          case rel => exact ⟨_, _, HF⟩
        · have HWO := hide (without_any (gc := sc) (hdr.1 hkc) (gone_ahead R3.out HK1.out) hlt2)
          have i3 : ¬ (m : Int) + 1 = (sc : Int) := by omega
          have i4 : m + 1 ≤ sn := by omega
          have i5 : sn ≤ sc := by omega
          clear hdr hlt2 hsc hk1
          go_wp2_with (first | (go_at_call 31; refine HWO.out.mono ?_; rintro e w3 ⟨u, rfl, o3, g3, b3⟩; obtain ⟨ua, uc, hu⟩ := o3.shape; obtain ⟨un, hun⟩ : ∃ un, (p.stg.drop (m + 1)).length = un := ⟨_, rfl⟩; rw [hun] at hu; subst hu; have K3 := hide (keep65 H2.out.k R3.out g3); have HF := hide (H2.out.stgC (by rw [HSV.out]; exact g3) (o3) (by rw [HSV.out]; exact b3) (fun x hx => List.mem_of_mem_drop hx) n); obtain ⟨t0, t1, t2⟩ := K3.out.cells3; have fr3 := K3.out.free; clear o3 g3 b3 hun) | fail)
          go_meet
          case rel => exact ⟨_, _, HF⟩
      case rest =>
        obtain ⟨v5, fq5, H5⟩ := hcut
        have hsr := (H5.out.g.pts _ (List.mem_cons_self ..)).sr
        obtain ⟨a5, c5, hv5⟩ : ∃ a5 c5, v5 = .slice a5 (p.stg.drop (m + 1)).length c5 := by obtain ⟨a, c, e⟩ := hsr.shape; exact ⟨a, c, e⟩
        obtain ⟨n5, hn5⟩ : ∃ n5, (p.stg.drop (m + 1)).length = n5 := ⟨_, rfl⟩
        rw [hn5] at hv5
        subst hv5
        clear hn5 hsr
        obtain ⟨w7, hrun7, hm7, ht7⟩ := HP.out.store wc.drew (.agg #[.slice ca1 cn1 cc1, .slice a5 n5 c5, .int .u64 (n : Int)]) H5.out.m
        have HMP := hide hm7
        have HT7 := hide ht7
        clear hm7 ht7
        have hL6 : wc.drew.cell? ⟨l, 0, none⟩ = some (.map (some mm)) := H5.out.g.box.cells2.1
        obtain ⟨q0, q1, q2⟩ := BoxT.cells3 (t := 65) (w := wc.drew) H5.out.k
        go_wp2_with fail
        refine wp_region_M (S := fun w' => w' = wc.drew) (late := [6]) (by kernel_rfl) (rfl) (fun hHeld => ?_)
        (try simp only [List.size_toArray, List.length_cons, List.length_nil, Nat.zero_add, Nat.reduceAdd, Array.replicate, List.replicate])
        refine wpAnyM_take (i := 0) (oi := ⟨_, _, _, _, _, _⟩) (v := ?_) rfl (by kernel_rfl) (by kernel_rfl) (by kernel_rfl) (by kernel_rfl) (fun _ _ _ h => h) (Or.inl ⟨by rfl, ?_⟩) hHeld ?_
        rotate_left
        · (intro w' hSw; subst hSw; go_simp; try (with_reducible rfl))
        (try simp only [Act.put, List.setIfInBounds_toArray, List.set_cons_zero, List.set_cons_succ])
        refine wpAnyM_take (i := 1) (oi := ⟨_, _, _, _, _, _⟩) (v := ?_) rfl (by kernel_rfl) (by kernel_rfl) (by kernel_rfl) (by kernel_rfl) (fun _ _ _ h => h) (Or.inl ⟨by rfl, ?_⟩) hHeld ?_
        rotate_left
        · (intro w' hSw; subst hSw; go_simp; try (with_reducible rfl))
        (try simp only [Act.put, List.setIfInBounds_toArray, List.set_cons_zero, List.set_cons_succ])
        refine wpAnyM_take (i := 2) (oi := ⟨_, _, _, _, _, _⟩) (v := ?_) rfl (by kernel_rfl) (by kernel_rfl) (by kernel_rfl) (by kernel_rfl) (fun _ _ _ h => h) (Or.inl ⟨by rfl, ?_⟩) hHeld ?_
        rotate_left
        · (intro w' hSw; subst hSw; go_simp; try (with_reducible rfl))
        (try simp only [Act.put, List.setIfInBounds_toArray, List.set_cons_zero, List.set_cons_succ])
        refine wpAnyM_take (i := 3) (oi := ⟨_, _, _, _, _, _⟩) (v := ?_) rfl (by kernel_rfl) (by kernel_rfl) (by kernel_rfl) (by kernel_rfl) (fun _ _ _ h => h) (Or.inl ⟨by rfl, ?_⟩) hHeld ?_
        rotate_left
        · (intro w' hSw; subst hSw; go_simp; try (with_reducible rfl))
        (try simp only [Act.put, List.setIfInBounds_toArray, List.set_cons_zero, List.set_cons_succ])
        refine wpAnyM_take (i := 4) (oi := ⟨_, _, _, _, _, _⟩) (v := ?_) rfl (by kernel_rfl) (by kernel_rfl) (by kernel_rfl) (by kernel_rfl) (fun _ _ _ h => h) (Or.inl ⟨by rfl, ?_⟩) hHeld ?_
        rotate_left
        · (intro w' hSw; subst hSw; go_simp; try (with_reducible rfl))
        (try simp only [Act.put, List.setIfInBounds_toArray, List.set_cons_zero, List.set_cons_succ])
        refine wpAnyM_take (i := 5) (oi := ⟨_, _, _, _, _, _⟩) (v := ?_) rfl (by kernel_rfl) (by kernel_rfl) (by kernel_rfl) (by kernel_rfl) (fun _ _ _ h => h) (Or.inl ⟨by rfl, ?_⟩) hHeld ?_
        rotate_left
        · (intro w' hSw; subst hSw; go_simp; try (with_reducible rfl))
        (try simp only [Act.put, List.setIfInBounds_toArray, List.set_cons_zero, List.set_cons_succ])
        refine wpAnyM_last (i := 6) (o := ⟨_, _, _, _, _, _⟩) (by kernel_rfl) (by rfl) rfl (fun K hK => ?_)
        refine step_put_run rfl _ _ _ 59 rfl _ _ _ rfl rfl rfl hrun7 ?_
        refine hK.out _ _ ?_
        clear hK K
        (try simp only [List.setIfInBounds_toArray, List.set_cons_zero, List.set_cons_succ])
        refine wpAnyM_done (by kernel_rfl) ?_ _
        go_wp2_with fail
        go_ret
        refine ⟨rfl, O ++ kp (p.stg.take (m + 1)), ⟨ov1, fq5, _, ⟨(H5.out.g.below (Below.refl _ _).drew).turn HT7.out, commit_lp HP.out Q1.out Q2.out HNL.out _ _, ?_, ?_⟩, FT.turn H5.out.f.drewP HT7.out⟩, ?_⟩
        · rw [List.map_cons]
          have e : pEnt { p with cv := .slice ca1 cn1 cc1, com := p.com ++ kp (p.stg.take (m + 1)), sv := .slice a5 n5 c5, stg := p.stg.drop (m + 1), last := n } = (.int .i64 k, .agg #[.slice ca1 cn1 cc1, .slice a5 n5 c5, .int .u64 (n : Int)]) := by
            show (Value.int .i64 p.k, _) = _
            rw [HP.out.key]; rfl
          rw [e]; exact HMP.out
        · have h1 := HP.out.s.swap (p' := { p with cv := .slice ca1 cn1 cc1, com := p.com ++ kp (p.stg.take (m + 1)), sv := .slice a5 n5 c5, stg := p.stg.drop (m + 1), last := n }) HP.out.pl.keys HP.out.key HP.out.key
          rw [commit_ps p Q1.out Q2.out] at h1
          rw [HP.out.ps]; exact h1
        · rw [List.map_append, HP.out.ps]
          unfold outS dueS Pt.ps
          simp only
          rw [pr_filter, pr_kept, pr_snd, Q1.out]

end Go.Proofs.Yteafnohponbbeaa
