/-
  Texts in build order: SInto, SRSp.
-/
import Derived.Test.YtpcbhcdpegbfjaaGreatM44
/-
 The document's Into, walked.
-/
namespace Go.Proofs.YtpcbhcdpegbfjaaGreat
set_option maxHeartbeats 16000000
set_option maxRecDepth 100000
open Go.RowKit
structure I0 (w wr : World) (k size slide rk sf st acc : Int) : Prop where
 bel : Below w.heap.size w wr
 win : BoxT 27 wr w.heap.size #[.int .i64 k, .int .i64 size, .int .i64 slide]
 sp : BoxT 72 wr (w.heap.size + 2) #[.int .i64 sf, .int .i64 st]
 p : BoxT 79 wr (w.heap.size + 3) #[.int .i64 rk, .int .i64 sf, .int .i64 st, .int .i64 acc]
theorem I0.below {w wr w' : World} {k size slide rk sf st acc : Int} (h : I0 w wr k size slide rk sf st acc) (hb : Below wr.heap.size wr w') : I0 w w' k size slide rk sf st acc :=
 ⟨h.bel.trans (hb.mono h.bel.size), BoxT.below (t := 27) h.win hb, BoxT.below (t := 72) h.sp hb, BoxT.below (t := 79) h.p hb⟩
theorem I0.grown {w wr w' : World} {k size slide rk sf st acc : Int} {r : Option Nat} (h : I0 w wr k size slide rk sf st acc) (hg : wr.grownBy w' r) (hr : ∀ g, r = some g → w.heap.size + 4 ≤ g) : I0 w w' k size slide rk sf st acc := by
 have h1 := h.win.lt
 have h2 := h.sp.lt
 have h3 := h.p.lt
 have hne : ∀ b, b < w.heap.size + 4 → some b ≠ r := fun b hb e => by have := hr b e.symm; omega
 refine ⟨h.bel.grown hg h.bel.size (fun g e => by have := hr g e; omega), ?_, ?_, ?_⟩
 ·have := h.win; unfold BoxT at *; rw [hg.block _ h1 (hne _ (by omega))]; exact this
 ·have := h.sp; unfold BoxT at *; rw [hg.block _ h2 (hne _ (by omega))]; exact this
 ·have := h.p; unfold BoxT at *; rw [hg.block _ h3 (hne _ (by omega))]; exact this
structure IP (a rk sf st : Int) (p0 : Pn) (l out : List Pn) (acc : Int) (i : Nat) : Prop where
 red : Reds false (jn a) (p0 :: l) (⟨rk, sf, st, acc⟩ :: (out ++ l.drop i))
 sub : (out ++ l.drop i).Sublist l
 no : ∀ x ∈ out, ¬ (x.k = rk ∧ x.f = sf ∧ x.t = st)
theorem IP.met {a rk sf st acc xa : Int} {p0 : Pn} {l out : List Pn} {i : Nat} (h : IP a rk sf st p0 l out acc i) (hx : l[i]? = some ⟨rk, sf, st, xa⟩) : IP a rk sf st p0 l out (jn a acc xa) (i + 1) := by
 refine ⟨h.red.trans ?_, sub_step hx h.sub, h.no⟩
 rw [drop_at hx]
 have e : jp (jn a) (⟨rk, sf, st, acc⟩ : Pn) ⟨rk, sf, st, xa⟩ = ⟨rk, sf, st, jn a acc xa⟩ := Pn.same rfl (by simp [jp]) (by simp [jp]) rfl
 rw [← e]
 refine (Reds.of_perm ?_).trans (Reds.pair (out ++ l.drop (i + 1)) ⟨rfl, .inr ⟨rfl, rfl, rfl⟩⟩)
 exact .cons _ List.perm_middle
theorem IP.past {a rk sf st acc : Int} {p0 x : Pn} {l out : List Pn} {i : Nat} (h : IP a rk sf st p0 l out acc i) (hx : l[i]? = some x) (hm : ¬ (x.k = rk ∧ x.f = sf ∧ x.t = st)) : IP a rk sf st p0 l (out ++ [x]) acc (i + 1) := by
 have e : out ++ l.drop i = (out ++ [x]) ++ l.drop (i + 1) := by rw [drop_at hx]; simp
 refine ⟨e ▸ h.red, e ▸ h.sub, fun y hy => ?_⟩
 rcases List.mem_append.1 hy with hy | hy
 ·exact h.no y hy
 ·obtain rfl := List.mem_singleton.1 hy; exact hm
theorem IP.start (a rk sf st acc : Int) (l : List Pn) : IP a rk sf st ⟨rk, sf, st, acc⟩ l [] acc 0 :=
 ⟨by simpa using Reds.refl _, by simp, fun x hx => by simp at hx⟩
theorem IP.ends {a rk sf st acc : Int} {p0 : Pn} {l out : List Pn} (h : IP a rk sf st p0 l out acc l.length) (hap : Apart false l) : Comes false (jn a) (p0 :: l) (srt (out ++ [⟨rk, sf, st, acc⟩])) := by
 have h1 := h.sub
 have h2 := h.red
 rw [List.drop_length, List.append_nil] at h1 h2
 have hp : (⟨rk, sf, st, acc⟩ :: out).Perm (srt (out ++ [⟨rk, sf, st, acc⟩])) := ((srt_perm _).trans (List.perm_append_singleton _ out)).symm
 refine ⟨h2.perm (.refl _) hp, Apart.perm (List.Pairwise.cons (fun x hx hm => h.no x hx ?_) (List.Pairwise.sublist h1 hap)) hp⟩
 obtain ⟨e1, ⟨e2, _⟩ | ⟨_, e3, e4⟩⟩ := hm
 ·cases e2
 ·exact ⟨e1.symm, e3.symm, e4.symm⟩
theorem I0.acc {w wr : World} {k size slide rk sf st acc : Int} (h : I0 w wr k size slide rk sf st acc) {PB : Nat} (hPB : PB = w.heap.size + 3) (c : Int) : I0 w (wr.setCell ⟨PB, 3, none⟩ (.int .i64 c)).drew k size slide rk sf st c := by
 subst hPB
 have hs : ∀ b, b ≠ w.heap.size + 3 → (wr.setCell ⟨w.heap.size + 3, 3, none⟩ (.int .i64 c)).drew.heap[b]? = wr.heap[b]? := fun b hb => Below.heap_setCell wr ⟨w.heap.size + 3, 3, none⟩ _ b hb
 refine ⟨h.bel.trans ⟨rfl, rfl, rfl, by simp, fun i hi => hs i (by omega)⟩, ?_, ?_, ?_⟩
 ·have := h.win; unfold BoxT at *; rw [hs _ (by omega)]; exact this
 ·have := h.sp; unfold BoxT at *; rw [hs _ (by omega)]; exact this
 ·have := BoxT.set (t := 79) h.p 3 (.int .i64 c)
  have h2 : BoxT 79 (wr.setCell ⟨w.heap.size + 3, 3, none⟩ (.int .i64 c)) (w.heap.size + 3) #[.int .i64 rk, .int .i64 sf, .int .i64 st, .int .i64 c] := by simpa using this
  exact h2
theorem OwnL.accOff {w wr : World} {v : Value} {xs : List Pn} (h : OwnL 79 4 Pn.cs (w.heap.size + 4) wr v xs) {PB : Nat} (hPB : PB = w.heap.size + 3) (c : Value) : OwnL 79 4 Pn.cs (w.heap.size + 4) (wr.setCell ⟨PB, 3, none⟩ c).drew v xs :=
 h.back (fun g e => Below.heap_setCell wr ⟨PB, 3, none⟩ _ g (by have := h.at g e; show g ≠ PB; omega))
def IPost (w : World) (k a : Int) (p0 : Pn) (l : List Pn) (e : Ending) (w' : World) : Prop := ∃ u M, e = .returned u ∧ LSeg 4 Pn.cs w'.heap.size w' u M ∧ Below w.heap.size w w' ∧ Rising M ∧ (∀ b, u.ownBlock = some b → w.heap.size ≤ b) ∧ Comes (sess k) (jn a) (p0 :: l) M
theorem rInto_any {w : World} {v : Value} {l : List Pn} (hl : LSeg 4 Pn.cs w.heap.size w v l) (hn : l.length ≤ 50000) (k size slide a rk rt rv sf st : Int) (hap : Apart (sess k) l) (hfu : k = 3 → sf < st ∧ ∀ x ∈ l, Full x) :
  Calls Tryz.prog 29 #[.agg #[.int .i64 k, .int .i64 size, .int .i64 slide], .int .i64 a, v, .agg #[.int .i64 rk, .int .i64 rt, .int .i64 rv], .agg #[.int .i64 sf, .int .i64 st]] w (IPost w k a ⟨rk, sf, st, ad a (zr a) rv⟩ l) := by
 obtain ⟨ao, cap, rfl⟩ := hl.shapeOf
 have HL := hide hl
 have HAP := hide hap
 have HFU := hide hfu
 have HZR := hide (fun W => RZero_any W a)
 have HAD := hide (fun W => RAdd_any W a (zr a) rv)
 clear hl hap hfu
 obtain ⟨z0, hz0⟩ : ∃ z0, zr a = z0 := ⟨_, rfl⟩
 rw [hz0] at HZR HAD ⊢
 obtain ⟨acc, hacc⟩ : ∃ acc, ad a z0 rv = acc := ⟨_, rfl⟩
 rw [hacc] at HAD ⊢
 clear hz0 hacc
 go_enter Tryz.func29, Tryz.ntmps29
 go_upto_region 1 with fail
 obtain ⟨W1, hW1⟩ : ∃ W1, W1 = ((w.alloc (.cells #[.int .i64 k, .int .i64 size, .int .i64 slide] 27)).alloc (.cells #[.int .i64 rk, .int .i64 rt, .int .i64 rv] 38)).alloc (.cells #[.int .i64 sf, .int .i64 st] 72) := ⟨_, rfl⟩
 rw [← hW1]
 have hZ1 : W1.heap.size = w.heap.size + 3 := by rw [hW1]; simp
 have hB1 : Below w.heap.size w W1 := by
  rw [hW1]
  exact (((Below.refl _ _).alloc (Nat.le_refl _) _).alloc (by simp) _).alloc (by simp; omega) _
 have hX1 : BoxT 27 W1 w.heap.size #[.int .i64 k, .int .i64 size, .int .i64 slide] := by
  rw [hW1]; exact BoxT.alloc (t := 27) (BoxT.alloc (t := 27) (BoxT.new 27 w _) _) _
 have hX2 : BoxT 38 W1 (w.heap.size + 1) #[.int .i64 rk, .int .i64 rt, .int .i64 rv] := by
  rw [hW1]
  have h1 := BoxT.new 38 (w.alloc (.cells #[.int .i64 k, .int .i64 size, .int .i64 slide] 27)) #[.int .i64 rk, .int .i64 rt, .int .i64 rv]
  have e : (w.alloc (.cells #[.int .i64 k, .int .i64 size, .int .i64 slide] 27)).heap.size = w.heap.size + 1 := by simp
  rw [e] at h1
  exact BoxT.alloc (t := 38) h1 _
 have hX3 : BoxT 72 W1 (w.heap.size + 2) #[.int .i64 sf, .int .i64 st] := by
  rw [hW1]
  have h1 := BoxT.new 72 ((w.alloc (.cells #[.int .i64 k, .int .i64 size, .int .i64 slide] 27)).alloc (.cells #[.int .i64 rk, .int .i64 rt, .int .i64 rv] 38)) #[.int .i64 sf, .int .i64 st]
  simpa using h1
 have KC : Hid (∀ w' : World, Below W1.heap.size W1 w' → w'.cell? ⟨w.heap.size + 1, 0, none⟩ = some (.int .i64 rk) ∧ w'.cell? ⟨w.heap.size + 1, 2, none⟩ = some (.int .i64 rv) ∧ w'.cell? ⟨w.heap.size + 2, 0, none⟩ = some (.int .i64 sf) ∧ w'.cell? ⟨w.heap.size + 2, 1, none⟩ = some (.int .i64 st)) := (show ∀ w' : World, _ from fun w' h => by
  have h2 := BoxT.below (t := 38) hX2 h
  have h3 := BoxT.below (t := 72) hX3 h
  exact ⟨by rw [h2.cellAt]; rfl, by rw [h2.cellAt]; rfl, by rw [h3.cellAt]; rfl, by rw [h3.cellAt]; rfl⟩)
 have HBF := hide (below_box W1 (.cells #[.int .i64 rk, .int .i64 sf, .int .i64 st, .int .i64 acc] 79)).drew
 have HI0 : Hid (I0 w (W1.alloc (.cells #[.int .i64 rk, .int .i64 sf, .int .i64 st, .int .i64 acc] 79)).drew k size slide rk sf st acc) := (show I0 _ _ _ _ _ _ _ _ _ from ⟨hB1.trans (HBF.out.mono hB1.size), BoxT.below (t := 27) hX1 HBF.out, BoxT.below (t := 72) hX3 HBF.out, by
  have h1 := BoxT.new 79 W1 #[.int .i64 rk, .int .i64 sf, .int .i64 st, .int .i64 acc]
  rw [hZ1] at h1
  exact h1⟩)
 have HZ1 := hide hZ1
 clear hW1 hB1 hX1 hX2 hX3
 clear hZ1
 go_cut [11] from 14 to 23 (fun p11 wc => p11 = .pointer (some ⟨W1.heap.size, 0, none⟩) ∧ Hid (I0 w wc k size slide rk sf st acc))
 case first =>
  refine wp_region_M (S := fun w' => w'.cell? ⟨w.heap.size + 1, 0, none⟩ = some (.int .i64 rk) ∧ w'.cell? ⟨w.heap.size + 1, 2, none⟩ = some (.int .i64 rv) ∧ w'.cell? ⟨w.heap.size + 2, 0, none⟩ = some (.int .i64 sf) ∧ w'.cell? ⟨w.heap.size + 2, 1, none⟩ = some (.int .i64 st)) (late := []) (by kernel_rfl) (KC.out _ ((Below.refl _ _).drew)) (fun hH => ?_)
  (try simp only [nr, Nat.reduceAdd])
  refine tkA 0 hH ?_; simp only [nm]; refine tkA 1 hH ?_; simp only [nm]; refine tkA 2 hH ?_; simp only [nm]; refine tkA 3 hH ?_; simp only [nm]; refine tkA 4 hH ?_; simp only [nm]; refine tkA 6 hH ?_; simp only [nm]; refine tkA 7 hH ?_; simp only [nm]
  refine wpAnyM_two (i := 5) (j := 10) (oi := ⟨_, _, _, _, _, _⟩) (oj := ⟨_, _, _, _, _, _⟩) (by kernel_rfl) rfl rfl (fun K hK => ?_) (fun K hK => ?_)
  ·go_simp
   go_at_call 41
   refine (HZR.out _).mono ?_
   rintro e w7 ⟨rfl, e7⟩
   subst e7
   refine hK.out _ _ hH (fun hH => ?_)
   clear hK K
   (try simp only [nm])
   refine wpAnyM_two (i := 8) (j := 10) (oi := ⟨_, _, _, _, _, _⟩) (oj := ⟨_, _, _, _, _, _⟩) (by kernel_rfl) rfl rfl (fun K hK => ?_) (fun K hK => ?_)
   ·go_simp
    go_at_call 40
    refine (HAD.out _).mono ?_
    rintro e w7 ⟨rfl, e7⟩
    subst e7
    refine hK.out _ _ hH (fun hH => ?_)
    clear hK K
    (try simp only [nm])
    refine tkA 9 hH ?_; simp only [nm]
    refine tkO 10 fun K hK => ?_
    go_simp
    refine hK.out _ _ (KC.out _ ((below_box _ _).drew)) (fun hH => ?_)
    clear hK K
    (try simp only [nm])
    refine tkO 11 fun K hK => ?_
    go_simp
    refine hK.out _ _ (KC.out _ HBF.out) (fun hH => ?_)
    clear hK K
    (try simp only [nm])
    refine wpAnyM_done (by kernel_rfl) ?_ _
    go_wp2_with fail
    go_meet
    case rel => exact ⟨rfl, HI0.out⟩
   ·go_simp
    refine hK.out _ _ (KC.out _ ((below_box _ _).drew)) (fun hH => ?_)
    clear hK K
    (try simp only [nm])
    refine tkO 8 fun K hK => ?_
    go_simp
    go_at_call 40
    refine (HAD.out _).mono ?_
    rintro e w7 ⟨rfl, e7⟩
    subst e7
    refine hK.out _ _ hH (fun hH => ?_)
    clear hK K
    (try simp only [nm])
    refine tkA 9 hH ?_; simp only [nm]
    refine tkO 11 fun K hK => ?_
    go_simp
    refine hK.out _ _ (KC.out _ HBF.out) (fun hH => ?_)
    clear hK K
    (try simp only [nm])
    refine wpAnyM_done (by kernel_rfl) ?_ _
    go_wp2_with fail
    go_meet
    case rel => exact ⟨rfl, HI0.out⟩
  ·go_simp
   refine hK.out _ _ (KC.out _ ((below_box _ _).drew)) (fun hH => ?_)
   clear hK K
   (try simp only [nm])
   refine tkO 5 fun K hK => ?_
   go_simp
   go_at_call 41
   refine (HZR.out _).mono ?_
   rintro e w7 ⟨rfl, e7⟩
   subst e7
   refine hK.out _ _ hH (fun hH => ?_)
   clear hK K
   (try simp only [nm])
   refine tkO 8 fun K hK => ?_
   go_simp
   go_at_call 40
   refine (HAD.out _).mono ?_
   rintro e w7 ⟨rfl, e7⟩
   subst e7
   refine hK.out _ _ hH (fun hH => ?_)
   clear hK K
   (try simp only [nm])
   refine tkA 9 hH ?_; simp only [nm]
   refine tkO 11 fun K hK => ?_
   go_simp
   refine hK.out _ _ (KC.out _ HBF.out) (fun hH => ?_)
   clear hK K
   (try simp only [nm])
   refine wpAnyM_done (by kernel_rfl) ?_ _
   go_wp2_with fail
   go_meet
   case rel => exact ⟨rfl, HI0.out⟩
 case rest =>
  obtain ⟨rfl, HI⟩ := hcut
  clear KC HBF HI0 HZR HAD
  generalize W1.heap.size = PB at *
  have HP0 : Hid (∀ (wr : World) (ac : Int), I0 w wr k size slide rk sf st ac → BoxT 79 wr PB #[.int .i64 rk, .int .i64 sf, .int .i64 st, .int .i64 ac]) := (show ∀ (wr : World) (ac : Int), _ from fun _ _ h => by rw [HZ1.out]; exact h.p)
  obtain ⟨w0, w1, w2⟩ := HI.out.win.cells3
  by_cases hk3 : k = 3
  ·as_aux_lemma =>
   obtain ⟨q0, q1, q2, q3⟩ := (HP0.out _ _ HI.out).cells4
   have HME := hide (rmerge_any (p0 := ⟨rk, sf, st, acc⟩) ((HL.out.below HI.out.bel).mono HI.out.bel.size) hn (HFU.out hk3).2 (HFU.out hk3).1 a)
   have HV : Hid ((⟨rk, sf, st, acc⟩ : Pn).val = .agg #[.int .i64 rk, .int .i64 sf, .int .i64 st, .int .i64 acc]) := (show _ = _ from rfl)
   rw [HV.out] at HME
   have HSE : Hid (sess k = true) := (show _ = _ by unfold sess; simp [hk3])
   have hkb : (k == 3) = true := by simpa using hk3
   clear HV hk3
   go_wp2_with (first | (go_at_call 42; refine HME.out.mono ?_; rintro e w5 ⟨u5, M5, rfl, o5, b5, r5, d5, p5⟩; have O5 := hide o5; have B5 := hide b5; have R5 := hide r5; have D5 := hide d5; have P5 := hide p5; clear o5 b5 r5 d5 p5) | fail)
   go_ret
   refine ⟨_, M5, rfl, O5.out.seg Pn.cs_len (by have h1 := D5.out.len; simp at h1; omega), HI.out.bel.trans (B5.out.mono HI.out.bel.size), R5.out, (fun b e => Nat.le_trans HI.out.bel.size (O5.out.at b e)), ?_⟩
   have hap := HAP.out
   rw [HSE.out] at hap ⊢
   exact ⟨D5.out, P5.out hap⟩
  ·have hkb : (k == 3) = false := by simpa using hk3
   have HSE : Hid (sess k = false) := (show _ = _ by unfold sess; simp [hk3])
   clear hk3
   go_wp2_with fail
   go_loopg [12, 13] (l.length + 1) (fun gh ov iv wr => ∃ (i : Nat) (out : List Pn) (ac : Int), iv = .int .i64 (i : Int) ∧ i ≤ l.length ∧ l.length + 1 ≤ gh + i ∧ Hid (I0 w wr k size slide rk sf st ac) ∧ Hid (OwnL 79 4 Pn.cs (w.heap.size + 4) wr ov out) ∧ Hid (IP a rk sf st ⟨rk, sf, st, acc⟩ l out ac i))
   case atStart => exact ⟨0, [], acc, rfl, by omega, by omega, HI, OwnL.nil _ _ _ _ _, (show IP _ _ _ _ _ _ _ _ _ from IP.start a rk sf st acc l)⟩
   case round =>
    clear HI w0 w1 w2
    obtain ⟨i, out, ac, rfl, hi, hg, GI, GO, GP⟩ := hrel
    obtain ⟨go, rfl⟩ : ∃ go, gk = go + 1 := ⟨gk - 1, by omega⟩
    obtain ⟨oa, oc, rfl⟩ := GO.out.shape
    have HOL : Hid (out.length ≤ 50000) := (show _ ≤ _ by have h1 := GP.out.sub.length_le; rw [List.length_append] at h1; omega)
    have HZW : Hid (w.heap.size + 4 ≤ wr.heap.size) := (show _ ≤ _ from GI.out.p.lt)
    by_cases hlt : i < l.length
    ·obtain ⟨x, hx⟩ := get_of_lt hlt
     have bt : (i : Int) < (l.length : Int) := by omega
     obtain ⟨nb, no, rfl, nlt, e0, e1, e2, e3⟩ := (HL.out.below GI.out.bel).pane hx
     have HX := hide hx
     have HNB := hide nlt
     have HE := hide (And.intro e0 (And.intro e1 (And.intro e2 e3)))
     obtain ⟨xk, xf, xt, xa⟩ := x
     simp only at HE e0 e1 e2 e3
     have KC : Hid (∀ w' : World, Below wr.heap.size wr w' → w'.cell? ⟨nb, no + i * 4, none⟩ = some (.int .i64 xk) ∧ w'.cell? ⟨nb, no + i * 4 + 1, none⟩ = some (.int .i64 xf) ∧ w'.cell? ⟨nb, no + i * 4 + 2, none⟩ = some (.int .i64 xt) ∧ w'.cell? ⟨nb, no + i * 4 + 3, none⟩ = some (.int .i64 xa) ∧ w'.cell? ⟨PB, 0, none⟩ = some (.int .i64 rk) ∧ w'.cell? ⟨PB, 3, none⟩ = some (.int .i64 ac) ∧ w'.cell? ⟨w.heap.size + 1 + 1, 0, none⟩ = some (.int .i64 sf) ∧ w'.cell? ⟨w.heap.size + 1 + 1, 1, none⟩ = some (.int .i64 st)) := (show ∀ w' : World, _ from fun w' h => by
      have h2 := BoxT.below (t := 79) (HP0.out _ _ GI.out) h
      have h3 := BoxT.below (t := 72) GI.out.sp h
      have hlt2 : nb < wr.heap.size := by have := HNB.out; have := HZW.out; omega
      exact ⟨(h.cell (p := ⟨nb, no + i * 4, none⟩) hlt2).trans HE.out.1, (h.cell (p := ⟨nb, no + i * 4 + 1, none⟩) hlt2).trans HE.out.2.1, (h.cell (p := ⟨nb, no + i * 4 + 2, none⟩) hlt2).trans HE.out.2.2.1, (h.cell (p := ⟨nb, no + i * 4 + 3, none⟩) hlt2).trans HE.out.2.2.2, by rw [h2.cellAt]; rfl, by rw [h2.cellAt]; rfl, by rw [show w.heap.size + 1 + 1 = w.heap.size + 2 from rfl, h3.cellAt]; rfl, by rw [show w.heap.size + 1 + 1 = w.heap.size + 2 from rfl, h3.cellAt]; rfl⟩)
     clear hx nlt e0 e1 e2 e3
     by_cases hk : xk = rk
     ·by_cases hs : xf = sf ∧ xt = st
      ·as_aux_lemma =>
       obtain ⟨rfl, rfl⟩ := hs
       subst hk
       have HIP := hide (GP.out.met HX.out)
       have HMG := hide (fun W => RMerge_any W a ac xa)
       obtain ⟨ja, hja⟩ : ∃ ja, jn a ac xa = ja := ⟨_, rfl⟩
       rw [hja] at HIP HMG
       clear hja
       go_wp2_with fail
       refine wp_region_M (S := fun w' => w'.cell? ⟨nb, no + i * 4, none⟩ = some (.int .i64 xk) ∧ w'.cell? ⟨nb, no + i * 4 + 1, none⟩ = some (.int .i64 xf) ∧ w'.cell? ⟨nb, no + i * 4 + 2, none⟩ = some (.int .i64 xt) ∧ w'.cell? ⟨nb, no + i * 4 + 3, none⟩ = some (.int .i64 xa) ∧ w'.cell? ⟨PB, 0, none⟩ = some (.int .i64 xk) ∧ w'.cell? ⟨PB, 3, none⟩ = some (.int .i64 ac) ∧ w'.cell? ⟨w.heap.size + 1 + 1, 0, none⟩ = some (.int .i64 xf) ∧ w'.cell? ⟨w.heap.size + 1 + 1, 1, none⟩ = some (.int .i64 xt)) (late := []) (by kernel_rfl) (KC.out _ ((Below.refl _ _).drew)) (fun hH => ?_)
       (try simp only [nr, Nat.reduceAdd])
       refine tkA 0 hH ?_; simp only [nm]; refine tkA 1 hH ?_; simp only [nm]; refine tkA 2 hH ?_; simp only [nm]; refine tkA 3 hH ?_; simp only [nm]; refine tkA 4 hH ?_; simp only [nm]; refine tkA 5 hH ?_; simp only [nm]; refine tkA 6 hH ?_; simp only [nm]; refine tkA 7 hH ?_; simp only [nm]; refine tkA 8 hH ?_; simp only [nm]; refine tkA 9 hH ?_; simp only [nm]; refine tkA 10 hH ?_; simp only [nm]; refine tkA 11 hH ?_; simp only [nm]; refine tkA 12 hH ?_; simp only [nm]; refine tkA 13 hH ?_; simp only [nm]; refine tkA 14 hH ?_; simp only [nm]; refine tkA 15 hH ?_; simp only [nm]; refine tkA 16 hH ?_; simp only [nm]
       refine wpAnyM_done (by kernel_rfl) ?_ _
       go_wp2_with fail
       generalize hw4 : wr.drew = w4 at *
       have B4 : Hid (Below wr.heap.size wr w4) := (show Below _ _ _ by rw [← hw4]; exact (Below.refl _ _).drew)
       have I4 := hide (GI.out.below B4.out)
       have O4 := hide (GO.out.below B4.out)
       have KC4 : Hid (∀ w' : World, Below w4.heap.size w4 w' → w'.cell? ⟨nb, no + i * 4, none⟩ = some (.int .i64 xk) ∧ w'.cell? ⟨nb, no + i * 4 + 1, none⟩ = some (.int .i64 xf) ∧ w'.cell? ⟨nb, no + i * 4 + 2, none⟩ = some (.int .i64 xt) ∧ w'.cell? ⟨nb, no + i * 4 + 3, none⟩ = some (.int .i64 xa) ∧ w'.cell? ⟨PB, 0, none⟩ = some (.int .i64 xk) ∧ w'.cell? ⟨PB, 3, none⟩ = some (.int .i64 ac) ∧ w'.cell? ⟨w.heap.size + 1 + 1, 0, none⟩ = some (.int .i64 xf) ∧ w'.cell? ⟨w.heap.size + 1 + 1, 1, none⟩ = some (.int .i64 xt)) := (show ∀ w' : World, _ from fun w' h => KC.out _ (B4.out.trans (h.mono B4.out.size)))
       have bf := fun j => (HP0.out _ _ I4.out).free j
       obtain ⟨a0, a1, a2, a3, a4, a5, a6, a7⟩ := KC4.out _ (Below.refl _ _)
       clear hw4 hH KC
       refine wp_region_M (S := fun w' => w'.cell? ⟨nb, no + i * 4, none⟩ = some (.int .i64 xk) ∧ w'.cell? ⟨nb, no + i * 4 + 1, none⟩ = some (.int .i64 xf) ∧ w'.cell? ⟨nb, no + i * 4 + 2, none⟩ = some (.int .i64 xt) ∧ w'.cell? ⟨nb, no + i * 4 + 3, none⟩ = some (.int .i64 xa) ∧ w'.cell? ⟨PB, 0, none⟩ = some (.int .i64 xk) ∧ w'.cell? ⟨PB, 3, none⟩ = some (.int .i64 ac) ∧ w'.cell? ⟨w.heap.size + 1 + 1, 0, none⟩ = some (.int .i64 xf) ∧ w'.cell? ⟨w.heap.size + 1 + 1, 1, none⟩ = some (.int .i64 xt)) (late := [10]) (by kernel_rfl) (KC4.out _ ((Below.refl _ _).drew)) (fun hH => ?_)
       (try simp only [nr, Nat.reduceAdd])
       refine tkA 0 hH ?_; simp only [nm]; refine tkA 1 hH ?_; simp only [nm]; refine tkA 2 hH ?_; simp only [nm]; refine tkA 3 hH ?_; simp only [nm]; refine tkA 4 hH ?_; simp only [nm]; refine tkA 5 hH ?_; simp only [nm]; refine tkA 6 hH ?_; simp only [nm]; refine tkA 7 hH ?_; simp only [nm]
       refine tkO 8 fun K hK => ?_
       go_simp
       go_at_call 43
       refine (HMG.out _).mono ?_
       rintro e w5 ⟨rfl, e5⟩
       subst e5
       refine hK.out _ _ hH (fun hH => ?_)
       clear hK K
       (try simp only [nm])
       refine tkO 9 fun K hK => ?_
       go_simp
       refine hK.out _ _ hH (fun hH => ?_)
       clear hK K
       (try simp only [nm])
       refine wpAnyM_last (i := 10) (o := ⟨_, _, _, _, _, _⟩) (by kernel_rfl) (by kernel_rfl) rfl (fun K hK => ?_)
       go_simp
       refine hK.out _ _ ?_
       clear hK K
       refine wpAnyM_done (by kernel_rfl) ?_ _
       go_wp2_with fail
       go_roundg go
       case rel => exact ⟨i + 1, out, ja, by go_num, by omega, by omega, (show I0 _ _ _ _ _ _ _ _ _ from I4.out.acc HZ1.out ja), (show OwnL _ _ _ _ _ _ _ from O4.out.accOff HZ1.out _), HIP⟩
       case measure => omega
      ·as_aux_lemma =>
       subst hk
       have HIP := hide (GP.out.past HX.out (fun h => hs ⟨h.2.1, h.2.2⟩))
       by_cases hf : xf = sf
       ·as_aux_lemma =>
        have hft : ¬ xt = st := fun e => hs ⟨hf, e⟩
        have hfb : (xt == st) = false := by simpa using hft
        have hfd : decide (xt = st) = false := decide_eq_false hft
        subst hf
        clear hs hft
        go_wp2_with fail
        refine wp_region_M (S := fun w' => w'.cell? ⟨nb, no + i * 4, none⟩ = some (.int .i64 xk) ∧ w'.cell? ⟨nb, no + i * 4 + 1, none⟩ = some (.int .i64 xf) ∧ w'.cell? ⟨nb, no + i * 4 + 2, none⟩ = some (.int .i64 xt) ∧ w'.cell? ⟨nb, no + i * 4 + 3, none⟩ = some (.int .i64 xa) ∧ w'.cell? ⟨PB, 0, none⟩ = some (.int .i64 xk) ∧ w'.cell? ⟨PB, 3, none⟩ = some (.int .i64 ac) ∧ w'.cell? ⟨w.heap.size + 1 + 1, 0, none⟩ = some (.int .i64 xf) ∧ w'.cell? ⟨w.heap.size + 1 + 1, 1, none⟩ = some (.int .i64 st)) (late := []) (by kernel_rfl) (KC.out _ ((Below.refl _ _).drew)) (fun hH => ?_)
        (try simp only [nr, Nat.reduceAdd])
        refine tkA 0 hH ?_; simp only [nm]; refine tkA 1 hH ?_; simp only [nm]; refine tkA 2 hH ?_; simp only [nm]; refine tkA 3 hH ?_; simp only [nm]; refine tkA 4 hH ?_; simp only [nm]; refine tkA 5 hH ?_; simp only [nm]; refine tkA 6 hH ?_; simp only [nm]; refine tkA 7 hH ?_; simp only [nm]; refine tkA 8 hH ?_; simp only [nm]; refine tkA 9 hH ?_; simp only [nm]; refine tkA 10 hH ?_; simp only [nm]; refine tkA 11 hH ?_; simp only [nm]; refine tkA 12 hH ?_; simp only [nm]; refine tkA 13 hH ?_; simp only [nm]; refine tkA 14 hH ?_; simp only [nm]; refine tkA 15 hH ?_; simp only [nm]; refine tkA 16 hH ?_; simp only [nm]
        refine wpAnyM_done (by kernel_rfl) ?_ _
        generalize hw4 : wr.drew = w4 at *
        have B4 : Hid (Below wr.heap.size wr w4) := (show Below _ _ _ by rw [← hw4]; exact (Below.refl _ _).drew)
        obtain ⟨a0, a1, a2, a3, a4, a5, a6, a7⟩ := KC.out _ B4.out
        have HB9 := hide (below_box w4 (.cells #[.int .i64 xk, .int .i64 xf, .int .i64 xt, .int .i64 xa] 79))
        have HX9 := hide (seg_one (x := ⟨xk, xf, xt, xa⟩) (BoxT.new 79 w4 #[.int .i64 xk, .int .i64 xf, .int .i64 xt, .int .i64 xa]))
        have HI9 := hide ((GI.out.below B4.out).below HB9.out)
        have HO9 := hide ((GO.out.below B4.out).below HB9.out)
        have HZ9 : Hid (w.heap.size + 4 ≤ (w4.alloc (.cells #[.int .i64 xk, .int .i64 xf, .int .i64 xt, .int .i64 xa] 79)).heap.size) := (show _ ≤ _ from HI9.out.p.lt)
        clear hw4 hH KC
        go_wp2_with (first | (at_builtin; refine app_segL Tryz.infoPn Tryz.underlying47 rfl (by decide) (by decide) Pn.cs_len Pn.cs_one rfl _ _ rfl (w.heap.size + 4) (.slice oa out.length oc) out rfl HO9.out _ _ [⟨xk, xf, xt, xa⟩] rfl HX9.out (by have := HOL.out; simp; omega) HZ9.out ?_; intro v9 w9 h9 g9 k9; have HI10 := hide (HI9.out.grown g9 (fun g e => HO9.out.at g e)); have HO10 := hide h9; obtain ⟨va9, vc9, rfl⟩ := h9.shape; clear h9 g9 k9) | fail)
        go_roundg go
        case rel => exact ⟨i + 1, out ++ [⟨xk, xf, xt, xa⟩], ac, by go_num, by omega, by omega, HI10, (show OwnL _ _ _ _ _ _ _ by have h := HO10.out; simp only [List.length_append, List.length_cons, List.length_nil, Nat.zero_add] at h; exact h), HIP⟩
        case measure => omega
       ·as_aux_lemma =>
        have hfb : (xf == sf) = false := by simpa using hf
        have hfd : decide (xf = sf) = false := decide_eq_false hf
        clear hs hf
        go_wp2_with fail
        refine wp_region_M (S := fun w' => w'.cell? ⟨nb, no + i * 4, none⟩ = some (.int .i64 xk) ∧ w'.cell? ⟨nb, no + i * 4 + 1, none⟩ = some (.int .i64 xf) ∧ w'.cell? ⟨nb, no + i * 4 + 2, none⟩ = some (.int .i64 xt) ∧ w'.cell? ⟨nb, no + i * 4 + 3, none⟩ = some (.int .i64 xa) ∧ w'.cell? ⟨PB, 0, none⟩ = some (.int .i64 xk) ∧ w'.cell? ⟨PB, 3, none⟩ = some (.int .i64 ac) ∧ w'.cell? ⟨w.heap.size + 1 + 1, 0, none⟩ = some (.int .i64 sf) ∧ w'.cell? ⟨w.heap.size + 1 + 1, 1, none⟩ = some (.int .i64 st)) (late := []) (by kernel_rfl) (KC.out _ ((Below.refl _ _).drew)) (fun hH => ?_)
        (try simp only [nr, Nat.reduceAdd])
        refine tkA 0 hH ?_; simp only [nm]; refine tkA 1 hH ?_; simp only [nm]; refine tkA 2 hH ?_; simp only [nm]; refine tkA 3 hH ?_; simp only [nm]; refine tkA 4 hH ?_; simp only [nm]; refine tkA 5 hH ?_; simp only [nm]; refine tkA 6 hH ?_; simp only [nm]; refine tkA 7 hH ?_; simp only [nm]; refine tkA 8 hH ?_; simp only [nm]; refine tkA 9 hH ?_; simp only [nm]; refine tkA 10 hH ?_; simp only [nm]; refine tkA 11 hH ?_; simp only [nm]; refine tkA 12 hH ?_; simp only [nm]; refine tkA 13 hH ?_; simp only [nm]; refine tkA 14 hH ?_; simp only [nm]; refine tkA 15 hH ?_; simp only [nm]; refine tkA 16 hH ?_; simp only [nm]
        refine wpAnyM_done (by kernel_rfl) ?_ _
        generalize hw4 : wr.drew = w4 at *
        have B4 : Hid (Below wr.heap.size wr w4) := (show Below _ _ _ by rw [← hw4]; exact (Below.refl _ _).drew)
        obtain ⟨a0, a1, a2, a3, a4, a5, a6, a7⟩ := KC.out _ B4.out
        have HB9 := hide (below_box w4 (.cells #[.int .i64 xk, .int .i64 xf, .int .i64 xt, .int .i64 xa] 79))
        have HX9 := hide (seg_one (x := ⟨xk, xf, xt, xa⟩) (BoxT.new 79 w4 #[.int .i64 xk, .int .i64 xf, .int .i64 xt, .int .i64 xa]))
        have HI9 := hide ((GI.out.below B4.out).below HB9.out)
        have HO9 := hide ((GO.out.below B4.out).below HB9.out)
        have HZ9 : Hid (w.heap.size + 4 ≤ (w4.alloc (.cells #[.int .i64 xk, .int .i64 xf, .int .i64 xt, .int .i64 xa] 79)).heap.size) := (show _ ≤ _ from HI9.out.p.lt)
        clear hw4 hH KC
        go_wp2_with (first | (at_builtin; refine app_segL Tryz.infoPn Tryz.underlying47 rfl (by decide) (by decide) Pn.cs_len Pn.cs_one rfl _ _ rfl (w.heap.size + 4) (.slice oa out.length oc) out rfl HO9.out _ _ [⟨xk, xf, xt, xa⟩] rfl HX9.out (by have := HOL.out; simp; omega) HZ9.out ?_; intro v9 w9 h9 g9 k9; have HI10 := hide (HI9.out.grown g9 (fun g e => HO9.out.at g e)); have HO10 := hide h9; obtain ⟨va9, vc9, rfl⟩ := h9.shape; clear h9 g9 k9) | fail)
        go_roundg go
        case rel => exact ⟨i + 1, out ++ [⟨xk, xf, xt, xa⟩], ac, by go_num, by omega, by omega, HI10, (show OwnL _ _ _ _ _ _ _ by have h := HO10.out; simp only [List.length_append, List.length_cons, List.length_nil, Nat.zero_add] at h; exact h), HIP⟩
        case measure => omega
     ·as_aux_lemma =>
      have HIP := hide (GP.out.past HX.out (fun h => hk h.1))
      have hkb2 : (xk == rk) = false := by simpa using hk
      have hkd : decide (xk = rk) = false := decide_eq_false hk
      clear hk
      go_wp2_with fail
      refine wp_region_M (S := fun w' => w'.cell? ⟨nb, no + i * 4, none⟩ = some (.int .i64 xk) ∧ w'.cell? ⟨nb, no + i * 4 + 1, none⟩ = some (.int .i64 xf) ∧ w'.cell? ⟨nb, no + i * 4 + 2, none⟩ = some (.int .i64 xt) ∧ w'.cell? ⟨nb, no + i * 4 + 3, none⟩ = some (.int .i64 xa) ∧ w'.cell? ⟨PB, 0, none⟩ = some (.int .i64 rk) ∧ w'.cell? ⟨PB, 3, none⟩ = some (.int .i64 ac) ∧ w'.cell? ⟨w.heap.size + 1 + 1, 0, none⟩ = some (.int .i64 sf) ∧ w'.cell? ⟨w.heap.size + 1 + 1, 1, none⟩ = some (.int .i64 st)) (late := []) (by kernel_rfl) (KC.out _ ((Below.refl _ _).drew)) (fun hH => ?_)
      (try simp only [nr, Nat.reduceAdd])
      refine tkA 0 hH ?_; simp only [nm]; refine tkA 1 hH ?_; simp only [nm]; refine tkA 2 hH ?_; simp only [nm]; refine tkA 3 hH ?_; simp only [nm]; refine tkA 4 hH ?_; simp only [nm]; refine tkA 5 hH ?_; simp only [nm]; refine tkA 6 hH ?_; simp only [nm]; refine tkA 7 hH ?_; simp only [nm]; refine tkA 8 hH ?_; simp only [nm]; refine tkU 9 hH ?_; simp only [nm]; refine tkU 10 hH ?_; simp only [nm]; refine tkU 11 hH ?_; simp only [nm]; refine tkU 12 hH ?_; simp only [nm]; refine tkU 13 hH ?_; simp only [nm]; refine tkU 14 hH ?_; simp only [nm]; refine tkU 15 hH ?_; simp only [nm]; refine tkA 16 hH ?_; simp only [nm]
      refine wpAnyM_done (by kernel_rfl) ?_ _
      generalize hw4 : wr.drew = w4 at *
      have B4 : Hid (Below wr.heap.size wr w4) := (show Below _ _ _ by rw [← hw4]; exact (Below.refl _ _).drew)
      obtain ⟨a0, a1, a2, a3, a4, a5, a6, a7⟩ := KC.out _ B4.out
      have HB9 := hide (below_box w4 (.cells #[.int .i64 xk, .int .i64 xf, .int .i64 xt, .int .i64 xa] 79))
      have HX9 := hide (seg_one (x := ⟨xk, xf, xt, xa⟩) (BoxT.new 79 w4 #[.int .i64 xk, .int .i64 xf, .int .i64 xt, .int .i64 xa]))
      have HI9 := hide ((GI.out.below B4.out).below HB9.out)
      have HO9 := hide ((GO.out.below B4.out).below HB9.out)
      have HZ9 : Hid (w.heap.size + 4 ≤ (w4.alloc (.cells #[.int .i64 xk, .int .i64 xf, .int .i64 xt, .int .i64 xa] 79)).heap.size) := (show _ ≤ _ from HI9.out.p.lt)
      clear hw4 hH KC
      go_wp2_with (first | (at_builtin; refine app_segL Tryz.infoPn Tryz.underlying47 rfl (by decide) (by decide) Pn.cs_len Pn.cs_one rfl _ _ rfl (w.heap.size + 4) (.slice oa out.length oc) out rfl HO9.out _ _ [⟨xk, xf, xt, xa⟩] rfl HX9.out (by have := HOL.out; simp; omega) HZ9.out ?_; intro v9 w9 h9 g9 k9; have HI10 := hide (HI9.out.grown g9 (fun g e => HO9.out.at g e)); have HO10 := hide h9; obtain ⟨va9, vc9, rfl⟩ := h9.shape; clear h9 g9 k9) | fail)
      go_roundg go
      case rel => exact ⟨i + 1, out ++ [⟨xk, xf, xt, xa⟩], ac, by go_num, by omega, by omega, HI10, (show OwnL _ _ _ _ _ _ _ by have h := HO10.out; simp only [List.length_append, List.length_cons, List.length_nil, Nat.zero_add] at h; exact h), HIP⟩
      case measure => omega
    ·as_aux_lemma =>
     obtain rfl : i = l.length := by omega
     have bt : ¬ ((l.length : Nat) : Int) < (l.length : Int) := by omega
     obtain ⟨c0, c1, c2, c3⟩ := (HP0.out _ _ GI.out).cells4
     have HB9 := hide (below_box wr (.cells #[.int .i64 rk, .int .i64 sf, .int .i64 st, .int .i64 ac] 79))
     have HX9 := hide (seg_one (x := ⟨rk, sf, st, ac⟩) (BoxT.new 79 wr #[.int .i64 rk, .int .i64 sf, .int .i64 st, .int .i64 ac]))
     have HI9 := hide (GI.out.below HB9.out)
     have HO9 := hide (GO.out.below HB9.out)
     have HZ9 : Hid (w.heap.size + 4 ≤ (wr.alloc (.cells #[.int .i64 rk, .int .i64 sf, .int .i64 st, .int .i64 ac] 79)).heap.size) := (show _ ≤ _ from HI9.out.p.lt)
     have HCM : Hid (Comes (sess k) (jn a) (⟨rk, sf, st, acc⟩ :: l) (srt (out ++ [⟨rk, sf, st, ac⟩]))) := (show Comes _ _ _ _ by
      have h1 := HAP.out
      rw [HSE.out] at h1 ⊢
      exact GP.out.ends h1)
     have HLL : Hid ((out ++ [(⟨rk, sf, st, ac⟩ : Pn)]).length ≤ 60000) := (show _ ≤ _ by rw [List.length_append, List.length_singleton]; have := HOL.out; omega)
     have HLS : Hid ((srt (out ++ [(⟨rk, sf, st, ac⟩ : Pn)])).length ≤ 60000) := (show _ ≤ _ by rw [srt_len]; exact HLL.out)
     clear GP
     go_wp2_with (first
      | (at_builtin; refine app_segL Tryz.infoPn Tryz.underlying47 rfl (by decide) (by decide) Pn.cs_len Pn.cs_one rfl _ _ rfl (w.heap.size + 4) (.slice oa out.length oc) out rfl HO9.out _ _ [⟨rk, sf, st, ac⟩] rfl HX9.out (by have := HOL.out; simp; omega) HZ9.out ?_; intro v9 w9 h9 g9 k9; have HI10 := hide (HI9.out.grown g9 (fun g e => HO9.out.at g e)); have HSO := hide (rSort_any (h9.seg Pn.cs_len (by have := HLL.out; omega)) (by have := HLL.out; omega)); clear h9 g9 k9)
      | (go_at_call 22; refine HSO.out.mono ?_; rintro e w10 ⟨u10, rfl, o10, b10⟩; have O10 := hide o10; have B10 := hide b10; clear o10 b10)
      | fail)
     go_ret
     exact ⟨_, _, rfl, O10.out.seg Pn.cs_len (by have := HLS.out; omega), HI10.out.bel.trans (B10.out.mono HI10.out.bel.size), srt_rising _, (fun b e => Nat.le_trans HI10.out.bel.size (O10.out.at b e)), HCM.out⟩
end Go.Proofs.YtpcbhcdpegbfjaaGreat
/-
 The document's Spans, walked.
-/
namespace Go.Proofs.YtpcbhcdpegbfjaaGreat
set_option maxHeartbeats 16000000
set_option maxRecDepth 100000
open Go.RowKit
theorem rfloor_any (w : World) {t n : Int} (ht : TimeOk t) (h1 : 1 ≤ n) (h2 : n ≤ 68719476736) : Calls Tryz.prog 44 #[.int .i64 t, .int .i64 n] w fun e w' => e = .returned (.int .i64 (t - sinceOf n t)) ∧ w' = w := by
 obtain ⟨t1, t2⟩ := ht
 have hz : n ≠ 0 := by omega
 obtain ⟨k1, k2⟩ := since_in (t := t) h1
 have HS : Hid (sinceOf n t = (if t.tmod n < 0 then t.tmod n + n else t.tmod n)) := (show _ = _ from rfl)
 generalize sinceOf n t = s at *
 have f3 : wrap64 (t - s) = t - s := by unfold wrap64; omega
 by_cases hm : t.tmod n < 0
 ·have hsm : t.tmod n + n = s := by rw [HS.out, if_pos hm]
  have f1 : wrap64 (t.tmod n + n) = s := by rw [hsm]; unfold wrap64; omega
  obtain ⟨tm, f0⟩ : ∃ tm, t.tmod n = tm := ⟨_, rfl⟩
  rw [f0] at f1 hm hsm
  clear HS hsm
  go_enter Tryz.func44, Tryz.ntmps44
  go_wp2_with fail
  go_ret
  exact ⟨ret_int (by first | exact f3 | rfl), rfl⟩
 ·have f1 : t.tmod n = s := by rw [HS.out, if_neg hm]
  rw [f1] at hm
  clear HS
  go_enter Tryz.func44, Tryz.ntmps44
  go_wp2_with fail
  go_ret
  exact ⟨ret_int (by first | exact f3 | rfl), rfl⟩
theorem newSp2 (W : World) {n : Nat} (hn : n = W.heap.size) (x : Sp) (j : Nat) (u : Value) (hu : (Sp.cs x)[j]? = some u) : (W.alloc (.cells #[.int .i64 x.f, .int .i64 x.t] 72)).cell? ((⟨n, 0, none⟩ : Addr).add j) = some u := by
 have hb : BoxT 72 _ n _ := BoxT.new_at (t := 72) (w := W) (cs := #[.int .i64 x.f, .int .i64 x.t]) hn
 rw [add_plain2, hb.cellAt, Nat.zero_add]
 have hl := lt_of_get hu
 rw [Sp.cs_len] at hl
 match j, hu with
 | 0, hu | 1, hu => simp [Sp.cs] at hu; subst hu; rfl
theorem drop_rev_snoc {α : Type} {l : List α} {q : Nat} {y : α} (h : l[q]? = some y) : (l.drop (q + 1)).reverse ++ [y] = (l.drop q).reverse := by
 rw [drop_at h, List.reverse_cons]
theorem rSpans_any (w : World) {k size slide t : Int} (hw : FitW k size slide) (ht : TimeOk t) : Calls Tryz.prog 31 #[.agg #[.int .i64 k, .int .i64 size, .int .i64 slide], .int .i64 t] w fun e w' => ∃ u, e = .returned u ∧ OwnL 72 2 Sp.cs w.heap.size w' u (pSpans k size slide t) ∧ Below w.heap.size w w' := by
 have hs := fit_size hw
 have hb := below_box w (.cells #[.int .i64 k, .int .i64 size, .int .i64 slide] 27)
 have HB := hide hb
 obtain ⟨hk1, hk3, _, _, hrest⟩ := id hw
 by_cases k1 : k = 1
 ·subst k1
  rw [spans_one hw ht]
  have HFL := hide (fun W => rfloor_any W ht hs.1 hs.2)
  obtain ⟨s1, s2⟩ := since_in (t := t) hs.1
  obtain ⟨h1, h2⟩ := hs
  unfold TimeOk at ht
  obtain ⟨t1, t2⟩ := ht
  generalize sinceOf size t = since at *
  obtain ⟨s, hsd⟩ : ∃ s, t - since = s := ⟨_, rfl⟩
  rw [hsd] at HFL ⊢
  have f1 : wrap64 (s + size) = s + size := by unfold wrap64; omega
  have HB2 : Hid (Below w.heap.size w ((w.alloc (.cells #[.int .i64 1, .int .i64 size, .int .i64 slide] 27)).alloc (.cells (Sp.cs ⟨s, s + size⟩).toArray 72))) := below_box2 w _ _
  clear hsd hw hrest hb
  go_enter Tryz.func31, Tryz.ntmps31
  go_wp2_with (go_at_call 44; refine (HFL.out _).mono ?_; rintro e w1 ⟨rfl, rfl⟩)
  go_ret
  exact ⟨_, rfl, own_one (t := 72) (cs := Sp.cs) ⟨s, s + size⟩ rfl (by simp) (by omega), HB2.out⟩
 by_cases k3 : k = 3
 ·subst k3
  rw [spans_three hw ht]
  obtain ⟨h1, h2⟩ := hs
  unfold TimeOk at ht
  obtain ⟨t1, t2⟩ := ht
  have f1 : wrap64 (t + size) = t + size := by unfold wrap64; omega
  have HB2 : Hid (Below w.heap.size w ((w.alloc (.cells #[.int .i64 3, .int .i64 size, .int .i64 slide] 27)).alloc (.cells (Sp.cs ⟨t, t + size⟩).toArray 72))) := below_box2 w _ _
  clear hw hrest hb
  go_enter Tryz.func31, Tryz.ntmps31
  go_wp2_with fail
  go_ret
  exact ⟨_, rfl, own_one (t := 72) (cs := Sp.cs) ⟨t, t + size⟩ rfl (by simp) (by omega), HB2.out⟩
 obtain rfl : k = 2 := by omega
 rw [spans_two hw ht]
 have hcl := cnt_le (t := t) hw
 rcases hrest with ⟨_, l1, l2, _⟩ | ⟨l1, _⟩
 case inr => exact absurd rfl l1
 have HFL := hide (fun W => rfloor_any W ht l1 l2)
 obtain ⟨s1, s2⟩ := since_in (t := t) l1
 have HCI := hide (fun j => cnt_iff (size := size) (since := sinceOf slide t) l1 j)
 generalize cntOf size slide (sinceOf slide t) = c at *
 generalize hsn : sinceOf slide t = since at *
 clear hsn
 obtain ⟨h1, h2⟩ := hs
 unfold TimeOk at ht
 obtain ⟨t1, t2⟩ := ht
 obtain ⟨s0, hsd⟩ : ∃ s0, t - since = s0 := ⟨_, rfl⟩
 rw [hsd] at HFL ⊢
 have HSD := hide hsd
 have HBX := hide (BoxT.new 27 w #[.int .i64 2, .int .i64 size, .int .i64 slide])
 clear hsd hw hb
 go_enter Tryz.func31, Tryz.ntmps31
 go_wp2_with (go_at_call 44; refine (HFL.out _).mono ?_; rintro e w1 ⟨rfl, rfl⟩)
 clear HFL
 have HST : Hid (s0 - ((0 : Nat) : Int) * slide = s0) := (show _ = _ by rw [Int.natCast_zero, Int.zero_mul, Int.sub_zero])
 go_loopg [6, 7] (c + 1) (fun gh bv sv wr => ∃ j : Nat, sv = .int .i64 (s0 - (j : Int) * slide) ∧ j ≤ c ∧ c + 1 ≤ gh + j ∧ Hid (OwnL 72 2 Sp.cs w.heap.size wr bv (bkS size slide s0 j)) ∧ Hid (Below w.heap.size w wr) ∧ Hid (BoxT 27 wr w.heap.size #[.int .i64 2, .int .i64 size, .int .i64 slide]))
 case atStart => exact ⟨0, by rw [HST.out], by omega, by omega, OwnL.nil _ _ _ _ _, HB, HBX⟩
 case round =>
  obtain ⟨j, rfl, hj, hg, GO, GB, GX⟩ := hrel
  obtain ⟨go, rfl⟩ : ∃ go, gk = go + 1 := ⟨gk - 1, by omega⟩
  obtain ⟨y0, y1, y2⟩ := GX.out.cells3
  have hjc := HCI.out j
  have hz0 : 0 ≤ (j : Int) * slide := Int.mul_nonneg (by omega) (by omega)
  have hz1 : (j : Int) * slide < size - since + slide := by
   by_cases h0 : j = 0
   ·subst h0; have := HSD.out; rw [Int.natCast_zero, Int.zero_mul]; by_cases hc0 : 0 < c
    ·have := (HCI.out 0).1 hc0; rw [Int.natCast_zero, Int.zero_mul] at this; omega
    ·omega
   ·have h9 := (HCI.out (j - 1)).1 (by omega)
    have e : ((j - 1 : Nat) : Int) * slide = (j : Int) * slide - slide := by
     have : ((j - 1 : Nat) : Int) = (j : Int) - 1 := by omega
     rw [this, Int.sub_mul, Int.one_mul]
    omega
  have HN : Hid (s0 - ((j + 1 : Nat) : Int) * slide = s0 - (j : Int) * slide - slide) := (show _ = _ by rw [Int.natCast_succ, Int.add_mul, Int.one_mul]; omega)
  have HSNO := hide (bkS_snoc size slide s0 j)
  have HLN := hide (bkS_len size slide s0 j)
  have hsd := HSD.out
  obtain ⟨ba, bc, hbv⟩ := GO.out.shape
  rw [HLN.out] at hbv
  subst hbv
  by_cases hjl : j < c
  ·have hlt := hjc.1 hjl
   generalize (j : Int) * slide = z at *
   obtain ⟨sj, hsj⟩ : ∃ sj, s0 - z = sj := ⟨_, rfl⟩
   rw [hsj] at HN HSNO ⊢
   have f1 : wrap64 (sj + size) = sj + size := by unfold wrap64; omega
   have f2 : wrap64 (sj - slide) = sj - slide := by unfold wrap64; omega
   have c1 : t < sj + size := by omega
   have c2 : (j : Int) < 200 := by omega
   have hbx := below_box wr (.cells #[.int .i64 sj, .int .i64 (sj + size)] 72)
   have HBX2 := hide hbx
   have HO2 := hide (GO.out.below hbx)
   have HB2 := hide (GB.out.trans (hbx.mono GB.out.size))
   have HSZ := hide HB2.out.size
   have HL2 : Hid ((bkS size slide s0 j).length ≤ 1000000) := (show _ ≤ _ by rw [HLN.out]; omega)
   have HX2 := hide (BoxT.below (t := 27) GX.out hbx)
   clear hbx hlt hjc hz0 hz1 hsd hsj
   generalize bkS size slide s0 j = bj at *
   go_wp2_with (at_builtin; refine app_L Tryz.infoSp Tryz.underlying74 rfl (by decide) (by decide) Sp.cs_len Sp.cs_one rfl _ _ rfl w.heap.size _ bj rfl HO2.out _ _ (⟨sj, sj + size⟩ : Sp) rfl (newSp2 wr rfl ⟨sj, sj + size⟩) HL2.out HSZ.out ?_; intro v5 w5 h5 g5 k5; have H5 := hide h5; have HB5 := hide (HB2.out.grown g5 HSZ.out (fun k e => GO.out.at k e)); have HX5 : Hid (BoxT 27 w5 w.heap.size #[.int .i64 2, .int .i64 size, .int .i64 slide]) := (by have h7 := HX2.out; have h8 := h7.lt; obtain ⟨cx, hcx⟩ : True ∧ True := ⟨trivial, trivial⟩; exact hide (by unfold BoxT at *; rw [g5.block _ h8 (fun e => by obtain ⟨cc, hcc⟩ := HO2.out.has _ e.symm; rw [h7] at hcc; simp at hcc)]; exact h7)); obtain ⟨x0, x1, x2⟩ := HX5.out.cells3; clear h5 g5 k5)
   go_roundg go
   case rel => exact ⟨j + 1, by rw [HN.out]; first | rfl | rw [f2], by omega, by omega, hide (by rw [HSNO.out]; exact H5.out), HB5, HX5⟩
   case measure => omega
  ·have hlt : ¬ ((j : Int) * slide < size - since) := fun h => hjl (hjc.2 h)
   have hjc2 : j = c := by omega
   generalize (j : Int) * slide = z at *
   obtain ⟨sj, hsj⟩ : ∃ sj, s0 - z = sj := ⟨_, rfl⟩
   rw [hsj]
   have f1 : wrap64 (sj + size) = sj + size := by unfold wrap64; omega
   have c1 : ¬ (t < sj + size) := by omega
   have HGL : Hid (OwnL 72 2 Sp.cs w.heap.size wr (.slice ba j bc) (bkS size slide s0 c)) := (by rw [← hjc2]; exact GO)
   have HLC := hide (bkS_len size slide s0 c)
   have HSEG := hide (HGL.out.seg Sp.cs_len (by rw [HLC.out]; omega))
   generalize hlb : bkS size slide s0 c = l at *
   have HLB := hide hlb
   clear hlb
   have hll : l.length = j := by rw [HLC.out]; exact hjc2.symm
   have HLL := hide hll
   have HD0 : Hid ((l.drop l.length).reverse = []) := (show _ = _ by simp)
   have hjb : j ≤ 64 := by omega
   clear hlt hjc hz0 hz1 hsd hsj hjc2 HN HSNO HLN GO hjl hj hg HLC hll
   obtain ⟨wo, rfl⟩ : ∃ wo, wo = wr := ⟨wr, rfl⟩
   go_wp2_with fail
   go_loopg [8, 9] (j + 1) (fun gh ov iv wr => ∃ q : Nat, iv = .int .i64 ((q : Int) - 1) ∧ q ≤ j ∧ q + 1 ≤ gh ∧ Hid (OwnL 72 2 Sp.cs wo.heap.size wr ov (l.drop q).reverse) ∧ Hid (Below wo.heap.size wo wr))
   case atStart => exact ⟨j, rfl, by omega, by omega, hide (by rw [← HLL.out, HD0.out]; exact OwnL.nil _ _ _ _ _), Below.refl _ _⟩
   case round =>
    obtain ⟨q, rfl, hq, hgq, GQ, GBQ⟩ := hrel
    obtain ⟨gi, rfl⟩ : ∃ gi, gk = gi + 1 := ⟨gk - 1, by omega⟩
    by_cases hq0 : q = 0
    ·subst hq0
     have bq : ¬ ((0 : Int) ≤ ((0 : Nat) : Int) - 1) := by omega
     have HFN := hide (GQ.out)
     rw [List.drop_zero] at HFN
     go_wp2_with fail
     go_ret
     exact ⟨_, rfl, by rw [HLB.out]; exact HFN.out.mono GB.out.size, GB.out.trans (GBQ.out.mono GB.out.size)⟩
    ·obtain ⟨p, rfl⟩ : ∃ p, q = p + 1 := ⟨q - 1, by omega⟩
     have eq1 : (((p + 1 : Nat)) : Int) - 1 = (p : Int) := by omega
     rw [eq1]
     obtain ⟨x, hx⟩ := get_of_lt (show p < l.length by rw [HLL.out]; omega)
     have bq : (0 : Int) ≤ (p : Int) := by omega
     have bq2 : (p : Int) < (j : Int) := by omega
     obtain ⟨xb, xo, rfl, _, e0, e1⟩ := (HSEG.out.below GBQ.out).span hx
     have HRS := hide (drop_rev_snoc hx)
     have hbx := below_box wr (.cells #[.int .i64 x.f, .int .i64 x.t] 72)
     have HO2 := hide (GQ.out.below hbx)
     have HB2 := hide (GBQ.out.trans (hbx.mono GBQ.out.size))
     have HSZ := hide HB2.out.size
     have HL2 : Hid ((l.drop (p + 1)).reverse.length ≤ 1000000) := (show _ ≤ _ by rw [List.length_reverse, List.length_drop, HLL.out]; omega)
     clear hx hbx eq1
     obtain ⟨xf, xt⟩ := x
     simp only at e0 e1 HO2 HB2 HSZ
     generalize (l.drop (p + 1)).reverse = lp at *
     obtain ⟨oa, oc, hov⟩ := HO2.out.shape
     subst hov
     go_wp2_with (at_builtin; refine app_L Tryz.infoSp Tryz.underlying74 rfl (by decide) (by decide) Sp.cs_len Sp.cs_one rfl _ _ rfl wo.heap.size _ lp rfl HO2.out _ _ (⟨xf, xt⟩ : Sp) rfl (newSp2 wr rfl ⟨xf, xt⟩) HL2.out HSZ.out ?_; intro v5 w5 h5 g5 k5)
     go_roundg gi
     case rel => exact ⟨p, rfl, by omega, by omega, hide (by rw [← HRS.out]; exact h5), hide (HB2.out.grown g5 HSZ.out (fun k e => GQ.out.at k e))⟩
     case measure => omega
end Go.Proofs.YtpcbhcdpegbfjaaGreat
