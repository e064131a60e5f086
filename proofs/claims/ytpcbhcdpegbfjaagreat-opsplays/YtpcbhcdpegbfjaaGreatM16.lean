/-
  Texts in build order: OVSess, OVPutP, OVPutW, OWin, OLay.
-/
import Derived.Test.YtpcbhcdpegbfjaaGreatM15
import Derived.Test.YtpcbhcdpegbfjaaGreatM08
import Derived.Test.YtpcbhcdpegbfjaaGreatM12
import Derived.Test.YtpcbhcdpegbfjaaGreatM13
/-
 withSession.
-/
namespace Go.Proofs.YtpcbhcdpegbfjaaGreat.V
set_option maxHeartbeats 16000000
set_option maxRecDepth 100000
open Go.RowKit
theorem sess_spot (J : Int → Int → Int) (l : List Pn) (fr wh : Pn) (v : Int) (h : wholeOf J fr (pJoin J l) = wh) : (keepO wh l ++ [wh]).set (keepO wh l).length (withA wh (J wh.a v)) = pSess J l fr v := by
 unfold pSess keepO
 rw [h, List.set_append_right _ _ (Nat.le_refl _), Nat.sub_self]
 rfl
theorem whole_step (J : Int → Int → Int) (fr wh : Pn) {m : List Pn} {i : Nat} {x : Pn} (hx : m[i]? = some x) : (m.drop i).foldl (fun wh p => if ovb fr p = true then jp J wh p else wh) wh = (m.drop (i + 1)).foldl (fun wh p => if ovb fr p = true then jp J wh p else wh) (if ovb fr x = true then jp J wh x else wh) := by
 rw [drop_at hx]
 rfl
structure SI (w wr : World) (u : Value) (m : List Pn) (fr wh : Pn) : Prop where
 row : Row 79 4 Pn.cs (w.heap.size + 1 + 1) wr u m
 bf : BoxT 79 wr w.heap.size fr.cs.toArray
 bw : BoxT 79 wr (w.heap.size + 1) wh.cs.toArray
 bel : Below w.heap.size w wr
theorem SI.below {w wr w' : World} {u : Value} {m : List Pn} {fr wh : Pn} (h : SI w wr u m fr wh) (hb : Below wr.heap.size wr w') : SI w w' u m fr wh :=
 ⟨h.row.below hb, BoxT.below (t := 79) h.bf hb, BoxT.below (t := 79) h.bw hb, h.bel.trans (hb.mono h.bel.size)⟩
theorem SI.put {w wr : World} {u : Value} {m : List Pn} {fr wh : Pn} (h : SI w wr u m fr wh) (y : Pn) : SI w ((((wr.setCell ⟨w.heap.size + 1, 0, none⟩ (.int .i64 y.k)).setCell ⟨w.heap.size + 1, 1, none⟩ (.int .i64 y.f)).setCell ⟨w.heap.size + 1, 2, none⟩ (.int .i64 y.t)).setCell ⟨w.heap.size + 1, 3, none⟩ (.int .i64 y.a)) u m fr y := by
 refine ⟨h.row.back (fun g e => heap_four wr _ _ _ _ _ g (by have := h.row.at g e; omega)), ?_, BoxT.four h.bw _ _ _ _, below_four h.bel (by omega) _ _ _ _⟩
 have h1 := h.bf
 unfold BoxT at *
 rw [heap_four wr _ _ _ _ _ _ (by omega)]; exact h1
theorem SI.box_ {w wr : World} {u : Value} {m : List Pn} {fr wh : Pn} (h : SI w wr u m fr wh) (x : Pn) : SI w (wr.alloc (.cells #[.int .i64 x.k, .int .i64 x.f, .int .i64 x.t, .int .i64 x.a] 79)) u m fr wh := h.below (below_box wr _)
theorem withSession_any {w : World} {base : Nat} {v : Value} {l : List Pn} (ho : OwnL 79 4 Pn.cs base w v l) (hb : base ≤ w.heap.size) (hn : l.length ≤ 100000) (fr : Pn) (a : Int) :
  Calls Tryz.prog 168 #[.int .i64 a, v, fr.val] w fun e w' => Spot base w w' v e (fun v => pSess (jn a) l fr v) a l.length := by
 obtain ⟨ao, cap, rfl⟩ := ho.shape
 have hfr : Below w.heap.size w (w.alloc (.cells fr.cs.toArray 79)) := below_box w _
 have h2 := two2 w (.cells fr.cs.toArray 79) (.cells fr.cs.toArray 79)
 have HB2 := hide (below_box2 w (.cells fr.cs.toArray 79) (.cells fr.cs.toArray 79))
 have HF2 : Hid (BoxT 79 ((w.alloc (.cells fr.cs.toArray 79)).alloc (.cells fr.cs.toArray 79)) w.heap.size fr.cs.toArray) := h2.1
 have HW2 : Hid (BoxT 79 ((w.alloc (.cells fr.cs.toArray 79)).alloc (.cells fr.cs.toArray 79)) (w.heap.size + 1) fr.cs.toArray) := h2.2
 have HO := hide ho
 have HBB := hide hb
 have HJ := hide (Join_any ((ho.below HB2.out).seg Pn.cs_len (by omega)) hn a)
 have HPL := hide (pJoin_len (jn a) l)
 have HSP := hide (fun wh v h => sess_spot (jn a) l fr wh v h)
 have HWH : Hid (wholeOf (jn a) fr (pJoin (jn a) l) = (((pJoin (jn a) l).drop 0).foldl (fun wh p => if ovb fr p = true then jp (jn a) wh p else wh) fr)) := (show _ = _ by rw [List.drop_zero]; rfl)
 generalize wholeOf (jn a) fr (pJoin (jn a) l) = WH at *
 generalize pJoin (jn a) l = m at *
 clear ho hb h2 hfr
 have hml : m.length ≤ 100000 := Nat.le_trans HPL.out hn
 have HSP2 := hide (fun v => HSP.out WH v rfl)
 clear HSP
 obtain ⟨fk, ff, ft, fa⟩ := fr
 unfold Pn.val
 simp only [Pn.cs] at HB2 HJ
 go_enter Tryz.func168, Tryz.ntmps168
 go_wp2_with (go_at_call 170; refine HJ.out.mono ?_; rintro e w1 ⟨u, rfl, o1, b1⟩; have HSI : Hid (SI w w1 u m ⟨fk, ff, ft, fa⟩ ⟨fk, ff, ft, fa⟩) := ⟨by simpa using o1, BoxT.below (t := 79) HF2.out b1, BoxT.below (t := 79) HW2.out b1, HB2.out.trans (b1.mono HB2.out.size)⟩; obtain ⟨ua, uc, rfl⟩ := (o1.seg Pn.cs_len (by have := HPL.out; omega)).shapeOf; clear o1 b1)
 clear HJ HF2 HW2 HB2
 go_loopg [10, 16] (m.length + 1) (fun gh _ iv wr => ∃ (i : Nat) (wh : Pn), iv = .int .i64 (i : Int) ∧ i ≤ m.length ∧ m.length + 1 ≤ gh + i ∧ Hid (SI w wr (.slice ua m.length uc) m ⟨fk, ff, ft, fa⟩ wh) ∧ Hid (WH = (m.drop i).foldl (fun wh p => if ovb ⟨fk, ff, ft, fa⟩ p = true then jp (jn a) wh p else wh) wh))
 case atStart => exact ⟨0, _, rfl, by omega, by omega, HSI, HWH⟩
 case round =>
  clear HSI HWH
  obtain ⟨i, wh, rfl, hi, hg, HS, HW⟩ := hrel
  obtain ⟨go, rfl⟩ : ∃ go, gk = go + 1 := ⟨gk - 1, by omega⟩
  by_cases hlt : i < m.length
  ·obtain ⟨y, hy⟩ := get_of_lt hlt
   have bt : (i : Int) < (m.length : Int) := by omega
   obtain ⟨nb, no, ee, _, e0, e1, e2, e3⟩ := (HS.out.row.seg Pn.cs_len (by have := HPL.out; omega)).pane hy
   subst ee
   have HW2 := HW.out
   rw [whole_step _ _ _ hy] at HW2
   have HSB := hide (HS.out.box_ y)
   have HYB : Hid (BoxT 79 (wr.alloc (.cells #[.int .i64 y.k, .int .i64 y.f, .int .i64 y.t, .int .i64 y.a] 79)) wr.heap.size y.cs.toArray) := BoxT.new 79 wr _
   obtain ⟨f0, f1, f2, f3⟩ := box4 HSB.out.bf
   obtain ⟨g0, g1, g2, g3⟩ := box4 HYB.out
   have HOV := hide (fun W => overlap_any W ⟨fk, ff, ft, fa⟩ y)
   have HP := hide (fun W => joined_any W a wh y)
   generalize ovb ⟨fk, ff, ft, fa⟩ y = ob at *
   clear hy HW
   obtain ⟨yk, yf, yt, ya⟩ := y
   obtain ⟨hk, hf, ht, ha⟩ := wh
   unfold Pn.val at HOV HP
   simp only at e0 e1 e2 e3 f0 f1 f2 f3 g0 g1 g2 g3 HSB HYB
   cases ob with
   | true =>
    rw [if_pos rfl] at HW2
    have HW3 := hide HW2
    clear HW2
    generalize hz : jp (jn a) ⟨hk, hf, ht, ha⟩ ⟨yk, yf, yt, ya⟩ = z at *
    clear hz
    obtain ⟨zk, zf, zt, za⟩ := z
    simp only at HP
    go_wp2_with (first
     | (go_at_call 171; refine (HOV.out _).mono ?_; rintro e w2 ⟨rfl, b2⟩; have HS2 := hide (HSB.out.below b2); obtain ⟨p0, p1, p2, p3⟩ := box4 HS2.out.bw; obtain ⟨q0, q1, q2, q3⟩ := box4 (BoxT.below (t := 79) HYB.out b2); simp only at p0 p1 p2 p3 q0 q1 q2 q3; clear b2)
     | (go_at_call 172; refine (HP.out _).mono ?_; rintro e w3 ⟨rfl, b3⟩; have HS3 := hide (HS2.out.below b3); obtain ⟨r0, r1, r2, r3⟩ := box4 HS3.out.bw; have rf := fun j => HS3.out.bw.free j; simp only at r0 r1 r2 r3; clear b3))
    go_roundg go
    case rel => exact ⟨i + 1, _, by go_num, by omega, by omega, HS3.out.put ⟨zk, zf, zt, za⟩, HW3⟩
    case measure => omega
   | false =>
    rw [if_neg (by decide)] at HW2
    have HW3 := hide HW2
    clear HW2 HP
    go_wp2_with (go_at_call 171; refine (HOV.out _).mono ?_; rintro e w2 ⟨rfl, b2⟩; have HS2 := hide (HSB.out.below b2); clear b2)
    go_roundg go
    case rel => exact ⟨i + 1, _, by go_num, by omega, by omega, HS2, HW3⟩
    case measure => omega
  ·have bt : ¬ (i : Int) < (m.length : Int) := by omega
   have hwh : WH = wh := by have h1 := HW.out; rw [drop_end hlt] at h1; exact h1
   subst hwh
   have hKv : (Value.slice ao l.length cap).ownBlock ≠ some (w.heap.size + 1) := fun e => by have := HO.out.lt _ e; omega
   have hob := HO.out.below HS.out.bel
   have HDL := hide (delete_any HS.out.bw hob hKv (show l.length ≤ 1000000 by omega))
   have HKV := hide hKv
   have HOB := hide hob
   have hrun := runClo
   have HBW := hide HS.out.bw
   have HBL := hide HS.out.bel
   have HKL : Hid ((keepO WH l).length ≤ l.length) := (show _ ≤ _ from List.length_filter_le ..)
   clear hKv hob HS HW hi hlt
   generalize keepO WH l = kl at *
   obtain ⟨hk, hf, ht, ha⟩ := WH
   go_wp2_with (first
    | (go_at_call 173; refine HDL.out.mono ?_; rintro e w2 ⟨v2, rfl, o2, g2, k2⟩; obtain ⟨a2, c2, rfl⟩ := o2.shape; have hK2 : BoxT 79 w2 (w.heap.size + 1) (Pn.cs ⟨hk, hf, ht, ha⟩).toArray := (by have h1 := HBW.out; unfold BoxT at *; rw [g2.block _ (BoxT.lt h1) (fun e => HKV.out e.symm)]; exact h1); obtain ⟨p0, p1, p2, p3⟩ := box4 hK2; simp only at p0 p1 p2 p3; have HG2 := hide (grownBy_trans (grown_of_below HBL.out _) g2); have HK2 := hide k2; have HO2 := hide (o2.alloc (.cells #[.int .i64 hk, .int .i64 hf, .int .i64 ht, .int .i64 ha] 79)); have HS2 : Hid (base ≤ (w2.alloc (.cells #[.int .i64 hk, .int .i64 hf, .int .i64 ht, .int .i64 ha] 79)).heap.size) := (show _ ≤ _ from Nat.le_trans (Nat.le_trans HBB.out (Nat.le_trans HBL.out.size g2.size)) (by simp)); have HN : Hid (kl.length ≤ 1000000) := (show _ ≤ _ by have := HKL.out; omega); clear hK2 o2 g2 k2)
    | (at_builtin; refine app_L Tryz.infoPn Tryz.underlying47 rfl (by decide) (by decide) Pn.cs_len Pn.cs_one rfl _ _ rfl base _ kl rfl HO2.out _ _ (⟨hk, hf, ht, ha⟩ : Pn) rfl (new4 w2 rfl ⟨hk, hf, ht, ha⟩) HN.out HS2.out ?_; intro v5 w5 h5 g5 k5; have H5 := hide h5; have HG5 := hide (grownBy_trans HG2.out (grownBy_trans (grownBy_alloc' w2 _ _) (grown_sub g5 HK2.out))); have HK5 : Hid (∀ g, v5.ownBlock = some g → (Value.slice ao l.length cap).ownBlock = some g ∨ w.heap.size ≤ g) := (show ∀ g, _ from fun g e => (k5 g e).imp (HK2.out g) (fun h => Nat.le_trans HG2.out.size (Nat.le_trans (by simp) h))); clear h5 g5 k5))
   exact bodyPost_ret (v := .tuple #[v5, .int .i64 (kl.length : Int)]) (by simp [results, Tryz.results168, go_sem]; try rfl) rfl ⟨_, _, kl.length, ⟨hk, hf, ht, ha⟩, rfl, H5.out, HG5.out, HK5.out, by simp, HSP2.out, by have := HKL.out; simp; omega⟩
end Go.Proofs.YtpcbhcdpegbfjaaGreat.V
/-
 Put.
-/
namespace Go.Proofs.YtpcbhcdpegbfjaaGreat.V
open Go.RowKit
def vOf (a v : Int) : Int := if a = 2 then 1 else v
def stepP (k a : Int) (r : Rc) (l : List Pn) (s : Sp) : List Pn := if k = 3 then pSess (jn a) l ⟨r.k, s.f, s.t, zr a⟩ (vOf a r.v) else addSp (jn a) ⟨r.k, s.f, s.t, zr a⟩ (vOf a r.v) l
def pPut (k size slide a : Int) (l : List Pn) (r : Rc) : List Pn := srt ((pSpans k size slide r.t).foldl (stepP k a r) l)
theorem stepP_len (k a : Int) (r : Rc) (l : List Pn) (s : Sp) : (stepP k a r l s).length ≤ l.length + 1 := by
 unfold stepP
 split
 ·exact pSess_len _ _ _
 ·exact addSp_len _ _ _
theorem fold_len (k a : Int) (r : Rc) (ss : List Sp) : ∀ l : List Pn, (ss.foldl (stepP k a r) l).length ≤ l.length + ss.length := by
 induction ss with
 | nil => intro l; simp
 | cons s ss ih => intro l; have h1 := ih (stepP k a r l s); have h2 := stepP_len k a r l s; simp only [List.foldl_cons, List.length_cons]; omega
theorem pPut_len (k size slide a : Int) (l : List Pn) (r : Rc) : (pPut k size slide a l r).length ≤ l.length + 64 := by
 unfold pPut
 rw [srt_len]
 have h1 := fold_len k a r (pSpans k size slide r.t) l
 have h2 := pSpans_len k size slide r.t
 omega
structure PI (w wr : World) (k size slide : Int) (r : Rc) (v : Value) (l : List Pn) (sv : Value) (sps : List Sp) : Prop where
 row : OwnL 79 4 Pn.cs (w.heap.size + 1 + 1) wr v l
 bw : BoxT 27 wr w.heap.size #[.int .i64 k, .int .i64 size, .int .i64 slide]
 br : BoxT 38 wr (w.heap.size + 1) #[.int .i64 r.k, .int .i64 r.t, .int .i64 r.v]
 sp : OwnL 72 2 Sp.cs (w.heap.size + 1 + 1) wr sv sps
 bel : Below w.heap.size w wr
theorem PI.below {w wr w' : World} {k size slide : Int} {r : Rc} {v : Value} {l : List Pn} {sv : Value} {sps : List Sp} (h : PI w wr k size slide r v l sv sps) (hb : Below wr.heap.size wr w') : PI w w' k size slide r v l sv sps :=
 ⟨h.row.below hb, BoxT.below (t := 27) h.bw hb, BoxT.below (t := 38) h.br hb, h.sp.below hb, h.bel.trans (hb.mono h.bel.size)⟩
theorem PI.grown {w wr w' : World} {k size slide : Int} {r : Rc} {v v' : Value} {l l' : List Pn} {sv : Value} {sps : List Sp} (h : PI w wr k size slide r v l sv sps) (hg : wr.grownBy w' v.ownBlock) (o : OwnL 79 4 Pn.cs (w.heap.size + 1 + 1) w' v' l') : PI w w' k size slide r v' l' sv sps := by
 have hK : ∀ g, v.ownBlock = some g → w.heap.size + 1 + 1 ≤ g := fun g e => h.row.at g e
 refine ⟨o, ?_, ?_, h.sp.back (fun g e => ?_), h.bel.grown hg h.bel.size (fun g e => by have := hK g e; omega)⟩
 ·have h1 := h.bw
  have h2 := h1.lt
  unfold BoxT at *
  rw [hg.block _ h2 (fun e => by have := hK _ e.symm; omega)]; exact h1
 ·have h1 := h.br
  have h2 := h1.lt
  unfold BoxT at *
  rw [hg.block _ h2 (fun e => by have := hK _ e.symm; omega)]; exact h1
 ·refine hg.block g (h.sp.lt g e) (fun e' => ?_)
  obtain ⟨c1, h1⟩ := h.sp.has g e
  obtain ⟨c2, h2⟩ := h.row.has g e'.symm
  rw [h1] at h2
  simp at h2
theorem _root_.Go.Proofs.YtpcbhcdpegbfjaaGreat.OwnL.set3 {base : Nat} {w : World} {ao : Option Addr} {n cap : Nat} {l : List Pn} (h : OwnL 79 4 Pn.cs base w (.slice ao n cap) l) {i : Nat} {p : Pn} (hp : l[i]? = some p) : ∃ g, ao = some ⟨g, 0, none⟩ ∧ n = l.length ∧ base ≤ g ∧ w.cell? ⟨g, i * 4 + 3, none⟩ = some (.int .i64 p.a) ∧ (∀ j, w.frozen? ⟨g, j, none⟩ = false) ∧ ∀ w' : World, w'.heap[g]? = w.heap[g]? → ∀ x, OwnL 79 4 Pn.cs base (w'.setCell ⟨g, i * 4 + 3, none⟩ (.int .i64 x)) (.slice ao n cap) (l.set i (withA p x)) := by
 have hil := lt_of_get hp
 rcases h.2 with ⟨_, h0⟩ | ⟨g, cap', cur, e, h2, h3, h4, h5, h6, h7⟩
 ·omega
 ·cases e
  have hb : BoxT 79 w g cur := h3
  have hcell : cur[i * 4 + 3]? = some (.int .i64 p.a) := by
   have h8 := flat_get Pn.cs_len l i 3 p _ hp rfl
   rw [← h7, List.getElem?_take] at h8
   split at h8
   ·simpa using h8
   ·cases h8
  refine ⟨g, rfl, rfl, h2, by rw [hb.cellAt]; exact hcell, fun j => hb.free j, fun w' hw' x => ?_⟩
  have hb' : BoxT 79 w' g cur := by unfold BoxT at *; rw [hw']; exact hb
  refine ⟨by rw [flat_size Pn.cs_len], .inr ⟨g, cap, cur.setIfInBounds (i * 4 + 3) (.int .i64 x), by simp, h2, hb'.set _ _, by simpa using h4, h5, by simpa using h6, ?_⟩⟩
  apply List.ext_getElem?
  intro q
  rw [List.getElem?_take, List.length_set]
  by_cases hq : q < l.length * 4
  ·rw [if_pos hq, Array.getElem?_toList]
   have hq4 : q / 4 < l.length := by omega
   have hm4 : ∀ y : Pn, q % 4 < y.cs.length := fun y => by rw [Pn.cs_len]; omega
   by_cases hqi : q / 4 = i
   ·have hx : (l.set i (withA p x))[q / 4]? = some (withA p x) := by rw [hqi, List.getElem?_set_self hil]
    obtain ⟨u, hu⟩ := get_of_lt (hm4 (withA p x))
    have h9 := flat_get Pn.cs_len _ (q / 4) (q % 4) _ u hx hu
    rw [show q / 4 * 4 + q % 4 = q by omega] at h9
    rw [h9]
    by_cases h33 : q % 4 = 3
    ·rw [show i * 4 + 3 = q by omega, Array.getElem?_setIfInBounds_self_of_lt (by have := lt_of_get (l := cur.toList) (by rw [Array.getElem?_toList]; exact hcell); simp at this; omega)]
     rw [h33] at hu
     simp [Pn.cs, withA] at hu
     rw [hu]
    ·rw [Array.getElem?_setIfInBounds_ne (by omega)]
     have hu2 : p.cs[q % 4]? = some u := by
      have : q % 4 = 0 ∨ q % 4 = 1 ∨ q % 4 = 2 := by omega
      rcases this with e | e | e <;> rw [e] at hu ⊢ <;> simpa [Pn.cs, withA] using hu
     have h8 := flat_get Pn.cs_len l i (q % 4) p u hp hu2
     rw [← h7, List.getElem?_take] at h8
     split at h8
     ·rw [show i * 4 + q % 4 = q by omega] at h8; simpa using h8
     ·cases h8
   ·obtain ⟨y, hy⟩ := get_of_lt hq4
    have hx : (l.set i (withA p x))[q / 4]? = some y := by rw [List.getElem?_set_ne (fun e => hqi e.symm)]; exact hy
    obtain ⟨u, hu⟩ := get_of_lt (hm4 y)
    have h9 := flat_get Pn.cs_len _ (q / 4) (q % 4) _ u hx hu
    rw [show q / 4 * 4 + q % 4 = q by omega] at h9
    rw [h9, Array.getElem?_setIfInBounds_ne (by omega)]
    have h8 := flat_get Pn.cs_len l (q / 4) (q % 4) y u hy hu
    rw [← h7, List.getElem?_take] at h8
    split at h8
    ·rw [show q / 4 * 4 + q % 4 = q by omega] at h8; simpa using h8
    ·cases h8
  ·rw [if_neg hq, List.getElem?_eq_none (by rw [flat_size Pn.cs_len, List.length_set]; omega)]
end Go.Proofs.YtpcbhcdpegbfjaaGreat.V
/-
 Put, walked.
-/
namespace Go.Proofs.YtpcbhcdpegbfjaaGreat.V
set_option maxHeartbeats 16000000
set_option maxRecDepth 100000
open Go.RowKit
theorem Put_any {w : World} {v : Value} {l : List Pn} (hl : LSeg 4 Pn.cs w.heap.size w v l) (hn : l.length ≤ 50000) (k : Int) {size slide : Int} (hs : In64 size) (hsl : In64 slide) (a : Int) (r : Rc) :
  Calls Tryz.prog 167 #[.agg #[.int .i64 k, .int .i64 size, .int .i64 slide], .int .i64 a, v, r.val] w fun e w' => ∃ u, e = .returned u ∧ Row 79 4 Pn.cs w.heap.size w' u (pPut k size slide a l r) ∧ Below w.heap.size w w' := by
 obtain ⟨ao, cap, rfl⟩ := hl.shapeOf
 have hb2 := below_box2 w (.cells #[.int .i64 k, .int .i64 size, .int .i64 slide] 27) (.cells #[.int .i64 r.k, .int .i64 r.t, .int .i64 r.v] 38)
 have h2 := two2 w (.cells #[.int .i64 k, .int .i64 size, .int .i64 slide] 27) (.cells #[.int .i64 r.k, .int .i64 r.t, .int .i64 r.v] 38)
 have HC := hide (copied_any ((hl.below hb2).mono hb2.size) (by omega))
 have HSP := hide (fun W => Spans_any W k r.t hs hsl)
 have HSL := hide (pSpans_len k size slide r.t)
 have HB2 := hide hb2
 have HBW : Hid (BoxT 27 ((w.alloc (.cells #[.int .i64 k, .int .i64 size, .int .i64 slide] 27)).alloc (.cells #[.int .i64 r.k, .int .i64 r.t, .int .i64 r.v] 38)) w.heap.size #[.int .i64 k, .int .i64 size, .int .i64 slide]) := h2.1
 have HBR : Hid (BoxT 38 ((w.alloc (.cells #[.int .i64 k, .int .i64 size, .int .i64 slide] 27)).alloc (.cells #[.int .i64 r.k, .int .i64 r.t, .int .i64 r.v] 38)) (w.heap.size + 1) #[.int .i64 r.k, .int .i64 r.t, .int .i64 r.v]) := h2.2
 unfold pPut
 generalize pSpans k size slide r.t = sps at *
 have HFL := hide (fold_len k a r sps l)
 have HFO : Hid ((sps.drop 0).foldl (stepP k a r) l = sps.foldl (stepP k a r) l) := (show _ = _ by rw [List.drop_zero])
 generalize sps.foldl (stepP k a r) l = R at *
 have hsl2 : sps.length ≤ 64 := HSL.out
 have hrl : R.length ≤ 50064 := by have := HFL.out; omega
 clear hl hb2 h2
 have HR := hide (show r.cs = [.int .i64 r.k, .int .i64 r.t, .int .i64 r.v] from rfl)
 clear HR
 go_enter Tryz.func167, Tryz.ntmps167
 unfold Rc.val
 go_wp2_with (first
  | (go_at_call 120; refine HC.out.mono ?_; rintro e w1 ⟨u, rfl, o1, b1⟩; obtain ⟨ua, uc, rfl⟩ := o1.shape; have O1 := hide o1; have B1 := hide b1; obtain ⟨y0, y1, y2⟩ := (BoxT.below (t := 27) HBW.out b1).cells3; obtain ⟨z0, z1, z2⟩ := (BoxT.below (t := 38) HBR.out b1).cells3; clear o1 b1)
  | (go_at_call 119; refine (HSP.out _).mono ?_; rintro e w2 ⟨s, rfl, o2, b2⟩; obtain ⟨sa, sc, rfl⟩ := o2.shape; have HPI : Hid (PI w w2 k size slide r (.slice ua l.length uc) l (.slice sa sps.length sc) sps) := ⟨by have := O1.out.below b2; simpa using this, BoxT.below (t := 27) (BoxT.below (t := 27) HBW.out B1.out) b2, BoxT.below (t := 38) (BoxT.below (t := 38) HBR.out B1.out) b2, o2.mono (by have := B1.out.size; simpa using this), (HB2.out.trans (B1.out.mono HB2.out.size)).trans (b2.mono (HB2.out.trans (B1.out.mono HB2.out.size)).size)⟩; clear o2 b2 y0 y1 y2 z0 z1 z2))
 clear HC HSP HBW HBR HB2 O1 B1
 go_loopg [2, 10, 11, 12, 20] (sps.length + 1) (fun gh lv _ _ _ iv wr => ∃ (i : Nat) (l2 : List Pn), iv = .int .i64 (i : Int) ∧ i ≤ sps.length ∧ sps.length + 1 ≤ gh + i ∧ l2.length ≤ 50000 + i ∧ Hid (PI w wr k size slide r lv l2 (.slice sa sps.length sc) sps) ∧ Hid ((sps.drop i).foldl (stepP k a r) l2 = R))
 case atStart => exact ⟨0, l, rfl, by omega, by omega, by omega, HPI, HFO⟩
 case round =>
  clear HPI HFO
  obtain ⟨i, l2, rfl, hi, hg, hl2, HP, HF⟩ := hrel
  obtain ⟨go, rfl⟩ : ∃ go, gk = go + 1 := ⟨gk - 1, by omega⟩
  obtain ⟨a2, c2, rfl⟩ := HP.out.row.shape
  by_cases hlt : i < sps.length
  ·obtain ⟨s, hsi⟩ := get_of_lt hlt
   have bt : (i : Int) < (sps.length : Int) := by omega
   obtain ⟨nb, no, ee, _, e0, e1⟩ := (HP.out.sp.seg Sp.cs_len (by omega)).span hsi
   subst ee
   have HF2 : Hid ((sps.drop (i + 1)).foldl (stepP k a r) (stepP k a r l2 s) = R) := (show _ = _ by have h1 := HF.out; rw [drop_at hsi] at h1; exact h1)
   have HST := hide (stepP_len k a r l2 s)
   have HSU : Hid (stepP k a r l2 s = if k = 3 then pSess (jn a) l2 ⟨r.k, s.f, s.t, zr a⟩ (vOf a r.v) else addSp (jn a) ⟨r.k, s.f, s.t, zr a⟩ (vOf a r.v) l2) := (show _ = _ from rfl)
   generalize stepP k a r l2 s = l3 at *
   have hbs : Below wr.heap.size wr (wr.alloc (.cells #[.int .i64 s.f, .int .i64 s.t] 72)) := below_box wr _
   have HPB := hide (HP.out.below hbs)
   have HNS := hide (BoxT.new 72 wr #[.int .i64 s.f, .int .i64 s.t])
   have HBS := hide hbs
   have HZ := hide (fun W => Zero_any W a)
   clear hsi HF hbs
   obtain ⟨rk, rt, rv⟩ := r
   obtain ⟨sf, st⟩ := s
   simp only at e0 e1 HPB HNS HBS HSU
   have KC : Hid (∀ w' : World, Below (wr.alloc (.cells #[.int .i64 sf, .int .i64 st] 72)).heap.size (wr.alloc (.cells #[.int .i64 sf, .int .i64 st] 72)) w' → w'.cell? ⟨w.heap.size + 1, 0, none⟩ = some (.int .i64 rk) ∧ w'.cell? ⟨wr.heap.size, 0, none⟩ = some (.int .i64 sf) ∧ w'.cell? ⟨wr.heap.size, 1, none⟩ = some (.int .i64 st)) := fun w' h => ⟨(by rw [(BoxT.below (t := 38) HPB.out.br h).cellAt]; rfl), (by rw [(BoxT.below (t := 72) HNS.out h).cellAt]; rfl), (by rw [(BoxT.below (t := 72) HNS.out h).cellAt]; rfl)⟩
   generalize zr a = za at *
   go_upto_region 5 with fail
   go_cut [11, 20] from 20 to 59 (fun pv iv wx => iv = .int .i64 (i : Int) ∧ ∃ K, pv = .pointer (some ⟨K, 0, none⟩) ∧ Hid (BoxT 79 wx K (Pn.cs ⟨rk, sf, st, za⟩).toArray) ∧ Hid (Below wr.heap.size wr wx))
   case first =>
    refine wp_region_M (S := fun w' => w'.cell? ⟨w.heap.size + 1, 0, none⟩ = some (.int .i64 rk) ∧ w'.cell? ⟨wr.heap.size, 0, none⟩ = some (.int .i64 sf) ∧ w'.cell? ⟨wr.heap.size, 1, none⟩ = some (.int .i64 st)) (late := []) (by kernel_rfl) (KC.out _ (Below.refl _ _).drew) (fun hH => ?_)
    (try simp only [nr, Nat.reduceAdd])
    refine tkA 0 hH ?_; simp only [nm]; refine tkA 1 hH ?_; simp only [nm]; refine tkA 2 hH ?_; simp only [nm]; refine tkA 3 hH ?_; simp only [nm]
    refine wpAnyM_two (i := 4) (j := 6) (oi := ⟨_, _, _, _, _, _⟩) (oj := ⟨_, _, _, _, _, _⟩) (by kernel_rfl) rfl rfl (fun K hK => ?_) (fun K hK => ?_)
    ·go_simp
     go_at_call 109
     refine (HZ.out _).mono ?_
     rintro e w2 ⟨rfl, hb⟩
     have B2 : Hid (Below (wr.alloc (.cells #[.int .i64 sf, .int .i64 st] 72)).heap.size (wr.alloc (.cells #[.int .i64 sf, .int .i64 st] 72)) w2) := ((Below.refl _ _).drew).trans hb
     refine hK.out _ _ (KC.out _ B2.out) (fun hH => ?_)
     clear hK K hb
     (try simp only [nm])
     refine tkA 5 hH ?_; simp only [nm]
     refine tkO 6 fun K hK => ?_
     go_simp
     have HN2 := hide (BoxT.new 79 w2 #[.int .i64 0, .int .i64 0, .int .i64 0, .int .i64 0])
     have B3 := hide (B2.out.alloc B2.out.size (.cells #[.int .i64 0, .int .i64 0, .int .i64 0, .int .i64 0] 79))
     refine hK.out _ _ (KC.out _ B3.out) (fun hH => ?_)
     clear hK K
     (try simp only [nm])
     obtain ⟨q0, q1, q2, q3⟩ := HN2.out.cells4
     have fz := fun j => HN2.out.free j
     refine tkO 7 fun K hK => ?_
     go_simp
     have B4 := hide (B2.out.alloc B2.out.size (.cells #[.int .i64 rk, .int .i64 sf, .int .i64 st, .int .i64 za] 79))
     refine hK.out _ _ (KC.out _ B4.out) (fun _ => ?_)
     clear hK K
     refine wpAnyM_done (by kernel_rfl) ?_ _
     go_wp2_with fail
     go_meet
     case rel => exact ⟨rfl, _, rfl, hide (BoxT.new 79 w2 _), hide (HBS.out.trans (B4.out.mono HBS.out.size))⟩
    ·go_simp
     have hz : Below (wr.alloc (.cells #[.int .i64 sf, .int .i64 st] 72)).heap.size (wr.alloc (.cells #[.int .i64 sf, .int .i64 st] 72)) ((wr.alloc (.cells #[.int .i64 sf, .int .i64 st] 72)).alloc (.cells #[.int .i64 0, .int .i64 0, .int .i64 0, .int .i64 0] 79)).drew := ((Below.refl _ _).alloc (Nat.le_refl _) _).drew
     have HN2 : Hid (BoxT 79 ((wr.alloc (.cells #[.int .i64 sf, .int .i64 st] 72)).alloc (.cells #[.int .i64 0, .int .i64 0, .int .i64 0, .int .i64 0] 79)).drew (wr.heap.size + 1) #[.int .i64 0, .int .i64 0, .int .i64 0, .int .i64 0]) := BoxT.drew (BoxT.new_at (t := 79) (w := wr.alloc (.cells #[.int .i64 sf, .int .i64 st] 72)) (by simp))
     have HZ0 := hide hz
     clear hz
     refine hK.out _ _ (KC.out _ HZ0.out) (fun hH => ?_)
     clear hK K
     (try simp only [nm])
     refine tkO 4 fun K hK => ?_
     go_simp
     go_at_call 109
     refine (HZ.out _).mono ?_
     rintro e w2 ⟨rfl, hb⟩
     have B2 := hide (HZ0.out.trans (hb.mono HZ0.out.size))
     have HN3 := hide (BoxT.below (t := 79) HN2.out hb)
     refine hK.out _ _ (KC.out _ B2.out) (fun hH => ?_)
     clear hK K hb
     (try simp only [nm])
     refine tkA 5 hH ?_; simp only [nm]
     obtain ⟨q0, q1, q2, q3⟩ := HN3.out.cells4
     have fz := fun j => HN3.out.free j
     refine tkO 7 fun K hK => ?_
     go_simp
     have B4 := hide (below_four B2.out (show (wr.alloc (.cells #[.int .i64 sf, .int .i64 st] 72)).heap.size ≤ wr.heap.size + 1 by simp) (.int .i64 rk) (.int .i64 sf) (.int .i64 st) (.int .i64 za))
     refine hK.out _ _ (KC.out _ B4.out) (fun _ => ?_)
     clear hK K
     refine wpAnyM_done (by kernel_rfl) ?_ _
     go_wp2_with fail
     go_meet
     case rel => exact ⟨rfl, _, rfl, hide (BoxT.four HN3.out _ _ _ _), hide (HBS.out.trans (B4.out.mono HBS.out.size))⟩
   case rest =>
    obtain ⟨rfl, K, rfl, HK, HBK⟩ := hcut
    have HPK := hide (HP.out.below HBK.out)
    obtain ⟨c0, c1, c2', c3⟩ := box4 HK.out
    obtain ⟨y0, y1, y2⟩ := HPK.out.bw.cells3
    simp only at c0 c1 c2' c3
    by_cases h3 : k = 3
    ·subst h3
     rw [if_pos rfl] at HSU
     have HWS := hide (withSession_any HPK.out.row (by have := HPK.out.bw.lt; have h9 := HPK.out.br.lt; omega) (show l2.length ≤ 100000 by omega) ⟨rk, sf, st, za⟩ a)
     unfold Pn.val at HWS
     simp only at HWS
     clear HPB HNS HBS KC HP HBK
     go_upto_region 10 with (go_at_call 168; refine HWS.out.mono ?_; rintro e w3 ⟨v3, l4, i4, p4, rfl, o3, g3, k3, hp3, hs3, hn3⟩)
     obtain ⟨a3, cap3, rfl⟩ := o3.shape
     have HP3 := hide (HPK.out.grown g3 o3)
     obtain ⟨g, rfl, _, hbg, cg, fg, hset⟩ := o3.set3 hp3
     have HSET := hide hset
     have HGL := hide (o3.lt g rfl)
     have hi4 := lt_of_get hp3
     have bi4 : (i4 : Int) < (l4.length : Int) := by omega
     have zr2 : w3.drew.cell? ⟨w.heap.size + 1, 2, none⟩ = some (.int .i64 rv) := HP3.out.br.cells3.2.2
     have HP4 := hide hp3
     have HAD := hide (fun W => Add_any W a p4.a rv)
     have HSU2 : Hid (l3 = l4.set i4 (withA p4 (ad a p4.a rv))) := (show _ = _ by rw [HSU.out]; exact (hs3 (vOf a rv)).symm)
     generalize ad a p4.a rv = ads at *
     clear hset o3 g3 k3 hp3 hs3 fg HSU
     refine wp_region_M (S := fun w' => w'.cell? ⟨w.heap.size + 1, 2, none⟩ = some (.int .i64 rv)) (late := []) (by kernel_rfl) zr2 (fun hH => ?_)
     (try simp only [nr, Nat.reduceAdd])
     refine tkA 0 hH ?_; simp only [nm]; refine tkA 1 hH ?_; simp only [nm]; refine tkA 2 hH ?_; simp only [nm]; refine tkA 3 hH ?_; simp only [nm]; refine tkA 4 hH ?_; simp only [nm]; refine tkA 5 hH ?_; simp only [nm]; refine tkA 6 hH ?_; simp only [nm]; refine tkA 8 hH ?_; simp only [nm]; refine tkA 9 hH ?_; simp only [nm]
     refine tkO 7 fun K hK => ?_
     go_simp
     refine hK.out _ _ hH (fun hH => ?_)
     clear hK K
     (try simp only [nm])
     refine tkO 10 fun K hK => ?_
     go_simp
     go_at_call 108
     refine (HAD.out _).mono ?_
     rintro e w5 ⟨rfl, b5⟩
     have b6 : Below w3.heap.size w3 w5 := ((Below.refl _ _).drew).trans b5
     have HP5 := hide (HP3.out.below b6)
     have HP6 : Hid (PI w (w5.setCell ⟨g, i4 * 4 + 3, none⟩ (.int .i64 ads)) 3 size slide ⟨rk, rt, rv⟩ (.slice (some ⟨g, 0, none⟩) l4.length cap3) l3 (.slice (some ⟨nb, no, none⟩) sps.length sc) sps) := HP5.out.grown (grownBy_set w5 g _ _) (by rw [HSU2.out]; exact HSET.out w5 (b6.block g HGL.out) ads)
     have cg5 := (b6.cell (p := ⟨g, i4 * 4 + 3, none⟩) HGL.out).trans cg
     have fr5 : ∀ j, w5.frozen? ⟨g, j, none⟩ = false := fun j => by obtain ⟨g', eg, _, _, _, fr, _⟩ := HP5.out.row.set3 HP4.out; cases eg; exact fr j
     refine hK.out _ _ (by obtain ⟨_, _, z2⟩ := HP5.out.br.cells3; exact z2) (fun hH => ?_)
     clear hK K b5 b6
     (try simp only [nm])
     refine tkA 11 hH ?_; simp only [nm]; refine tkA 12 hH ?_; simp only [nm]
     refine tkO 13 fun K hK => ?_
     go_simp
     refine hK.out _ _ (by obtain ⟨_, _, z2⟩ := HP6.out.br.cells3; exact z2) (fun hH => ?_)
     clear hK K
     refine wpAnyM_done (by kernel_rfl) ?_ _
     go_wp2_with fail
     go_roundg go
     case rel => exact ⟨i + 1, l3, by go_num, by omega, by omega, by have := HST.out; omega, HP6, HF2⟩
     case measure => omega
    ·rw [if_neg h3] at HSU
     have hk3 : (k == 3) = false := by simp [h3]
     have HWS := hide (withSpan_any HPK.out.row (by have := HPK.out.bw.lt; have h9 := HPK.out.br.lt; omega) (show l2.length ≤ 100000 by omega) ⟨rk, sf, st, za⟩ a)
     unfold Pn.val at HWS
     simp only at HWS
     clear HPB HNS HBS KC HP HBK
     go_upto_region 10 with (go_at_call 169; refine HWS.out.mono ?_; rintro e w3 ⟨v3, l4, i4, p4, rfl, o3, g3, k3, hp3, hs3, hn3⟩)
     obtain ⟨a3, cap3, rfl⟩ := o3.shape
     have HP3 := hide (HPK.out.grown g3 o3)
     obtain ⟨g, rfl, _, hbg, cg, fg, hset⟩ := o3.set3 hp3
     have HSET := hide hset
     have HGL := hide (o3.lt g rfl)
     have hi4 := lt_of_get hp3
     have bi4 : (i4 : Int) < (l4.length : Int) := by omega
     have zr2 : w3.drew.cell? ⟨w.heap.size + 1, 2, none⟩ = some (.int .i64 rv) := HP3.out.br.cells3.2.2
     have HP4 := hide hp3
     have HAD := hide (fun W => Add_any W a p4.a rv)
     have HSU2 : Hid (l3 = l4.set i4 (withA p4 (ad a p4.a rv))) := (show _ = _ by rw [HSU.out]; exact (hs3 (vOf a rv)).symm)
     generalize ad a p4.a rv = ads at *
     clear hset o3 g3 k3 hp3 hs3 fg HSU
     refine wp_region_M (S := fun w' => w'.cell? ⟨w.heap.size + 1, 2, none⟩ = some (.int .i64 rv)) (late := []) (by kernel_rfl) zr2 (fun hH => ?_)
     (try simp only [nr, Nat.reduceAdd])
     refine tkA 0 hH ?_; simp only [nm]; refine tkA 1 hH ?_; simp only [nm]; refine tkA 2 hH ?_; simp only [nm]; refine tkA 3 hH ?_; simp only [nm]; refine tkA 4 hH ?_; simp only [nm]; refine tkA 5 hH ?_; simp only [nm]; refine tkA 6 hH ?_; simp only [nm]; refine tkA 8 hH ?_; simp only [nm]; refine tkA 9 hH ?_; simp only [nm]
     refine tkO 7 fun K hK => ?_
     go_simp
     refine hK.out _ _ hH (fun hH => ?_)
     clear hK K
     (try simp only [nm])
     refine tkO 10 fun K hK => ?_
     go_simp
     go_at_call 108
     refine (HAD.out _).mono ?_
     rintro e w5 ⟨rfl, b5⟩
     have b6 : Below w3.heap.size w3 w5 := ((Below.refl _ _).drew).trans b5
     have HP5 := hide (HP3.out.below b6)
     have HP6 : Hid (PI w (w5.setCell ⟨g, i4 * 4 + 3, none⟩ (.int .i64 ads)) k size slide ⟨rk, rt, rv⟩ (.slice (some ⟨g, 0, none⟩) l4.length cap3) l3 (.slice (some ⟨nb, no, none⟩) sps.length sc) sps) := HP5.out.grown (grownBy_set w5 g _ _) (by rw [HSU2.out]; exact HSET.out w5 (b6.block g HGL.out) ads)
     have cg5 := (b6.cell (p := ⟨g, i4 * 4 + 3, none⟩) HGL.out).trans cg
     have fr5 : ∀ j, w5.frozen? ⟨g, j, none⟩ = false := fun j => by obtain ⟨g', eg, _, _, _, fr, _⟩ := HP5.out.row.set3 HP4.out; cases eg; exact fr j
     refine hK.out _ _ (by obtain ⟨_, _, z2⟩ := HP5.out.br.cells3; exact z2) (fun hH => ?_)
     clear hK K b5 b6
     (try simp only [nm])
     refine tkA 11 hH ?_; simp only [nm]; refine tkA 12 hH ?_; simp only [nm]
     refine tkO 13 fun K hK => ?_
     go_simp
     refine hK.out _ _ (by obtain ⟨_, _, z2⟩ := HP6.out.br.cells3; exact z2) (fun hH => ?_)
     clear hK K
     refine wpAnyM_done (by kernel_rfl) ?_ _
     go_wp2_with fail
     go_roundg go
     case rel => exact ⟨i + 1, l3, by go_num, by omega, by omega, by have := HST.out; omega, HP6, HF2⟩
     case measure => omega
  ·have bt : ¬ (i : Int) < (sps.length : Int) := by omega
   have hRE : l2 = R := by have h1 := HF.out; rw [drop_end hlt] at h1; exact h1
   subst hRE
   have HSO := hide (Sort_any (HP.out.row.seg Pn.cs_len (by omega)) (by omega))
   clear HF HFL
   go_wp2_with (go_at_call 98; refine HSO.out.mono ?_; rintro e w6 ⟨u, rfl, o6, b6⟩)
   go_ret
   exact ⟨_, rfl, o6.mono HP.out.bel.size, HP.out.bel.trans (b6.mono HP.out.bel.size)⟩
end Go.Proofs.YtpcbhcdpegbfjaaGreat.V
/-
 A window's operator that has nothing aside, as it lies; what its calls do.
-/
namespace Go.Proofs.YtpcbhcdpegbfjaaGreat
set_option maxHeartbeats 16000000
set_option maxRecDepth 100000
open Go.RowKit
theorem wp_at {c : Code} {Q : Exit → Act → World → Prop} {a : Act} {w : World} (P : World → Prop) (h : P w) (k : ∀ W, P W → c.wp Tryz.prog Q a W) : c.wp Tryz.prog Q a w := k w h
structure OW (W : World) (O K s : Nat) (k size slide a : Int) (fp : Nat → Prop) (M : List Pn) (g d : Int) : Prop where
 ob : BoxT 68 W O #[.iface 100 (.pointer (some ⟨K, 0, none⟩))]
 kb : BoxT 102 W K #[.pointer (some ⟨s, 0, none⟩), .slice none 0 0, .int .i64 g, .int .i64 d, .int .i64 k, .int .i64 size, .int .i64 slide, .int .i64 a]
 sa : SA W s k size slide a fp M
 no : ¬ fp O
 nk : ¬ fp K
theorem m_late (W : World) (K : Nat) : (method 317 100 (.pointer (some ⟨K, 0, none⟩)) "leat/ops.late").run Tryz.prog W = .ok (88, .pointer (some ⟨K, 0, none⟩)) W := by kernel_rfl
theorem Late_any {W : World} {O K s : Nat} {k size slide a : Int} {fp : Nat → Prop} {M : List Pn} {g d : Int} (h : OW W O K s k size slide a fp M g d) : Calls Tryz.prog 20 #[.pointer (some ⟨O, 0, none⟩)] W fun e w' => e = .returned (.int .i64 d) ∧ w' = W := by
 have c0 : W.cell? ⟨O, 0, none⟩ = some (.iface 100 (.pointer (some ⟨K, 0, none⟩))) := h.ob.cellAt 0
 have hm := m_late W K
 have c3 : W.cell? ⟨K, 3, none⟩ = some (.int .i64 d) := h.kb.cellAt 3
 have H88 : Calls Tryz.prog 88 #[.pointer (some ⟨K, 0, none⟩)] W fun e w' => e = .returned (.int .i64 d) ∧ w' = W := by
  go_enter Tryz.func88, Tryz.ntmps88
  go_wp2_with fail
  go_ret
  exact ⟨rfl, rfl⟩
 have H88h := hide H88
 clear H88 h
 go_enter Tryz.func20, Tryz.ntmps20
 go_wp2_with (go_at_call 88; refine H88h.out.mono ?_; rintro e w1 ⟨rfl, e1⟩; subst e1)
 go_ret
 exact ⟨rfl, rfl⟩
def FO (O K : Nat) (fp : Nat → Prop) (i : Nat) : Prop := i = O ∨ i = K ∨ fp i
section
variable {W W' : World} {O K s : Nat} {k size slide a : Int} {fp fp' : Nat → Prop} {M M' : List Pn} {g d : Int}
theorem BoxT.back {t : TypeId} {w w' : World} {k : Nat} {cs : Array Value} (h : BoxT t w k cs) (hb : w'.heap[k]? = w.heap[k]?) : BoxT t w' k cs := by
 unfold BoxT at *
 rw [hb]; exact h
theorem BoxT.ne {t t' : TypeId} {w : World} {k k' : Nat} {cs cs' : Array Value} (h : BoxT t w k cs) (h' : BoxT t' w k' cs') (ht : t ≠ t') : k ≠ k' := fun e => by
 subst e
 unfold BoxT at h h'
 rw [h] at h'
 simp at h'
 exact ht h'.2
theorem OW.nok (h : OW W O K s k size slide a fp M g d) : O ≠ K := BoxT.ne (t := 68) (t' := 102) h.ob h.kb (by decide)
theorem OW.turn (h : OW W O K s k size slide a fp M g d) (hs : SA W' s k size slide a fp' M') (hf : FT fp fp' W W') : OW W' O K s k size slide a fp' M' g d := by
 have lo := h.ob.lt
 have lk := h.kb.lt
 refine ⟨h.ob.back (hf.block O lo h.no), h.kb.back (hf.block K lk h.nk), hs, fun e => ?_, fun e => ?_⟩
 ·rcases hf.sub O e with e2 | e2
  ·exact h.no e2
  ·omega
 ·rcases hf.sub K e with e2 | e2
  ·exact h.nk e2
  ·omega
theorem OW.below (h : OW W O K s k size slide a fp M g d) (hb : Below W.heap.size W W') : OW W' O K s k size slide a fp M g d :=
 ⟨h.ob.below hb, h.kb.below hb, h.sa.below hb, h.no, h.nk⟩
theorem FT.fo (h : FT fp fp' W W') : FT (FO O K fp) (FO O K fp') W W' :=
 ⟨h.os, h.tape, h.output, h.size, fun i hi hn => h.block i hi (fun e => hn (.inr (.inr e))), fun i hi => by
  rcases hi with rfl | rfl | hi
  ·exact .inl (.inl rfl)
  ·exact .inl (.inr (.inl rfl))
  ·rcases h.sub i hi with e | e
   ·exact .inl (.inr (.inr e))
   ·exact .inr e⟩
theorem FT.setK (W : World) (O K : Nat) (fp : Nat → Prop) (j : Nat) (v : Value) : FT (FO O K fp) (FO O K fp) W (W.setCell ⟨K, j, none⟩ v) :=
 ⟨rfl, rfl, rfl, by simp, fun i _ hn => Below.heap_setCell W ⟨K, j, none⟩ _ i (fun e => hn (.inr (.inl e))), fun _ h => .inl h⟩
theorem OW.setG (h : OW W O K s k size slide a fp M g d) (m : Int) : OW (W.setCell ⟨K, 2, none⟩ (.int .i64 m)) O K s k size slide a fp M m d := by
 refine ⟨h.ob.back (Below.heap_setCell W ⟨K, 2, none⟩ _ O h.nok), ?_, h.sa.back (fun i hi => Below.heap_setCell W ⟨K, 2, none⟩ _ i (fun e => h.nk (by have e2 : i = K := e; rw [← e2]; exact hi))) (by simp), h.no, h.nk⟩
 have h1 := BoxT.set (t := 102) h.kb 2 (.int .i64 m)
 simpa using h1
theorem OW.setD (h : OW W O K s k size slide a fp M g d) (m : Int) : OW (W.setCell ⟨K, 3, none⟩ (.int .i64 m)) O K s k size slide a fp M g m := by
 refine ⟨h.ob.back (Below.heap_setCell W ⟨K, 3, none⟩ _ O h.nok), ?_, h.sa.back (fun i hi => Below.heap_setCell W ⟨K, 3, none⟩ _ i (fun e => h.nk (by have e2 : i = K := e; rw [← e2]; exact hi))) (by simp), h.no, h.nk⟩
 have h1 := BoxT.set (t := 102) h.kb 3 (.int .i64 m)
 simpa using h1
end
theorem fire_ok {W : World} {s : Nat} {k size slide a : Int} {fp : Nat → Prop} {M : List Pn} (h : SA W s k size slide a fp M) (mk : Int) (hk : k ≠ 0) (hM : M.length ≤ 90000) :
  Calls Tryz.prog 95 #[.pointer (some ⟨s, 0, none⟩), .int .i64 mk] W fun e w' => ∃ u fp', e = .returned u ∧ OwnL 38 3 Rc.cs W.heap.size w' u (outF mk (srt (M.filter (ovr mk)))) ∧ SA w' s k size slide a fp' (leftF mk M) ∧ FT fp fp' W w' := by
 obtain ⟨m, o, fq, R, hst, hf⟩ := h
 refine (Fire_win hst mk hk hM).mono ?_
 rintro e w' ⟨u, E, rfl, h1, h2, h3⟩
 exact ⟨u, FP s m fq, rfl, h1, ⟨m, o, fq, E, h2, fun _ => Iff.rfl⟩, h3.congr hf (fun _ => Iff.rfl)⟩
theorem m_mark (W : World) (K : Nat) : (method 317 100 (.pointer (some ⟨K, 0, none⟩)) "leat/ops.mark").run Tryz.prog W = .ok (90, .pointer (some ⟨K, 0, none⟩)) W := by kernel_rfl
def outM (g m : Int) (M : List Pn) : List Rc := if m ≤ g then [] else outF m (srt (M.filter (ovr m)))
def leftM (g m : Int) (M : List Pn) : List Pn := if m ≤ g then M else leftF m M
def MkPost (W : World) (O K s : Nat) (k size slide a : Int) (fp : Nat → Prop) (M : List Pn) (g d m : Int) (e : Ending) (w' : World) : Prop := ∃ u fp', e = .returned u ∧ OwnL 38 3 Rc.cs W.heap.size w' u (outM g m M) ∧ OW w' O K s k size slide a fp' (leftM g m M) (max g m) d ∧ FT (FO O K fp) (FO O K fp') W w'
theorem settle_nil {V : World} {K : Nat} (h : V.cell? ⟨K, 1, none⟩ = some (.slice none 0 0)) : Calls Tryz.prog 93 #[.pointer (some ⟨K, 0, none⟩)] V fun e w' => e = .returned (.tuple #[]) ∧ w' = V := by
 go_enter Tryz.func93, Tryz.ntmps93
 go_wp2_with fail
 exact bodyPost_ret (v := .tuple #[]) (by simp [results, Tryz.results93, go_sem]) rfl ⟨rfl, rfl⟩
theorem kmark_any {W : World} {O K s : Nat} {k size slide a : Int} {fp : Nat → Prop} {M : List Pn} {g d : Int} (h : OW W O K s k size slide a fp M g d) (m : Int) (hk : k ≠ 0) (hM : M.length ≤ 90000) : Calls Tryz.prog 90 #[.pointer (some ⟨K, 0, none⟩), .int .i64 m] W (MkPost W O K s k size slide a fp M g d m) := by
 have H := hide h
 have c2 : W.cell? ⟨K, 2, none⟩ = some (.int .i64 g) := h.kb.cellAt 2
 have fr := BoxT.free (t := 102) h.kb
 by_cases hm : m ≤ g
 ·clear h
  go_enter Tryz.func90, Tryz.ntmps90
  go_wp2_with fail
  go_ret
  unfold MkPost outM leftM
  rw [if_pos hm, if_pos hm, show max g m = g by omega]
  exact ⟨_, fp, rfl, OwnL.nil _ _ _ _ _, H.out, FT.refl _ _⟩
 ·have h2 := h.setG m
  have HG := hide h2
  have d1 : (W.setCell ⟨K, 2, none⟩ (.int .i64 m)).cell? ⟨K, 1, none⟩ = some (.slice none 0 0) := h2.kb.cellAt 1
  have d0 : (W.setCell ⟨K, 2, none⟩ (.int .i64 m)).cell? ⟨K, 0, none⟩ = some (.pointer (some ⟨s, 0, none⟩)) := h2.kb.cellAt 0
  have HS := hide (settle_nil d1)
  have HF := hide (fire_ok h2.sa m hk hM)
  clear h h2
  go_enter Tryz.func90, Tryz.ntmps90
  go_upto_region 4 with fail
  refine wp_at (fun V => V = W.setCell ⟨K, 2, none⟩ (.int .i64 m)) rfl ?_
  intro V hV
  rw [← hV] at HG d1 d0 HS HF
  have HV := hide hV
  clear hV c2 fr
  go_wp2_with (first
   | (go_at_call 93; refine HS.out.mono ?_; rintro e w1 ⟨rfl, e1⟩; have e2 := e1.symm; subst e2)
   | (go_at_call 95; refine HF.out.mono ?_; rintro e w2 ⟨u, fp', rfl, o2, s2, t2⟩; have O2 := hide o2; have S2 := hide s2; have T2 := hide t2; clear o2 s2 t2))
  go_ret
  unfold MkPost outM leftM
  rw [if_neg (by omega), if_neg (by omega), show max g m = m by omega]
  have hsz : V.heap.size = W.heap.size := by rw [HV.out]; simp
  refine ⟨u, fp', rfl, ?_, HG.out.turn S2.out T2.out, ?_⟩
  ·rw [← hsz]; exact O2.out
  ·have h1 := FT.setK W O K fp 2 (.int .i64 m)
   rw [← HV.out] at h1
   exact h1.trans T2.out.fo
theorem Mark_any {W : World} {O K s : Nat} {k size slide a : Int} {fp : Nat → Prop} {M : List Pn} {g d : Int} (h : OW W O K s k size slide a fp M g d) (m : Int) (hk : k ≠ 0) (hM : M.length ≤ 90000) : Calls Tryz.prog 16 #[.pointer (some ⟨O, 0, none⟩), .int .i64 m] W (MkPost W O K s k size slide a fp M g d m) := by
 have c0 : W.cell? ⟨O, 0, none⟩ = some (.iface 100 (.pointer (some ⟨K, 0, none⟩))) := h.ob.cellAt 0
 have hm := m_mark W K
 have HM := hide (kmark_any h m hk hM)
 clear h
 go_enter Tryz.func16, Tryz.ntmps16
 go_wp2_with (go_at_call 90; refine HM.out.mono ?_; rintro e w1 ⟨u, fp', rfl, p1, p2, p3⟩; have P1 := hide p1; have P2 := hide p2; have P3 := hide p3; clear p1 p2 p3)
 go_ret
 exact ⟨u, fp', rfl, P1.out, P2.out, P3.out⟩
def lateB (g : Int) (sp : Sp) : Bool := decide (wrap64 (sp.t - 1) ≤ g)
theorem ended_any {W : World} {O K s : Nat} {k size slide a : Int} {fp : Nat → Prop} {M : List Pn} {g d : Int} (h : OW W O K s k size slide a fp M g d) {v : Value} {ss : List Sp} (hs : LSeg 2 Sp.cs W.heap.size W v ss) (hn : ss.length ≤ 1000) :
  Calls Tryz.prog 164 #[.pointer (some ⟨K, 0, none⟩), v] W fun e w' => e = .returned (.int .i64 (ss.countP (lateB g) : Nat)) ∧ Below W.heap.size W w' := by
 obtain ⟨ao, cap, rfl⟩ := hs.shapeOf
 have H := hide h
 have HS := hide hs
 clear h hs
 go_enter Tryz.func164, Tryz.ntmps164
 go_wp2_with fail
 go_loopg [5, 7, 10] (ss.length + 1) (fun gh nv _ iv wr => ∃ i : Nat, iv = .int .i64 (i : Int) ∧ nv = .int .i64 ((ss.take i).countP (lateB g) : Nat) ∧ i ≤ ss.length ∧ ss.length + 1 ≤ gh + i ∧ Hid (Below W.heap.size W wr))
 case atStart => exact ⟨0, rfl, rfl, by omega, by omega, Below.refl _ _⟩
 case round =>
  obtain ⟨i, rfl, rfl, hi, hg, HD⟩ := hrel
  obtain ⟨go, rfl⟩ : ∃ go, gk = go + 1 := ⟨gk - 1, by omega⟩
  by_cases hlt : i < ss.length
  ·obtain ⟨x, hx⟩ := get_of_lt hlt
   have bt : (i : Int) < (ss.length : Int) := by omega
   obtain ⟨nb, no, rfl, _, e0, e1⟩ := (HS.out.below HD.out).span hx
   have hlx : ss[i] = x := by rw [List.getElem?_eq_getElem hlt] at hx; exact Option.some.inj hx
   have HC : Hid ((ss.take (i + 1)).countP (lateB g) = (ss.take i).countP (lateB g) + (if wrap64 (x.t - 1) ≤ g then 1 else 0)) := (show _ = _ by
    rw [List.take_succ_eq_append_getElem hlt, List.countP_append, hlx, List.countP_cons, List.countP_nil]
    unfold lateB
    by_cases h : wrap64 (x.t - 1) ≤ g <;> simp [h])
   have hcl : (ss.take i).countP (lateB g) ≤ 1000 := Nat.le_trans List.countP_le_length (by rw [List.length_take]; omega)
   obtain ⟨xf, xt⟩ := x
   simp only at e0 e1 HC
   clear hx hlx
   generalize (ss.take i).countP (lateB g) = cn at *
   have HB2 := hide (HD.out.trans ((below_box wr (.cells #[.int .i64 xf, .int .i64 xt] 72)).mono HD.out.size))
   have HXB := hide (BoxT.new 72 wr #[.int .i64 xf, .int .i64 xt])
   have ck : ∀ n, ((wr.alloc (.cells #[.int .i64 xf, .int .i64 xt] 72)).drewN n).cell? ⟨K, 2, none⟩ = some (.int .i64 g) := fun n => ((H.out.kb.below HB2.out).cellAt 2)
   by_cases hg2 : wrap64 (xt - 1) ≤ g
   ·rw [if_pos hg2] at HC
    go_wp2_with fail
    go_quiet (fail)
    go_wp2_with fail
    go_roundg go
    case rel => exact ⟨i + 1, by go_num, by rw [HC.out]; go_num, by omega, by omega, below_drewN HB2.out _⟩
    case measure => omega
   ·rw [if_neg hg2] at HC
    go_wp2_with fail
    go_quiet (fail)
    go_wp2_with fail
    go_roundg go
    case rel => exact ⟨i + 1, by go_num, by rw [HC.out, Nat.add_zero], by omega, by omega, below_drewN HB2.out _⟩
    case measure => omega
  ·have bt : ¬ (i : Int) < (ss.length : Int) := by omega
   have hcn : (ss.take i).countP (lateB g) = ss.countP (lateB g) := by rw [List.take_of_length_le (by omega)]
   generalize (ss.take i).countP (lateB g) = cn at *
   have HCN := hide hcn
   clear hcn
   go_wp2_with fail
   go_ret
   refine ⟨?_, HD.out⟩
   rw [← HCN.out]; rfl
def RwPost (W : World) (O K s : Nat) (k size slide a : Int) (fp : Nat → Prop) (M : List Pn) (g d : Int) (r : Rc) (e : Ending) (w' : World) : Prop := e = .returned (.slice none 0 0) ∧ ∃ fp' M' d', OW w' O K s k size slide a fp' M' g d' ∧ FT (FO O K fp) (FO O K fp') W w' ∧ ((Comes (sess k) (jn a) (frS k size slide a r ++ M) M' ∧ d' = d ∧ ∀ sp ∈ pSpans k size slide r.t, lateB g sp = false) ∨ (M' = M ∧ d' = wrap64 (d + 1) ∧ pSpans k size slide r.t ≠ [] ∧ ∀ sp ∈ pSpans k size slide r.t, lateB g sp = true))
theorem wrecord_any {W : World} {O K s : Nat} {k size slide a : Int} {fp : Nat → Prop} {M : List Pn} {g d : Int} (h : OW W O K s k size slide a fp M g d) (hw : FitW k size slide) (ha : 1 ≤ a ∧ a ≤ 5) (hs : In64 size) (hsl : In64 slide) (rk rt rv : Int) (hrk : In64 rk) (hrv : In64 rv) (ht : TimeOk rt) (hM : M.length ≤ 90000) (hap : Apart (sess k) M)
  (hc : (∀ sp ∈ pSpans k size slide rt, lateB g sp = false) ∨ (∀ sp ∈ pSpans k size slide rt, lateB g sp = true)) :
  Calls Tryz.prog 163 #[.pointer (some ⟨K, 0, none⟩), .agg #[.int .i64 rk, .int .i64 rt, .int .i64 rv]] W (RwPost W O K s k size slide a fp M g d ⟨rk, rt, rv⟩) := by
 have hk0 : k ≠ 0 := by have := hw.1; omega
 have hfs : FitS k size slide a := ⟨ha.1, ha.2, .inr hw⟩
 have hb1 := below_box W (.cells #[.int .i64 rk, .int .i64 rt, .int .i64 rv] 38)
 have HB1 := hide hb1
 have HX1 := hide (BoxT.new 38 W #[.int .i64 rk, .int .i64 rt, .int .i64 rv])
 have H1 := hide (h.below hb1)
 have HSPN := hide (fun w' => Spans_any w' k rt hs hsl)
 have hlen := pSpans_len k size slide rt
 have HPU := hide (fun (w' : World) (fp' : Nat → Prop) (M' : List Pn) (h' : SA w' s k size slide a fp' M') (hl : M'.length ≤ 90000) (ha : Apart (sess k) M') => Put_any h' hs hsl ⟨rk, rt, rv⟩ hrk hrv (sps_fit hfs ht) hl ha)
 have HFR : Hid (frS k size slide a ⟨rk, rt, rv⟩ = (pSpans k size slide rt).map fun sp => (⟨rk, sp.f, sp.t, ad a (zr a) rv⟩ : Pn)) := (show _ = _ by unfold frS sps; rw [if_neg hk0])
 have HAP := hide hap
 have HC := hide hc
 have HML := hide hM
 have HW0 := hide h
 unfold RwPost
 generalize frS k size slide a ⟨rk, rt, rv⟩ = FR at *
 simp only
 generalize pSpans k size slide rt = ss at *
 clear h hb1 hap hc hM hw ht hrk hrv hs hsl hk0 hfs
 go_enter Tryz.func163, Tryz.ntmps163
 go_upto_region 1 with fail
 refine wp_at (fun V => V = W.alloc (.cells #[.int .i64 rk, .int .i64 rt, .int .i64 rv] 38)) rfl ?_
 intro V hV
 rw [← hV] at HB1 HX1 H1
 obtain ⟨xb, hxb⟩ : ∃ xb, xb = W.heap.size := ⟨_, rfl⟩
 rw [← hxb] at HX1 ⊢
 have HXE := hide hxb
 clear hV hxb
 have BD : Hid (Below V.heap.size V V.drew) := (Below.refl _ _).drew
 have HD := hide (H1.out.below BD.out)
 have XD := hide (HX1.out.below BD.out)
 have y4 : V.drew.cell? ⟨K, 4, none⟩ = some (.int .i64 k) := HD.out.kb.cellAt 4
 have y5 : V.drew.cell? ⟨K, 5, none⟩ = some (.int .i64 size) := HD.out.kb.cellAt 5
 have y6 : V.drew.cell? ⟨K, 6, none⟩ = some (.int .i64 slide) := HD.out.kb.cellAt 6
 have y1 : V.drew.cell? ⟨xb, 1, none⟩ = some (.int .i64 rt) := XD.out.cellAt 1
 go_region_held3 (fun w' => w'.cell? ⟨K, 4, none⟩ = some (.int .i64 k) ∧ w'.cell? ⟨K, 5, none⟩ = some (.int .i64 size) ∧ w'.cell? ⟨K, 6, none⟩ = some (.int .i64 slide) ∧ w'.cell? ⟨xb, 1, none⟩ = some (.int .i64 rt)) (first | go_keep | exact ⟨y4, y5, y6, y1⟩ | exact ⟨z4, z5, z6, z1⟩)
  (first | (go_at_call 119; refine (HSPN.out _).mono ?_; rintro e w2 ⟨u, rfl, o2, b2⟩; have H2 := hide (HD.out.below b2); have X2 := hide (XD.out.below b2); have O2 := hide (o2.seg Sp.cs_len (by omega)); have B2 := hide (HB1.out.drew.trans (b2.mono HB1.out.size)); have z4 : w2.cell? ⟨K, 4, none⟩ = some (.int .i64 k) := H2.out.kb.cellAt 4; have z5 : w2.cell? ⟨K, 5, none⟩ = some (.int .i64 size) := H2.out.kb.cellAt 5; have z6 : w2.cell? ⟨K, 6, none⟩ = some (.int .i64 slide) := H2.out.kb.cellAt 6; have z1 : w2.cell? ⟨xb, 1, none⟩ = some (.int .i64 rt) := X2.out.cellAt 1; clear o2 b2) | fail)
 obtain ⟨ua, uc, rfl⟩ := O2.out.shapeOf
 have HEN := hide (ended_any H2.out O2.out (by omega))
 by_cases hnil : ss = []
 ·subst hnil
  go_wp2_with (go_at_call 164; refine HEN.out.mono ?_; rintro e w3 ⟨rfl, b3⟩; have H3 := hide (H2.out.below b3); have B3 := hide (B2.out.trans (b3.mono (Nat.le_trans (Nat.le_of_eq HXE.out.symm) (Nat.le_of_lt X2.out.lt)))); clear b3)
  go_ret
  refine ⟨rfl, fp, M, d, H3.out, FT.of_below B3.out, .inl ⟨?_, rfl, fun sp h => by cases h⟩⟩
  rw [HFR.out]
  exact Comes.refl HAP.out
 have hpos : 0 < ss.length := List.length_pos_iff.2 hnil
 have HNL := hide hnil
 clear hnil
 rcases HC.out with hput | hall
 ·have HPT := hide hput
  have hcnt0 : ss.countP (lateB g) = 0 := List.countP_eq_zero.2 (fun x hx => by rw [hput x hx]; decide)
  rw [hcnt0] at HEN
  have hne0 : (((ss.length : Nat) : Int) == 0) = false := by rw [beq_eq_false_iff_ne]; omega
  have hne1 : ((0 : Int) == ((ss.length : Nat) : Int)) = false := by rw [beq_eq_false_iff_ne]; omega
  clear hcnt0 hput
  go_upto_region 8 with (go_at_call 164; refine HEN.out.mono ?_; rintro e w3 ⟨rfl, b3⟩; have H3 := hide (H2.out.below b3); have X3 := hide (X2.out.below b3); have B3 := hide (B2.out.trans (b3.mono (Nat.le_trans (Nat.le_of_eq HXE.out.symm) (Nat.le_of_lt X2.out.lt)))); clear b3)
  have BD3 : Hid (Below w3.heap.size w3 w3.drew) := (Below.refl _ _).drew
  have H4 := hide (H3.out.below BD3.out)
  have X4 := hide (X3.out.below BD3.out)
  have B4 := hide (B3.out.drew)
  clear y4 y5 y6 y1 z4 z5 z6 z1
  have y0 : w3.drew.cell? ⟨K, 0, none⟩ = some (.pointer (some ⟨s, 0, none⟩)) := H4.out.kb.cellAt 0
  obtain ⟨r0, r1, r2⟩ := X4.out.cells3
  have HP := hide (HPU.out w3.drew fp M H4.out.sa HML.out HAP.out)
  go_region_held3 (fun w' => w'.cell? ⟨K, 0, none⟩ = some (.pointer (some ⟨s, 0, none⟩)) ∧ w'.cell? ⟨xb, 0, none⟩ = some (.int .i64 rk) ∧ w'.cell? ⟨xb, 1, none⟩ = some (.int .i64 rt) ∧ w'.cell? ⟨xb, 2, none⟩ = some (.int .i64 rv)) (first | go_keep | exact ⟨y0, r0, r1, r2⟩ | exact ⟨q0, q1, q2, q3⟩)
   (first | (go_at_call 97; refine HP.out.mono ?_; rintro e w5 ⟨rfl, fp5, M5, s5, t5, c5⟩; have H5 := hide (H4.out.turn s5 t5); have T5 := hide ((FT.of_below (fp := FO O K fp) B4.out).trans (t5.fo (O := O) (K := K))); have C5 := hide c5; have q0 : w5.cell? ⟨K, 0, none⟩ = some (.pointer (some ⟨s, 0, none⟩)) := H5.out.kb.cellAt 0; have x5 := X4.out.back (t5.block xb X4.out.lt (fun e => by have := HW0.out.sa.flt xb e; have := HXE.out; omega)); obtain ⟨q1, q2, q3⟩ := BoxT.cells3 (t := 38) x5; clear s5 t5 c5 x5) | fail)
  go_wp2_with fail
  go_ret
  exact ⟨rfl, fp5, M5, d, H5.out, T5.out, .inl ⟨C5.out, rfl, HPT.out⟩⟩
 ·have hcntA : ss.countP (lateB g) = ss.length := List.countP_eq_length.2 hall
  rw [hcntA] at HEN
  have HAL := hide hall
  have hne0 : (((ss.length : Nat) : Int) == 0) = false := by rw [beq_eq_false_iff_ne]; omega
  clear hcntA hall y4 y5 y6 y1 z4 z5 z6 z1
  go_upto_region 6 with (go_at_call 164; refine HEN.out.mono ?_; rintro e w3 ⟨rfl, b3⟩; have H3 := hide (H2.out.below b3); have B3 := hide (B2.out.trans (b3.mono (Nat.le_trans (Nat.le_of_eq HXE.out.symm) (Nat.le_of_lt X2.out.lt)))); clear b3)
  have q3 : w3.cell? ⟨K, 3, none⟩ = some (.int .i64 d) := H3.out.kb.cellAt 3
  have fr := BoxT.free (t := 102) H3.out.kb
  go_wp2_with fail
  go_ret
  exact ⟨rfl, fp, M, _, H3.out.setD (wrap64 (d + 1)), (FT.of_below B3.out).trans (FT.setK _ O K fp 3 _), .inr ⟨rfl, rfl, HNL.out, HAL.out⟩⟩
theorem m_record (W : World) (K : Nat) : (method 317 100 (.pointer (some ⟨K, 0, none⟩)) "leat/ops.record").run Tryz.prog W = .ok (163, .pointer (some ⟨K, 0, none⟩)) W := by kernel_rfl
theorem Record_any {W : World} {O K s : Nat} {k size slide a : Int} {fp : Nat → Prop} {M : List Pn} {g d : Int} (h : OW W O K s k size slide a fp M g d) (hw : FitW k size slide) (ha : 1 ≤ a ∧ a ≤ 5) (hs : In64 size) (hsl : In64 slide) (rk rt rv : Int) (hrk : In64 rk) (hrv : In64 rv) (ht : TimeOk rt) (hM : M.length ≤ 90000) (hap : Apart (sess k) M)
  (hc : (∀ sp ∈ pSpans k size slide rt, lateB g sp = false) ∨ (∀ sp ∈ pSpans k size slide rt, lateB g sp = true)) :
  Calls Tryz.prog 14 #[.pointer (some ⟨O, 0, none⟩), .agg #[.int .i64 rk, .int .i64 rt, .int .i64 rv]] W (RwPost W O K s k size slide a fp M g d ⟨rk, rt, rv⟩) := by
 have hb1 := below_box W (.cells #[.int .i64 rk, .int .i64 rt, .int .i64 rv] 38)
 obtain ⟨V, hV⟩ : ∃ V, V = W.alloc (.cells #[.int .i64 rk, .int .i64 rt, .int .i64 rv] 38) := ⟨_, rfl⟩
 have hx : BoxT 38 V W.heap.size #[.int .i64 rk, .int .i64 rt, .int .i64 rv] := by rw [hV]; exact BoxT.new 38 W _
 rw [← hV] at hb1
 have hd : Below W.heap.size W V.drew := hb1.drew
 have HB := hide hd
 have h2 := h.below hd
 have HR := hide (wrecord_any h2 hw ha hs hsl rk rt rv hrk hrv ht hM hap hc)
 have y0 : V.drew.cell? ⟨O, 0, none⟩ = some (.iface 100 (.pointer (some ⟨K, 0, none⟩))) := h2.ob.cellAt 0
 obtain ⟨y1, y2, y3⟩ := (hx.below (show Below V.heap.size V V.drew from (Below.refl _ _).drew)).cells3
 have hm := m_record V.drew K
 have HXD := hide (hx.below (show Below V.heap.size V V.drew from (Below.refl _ _).drew))
 have HN : Hid (¬ FO O K fp W.heap.size) := (show ¬ _ from fun e => by
  rcases e with e | e | e
  ·have := h.ob.lt; omega
  ·have := h.kb.lt; omega
  ·have := h.sa.flt _ e; omega)
 have HV := hide hV
 clear h h2 hb1 hx hd hV hc hap hw ht
 go_enter Tryz.func14, Tryz.ntmps14
 go_upto_region 1 with fail
 refine wp_at (fun V' => V' = V) HV.out.symm ?_
 rintro V' rfl
 clear HV
 go_region_held3 (fun w' => w'.cell? ⟨O, 0, none⟩ = some (.iface 100 (.pointer (some ⟨K, 0, none⟩))) ∧ w'.cell? ⟨W.heap.size, 0, none⟩ = some (.int .i64 rk) ∧ w'.cell? ⟨W.heap.size, 1, none⟩ = some (.int .i64 rt) ∧ w'.cell? ⟨W.heap.size, 2, none⟩ = some (.int .i64 rv)) (first | go_keep | exact ⟨y0, y1, y2, y3⟩ | exact ⟨z0, z1, z2, z3⟩)
  (first | (go_at_call 163; refine HR.out.mono ?_; rintro e w2 ⟨rfl, fp2, M2, d2, o2, t2, c2⟩; have O2 := hide o2; have T2 := hide t2; have C2 := hide c2; have z0 : w2.cell? ⟨O, 0, none⟩ = some (.iface 100 (.pointer (some ⟨K, 0, none⟩))) := o2.ob.cellAt 0; obtain ⟨z1, z2, z3⟩ := BoxT.cells3 (t := 38) (HXD.out.back (t2.block _ HXD.out.lt HN.out)); clear o2 t2 c2) | fail)
 go_wp2_with fail
 go_ret
 exact ⟨rfl, fp2, M2, d2, O2.out, (FT.of_below (fp := FO O K fp) HB.out).trans T2.out, C2.out⟩
end Go.Proofs.YtpcbhcdpegbfjaaGreat
/-
 lay and open.
-/
namespace Go.Proofs.YtpcbhcdpegbfjaaGreat
set_option maxHeartbeats 16000000
set_option maxRecDepth 100000
open Go.RowKit
section
variable {W W' : World} {K tK s : Nat} {rest : List Value} {kd size slide a : Int} {fp fp' : Nat → Prop} {M M' A : List Pn} {av : Value} {g d : Int}
theorem KA.app (h : KA W K tK rest s kd size slide a fp M A av g d) {w1 : World} {v1 : Value} {L : List Pn} (r1 : Row 79 4 Pn.cs 0 w1 v1 (A ++ L)) (g1 : W.grownBy w1 av.ownBlock) (q1 : ∀ q, v1.ownBlock = some q → av.ownBlock = some q ∨ W.heap.size ≤ q) (hL : L ≠ []) (ho : ∀ x ∈ L, PnOk x ∧ (kd = 3 → x.f < x.t)) :
  BoxT tK w1 K (Value.pointer (some ⟨s, 0, none⟩) :: av :: .int .i64 g :: .int .i64 d :: rest).toArray ∧ KA (w1.setCell ⟨K, 1, none⟩ v1) K tK rest s kd size slide a fp M (A ++ L) v1 g d ∧ FT (FK K av fp) (FK K v1 fp) W (w1.setCell ⟨K, 1, none⟩ v1) := by
 have hk := h.kb.lt
 have hbl : ∀ i, i < W.heap.size → av.ownBlock ≠ some i → w1.heap[i]? = W.heap[i]? := fun i hi hn => g1.block i hi (fun e => hn e.symm)
 have hkb : BoxT tK w1 K (Value.pointer (some ⟨s, 0, none⟩) :: av :: .int .i64 g :: .int .i64 d :: rest).toArray := h.kb.back' (hbl K hk (fun e => h.nq K e rfl))
 have hsa : SA w1 s kd size slide a fp M := h.sa.back (fun i hi => hbl i (h.sa.flt i hi) (fun e => h.na i e hi)) g1.size
 have hnv : ∀ q, v1.ownBlock = some q → ¬ fp q := fun q e e2 => by
  rcases q1 q e with e3 | e3
  ·exact h.na q e3 e2
  ·have := h.sa.flt q e2; omega
 refine ⟨hkb, ⟨?_, h.tk, hsa.setK h.nk _ _, r1.back (fun q e => Below.heap_setCell w1 ⟨K, 1, none⟩ _ q (?_ : q ≠ K)), h.nk, hnv, fun x hx => ?_, fun e => ?_⟩, ?_⟩
 ·have h1 := BoxT.set hkb 1 v1
  simpa using h1
 ·rcases q1 q e with e3 | e3
  ·exact h.nq q e3
  ·omega
 ·rcases List.mem_append.1 hx with hx | hx
  ·exact h.ok x hx
  ·exact ho x hx
 ·exact absurd (List.append_eq_nil_iff.1 e).2 hL
 ·refine ⟨g1.os, g1.tape, g1.output, by simp; exact g1.size, fun i hi hn => ?_, fun i hi => ?_⟩
  ·rw [Below.heap_setCell w1 ⟨K, 1, none⟩ _ i (fun e => hn (.inl e))]
   exact hbl i hi (fun e => hn (.inr (.inl e)))
  ·rcases hi with e | e | e
   ·exact .inl (.inl e)
   ·rcases q1 i e with e3 | e3
    ·exact .inl (.inr (.inl e3))
    ·exact .inr e3
   ·exact .inl (.inr (.inr e))
end
def LyPost (W : World) (K tK : Nat) (rest : List Value) (s : Nat) (kd size slide a : Int) (fp : Nat → Prop) (M A L : List Pn) (av : Value) (g d : Int) (e : Ending) (w' : World) : Prop :=
 e = .returned (.tuple #[]) ∧ ∃ fp' M' A' av', KA w' K tK rest s kd size slide a fp' M' A' av' g d ∧ FT (FK K av fp) (FK K av' fp') W w' ∧ ((M' = M ∧ A' = A ++ L) ∨ (A' = [] ∧ Comes (sess kd) (jn a) (srt M ++ (A ++ L)) M'))
theorem klay_any {W : World} {K tK s : Nat} {rest : List Value} {kd size slide a : Int} {fp : Nat → Prop} {M A L : List Pn} {av v : Value} {g d : Int} (h : KA W K tK rest s kd size slide a fp M A av g d) (hl : LSeg 4 Pn.cs W.heap.size W v L) (hL : L ≠ []) (ho : ∀ x ∈ L, PnOk x ∧ (kd = 3 → x.f < x.t)) (hn : M.length + (A.length + L.length) ≤ 90000) (hM : kd = 3 → ∀ x ∈ M, x.f < x.t) :
  Calls Tryz.prog 165 #[.pointer (some ⟨K, 0, none⟩), v] W (LyPost W K tK rest s kd size slide a fp M A L av g d) := by
 have c1 := h.c1
 have H := hide h
 have HS := hide hl
 have HL := hide hL
 have HO := hide ho
 have HNN := hide hn
 have HM := hide hM
 clear h hl hL ho hn hM
 go_enter Tryz.func165, Tryz.ntmps165
 go_wp2_with (first | (at_builtin; refine app_rowS rfl _ _ rfl 0 av A rfl H.out.row _ v L rfl HS.out (by have := HNN.out; omega) (Nat.zero_le _) ?_; intro v1 w1 r1 g1 q1; obtain ⟨va, vc, hv1⟩ := r1.shape; rw [List.length_append] at hv1; subst hv1; have HAP := hide (H.out.app r1 g1 q1 HL.out HO.out); have k1 := HAP.out.1.cellAt 1; have fr := HAP.out.1.free; simp only [List.getElem?_toArray, List.getElem?_cons_succ, List.getElem?_cons_zero] at k1; clear r1 g1 q1))
 have HK1 := hide HAP.out.2.1
 have HT1 := hide HAP.out.2.2
 clear HAP k1 fr c1 HS H
 generalize w1.setCell ⟨K, 1, none⟩ (.slice va (A.length + L.length) vc) = V at *
 have hd : Below V.heap.size V V.drew := (Below.refl _ _).drew
 have HD := hide (HK1.out.below hd)
 have HTD := hide (HT1.out.drew)
 have y0 := HD.out.c0
 have y1 := HD.out.c1
 have HLE := hide (Len_any HD.out.sa)
 have HST := hide (settle_any HD.out (by have := HNN.out; rw [List.length_append]; omega) HM.out)
 clear hd
 generalize hAL : A.length + L.length = al at *
 clear hAL
 by_cases hgt : M.length < al
 ·have bg : (M.length : Int) < (al : Int) := by omega
  go_region_held3 (fun w' => w'.cell? ⟨K, 0, none⟩ = some (.pointer (some ⟨s, 0, none⟩)) ∧ w'.cell? ⟨K, 1, none⟩ = some (.slice va al vc)) (first | go_keep | exact ⟨y0, y1⟩)
   (first | (go_at_call 162; refine HLE.out.mono ?_; rintro e w5 ⟨rfl, e5⟩; have e6 := e5.symm; subst e6) | fail)
  go_wp2_with (go_at_call 93; refine HST.out.mono ?_; rintro e w6 ⟨rfl, fp6, M6, k6, t6, c6⟩; have K6 := hide k6; have T6 := hide t6; have C6 := hide c6; clear k6 t6 c6)
  refine bodyPost_ret (v := .tuple #[]) (by simp [results, Tryz.results165, go_sem]) rfl ⟨rfl, fp6, M6, [], _, K6.out, HTD.out.trans T6.out, .inr ⟨rfl, ?_⟩⟩
  rcases C6.out with ⟨e, _⟩ | c
  ·exact absurd (List.append_eq_nil_iff.1 e).2 HL.out
  ·exact c
 ·have bg : ¬ (M.length : Int) < (al : Int) := by omega
  go_region_held3 (fun w' => w'.cell? ⟨K, 0, none⟩ = some (.pointer (some ⟨s, 0, none⟩)) ∧ w'.cell? ⟨K, 1, none⟩ = some (.slice va al vc)) (first | go_keep | exact ⟨y0, y1⟩)
   (first | (go_at_call 162; refine HLE.out.mono ?_; rintro e w5 ⟨rfl, e5⟩; have e6 := e5.symm; subst e6) | fail)
  go_wp2_with fail
  exact bodyPost_ret (v := .tuple #[]) (by simp [results, Tryz.results165, go_sem]) rfl ⟨rfl, fp, M, A ++ L, _, HD.out, HTD.out, .inl ⟨rfl, rfl⟩⟩
def wRest (k size slide a : Int) : List Value := [.int .i64 k, .int .i64 size, .int .i64 slide, .int .i64 a]
theorem KA.own {W : World} {K s : Nat} {k size slide a : Int} {fp : Nat → Prop} {M A : List Pn} {av : Value} {g d : Int} (h : KA W K 102 (wRest k size slide a) s k size slide a fp M A av g d) : W.cell? ⟨K, 2, none⟩ = some (.int .i64 g) ∧ W.cell? ⟨K, 4, none⟩ = some (.int .i64 k) ∧ W.cell? ⟨K, 5, none⟩ = some (.int .i64 size) ∧ W.cell? ⟨K, 6, none⟩ = some (.int .i64 slide) ∧ W.cell? ⟨K, 7, none⟩ = some (.int .i64 a) :=
 ⟨h.kb.cellAt 2, h.kb.cellAt 4, h.kb.cellAt 5, h.kb.cellAt 6, h.kb.cellAt 7⟩
theorem open_any {W : World} {K s : Nat} {k size slide a : Int} {fp : Nat → Prop} {M A : List Pn} {av : Value} {g d : Int} (h : KA W K 102 (wRest k size slide a) s k size slide a fp M A av g d) (hs : In64 size) (hsl : In64 slide) (rk rt rv : Int) :
  Calls Tryz.prog 166 #[.pointer (some ⟨K, 0, none⟩), .agg #[.int .i64 rk, .int .i64 rt, .int .i64 rv]] W fun e w' => ∃ u, e = .returned u ∧ OwnL 79 4 Pn.cs W.heap.size w' u (leftF g (srt (V.pPut k size slide a [] ⟨rk, rt, rv⟩))) ∧ Below W.heap.size W w' := by
 have hb1 := below_box W (.cells #[.int .i64 rk, .int .i64 rt, .int .i64 rv] 38)
 obtain ⟨U, hV⟩ : ∃ U, U = W.alloc (.cells #[.int .i64 rk, .int .i64 rt, .int .i64 rv] 38) := ⟨_, rfl⟩
 have hx : BoxT 38 U W.heap.size #[.int .i64 rk, .int .i64 rt, .int .i64 rv] := by rw [hV]; exact BoxT.new 38 W _
 rw [← hV] at hb1
 have hd : Below U.heap.size U U.drew := (Below.refl _ _).drew
 have HB := hide (hb1.drew)
 have HD := hide (h.below hb1.drew)
 have XD := hide (hx.below hd)
 have HPU := hide (fun w' => V.Put_any (w := w') (LSeg.nil' 4 Pn.cs w'.heap.size w') (by simp) k hs hsl a ⟨rk, rt, rv⟩)
 have hpl := V.pPut_len k size slide a [] ⟨rk, rt, rv⟩
 simp only [Rc.val] at HPU
 obtain ⟨y2, y4, y5, y6, y7⟩ := HD.out.own
 obtain ⟨r0, r1, r2⟩ := XD.out.cells3
 have HPL := hide (show (V.pPut k size slide a [] ⟨rk, rt, rv⟩).length ≤ 64 by simpa using hpl)
 generalize V.pPut k size slide a [] ⟨rk, rt, rv⟩ = P at *
 have HV := hide hV
 clear h hb1 hx hd hV hpl
 go_enter Tryz.func166, Tryz.ntmps166
 go_upto_region 1 with fail
 refine wp_at (fun V' => V' = U) HV.out.symm ?_
 rintro V' rfl
 clear HV
 go_region_held3 (fun w' => (w'.cell? ⟨K, 2, none⟩ = some (.int .i64 g) ∧ w'.cell? ⟨K, 4, none⟩ = some (.int .i64 k) ∧ w'.cell? ⟨K, 5, none⟩ = some (.int .i64 size) ∧ w'.cell? ⟨K, 6, none⟩ = some (.int .i64 slide) ∧ w'.cell? ⟨K, 7, none⟩ = some (.int .i64 a)) ∧ w'.cell? ⟨W.heap.size, 0, none⟩ = some (.int .i64 rk) ∧ w'.cell? ⟨W.heap.size, 1, none⟩ = some (.int .i64 rt) ∧ w'.cell? ⟨W.heap.size, 2, none⟩ = some (.int .i64 rv)) (first | go_keep | exact ⟨⟨y2, y4, y5, y6, y7⟩, r0, r1, r2⟩ | exact ⟨⟨z2, z4, z5, z6, z7⟩, s0, s1, s2⟩ | exact ⟨⟨p2, p4, p5, p6, p7⟩, t0, t1, t2⟩)
  (first
  | (go_at_call 167; refine (HPU.out _).mono ?_; rintro e w2 ⟨u, rfl, o2, b2⟩; have B2 := hide (HB.out.trans (b2.mono HB.out.size)); have H2 := hide (HD.out.below b2); have X2 := hide (XD.out.below b2); obtain ⟨z2, z4, z5, z6, z7⟩ := H2.out.own; obtain ⟨s0, s1, s2⟩ := X2.out.cells3; have HFI := hide (Fire_any (o2.seg Pn.cs_len (by have := HPL.out; omega)) (by have := HPL.out; omega) g); clear o2 b2)
  | (go_at_call 106; refine HFI.out.mono ?_; rintro e w3 ⟨u1, u2, rfl, f1, f2, b3⟩; have B3 := hide (B2.out.trans (b3.mono B2.out.size)); have O3 := hide (f2.mono B2.out.size); obtain ⟨p2, p4, p5, p6, p7⟩ := (H2.out.below b3).own; obtain ⟨t0, t1, t2⟩ := (X2.out.below b3).cells3; clear f1 f2 b3)
  | fail)
 go_wp2_with fail
 go_ret
 exact ⟨u2, rfl, O3.out, B3.out⟩
end Go.Proofs.YtpcbhcdpegbfjaaGreat
