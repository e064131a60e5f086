/-
  withSession.
-/
import Derived.Test.YtlikikiglicdlaaWWith
namespace Go.Proofs.Ytlikikiglicdlaa
open Go.RowKit

theorem sess_spot (J : Int → Int → Int) (l : List Pn) (fr wh : Pn) (v : Int) (h : wholeOf J fr (pJoin J l) = wh) : (keepO wh l ++ [wh]).set (keepO wh l).length (withA wh (J wh.a v)) = pSess J l fr v := by
  unfold pSess keepO
  rw [h, List.set_append_right _ _ (Nat.le_refl _), Nat.sub_self]
  rfl
theorem whole_step (J : Int → Int → Int) (fr wh : Pn) {m : List Pn} {i : Nat} {x : Pn} (hx : m[i]? = some x) : (m.drop i).foldl (fun wh p => if ovb fr p = true then jp J wh p else wh) wh = (m.drop (i + 1)).foldl (fun wh p => if ovb fr p = true then jp J wh p else wh) (if ovb fr x = true then jp J wh x else wh) := by
  rw [drop_at hx]
  rfl
/-- What withSession has under way. -/
structure SI (w wr : World) (u : Value) (m : List Pn) (fr wh : Pn) : Prop where
  row : Row 46 4 Pn.cs (w.heap.size + 1 + 1) wr u m
  bf : BoxT 46 wr w.heap.size fr.cs.toArray
  bw : BoxT 46 wr (w.heap.size + 1) wh.cs.toArray
  bel : Below w.heap.size w wr
theorem SI.below {w wr w' : World} {u : Value} {m : List Pn} {fr wh : Pn} (h : SI w wr u m fr wh) (hb : Below wr.heap.size wr w') : SI w w' u m fr wh :=
  ⟨h.row.below hb, BoxT.below (t := 46) h.bf hb, BoxT.below (t := 46) h.bw hb, h.bel.trans (hb.mono h.bel.size)⟩
theorem SI.put {w wr : World} {u : Value} {m : List Pn} {fr wh : Pn} (h : SI w wr u m fr wh) (y : Pn) : SI w ((((wr.setCell ⟨w.heap.size + 1, 0, none⟩ (.int .i64 y.k)).setCell ⟨w.heap.size + 1, 1, none⟩ (.int .i64 y.f)).setCell ⟨w.heap.size + 1, 2, none⟩ (.int .i64 y.t)).setCell ⟨w.heap.size + 1, 3, none⟩ (.int .i64 y.a)) u m fr y := by
  refine ⟨h.row.back (fun g e => heap_four wr _ _ _ _ _ g (by have := h.row.at g e; omega)), ?_, BoxT.four h.bw _ _ _ _, below_four h.bel (by omega) _ _ _ _⟩
  have h1 := h.bf
  unfold BoxT at *
  rw [heap_four wr _ _ _ _ _ _ (by omega)]; exact h1
theorem SI.box_ {w wr : World} {u : Value} {m : List Pn} {fr wh : Pn} (h : SI w wr u m fr wh) (x : Pn) : SI w (wr.alloc (.cells #[.int .i64 x.k, .int .i64 x.f, .int .i64 x.t, .int .i64 x.a] 46)) u m fr wh := h.below (below_box wr _)
set_option maxHeartbeats 8000000 in
set_option maxRecDepth 100000 in
theorem withSession_any {w : World} {base : Nat} {v : Value} {l : List Pn} (ho : OwnL 46 4 Pn.cs base w v l) (hb : base ≤ w.heap.size) (hn : l.length ≤ 100000) (fr : Pn) (a : Int) :
    Calls Try.prog 31 #[.int .i64 a, v, fr.val] w fun e w' => Spot base w w' v e (fun v => pSess (jn a) l fr v) a l.length := by
  obtain ⟨ao, cap, rfl⟩ := ho.shape
  have hfr : Below w.heap.size w (w.alloc (.cells fr.cs.toArray 46)) := below_box w _
  have h2 := two2 w (.cells fr.cs.toArray 46) (.cells fr.cs.toArray 46)
  have HB2 := hide (below_box2 w (.cells fr.cs.toArray 46) (.cells fr.cs.toArray 46))
  have HF2 : Hid (BoxT 46 ((w.alloc (.cells fr.cs.toArray 46)).alloc (.cells fr.cs.toArray 46)) w.heap.size fr.cs.toArray) := h2.1
  have HW2 : Hid (BoxT 46 ((w.alloc (.cells fr.cs.toArray 46)).alloc (.cells fr.cs.toArray 46)) (w.heap.size + 1) fr.cs.toArray) := h2.2
  have HO := hide ho
  have HBB := hide hb
  have HJ := hide (Join_any ((ho.below HB2.out).seg Pn.cs_len (by omega)) hn a)
  have HPL := hide (pJoin_len (jn a) l)
  have HSP := hide (fun wh v h => sess_spot (jn a) l fr wh v h)
  have HWH : Hid (wholeOf (jn a) fr (pJoin (jn a) l) = (((pJoin (jn a) l).drop 0).foldl (fun wh p => if ovb fr p = true then jp (jn a) wh p else wh) fr)) := (show _ = _ by rw [List.drop_zero]; rfl)
  generalize wholeOf (jn a) fr (pJoin (jn a) l) = WH at *
  generalize pJoin (jn a) l = m at *
  clear ho hb h2 hfr
  have hml : m.length ≤ 100000 := Nat.le_trans HPL.out hn
  have HSP2 := hide (fun v => HSP.out WH v rfl)
  clear HSP
  obtain ⟨fk, ff, ft, fa⟩ := fr
  unfold Pn.val
  simp only [Pn.cs] at HB2 HJ
  go_enter Try.func31, Try.ntmps31
  go_wp2_with (go_at_call 23; refine HJ.out.mono ?_; rintro e w1 ⟨u, rfl, o1, b1⟩; have HSI : Hid (SI w w1 u m ⟨fk, ff, ft, fa⟩ ⟨fk, ff, ft, fa⟩) := ⟨by simpa using o1, BoxT.below (t := 46) HF2.out b1, BoxT.below (t := 46) HW2.out b1, HB2.out.trans (b1.mono HB2.out.size)⟩; obtain ⟨ua, uc, rfl⟩ := (o1.seg Pn.cs_len (by have := HPL.out; omega)).shapeOf; clear o1 b1)
  clear HJ HF2 HW2 HB2
  go_loopg [10, 16] (m.length + 1) (fun gh _ iv wr => ∃ (i : Nat) (wh : Pn), iv = .int .i64 (i : Int) ∧ i ≤ m.length ∧ m.length + 1 ≤ gh + i ∧ Hid (SI w wr (.slice ua m.length uc) m ⟨fk, ff, ft, fa⟩ wh) ∧ Hid (WH = (m.drop i).foldl (fun wh p => if ovb ⟨fk, ff, ft, fa⟩ p = true then jp (jn a) wh p else wh) wh))
  case atStart => exact ⟨0, _, rfl, by omega, by omega, HSI, HWH⟩
  case round =>
    clear HSI HWH
    obtain ⟨i, wh, rfl, hi, hg, HS, HW⟩ := hrel
    obtain ⟨go, rfl⟩ : ∃ go, gk = go + 1 := ⟨gk - 1, by omega⟩
    by_cases hlt : i < m.length
    · obtain ⟨y, hy⟩ := get_of_lt hlt
      have bt : (i : Int) < (m.length : Int) := by omega
      obtain ⟨nb, no, ee, _, e0, e1, e2, e3⟩ := (HS.out.row.seg Pn.cs_len (by have := HPL.out; omega)).pane hy
      subst ee
      have HW2 := HW.out
      rw [whole_step _ _ _ hy] at HW2
      have HSB := hide (HS.out.box_ y)
      have HYB : Hid (BoxT 46 (wr.alloc (.cells #[.int .i64 y.k, .int .i64 y.f, .int .i64 y.t, .int .i64 y.a] 46)) wr.heap.size y.cs.toArray) := BoxT.new 46 wr _
      obtain ⟨f0, f1, f2, f3⟩ := box4 HSB.out.bf
      obtain ⟨g0, g1, g2, g3⟩ := box4 HYB.out
      have HOV := hide (fun W => overlap_any W ⟨fk, ff, ft, fa⟩ y)
      have HP := hide (fun W => joined_any W a wh y)
      generalize ovb ⟨fk, ff, ft, fa⟩ y = ob at *
      clear hy HW
      obtain ⟨yk, yf, yt, ya⟩ := y
      obtain ⟨hk, hf, ht, ha⟩ := wh
      unfold Pn.val at HOV HP
      simp only at e0 e1 e2 e3 f0 f1 f2 f3 g0 g1 g2 g3 HSB HYB
      cases ob with
      | true =>
        rw [if_pos rfl] at HW2
        have HW3 := hide HW2
        clear HW2
        generalize hz : jp (jn a) ⟨hk, hf, ht, ha⟩ ⟨yk, yf, yt, ya⟩ = z at *
        clear hz
        obtain ⟨zk, zf, zt, za⟩ := z
        simp only at HP
        go_wp2_with (first
          | (go_at_call 35; refine (HOV.out _).mono ?_; rintro e w2 ⟨rfl, b2⟩; have HS2 := hide (HSB.out.below b2); obtain ⟨p0, p1, p2, p3⟩ := box4 HS2.out.bw; obtain ⟨q0, q1, q2, q3⟩ := box4 (BoxT.below (t := 46) HYB.out b2); simp only at p0 p1 p2 p3 q0 q1 q2 q3; clear b2)
          | (go_at_call 36; refine (HP.out _).mono ?_; rintro e w3 ⟨rfl, b3⟩; have HS3 := hide (HS2.out.below b3); obtain ⟨r0, r1, r2, r3⟩ := box4 HS3.out.bw; have rf := fun j => HS3.out.bw.free j; simp only at r0 r1 r2 r3; clear b3))
        go_roundg go
        case rel => exact ⟨i + 1, _, by go_num, by omega, by omega, HS3.out.put ⟨zk, zf, zt, za⟩, HW3⟩
        case measure => omega
      | false =>
        rw [if_neg (by decide)] at HW2
        have HW3 := hide HW2
        clear HW2 HP
        go_wp2_with (go_at_call 35; refine (HOV.out _).mono ?_; rintro e w2 ⟨rfl, b2⟩; have HS2 := hide (HSB.out.below b2); clear b2)
        go_roundg go
        case rel => exact ⟨i + 1, _, by go_num, by omega, by omega, HS2, HW3⟩
        case measure => omega
    · have bt : ¬ (i : Int) < (m.length : Int) := by omega
      have hwh : WH = wh := by have h1 := HW.out; rw [drop_end hlt] at h1; exact h1
      subst hwh
      have hKv : (Value.slice ao l.length cap).ownBlock ≠ some (w.heap.size + 1) := fun e => by have := HO.out.lt _ e; omega
      have hob := HO.out.below HS.out.bel
      have HDL := hide (delete_any HS.out.bw hob hKv (show l.length ≤ 1000000 by omega))
      have HKV := hide hKv
      have HOB := hide hob
      have hrun := runClo
      have HBW := hide HS.out.bw
      have HBL := hide HS.out.bel
      have HKL : Hid ((keepO WH l).length ≤ l.length) := (show _ ≤ _ from List.length_filter_le ..)
      clear hKv hob HS HW hi hlt
      generalize keepO WH l = kl at *
      obtain ⟨hk, hf, ht, ha⟩ := WH
      go_wp2_with (first
        | (go_at_call 43; refine HDL.out.mono ?_; rintro e w2 ⟨v2, rfl, o2, g2, k2⟩; obtain ⟨a2, c2, rfl⟩ := o2.shape; have hK2 : BoxT 46 w2 (w.heap.size + 1) (Pn.cs ⟨hk, hf, ht, ha⟩).toArray := (by have h1 := HBW.out; unfold BoxT at *; rw [g2.block _ (BoxT.lt h1) (fun e => HKV.out e.symm)]; exact h1); obtain ⟨p0, p1, p2, p3⟩ := box4 hK2; simp only at p0 p1 p2 p3; have HG2 := hide (grownBy_trans (grown_of_below HBL.out _) g2); have HK2 := hide k2; have HO2 := hide (o2.alloc (.cells #[.int .i64 hk, .int .i64 hf, .int .i64 ht, .int .i64 ha] 46)); have HS2 : Hid (base ≤ (w2.alloc (.cells #[.int .i64 hk, .int .i64 hf, .int .i64 ht, .int .i64 ha] 46)).heap.size) := (show _ ≤ _ from Nat.le_trans (Nat.le_trans HBB.out (Nat.le_trans HBL.out.size g2.size)) (by simp)); have HN : Hid (kl.length ≤ 1000000) := (show _ ≤ _ by have := HKL.out; omega); clear hK2 o2 g2 k2)
        | (at_builtin; refine app_L Try.infoPn Try.underlying35 rfl (by decide) (by decide) Pn.cs_len Pn.cs_one rfl _ _ rfl base _ kl rfl HO2.out _ _ (⟨hk, hf, ht, ha⟩ : Pn) rfl (new4 w2 rfl ⟨hk, hf, ht, ha⟩) HN.out HS2.out ?_; intro v5 w5 h5 g5 k5; have H5 := hide h5; have HG5 := hide (grownBy_trans HG2.out (grownBy_trans (grownBy_alloc' w2 _ _) (grown_sub g5 HK2.out))); have HK5 : Hid (∀ g, v5.ownBlock = some g → (Value.slice ao l.length cap).ownBlock = some g ∨ w.heap.size ≤ g) := (show ∀ g, _ from fun g e => (k5 g e).imp (HK2.out g) (fun h => Nat.le_trans HG2.out.size (Nat.le_trans (by simp) h))); clear h5 g5 k5))
      exact bodyPost_ret (v := .tuple #[v5, .int .i64 (kl.length : Int)]) (by simp [results, Try.results31, go_sem]; try rfl) rfl ⟨_, _, kl.length, ⟨hk, hf, ht, ha⟩, rfl, H5.out, HG5.out, HK5.out, by simp, HSP2.out, by have := HKL.out; simp; omega⟩
end Go.Proofs.Ytlikikiglicdlaa
