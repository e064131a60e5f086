/-
  Texts in build order: OVJoin, OVWith, OVSess.
-/
import Derived.Test.YtpcbhcdpegbfjaaGreatM15
/-
  Join.
-/
namespace Go.Proofs.YtpcbhcdpegbfjaaGreat.V
open Go.RowKit

def jst (J : Int → Int → Int) : List Pn → List Pn → List Pn
  | [], out => out
  | p :: r, out => jrow J p r out
theorem pJoin_jst (J : Int → Int → Int) (l : List Pn) : pJoin J l = srt (jst J (srt l) []) := by
  unfold pJoin jst
  split <;> rename_i e <;> rw [e]
  rfl
theorem jst_len (J : Int → Int → Int) (l out : List Pn) : (jst J l out).length ≤ l.length + out.length := by
  cases l with
  | nil => simp [jst]
  | cons p r => have := jrow_len J r p out; simp [jst]; omega
theorem jrow_ge (J : Int → Int → Int) (r : List Pn) : ∀ wh out, out.length + 1 ≤ (jrow J wh r out).length := by
  induction r with
  | nil => intro wh out; simp [jrow]
  | cons p r ih =>
    intro wh out
    unfold jrow
    split
    · exact ih _ _
    · split
      · have := ih wh (out ++ [p]); simp at this; omega
      · have := ih p (out ++ [wh]); simp at this; omega
theorem new4 (W : World) {n : Nat} (hn : n = W.heap.size) (x : Pn) (j : Nat) (u : Value) (hu : (Pn.cs x)[j]? = some u) : (W.alloc (.cells #[.int .i64 x.k, .int .i64 x.f, .int .i64 x.t, .int .i64 x.a] 79)).cell? ((⟨n, 0, none⟩ : Addr).add j) = some u := by
  have hb : BoxT 79 _ n _ := BoxT.new_at (t := 79) (w := W) (cs := #[.int .i64 x.k, .int .i64 x.f, .int .i64 x.t, .int .i64 x.a]) hn
  rw [add_plain2, hb.cellAt, Nat.zero_add]
  have hl := lt_of_get hu
  rw [Pn.cs_len] at hl
  match j, hu with
  | 0, hu | 1, hu | 2, hu | 3, hu => simp [Pn.cs] at hu; subst hu; rfl
theorem box4 {w : World} {K : Nat} {x : Pn} (h : BoxT 79 w K x.cs.toArray) : w.cell? ⟨K, 0, none⟩ = some (.int .i64 x.k) ∧ w.cell? ⟨K, 1, none⟩ = some (.int .i64 x.f) ∧ w.cell? ⟨K, 2, none⟩ = some (.int .i64 x.t) ∧ w.cell? ⟨K, 3, none⟩ = some (.int .i64 x.a) := h.cells4
theorem heap_four (w : World) (k : Nat) (u0 u1 u2 u3 : Value) (i : Nat) (h : i ≠ k) : ((((w.setCell ⟨k, 0, none⟩ u0).setCell ⟨k, 1, none⟩ u1).setCell ⟨k, 2, none⟩ u2).setCell ⟨k, 3, none⟩ u3).heap[i]? = w.heap[i]? := by
  rw [Below.heap_setCell _ ⟨k, 3, none⟩ u3 i h, Below.heap_setCell _ ⟨k, 2, none⟩ u2 i h, Below.heap_setCell _ ⟨k, 1, none⟩ u1 i h, Below.heap_setCell _ ⟨k, 0, none⟩ u0 i h]
structure JI (w1 wr : World) (K : Nat) (ov : Value) (out : List Pn) (wh : Pn) : Prop where
  own : OwnL 79 4 Pn.cs w1.heap.size wr ov out
  box : BoxT 79 wr K wh.cs.toArray
  off : ∀ g, ov.ownBlock = some g → g ≠ K
  bel : Below w1.heap.size w1 wr
  ge : w1.heap.size ≤ K
theorem JI.below {w1 wr w' : World} {K : Nat} {ov : Value} {out : List Pn} {wh : Pn} (h : JI w1 wr K ov out wh) (hb : Below wr.heap.size wr w') : JI w1 w' K ov out wh :=
  ⟨h.own.below hb, BoxT.below (t := 79) h.box hb, h.off, h.bel.trans (hb.mono h.bel.size), h.ge⟩
theorem JI.put {w1 wr : World} {K : Nat} {ov : Value} {out : List Pn} {wh : Pn} (h : JI w1 wr K ov out wh) (y : Pn) : JI w1 ((((wr.setCell ⟨K, 0, none⟩ (.int .i64 y.k)).setCell ⟨K, 1, none⟩ (.int .i64 y.f)).setCell ⟨K, 2, none⟩ (.int .i64 y.t)).setCell ⟨K, 3, none⟩ (.int .i64 y.a)) K ov out y :=
  ⟨h.own.back (fun g e => heap_four wr K _ _ _ _ g (h.off g e)), BoxT.four h.box _ _ _ _, h.off, below_four h.bel h.ge _ _ _ _, h.ge⟩
theorem JI.app {w1 wr w' : World} {K : Nat} {ov v' : Value} {out : List Pn} {wh x : Pn} (h : JI w1 wr K ov out wh) (o : OwnL 79 4 Pn.cs w1.heap.size w' v' (out ++ [x])) (g : wr.grownBy w' ov.ownBlock) (hv : ∀ g, v'.ownBlock = some g → ov.ownBlock = some g ∨ wr.heap.size ≤ g) : JI w1 w' K v' (out ++ [x]) wh := by
  have hK := h.box.lt
  refine ⟨o, ?_, fun k e => ?_, h.bel.grown g h.bel.size (fun k e => h.own.at k e), h.ge⟩
  · have h1 := h.box
    unfold BoxT at *
    rw [g.block K hK (fun e => h.off K e.symm rfl)]; exact h1
  · rcases hv k e with h1 | h1
    · exact h.off k h1
    · omega
theorem JI.start {w1 wr : World} {ov : Value} {out : List Pn} (o : OwnL 79 4 Pn.cs w1.heap.size wr ov out) (b : Below w1.heap.size w1 wr) (x : Pn) : JI w1 (wr.alloc (.cells x.cs.toArray 79)) wr.heap.size ov out x :=
  ⟨o.alloc _, BoxT.new 79 wr _, fun g e => Nat.ne_of_lt (o.lt g e), b.alloc b.size _, b.size⟩
theorem JI.box_ {w1 wr : World} {K : Nat} {ov : Value} {out : List Pn} {wh : Pn} (h : JI w1 wr K ov out wh) (o : Obj) : JI w1 (wr.alloc o) K ov out wh := h.below (below_box wr o)
set_option maxHeartbeats 8000000 in
set_option maxRecDepth 100000 in
theorem Join_any {w : World} {v : Value} {l : List Pn} (hl : LSeg 4 Pn.cs w.heap.size w v l) (hn : l.length ≤ 100000) (a : Int) : Calls Tryz.prog 170 #[.int .i64 a, v] w fun e w' => ∃ u, e = .returned u ∧ Row 79 4 Pn.cs w.heap.size w' u (pJoin (jn a) l) ∧ Below w.heap.size w w' := by
  have HS1 := hide (Sort_any hl (by omega))
  obtain ⟨ao, cap, rfl⟩ := hl.shapeOf
  rw [pJoin_jst]
  have hsl : (srt l).length ≤ 100000 := by rw [srt_len]; exact hn
  have HRL : Hid ((jst (jn a) (srt l) []).length ≤ 100000) := (show _ ≤ _ by have := jst_len (jn a) (srt l) []; simp at this; omega)
  generalize srt l = m at *
  have HR : Hid (jst (jn a) (m.drop 0) [] = jst (jn a) m []) := (show _ = _ by rw [List.drop_zero])
  generalize jst (jn a) m [] = R at *
  clear hl hn
  go_enter Tryz.func170, Tryz.ntmps170
  go_wp2_with (go_at_call 98; refine HS1.out.mono ?_; rintro e w1 ⟨u, rfl, o1, b1⟩; obtain ⟨ua, uc, rfl⟩ := (o1.seg Pn.cs_len (by omega)).shapeOf; have O1 := hide (o1.seg Pn.cs_len (by omega)); have B1 := hide b1; clear o1 b1)
  clear HS1
  have HW : Hid (w.heap.size ≤ w1.heap.size) := hide B1.out.size
  go_loopg [5, 6, 7, 8] (m.length + 1) (fun gh ov iv _ _ wr => ∃ (i : Nat) (out : List Pn), iv = .int .i64 (i : Int) ∧ i ≤ m.length ∧ m.length + 1 ≤ gh + i ∧ Hid (OwnL 79 4 Pn.cs w1.heap.size wr ov out) ∧ Hid (jst (jn a) (m.drop i) out = R) ∧ Hid (Below w1.heap.size w1 wr))
  case atStart => exact ⟨0, [], rfl, by omega, by omega, OwnL.nil _ _ _ _ _, HR, Below.refl _ _⟩
  case round =>
    obtain ⟨i, out, rfl, hi, hg, GO, GR, GB⟩ := hrel
    obtain ⟨go, rfl⟩ : ∃ go, gk = go + 1 := ⟨gk - 1, by omega⟩
    obtain ⟨oa, oc, ho⟩ := GO.out.shape
    by_cases hlt : i < m.length
    · obtain ⟨x, hx⟩ := get_of_lt hlt
      have bt : (i : Int) < (m.length : Int) := by omega
      obtain ⟨nb, no, rfl, nlt, e0, e1, e2, e3⟩ := (O1.out.below GB.out).pane hx
      have HD : Hid (jrow (jn a) x (m.drop (i + 1)) out = R) := (show _ = _ by have := GR.out; rw [drop_at hx] at this; exact this)
      have HJ0 := hide (JI.start GO.out GB.out x)
      clear hx GR
      subst ho
      obtain ⟨xk, xf, xt, xa⟩ := x
      simp only at e0 e1 e2 e3
      obtain ⟨wo, rfl⟩ : ∃ wo, wo = wr := ⟨wr, rfl⟩
      go_wp2_with fail
      go_step3
      go_wp2_with fail
      go_step3
      go_wp2_with fail
      clear e0 e1 e2 e3
      generalize hKK : wo.heap.size = K at *
      go_loopg [5, 6, 8] (m.length + 1) (fun gh ov iv _ wr => ∃ (j : Nat) (out2 : List Pn) (wh : Pn), iv = .int .i64 (j : Int) ∧ i < j ∧ j ≤ m.length ∧ m.length + 1 ≤ gh + j ∧ Hid (JI w1 wr K ov out2 wh) ∧ Hid (jrow (jn a) wh (m.drop j) out2 = R))
      case atStart => exact ⟨i + 1, out, _, by go_num, by omega, by omega, by omega, HJ0, HD⟩
      case round =>
        clear HJ0 HD GO GB
        obtain ⟨j, out2, wh, rfl, hij, hj, hgj, HJ, HR2⟩ := hrel
        obtain ⟨gi, rfl⟩ : ∃ gi, gk = gi + 1 := ⟨gk - 1, by omega⟩
        obtain ⟨oa2, oc2, rfl⟩ := HJ.out.own.shape
        have HL2 : Hid (out2.length ≤ 1000000) := (show _ ≤ _ by have h1 := jrow_ge (jn a) (m.drop j) wh out2; rw [HR2.out] at h1; have := HRL.out; omega)
        have HWS : Hid (w1.heap.size ≤ wr.heap.size) := hide HJ.out.bel.size
        obtain ⟨c0, c1, c2, c3⟩ := box4 HJ.out.box
        by_cases hjl : j < m.length
        · obtain ⟨y, hy⟩ := get_of_lt hjl
          have bj : (j : Int) < (m.length : Int) := by omega
          obtain ⟨nb2, no2, ee, _, e0, e1, e2, e3⟩ := (O1.out.below HJ.out.bel).pane hy
          cases ee
          have HJB := hide (HJ.out.box_ (.cells #[.int .i64 y.k, .int .i64 y.f, .int .i64 y.t, .int .i64 y.a] 79))
          have HYB : Hid (BoxT 79 (wr.alloc (.cells #[.int .i64 y.k, .int .i64 y.f, .int .i64 y.t, .int .i64 y.a] 79)) wr.heap.size y.cs.toArray) := BoxT.new 79 wr _
          obtain ⟨g0, g1, g2, g3⟩ := box4 HYB.out
          obtain ⟨f0, f1, f2, f3⟩ := box4 HJB.out.box
          have HO := hide (fun W => overlap_any W wh y)
          have HP := hide (fun W => joined_any W a wh y)
          have HE := hide (fun W => isEmpty_any W y.f y.t)
          have HR3 := HR2.out
          rw [drop_at hy, jrow] at HR3
          generalize hov : ovb wh y = ob at *
          clear hov
          obtain ⟨yk, yf, yt, ya⟩ := y
          obtain ⟨hk, hf, ht, ha⟩ := wh
          unfold Pn.val at HO HP
          simp only at e0 e1 e2 e3 c0 c1 c2 c3 f0 f1 f2 f3 g0 g1 g2 g3 HE HJB HYB
          cases ob with
          | true =>
            rw [if_pos rfl] at HR3
            have HR4 := hide HR3
            clear HR3 hy HE
            generalize hz : jp (jn a) ⟨hk, hf, ht, ha⟩ ⟨yk, yf, yt, ya⟩ = z at *
            clear hz
            obtain ⟨zk, zf, zt, za⟩ := z
            simp only at HP
            go_wp2_with (first
              | (go_at_call 171; refine (HO.out _).mono ?_; rintro e w2 ⟨rfl, b2⟩; have HJ2 := hide (HJB.out.below b2); obtain ⟨p0, p1, p2, p3⟩ := box4 HJ2.out.box; obtain ⟨q0, q1, q2, q3⟩ := box4 (BoxT.below (t := 79) HYB.out b2); simp only at p0 p1 p2 p3 q0 q1 q2 q3; clear b2)
              | (go_at_call 172; refine (HP.out _).mono ?_; rintro e w3 ⟨rfl, b3⟩; have HJ3 := hide (HJ2.out.below b3); obtain ⟨r0, r1, r2, r3⟩ := box4 HJ3.out.box; have rf := fun j => HJ3.out.box.free j; simp only at r0 r1 r2 r3; clear b3))
            go_roundg gi
            case rel => exact ⟨j + 1, out2, _, by go_num, by omega, by omega, by omega, HJ3.out.put ⟨zk, zf, zt, za⟩, HR4⟩
            case measure => omega
          | false =>
            rw [if_neg (by decide)] at HR3
            by_cases hem : yf ≥ yt
            · have HR4 : Hid (jrow (jn a) ⟨hk, hf, ht, ha⟩ (m.drop (j + 1)) (out2 ++ [⟨yk, yf, yt, ya⟩]) = R) := (show _ = _ by rw [if_pos hem] at HR3; exact HR3)
              have hde : decide (yf ≥ yt) = true := decide_eq_true hem
              rw [hde] at HE
              clear HR3 hy HP hde hem
              go_wp2_with (first
                | (go_at_call 171; refine (HO.out _).mono ?_; rintro e w2 ⟨rfl, b2⟩; have HJ2 := hide (HJB.out.below b2); have HYB2 := hide (BoxT.below (t := 79) HYB.out b2); obtain ⟨q0, q1, q2, q3⟩ := box4 HYB2.out; simp only at q0 q1 q2 q3; clear b2)
                | (go_at_call 175; refine (HE.out _).mono ?_; rintro e w3 ⟨rfl, b3⟩; have HJ3 := hide (HJ2.out.below b3); obtain ⟨r0, r1, r2, r3⟩ := box4 (BoxT.below (t := 79) HYB2.out b3); simp only at r0 r1 r2 r3; clear b3; have HJ4 := hide (HJ3.out.box_ (.cells #[.int .i64 yk, .int .i64 yf, .int .i64 yt, .int .i64 ya] 79)); have HS4 := hide HJ4.out.bel.size)
                | (at_builtin; refine app_L Tryz.infoPn Tryz.underlying47 rfl (by decide) (by decide) Pn.cs_len Pn.cs_one rfl _ _ rfl w1.heap.size _ out2 rfl HJ4.out.own _ _ (⟨yk, yf, yt, ya⟩ : Pn) rfl (new4 w3 rfl ⟨yk, yf, yt, ya⟩) HL2.out HS4.out ?_; intro v5 w5 h5 g5 k5; have HJ5 := hide (HJ4.out.app h5 g5 k5); clear h5 g5 k5))
              go_roundg gi
              case rel => exact ⟨j + 1, _, _, by go_num, by omega, by omega, by omega, HJ5, HR4⟩
              case measure => omega
            · have HR4 : Hid (jst (jn a) (m.drop j) (out2 ++ [⟨hk, hf, ht, ha⟩]) = R) := (show _ = _ by rw [if_neg hem] at HR3; rw [drop_at hy]; exact HR3)
              have hde : decide (yf ≥ yt) = false := decide_eq_false hem
              rw [hde] at HE
              clear HR3 hy HP hde hem
              go_wp2_with (first
                | (go_at_call 171; refine (HO.out _).mono ?_; rintro e w2 ⟨rfl, b2⟩; have HJ2 := hide (HJB.out.below b2); have HYB2 := hide (BoxT.below (t := 79) HYB.out b2); obtain ⟨q0, q1, q2, q3⟩ := box4 HYB2.out; simp only at q0 q1 q2 q3; clear b2)
                | (go_at_call 175; refine (HE.out _).mono ?_; rintro e w3 ⟨rfl, b3⟩; have HJ3 := hide (HJ2.out.below b3); obtain ⟨r0, r1, r2, r3⟩ := box4 HJ3.out.box; simp only at r0 r1 r2 r3; clear b3; have HJ4 := hide (HJ3.out.box_ (.cells #[.int .i64 hk, .int .i64 hf, .int .i64 ht, .int .i64 ha] 79)); have HS4 := hide HJ4.out.bel.size)
                | (at_builtin; refine app_L Tryz.infoPn Tryz.underlying47 rfl (by decide) (by decide) Pn.cs_len Pn.cs_one rfl _ _ rfl w1.heap.size _ out2 rfl HJ4.out.own _ _ (⟨hk, hf, ht, ha⟩ : Pn) rfl (new4 w3 rfl ⟨hk, hf, ht, ha⟩) HL2.out HS4.out ?_; intro v5 w5 h5 g5 k5; have HJ5 := hide (HJ4.out.app h5 g5 k5); clear h5 g5 k5))
              (try simp only [Exit.noGoto, Exit.inBlock, Exit.then])
              go_wp2_with fail
              go_roundg go
              case rel => exact ⟨j, _, by go_num, by omega, by omega, hide HJ5.out.own, HR4, hide HJ5.out.bel⟩
              case measure => omega
        · have bj : ¬ (j : Int) < (m.length : Int) := by omega
          obtain ⟨hk, hf, ht, ha⟩ := wh
          simp only at c0 c1 c2 c3
          have HR4 : Hid (jst (jn a) (m.drop j) (out2 ++ [⟨hk, hf, ht, ha⟩]) = R) := (show _ = _ by have h1 := HR2.out; rw [drop_end hjl] at h1 ⊢; exact h1)
          have HJ4 := hide (HJ.out.box_ (.cells #[.int .i64 hk, .int .i64 hf, .int .i64 ht, .int .i64 ha] 79))
          have HS4 := hide HJ4.out.bel.size
          go_wp2_with (at_builtin; refine app_L Tryz.infoPn Tryz.underlying47 rfl (by decide) (by decide) Pn.cs_len Pn.cs_one rfl _ _ rfl w1.heap.size _ out2 rfl HJ4.out.own _ _ (⟨hk, hf, ht, ha⟩ : Pn) rfl (new4 wr rfl ⟨hk, hf, ht, ha⟩) HL2.out HS4.out ?_; intro v5 w5 h5 g5 k5; have HJ5 := hide (HJ4.out.app h5 g5 k5); clear h5 g5 k5)
          (try simp only [Exit.noGoto, Exit.inBlock, Exit.then])
          go_wp2_with fail
          go_roundg go
          case rel => exact ⟨j, _, by go_num, by omega, by omega, hide HJ5.out.own, HR4, hide HJ5.out.bel⟩
          case measure => omega
    · have bt : ¬ (i : Int) < (m.length : Int) := by omega
      have HRE : Hid (out = R) := (show _ = _ by have h1 := GR.out; rw [drop_end hlt] at h1; exact h1)
      have HSO := hide (Sort_any (GO.out.seg Pn.cs_len (by rw [HRE.out]; have := HRL.out; omega)) (by rw [HRE.out]; have := HRL.out; omega))
      rw [HRE.out] at HSO
      subst ho
      go_wp2_with (go_at_call 98; refine HSO.out.mono ?_; rintro e w6 ⟨u, rfl, o6, b6⟩)
      go_ret
      have hb7 := B1.out.trans (GB.out.mono B1.out.size)
      exact ⟨_, rfl, o6.mono (hb7.size), hb7.trans (b6.mono hb7.size)⟩
end Go.Proofs.YtpcbhcdpegbfjaaGreat.V
/-
  withSpan, withSession.
-/
namespace Go.Proofs.YtpcbhcdpegbfjaaGreat.V
open Go.RowKit

theorem addSp_hit {J : Int → Int → Int} {fr : Pn} {v : Int} : ∀ {l : List Pn} {i : Nat} {p : Pn}, l[i]? = some p → (p.k = fr.k ∧ p.f = fr.f ∧ p.t = fr.t) → (∀ a x, a < i → l[a]? = some x → ¬ (x.k = fr.k ∧ x.f = fr.f ∧ x.t = fr.t)) → l.set i (withA p (J p.a v)) = addSp J fr v l
  | [], _, _, h, _, _ => by simp at h
  | q :: l, 0, p, h, hm, _ => by
    simp at h; subst h
    simp [addSp, hm]
  | q :: l, i + 1, p, h, hm, hb => by
    have h1 := hb 0 q (by omega) rfl
    rw [addSp, if_neg h1, List.set_cons_succ, addSp_hit (by simpa using h) hm fun a x ha hx => hb (a + 1) x (by omega) (by simpa using hx)]
theorem addSp_miss {J : Int → Int → Int} {fr : Pn} {v : Int} : ∀ {l : List Pn}, (∀ x ∈ l, ¬ (x.k = fr.k ∧ x.f = fr.f ∧ x.t = fr.t)) → (l ++ [fr]).set l.length (withA fr (J fr.a v)) = addSp J fr v l
  | [], _ => by simp [addSp]
  | q :: l, hb => by
    rw [addSp, if_neg (hb q (List.mem_cons_self ..)), List.length_cons, List.cons_append, List.set_cons_succ, addSp_miss fun x hx => hb x (List.mem_cons_of_mem _ hx)]
theorem grown_sub {w w' : World} {r r' : Option Nat} (h : w.grownBy w' r) (hr : ∀ g, r = some g → r' = some g) : w.grownBy w' r' :=
  ⟨h.os, h.tape, h.output, h.size, fun i hi hne => h.block i hi (fun e => hne ((hr i e.symm).symm))⟩
theorem grown_of_below {w w' : World} (h : Below w.heap.size w w') (r : Option Nat) : w.grownBy w' r := ⟨h.os, h.tape, h.output, h.size, fun i hi _ => h.block i hi⟩
def Spot (base : Nat) (w w' : World) (v : Value) (e : Ending) (res : Int → List Pn) (a : Int) (n : Nat) : Prop :=
  ∃ v' l' i p, e = .returned (.tuple #[v', .int .i64 ((i : Nat) : Int)]) ∧ OwnL 79 4 Pn.cs base w' v' l' ∧ w.grownBy w' v.ownBlock ∧ (∀ g, v'.ownBlock = some g → v.ownBlock = some g ∨ w.heap.size ≤ g) ∧ l'[i]? = some p ∧ (∀ v, l'.set i (withA p (jn a p.a v)) = res v) ∧ l'.length ≤ n + 1
set_option maxHeartbeats 4000000 in
set_option maxRecDepth 100000 in
theorem withSpan_any {w : World} {base : Nat} {v : Value} {l : List Pn} (ho : OwnL 79 4 Pn.cs base w v l) (hb : base ≤ w.heap.size) (hn : l.length ≤ 100000) (fr : Pn) (a : Int) :
    Calls Tryz.prog 169 #[v, fr.val] w fun e w' => Spot base w w' v e (fun v => addSp (jn a) fr v l) a l.length := by
  obtain ⟨ao, cap, rfl⟩ := ho.shape
  have HO := hide ho
  have HL := hide (ho.seg Pn.cs_len (by omega))
  have HF : Hid (BoxT 79 (w.alloc (.cells #[.int .i64 fr.k, .int .i64 fr.f, .int .i64 fr.t, .int .i64 fr.a] 79)) w.heap.size fr.cs.toArray) := BoxT.new 79 w _
  have HB1 := hide (below_box w (.cells #[.int .i64 fr.k, .int .i64 fr.f, .int .i64 fr.t, .int .i64 fr.a] 79))
  have HBB := hide hb
  clear ho hb
  obtain ⟨fk, ff, ft, fa⟩ := fr
  unfold Pn.val
  simp only at HF HB1
  go_enter Tryz.func169, Tryz.ntmps169
  go_wp2_with fail
  go_loopg [6, 7, 10] (l.length + 1) (fun gh _ _ iv wr => ∃ t : Nat, iv = .int .i64 (t : Int) ∧ t ≤ l.length ∧ l.length + 1 ≤ gh + t ∧ Hid (∀ a s, a < t → l[a]? = some s → ¬ (s.k = fk ∧ s.f = ff ∧ s.t = ft)) ∧ Hid (Below w.heap.size w wr) ∧ Hid (BoxT 79 wr w.heap.size (Pn.cs ⟨fk, ff, ft, fa⟩).toArray))
  case atStart => exact ⟨0, rfl, by omega, by omega, (show ∀ a s, _ from fun a s ha => by omega), HB1, HF⟩
  case round =>
    obtain ⟨t, rfl, ht, hg, HI, GB, GF⟩ := hrel
    obtain ⟨go, rfl⟩ : ∃ go, gk = go + 1 := ⟨gk - 1, by omega⟩
    obtain ⟨c0, c1, c2, c3⟩ := box4 GF.out
    simp only at c0 c1 c2 c3
    by_cases hlt : t < l.length
    · obtain ⟨x, hx⟩ := get_of_lt hlt
      have bt : (t : Int) < (l.length : Int) := by omega
      obtain ⟨nb, no, rfl, nlt, e0, e1, e2, e3⟩ := (HL.out.below GB.out).pane hx
      have HX := hide hx
      have HBX := hide (below_box wr (.cells #[.int .i64 x.k, .int .i64 x.f, .int .i64 x.t, .int .i64 x.a] 79))
      have HNB : Hid (BoxT 79 (wr.alloc (.cells #[.int .i64 x.k, .int .i64 x.f, .int .i64 x.t, .int .i64 x.a] 79)) wr.heap.size x.cs.toArray) := BoxT.new 79 wr _
      have GF2 := hide (BoxT.below (t := 79) GF.out HBX.out)
      obtain ⟨f0, f1, f2, f3⟩ := box4 GF2.out
      obtain ⟨g0, g1, g2, g3⟩ := box4 HNB.out
      clear hx
      obtain ⟨xk, xf, xt, xa⟩ := x
      simp only at e0 e1 e2 e3 f0 f1 f2 f3 g0 g1 g2 g3 HBX
      by_cases h1 : xk = fk
      · subst h1
        by_cases h2 : xf = ff
        · by_cases h3 : xt = ft
          · subst h2 h3
            go_wp2_with fail
            have hb2 := GB.out.trans (HBX.out.mono GB.out.size)
            exact bodyPost_ret (v := .tuple #[.slice (some ⟨nb, no, none⟩) l.length cap, .int .i64 (t : Int)]) (by simp [results, Tryz.results169, go_sem]; try rfl) rfl ⟨_, l, t, _, rfl, HO.out.below hb2, grown_of_below hb2 _, fun g e => .inl e, HX.out, fun v => addSp_hit HX.out ⟨rfl, rfl, rfl⟩ HI.out, by omega⟩
          · subst h2
            go_wp2_with fail
            go_roundg go
            case rel =>
              refine ⟨t + 1, by go_num, by omega, by omega, (show ∀ a s, _ from fun a s ha hs => ?_), hide (GB.out.trans (HBX.out.mono GB.out.size)), GF2⟩
              by_cases e : a = t
              · subst e
                rw [HX.out] at hs
                cases hs
                intro hh
                exact h3 hh.2.2
              · exact HI.out a s (by omega) hs
            case measure => omega
        · go_wp2_with fail
          go_roundg go
          case rel =>
            refine ⟨t + 1, by go_num, by omega, by omega, (show ∀ a s, _ from fun a s ha hs => ?_), hide (GB.out.trans (HBX.out.mono GB.out.size)), GF2⟩
            by_cases e : a = t
            · subst e
              rw [HX.out] at hs
              cases hs
              intro hh
              exact h2 hh.2.1
            · exact HI.out a s (by omega) hs
          case measure => omega
      · go_wp2_with fail
        go_roundg go
        case rel =>
          refine ⟨t + 1, by go_num, by omega, by omega, (show ∀ a s, _ from fun a s ha hs => ?_), hide (GB.out.trans (HBX.out.mono GB.out.size)), GF2⟩
          by_cases e : a = t
          · subst e
            rw [HX.out] at hs
            cases hs
            intro hh
            exact h1 hh.1
          · exact HI.out a s (by omega) hs
        case measure => omega
    · have bt : ¬ (t : Int) < (l.length : Int) := by omega
      have HALL : Hid (∀ x ∈ l, ¬ (x.k = fk ∧ x.f = ff ∧ x.t = ft)) := (show ∀ x ∈ l, _ by
        intro x hx
        obtain ⟨a, ha⟩ := List.getElem?_of_mem hx
        exact HI.out a x (by have := lt_of_get ha; omega) ha)
      have hbx := below_box wr (.cells #[.int .i64 fk, .int .i64 ff, .int .i64 ft, .int .i64 fa] 79)
      have hb2 := GB.out.trans (hbx.mono GB.out.size)
      have HB2 := hide hb2
      have HO2 := hide (HO.out.below hb2)
      have HS2 := hide (Nat.le_trans HBB.out hb2.size)
      have HN : Hid (l.length ≤ 1000000) := (show _ ≤ _ by omega)
      clear hbx hb2 hn
      go_wp2_with (at_builtin; refine app_L Tryz.infoPn Tryz.underlying47 rfl (by decide) (by decide) Pn.cs_len Pn.cs_one rfl _ _ rfl base _ l rfl HO2.out _ _ (⟨fk, ff, ft, fa⟩ : Pn) rfl (new4 wr rfl ⟨fk, ff, ft, fa⟩) HN.out HS2.out ?_; intro v5 w5 h5 g5 k5)
      exact bodyPost_ret (v := .tuple #[v5, .int .i64 (l.length : Int)]) (by simp [results, Tryz.results169, go_sem]; try rfl) rfl ⟨_, l ++ [⟨fk, ff, ft, fa⟩], l.length, ⟨fk, ff, ft, fa⟩, rfl, h5, grownBy_trans (grown_of_below HB2.out _) g5, fun g e => (k5 g e).imp id (fun h => Nat.le_trans HB2.out.size h), by simp, fun v => addSp_miss HALL.out, by simp⟩
end Go.Proofs.YtpcbhcdpegbfjaaGreat.V
/-
  withSession.
-/
namespace Go.Proofs.YtpcbhcdpegbfjaaGreat.V
open Go.RowKit

theorem sess_spot (J : Int → Int → Int) (l : List Pn) (fr wh : Pn) (v : Int) (h : wholeOf J fr (pJoin J l) = wh) : (keepO wh l ++ [wh]).set (keepO wh l).length (withA wh (J wh.a v)) = pSess J l fr v := by
  unfold pSess keepO
  rw [h, List.set_append_right _ _ (Nat.le_refl _), Nat.sub_self]
  rfl
theorem whole_step (J : Int → Int → Int) (fr wh : Pn) {m : List Pn} {i : Nat} {x : Pn} (hx : m[i]? = some x) : (m.drop i).foldl (fun wh p => if ovb fr p = true then jp J wh p else wh) wh = (m.drop (i + 1)).foldl (fun wh p => if ovb fr p = true then jp J wh p else wh) (if ovb fr x = true then jp J wh x else wh) := by
  rw [drop_at hx]
  rfl
structure SI (w wr : World) (u : Value) (m : List Pn) (fr wh : Pn) : Prop where
  row : Row 79 4 Pn.cs (w.heap.size + 1 + 1) wr u m
  bf : BoxT 79 wr w.heap.size fr.cs.toArray
  bw : BoxT 79 wr (w.heap.size + 1) wh.cs.toArray
  bel : Below w.heap.size w wr
theorem SI.below {w wr w' : World} {u : Value} {m : List Pn} {fr wh : Pn} (h : SI w wr u m fr wh) (hb : Below wr.heap.size wr w') : SI w w' u m fr wh :=
  ⟨h.row.below hb, BoxT.below (t := 79) h.bf hb, BoxT.below (t := 79) h.bw hb, h.bel.trans (hb.mono h.bel.size)⟩
theorem SI.put {w wr : World} {u : Value} {m : List Pn} {fr wh : Pn} (h : SI w wr u m fr wh) (y : Pn) : SI w ((((wr.setCell ⟨w.heap.size + 1, 0, none⟩ (.int .i64 y.k)).setCell ⟨w.heap.size + 1, 1, none⟩ (.int .i64 y.f)).setCell ⟨w.heap.size + 1, 2, none⟩ (.int .i64 y.t)).setCell ⟨w.heap.size + 1, 3, none⟩ (.int .i64 y.a)) u m fr y := by
  refine ⟨h.row.back (fun g e => heap_four wr _ _ _ _ _ g (by have := h.row.at g e; omega)), ?_, BoxT.four h.bw _ _ _ _, below_four h.bel (by omega) _ _ _ _⟩
  have h1 := h.bf
  unfold BoxT at *
  rw [heap_four wr _ _ _ _ _ _ (by omega)]; exact h1
theorem SI.box_ {w wr : World} {u : Value} {m : List Pn} {fr wh : Pn} (h : SI w wr u m fr wh) (x : Pn) : SI w (wr.alloc (.cells #[.int .i64 x.k, .int .i64 x.f, .int .i64 x.t, .int .i64 x.a] 79)) u m fr wh := h.below (below_box wr _)
set_option maxHeartbeats 8000000 in
set_option maxRecDepth 100000 in
theorem withSession_any {w : World} {base : Nat} {v : Value} {l : List Pn} (ho : OwnL 79 4 Pn.cs base w v l) (hb : base ≤ w.heap.size) (hn : l.length ≤ 100000) (fr : Pn) (a : Int) :
    Calls Tryz.prog 168 #[.int .i64 a, v, fr.val] w fun e w' => Spot base w w' v e (fun v => pSess (jn a) l fr v) a l.length := by
  obtain ⟨ao, cap, rfl⟩ := ho.shape
  have hfr : Below w.heap.size w (w.alloc (.cells fr.cs.toArray 79)) := below_box w _
  have h2 := two2 w (.cells fr.cs.toArray 79) (.cells fr.cs.toArray 79)
  have HB2 := hide (below_box2 w (.cells fr.cs.toArray 79) (.cells fr.cs.toArray 79))
  have HF2 : Hid (BoxT 79 ((w.alloc (.cells fr.cs.toArray 79)).alloc (.cells fr.cs.toArray 79)) w.heap.size fr.cs.toArray) := h2.1
  have HW2 : Hid (BoxT 79 ((w.alloc (.cells fr.cs.toArray 79)).alloc (.cells fr.cs.toArray 79)) (w.heap.size + 1) fr.cs.toArray) := h2.2
  have HO := hide ho
  have HBB := hide hb
  have HJ := hide (Join_any ((ho.below HB2.out).seg Pn.cs_len (by omega)) hn a)
  have HPL := hide (pJoin_len (jn a) l)
  have HSP := hide (fun wh v h => sess_spot (jn a) l fr wh v h)
  have HWH : Hid (wholeOf (jn a) fr (pJoin (jn a) l) = (((pJoin (jn a) l).drop 0).foldl (fun wh p => if ovb fr p = true then jp (jn a) wh p else wh) fr)) := (show _ = _ by rw [List.drop_zero]; rfl)
  generalize wholeOf (jn a) fr (pJoin (jn a) l) = WH at *
  generalize pJoin (jn a) l = m at *
  clear ho hb h2 hfr
  have hml : m.length ≤ 100000 := Nat.le_trans HPL.out hn
  have HSP2 := hide (fun v => HSP.out WH v rfl)
  clear HSP
  obtain ⟨fk, ff, ft, fa⟩ := fr
  unfold Pn.val
  simp only [Pn.cs] at HB2 HJ
  go_enter Tryz.func168, Tryz.ntmps168
  go_wp2_with (go_at_call 170; refine HJ.out.mono ?_; rintro e w1 ⟨u, rfl, o1, b1⟩; have HSI : Hid (SI w w1 u m ⟨fk, ff, ft, fa⟩ ⟨fk, ff, ft, fa⟩) := ⟨by simpa using o1, BoxT.below (t := 79) HF2.out b1, BoxT.below (t := 79) HW2.out b1, HB2.out.trans (b1.mono HB2.out.size)⟩; obtain ⟨ua, uc, rfl⟩ := (o1.seg Pn.cs_len (by have := HPL.out; omega)).shapeOf; clear o1 b1)
  clear HJ HF2 HW2 HB2
  go_loopg [10, 16] (m.length + 1) (fun gh _ iv wr => ∃ (i : Nat) (wh : Pn), iv = .int .i64 (i : Int) ∧ i ≤ m.length ∧ m.length + 1 ≤ gh + i ∧ Hid (SI w wr (.slice ua m.length uc) m ⟨fk, ff, ft, fa⟩ wh) ∧ Hid (WH = (m.drop i).foldl (fun wh p => if ovb ⟨fk, ff, ft, fa⟩ p = true then jp (jn a) wh p else wh) wh))
  case atStart => exact ⟨0, _, rfl, by omega, by omega, HSI, HWH⟩
  case round =>
    clear HSI HWH
    obtain ⟨i, wh, rfl, hi, hg, HS, HW⟩ := hrel
    obtain ⟨go, rfl⟩ : ∃ go, gk = go + 1 := ⟨gk - 1, by omega⟩
    by_cases hlt : i < m.length
    · obtain ⟨y, hy⟩ := get_of_lt hlt
      have bt : (i : Int) < (m.length : Int) := by omega
      obtain ⟨nb, no, ee, _, e0, e1, e2, e3⟩ := (HS.out.row.seg Pn.cs_len (by have := HPL.out; omega)).pane hy
      subst ee
      have HW2 := HW.out
      rw [whole_step _ _ _ hy] at HW2
      have HSB := hide (HS.out.box_ y)
      have HYB : Hid (BoxT 79 (wr.alloc (.cells #[.int .i64 y.k, .int .i64 y.f, .int .i64 y.t, .int .i64 y.a] 79)) wr.heap.size y.cs.toArray) := BoxT.new 79 wr _
      obtain ⟨f0, f1, f2, f3⟩ := box4 HSB.out.bf
      obtain ⟨g0, g1, g2, g3⟩ := box4 HYB.out
      have HOV := hide (fun W => overlap_any W ⟨fk, ff, ft, fa⟩ y)
      have HP := hide (fun W => joined_any W a wh y)
      generalize ovb ⟨fk, ff, ft, fa⟩ y = ob at *
      clear hy HW
      obtain ⟨yk, yf, yt, ya⟩ := y
      obtain ⟨hk, hf, ht, ha⟩ := wh
      unfold Pn.val at HOV HP
      simp only at e0 e1 e2 e3 f0 f1 f2 f3 g0 g1 g2 g3 HSB HYB
      cases ob with
      | true =>
        rw [if_pos rfl] at HW2
        have HW3 := hide HW2
        clear HW2
        generalize hz : jp (jn a) ⟨hk, hf, ht, ha⟩ ⟨yk, yf, yt, ya⟩ = z at *
        clear hz
        obtain ⟨zk, zf, zt, za⟩ := z
        simp only at HP
        go_wp2_with (first
          | (go_at_call 171; refine (HOV.out _).mono ?_; rintro e w2 ⟨rfl, b2⟩; have HS2 := hide (HSB.out.below b2); obtain ⟨p0, p1, p2, p3⟩ := box4 HS2.out.bw; obtain ⟨q0, q1, q2, q3⟩ := box4 (BoxT.below (t := 79) HYB.out b2); simp only at p0 p1 p2 p3 q0 q1 q2 q3; clear b2)
          | (go_at_call 172; refine (HP.out _).mono ?_; rintro e w3 ⟨rfl, b3⟩; have HS3 := hide (HS2.out.below b3); obtain ⟨r0, r1, r2, r3⟩ := box4 HS3.out.bw; have rf := fun j => HS3.out.bw.free j; simp only at r0 r1 r2 r3; clear b3))
        go_roundg go
        case rel => exact ⟨i + 1, _, by go_num, by omega, by omega, HS3.out.put ⟨zk, zf, zt, za⟩, HW3⟩
        case measure => omega
      | false =>
        rw [if_neg (by decide)] at HW2
        have HW3 := hide HW2
        clear HW2 HP
        go_wp2_with (go_at_call 171; refine (HOV.out _).mono ?_; rintro e w2 ⟨rfl, b2⟩; have HS2 := hide (HSB.out.below b2); clear b2)
        go_roundg go
        case rel => exact ⟨i + 1, _, by go_num, by omega, by omega, HS2, HW3⟩
        case measure => omega
    · have bt : ¬ (i : Int) < (m.length : Int) := by omega
      have hwh : WH = wh := by have h1 := HW.out; rw [drop_end hlt] at h1; exact h1
      subst hwh
      have hKv : (Value.slice ao l.length cap).ownBlock ≠ some (w.heap.size + 1) := fun e => by have := HO.out.lt _ e; omega
      have hob := HO.out.below HS.out.bel
      have HDL := hide (delete_any HS.out.bw hob hKv (show l.length ≤ 1000000 by omega))
      have HKV := hide hKv
      have HOB := hide hob
      have hrun := runClo
      have HBW := hide HS.out.bw
      have HBL := hide HS.out.bel
      have HKL : Hid ((keepO WH l).length ≤ l.length) := (show _ ≤ _ from List.length_filter_le ..)
      clear hKv hob HS HW hi hlt
      generalize keepO WH l = kl at *
      obtain ⟨hk, hf, ht, ha⟩ := WH
      go_wp2_with (first
        | (go_at_call 173; refine HDL.out.mono ?_; rintro e w2 ⟨v2, rfl, o2, g2, k2⟩; obtain ⟨a2, c2, rfl⟩ := o2.shape; have hK2 : BoxT 79 w2 (w.heap.size + 1) (Pn.cs ⟨hk, hf, ht, ha⟩).toArray := (by have h1 := HBW.out; unfold BoxT at *; rw [g2.block _ (BoxT.lt h1) (fun e => HKV.out e.symm)]; exact h1); obtain ⟨p0, p1, p2, p3⟩ := box4 hK2; simp only at p0 p1 p2 p3; have HG2 := hide (grownBy_trans (grown_of_below HBL.out _) g2); have HK2 := hide k2; have HO2 := hide (o2.alloc (.cells #[.int .i64 hk, .int .i64 hf, .int .i64 ht, .int .i64 ha] 79)); have HS2 : Hid (base ≤ (w2.alloc (.cells #[.int .i64 hk, .int .i64 hf, .int .i64 ht, .int .i64 ha] 79)).heap.size) := (show _ ≤ _ from Nat.le_trans (Nat.le_trans HBB.out (Nat.le_trans HBL.out.size g2.size)) (by simp)); have HN : Hid (kl.length ≤ 1000000) := (show _ ≤ _ by have := HKL.out; omega); clear hK2 o2 g2 k2)
        | (at_builtin; refine app_L Tryz.infoPn Tryz.underlying47 rfl (by decide) (by decide) Pn.cs_len Pn.cs_one rfl _ _ rfl base _ kl rfl HO2.out _ _ (⟨hk, hf, ht, ha⟩ : Pn) rfl (new4 w2 rfl ⟨hk, hf, ht, ha⟩) HN.out HS2.out ?_; intro v5 w5 h5 g5 k5; have H5 := hide h5; have HG5 := hide (grownBy_trans HG2.out (grownBy_trans (grownBy_alloc' w2 _ _) (grown_sub g5 HK2.out))); have HK5 : Hid (∀ g, v5.ownBlock = some g → (Value.slice ao l.length cap).ownBlock = some g ∨ w.heap.size ≤ g) := (show ∀ g, _ from fun g e => (k5 g e).imp (HK2.out g) (fun h => Nat.le_trans HG2.out.size (Nat.le_trans (by simp) h))); clear h5 g5 k5))
      exact bodyPost_ret (v := .tuple #[v5, .int .i64 (kl.length : Int)]) (by simp [results, Tryz.results168, go_sem]; try rfl) rfl ⟨_, _, kl.length, ⟨hk, hf, ht, ha⟩, rfl, H5.out, HG5.out, HK5.out, by simp, HSP2.out, by have := HKL.out; simp; omega⟩
end Go.Proofs.YtpcbhcdpegbfjaaGreat.V
