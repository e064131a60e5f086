/-
  Join.
-/
import Derived.Test.YtlikikiglicdlaaWDelW
namespace Go.Proofs.Ytlikikiglicdlaa
open Go.RowKit

theorem Row.seg {α : Type} {t sz : Nat} {cs : α → List Value} {base : Nat} {w : World} {v : Value} {xs : List α} (h : Row t sz cs base w v xs) (hcs : ∀ x, (cs x).length = sz) (hl : xs.length ≤ 140737488355328) : LSeg sz cs w.heap.size w v xs := by
  rcases h with ⟨rfl, rfl⟩ | ⟨g, off, cap, cur, rfl, h2, h3, h4, h5, h6, h7⟩
  · exact LSeg.nil' _ _ _ _
  · refine ⟨_, cap, rfl, hl, .inr ⟨g, off, rfl, h3.lt, fun i x hi j u hu => ?_⟩⟩
    rw [h3.cellAt, Nat.add_assoc]
    exact h7 _ u (flat_get hcs xs i j x u hi hu)
theorem Row.mono {α : Type} {t sz : Nat} {cs : α → List Value} {base base' : Nat} {w : World} {v : Value} {xs : List α} (h : Row t sz cs base w v xs) (hb : base' ≤ base) : Row t sz cs base' w v xs := by
  rcases h with h | ⟨g, off, cap, cur, h1, h2, h3⟩
  · exact .inl h
  · exact .inr ⟨g, off, cap, cur, h1, by omega, h3⟩
/-- What is left of Join: the panes to come, and what is out. -/
def jst (J : Int → Int → Int) : List Pn → List Pn → List Pn
  | [], out => out
  | p :: r, out => jrow J p r out
theorem jst_close {J : Int → Int → Int} {wh : Pn} {out R : List Pn} (h : jrow J wh [] out = R) : jst J [] (out ++ [wh]) = R := h
theorem pJoin_jst (J : Int → Int → Int) (l : List Pn) : pJoin J l = srt (jst J (srt l) []) := by
  unfold pJoin jst
  split <;> rename_i e <;> rw [e]
  rfl
theorem jst_len (J : Int → Int → Int) (l out : List Pn) : (jst J l out).length ≤ l.length + out.length := by
  cases l with
  | nil => simp [jst]
  | cons p r => have := jrow_len J r p out; simp [jst]; omega
theorem jrow_ge (J : Int → Int → Int) (r : List Pn) : ∀ wh out, out.length + 1 ≤ (jrow J wh r out).length := by
  induction r with
  | nil => intro wh out; simp [jrow]
  | cons p r ih =>
    intro wh out
    unfold jrow
    split
    · exact ih _ _
    · split
      · have := ih wh (out ++ [p]); simp at this; omega
      · have := ih p (out ++ [wh]); simp at this; omega
theorem jst_ge (J : Int → Int → Int) (l out : List Pn) : out.length ≤ (jst J l out).length := by
  cases l with
  | nil => exact Nat.le_refl _
  | cons p r => have := jrow_ge J r p out; simp only [jst]; omega
theorem new4 (W : World) {n : Nat} (hn : n = W.heap.size) (x : Pn) (j : Nat) (u : Value) (hu : (Pn.cs x)[j]? = some u) : (W.alloc (.cells #[.int .i64 x.k, .int .i64 x.f, .int .i64 x.t, .int .i64 x.a] 46)).cell? ((⟨n, 0, none⟩ : Addr).add j) = some u := by
  have hb : BoxT 46 _ n _ := BoxT.new_at (t := 46) (w := W) (cs := #[.int .i64 x.k, .int .i64 x.f, .int .i64 x.t, .int .i64 x.a]) hn
  rw [add_plain2, hb.cellAt, Nat.zero_add]
  have hl := lt_of_get hu
  rw [Pn.cs_len] at hl
  match j, hu with
  | 0, hu | 1, hu | 2, hu | 3, hu => simp [Pn.cs] at hu; subst hu; rfl
theorem box4 {w : World} {K : Nat} {x : Pn} (h : BoxT 46 w K x.cs.toArray) : w.cell? ⟨K, 0, none⟩ = some (.int .i64 x.k) ∧ w.cell? ⟨K, 1, none⟩ = some (.int .i64 x.f) ∧ w.cell? ⟨K, 2, none⟩ = some (.int .i64 x.t) ∧ w.cell? ⟨K, 3, none⟩ = some (.int .i64 x.a) := h.cells4
theorem heap_four (w : World) (k : Nat) (u0 u1 u2 u3 : Value) (i : Nat) (h : i ≠ k) : ((((w.setCell ⟨k, 0, none⟩ u0).setCell ⟨k, 1, none⟩ u1).setCell ⟨k, 2, none⟩ u2).setCell ⟨k, 3, none⟩ u3).heap[i]? = w.heap[i]? := by
  rw [Below.heap_setCell _ ⟨k, 3, none⟩ u3 i h, Below.heap_setCell _ ⟨k, 2, none⟩ u2 i h, Below.heap_setCell _ ⟨k, 1, none⟩ u1 i h, Below.heap_setCell _ ⟨k, 0, none⟩ u0 i h]
/-- What Join has under way: the row that is out, and the box of the whole one. -/
structure JI (w1 wr : World) (K : Nat) (ov : Value) (out : List Pn) (wh : Pn) : Prop where
  own : OwnL 46 4 Pn.cs w1.heap.size wr ov out
  box : BoxT 46 wr K wh.cs.toArray
  off : ∀ g, ov.ownBlock = some g → g ≠ K
  bel : Below w1.heap.size w1 wr
  ge : w1.heap.size ≤ K
theorem JI.below {w1 wr w' : World} {K : Nat} {ov : Value} {out : List Pn} {wh : Pn} (h : JI w1 wr K ov out wh) (hb : Below wr.heap.size wr w') : JI w1 w' K ov out wh :=
  ⟨h.own.below hb, BoxT.below (t := 46) h.box hb, h.off, h.bel.trans (hb.mono h.bel.size), h.ge⟩
theorem JI.put {w1 wr : World} {K : Nat} {ov : Value} {out : List Pn} {wh : Pn} (h : JI w1 wr K ov out wh) (y : Pn) : JI w1 ((((wr.setCell ⟨K, 0, none⟩ (.int .i64 y.k)).setCell ⟨K, 1, none⟩ (.int .i64 y.f)).setCell ⟨K, 2, none⟩ (.int .i64 y.t)).setCell ⟨K, 3, none⟩ (.int .i64 y.a)) K ov out y :=
  ⟨h.own.back (fun g e => heap_four wr K _ _ _ _ g (h.off g e)), BoxT.four h.box _ _ _ _, h.off, below_four h.bel h.ge _ _ _ _, h.ge⟩
theorem JI.app {w1 wr w' : World} {K : Nat} {ov v' : Value} {out : List Pn} {wh x : Pn} (h : JI w1 wr K ov out wh) (o : OwnL 46 4 Pn.cs w1.heap.size w' v' (out ++ [x])) (g : wr.grownBy w' ov.ownBlock) (hv : ∀ g, v'.ownBlock = some g → ov.ownBlock = some g ∨ wr.heap.size ≤ g) : JI w1 w' K v' (out ++ [x]) wh := by
  have hK := h.box.lt
  refine ⟨o, ?_, fun k e => ?_, h.bel.grown g h.bel.size (fun k e => h.own.at k e), h.ge⟩
  · have h1 := h.box
    unfold BoxT at *
    rw [g.block K hK (fun e => h.off K e.symm rfl)]; exact h1
  · rcases hv k e with h1 | h1
    · exact h.off k h1
    · omega
theorem JI.start {w1 wr : World} {ov : Value} {out : List Pn} (o : OwnL 46 4 Pn.cs w1.heap.size wr ov out) (b : Below w1.heap.size w1 wr) (x : Pn) : JI w1 (wr.alloc (.cells x.cs.toArray 46)) wr.heap.size ov out x :=
  ⟨o.alloc _, BoxT.new 46 wr _, fun g e => Nat.ne_of_lt (o.lt g e), b.alloc b.size _, b.size⟩
theorem JI.box_ {w1 wr : World} {K : Nat} {ov : Value} {out : List Pn} {wh : Pn} (h : JI w1 wr K ov out wh) (o : Obj) : JI w1 (wr.alloc o) K ov out wh := h.below (below_box wr o)
set_option maxHeartbeats 8000000 in
set_option maxRecDepth 100000 in
theorem Join_any {w : World} {v : Value} {l : List Pn} (hl : LSeg 4 Pn.cs w.heap.size w v l) (hn : l.length ≤ 100000) (a : Int) : Calls Try.prog 23 #[.int .i64 a, v] w fun e w' => ∃ u, e = .returned u ∧ Row 46 4 Pn.cs w.heap.size w' u (pJoin (jn a) l) ∧ Below w.heap.size w w' := by
  have HS1 := hide (Sort_any hl (by omega))
  obtain ⟨ao, cap, rfl⟩ := hl.shapeOf
  rw [pJoin_jst]
  have hsl : (srt l).length ≤ 100000 := by rw [srt_len]; exact hn
  have HRL : Hid ((jst (jn a) (srt l) []).length ≤ 100000) := (show _ ≤ _ by have := jst_len (jn a) (srt l) []; simp at this; omega)
  generalize srt l = m at *
  have HR : Hid (jst (jn a) (m.drop 0) [] = jst (jn a) m []) := (show _ = _ by rw [List.drop_zero])
  generalize jst (jn a) m [] = R at *
  clear hl hn
  go_enter Try.func23, Try.ntmps23
  go_wp2_with (go_at_call 24; refine HS1.out.mono ?_; rintro e w1 ⟨u, rfl, o1, b1⟩; obtain ⟨ua, uc, rfl⟩ := (o1.seg Pn.cs_len (by omega)).shapeOf; have O1 := hide (o1.seg Pn.cs_len (by omega)); have B1 := hide b1; clear o1 b1)
  clear HS1
  have HW : Hid (w.heap.size ≤ w1.heap.size) := hide B1.out.size
  go_loopg [5, 6, 7, 8] (m.length + 1) (fun gh ov iv _ _ wr => ∃ (i : Nat) (out : List Pn), iv = .int .i64 (i : Int) ∧ i ≤ m.length ∧ m.length + 1 ≤ gh + i ∧ Hid (OwnL 46 4 Pn.cs w1.heap.size wr ov out) ∧ Hid (jst (jn a) (m.drop i) out = R) ∧ Hid (Below w1.heap.size w1 wr))
  case atStart => exact ⟨0, [], rfl, by omega, by omega, OwnL.nil _ _ _ _ _, HR, Below.refl _ _⟩
  case round =>
    obtain ⟨i, out, rfl, hi, hg, GO, GR, GB⟩ := hrel
    obtain ⟨go, rfl⟩ : ∃ go, gk = go + 1 := ⟨gk - 1, by omega⟩
    obtain ⟨oa, oc, ho⟩ := GO.out.shape
    by_cases hlt : i < m.length
    · obtain ⟨x, hx⟩ := get_of_lt hlt
      have bt : (i : Int) < (m.length : Int) := by omega
      obtain ⟨nb, no, rfl, nlt, e0, e1, e2, e3⟩ := (O1.out.below GB.out).pane hx
      have HD : Hid (jrow (jn a) x (m.drop (i + 1)) out = R) := (show _ = _ by have := GR.out; rw [drop_at hx] at this; exact this)
      have HJ0 := hide (JI.start GO.out GB.out x)
      clear hx GR
      subst ho
      obtain ⟨xk, xf, xt, xa⟩ := x
      simp only at e0 e1 e2 e3
      obtain ⟨wo, rfl⟩ : ∃ wo, wo = wr := ⟨wr, rfl⟩
      go_wp2_with fail
      go_step3
      go_wp2_with fail
      go_step3
      go_wp2_with fail
      clear e0 e1 e2 e3
      generalize hKK : wo.heap.size = K at *
      go_loopg [5, 6, 8] (m.length + 1) (fun gh ov iv _ wr => ∃ (j : Nat) (out2 : List Pn) (wh : Pn), iv = .int .i64 (j : Int) ∧ i < j ∧ j ≤ m.length ∧ m.length + 1 ≤ gh + j ∧ Hid (JI w1 wr K ov out2 wh) ∧ Hid (jrow (jn a) wh (m.drop j) out2 = R))
      case atStart => exact ⟨i + 1, out, _, by go_num, by omega, by omega, by omega, HJ0, HD⟩
      case round =>
        clear HJ0 HD GO GB
        obtain ⟨j, out2, wh, rfl, hij, hj, hgj, HJ, HR2⟩ := hrel
        obtain ⟨gi, rfl⟩ : ∃ gi, gk = gi + 1 := ⟨gk - 1, by omega⟩
        obtain ⟨oa2, oc2, rfl⟩ := HJ.out.own.shape
        have HL2 : Hid (out2.length ≤ 1000000) := (show _ ≤ _ by have h1 := jrow_ge (jn a) (m.drop j) wh out2; rw [HR2.out] at h1; have := HRL.out; omega)
        have HWS : Hid (w1.heap.size ≤ wr.heap.size) := hide HJ.out.bel.size
        obtain ⟨c0, c1, c2, c3⟩ := box4 HJ.out.box
        by_cases hjl : j < m.length
        · obtain ⟨y, hy⟩ := get_of_lt hjl
          have bj : (j : Int) < (m.length : Int) := by omega
          obtain ⟨nb2, no2, ee, _, e0, e1, e2, e3⟩ := (O1.out.below HJ.out.bel).pane hy
          cases ee
          have HJB := hide (HJ.out.box_ (.cells #[.int .i64 y.k, .int .i64 y.f, .int .i64 y.t, .int .i64 y.a] 46))
          have HYB : Hid (BoxT 46 (wr.alloc (.cells #[.int .i64 y.k, .int .i64 y.f, .int .i64 y.t, .int .i64 y.a] 46)) wr.heap.size y.cs.toArray) := BoxT.new 46 wr _
          obtain ⟨g0, g1, g2, g3⟩ := box4 HYB.out
          obtain ⟨f0, f1, f2, f3⟩ := box4 HJB.out.box
          have HO := hide (fun W => overlap_any W wh y)
          have HP := hide (fun W => joined_any W a wh y)
          have HE := hide (fun W => isEmpty_any W y.f y.t)
          have HR3 := HR2.out
          rw [drop_at hy, jrow] at HR3
          generalize hov : ovb wh y = ob at *
          clear hov
          obtain ⟨yk, yf, yt, ya⟩ := y
          obtain ⟨hk, hf, ht, ha⟩ := wh
          unfold Pn.val at HO HP
          simp only at e0 e1 e2 e3 c0 c1 c2 c3 f0 f1 f2 f3 g0 g1 g2 g3 HE HJB HYB
          cases ob with
          | true =>
            rw [if_pos rfl] at HR3
            have HR4 := hide HR3
            clear HR3 hy HE
            generalize hz : jp (jn a) ⟨hk, hf, ht, ha⟩ ⟨yk, yf, yt, ya⟩ = z at *
            clear hz
            obtain ⟨zk, zf, zt, za⟩ := z
            simp only at HP
            go_wp2_with (first
              | (go_at_call 35; refine (HO.out _).mono ?_; rintro e w2 ⟨rfl, b2⟩; have HJ2 := hide (HJB.out.below b2); obtain ⟨p0, p1, p2, p3⟩ := box4 HJ2.out.box; obtain ⟨q0, q1, q2, q3⟩ := box4 (BoxT.below (t := 46) HYB.out b2); simp only at p0 p1 p2 p3 q0 q1 q2 q3; clear b2)
              | (go_at_call 36; refine (HP.out _).mono ?_; rintro e w3 ⟨rfl, b3⟩; have HJ3 := hide (HJ2.out.below b3); obtain ⟨r0, r1, r2, r3⟩ := box4 HJ3.out.box; have rf := fun j => HJ3.out.box.free j; simp only at r0 r1 r2 r3; clear b3))
            go_roundg gi
            case rel => exact ⟨j + 1, out2, _, by go_num, by omega, by omega, by omega, HJ3.out.put ⟨zk, zf, zt, za⟩, HR4⟩
            case measure => omega
          | false =>
            rw [if_neg (by decide)] at HR3
            by_cases hem : yf ≥ yt
            · have HR4 : Hid (jrow (jn a) ⟨hk, hf, ht, ha⟩ (m.drop (j + 1)) (out2 ++ [⟨yk, yf, yt, ya⟩]) = R) := (show _ = _ by rw [if_pos hem] at HR3; exact HR3)
              have hde : decide (yf ≥ yt) = true := decide_eq_true hem
              rw [hde] at HE
              clear HR3 hy HP hde hem
              go_wp2_with (first
                | (go_at_call 35; refine (HO.out _).mono ?_; rintro e w2 ⟨rfl, b2⟩; have HJ2 := hide (HJB.out.below b2); have HYB2 := hide (BoxT.below (t := 46) HYB.out b2); obtain ⟨q0, q1, q2, q3⟩ := box4 HYB2.out; simp only at q0 q1 q2 q3; clear b2)
                | (go_at_call 37; refine (HE.out _).mono ?_; rintro e w3 ⟨rfl, b3⟩; have HJ3 := hide (HJ2.out.below b3); obtain ⟨r0, r1, r2, r3⟩ := box4 (BoxT.below (t := 46) HYB2.out b3); simp only at r0 r1 r2 r3; clear b3; have HJ4 := hide (HJ3.out.box_ (.cells #[.int .i64 yk, .int .i64 yf, .int .i64 yt, .int .i64 ya] 46)); have HS4 := hide HJ4.out.bel.size)
                | (at_builtin; refine app_L Try.infoPn Try.underlying35 rfl (by decide) (by decide) Pn.cs_len Pn.cs_one rfl _ _ rfl w1.heap.size _ out2 rfl HJ4.out.own _ _ (⟨yk, yf, yt, ya⟩ : Pn) rfl (new4 w3 rfl ⟨yk, yf, yt, ya⟩) HL2.out HS4.out ?_; intro v5 w5 h5 g5 k5; have HJ5 := hide (HJ4.out.app h5 g5 k5); clear h5 g5 k5))
              go_roundg gi
              case rel => exact ⟨j + 1, _, _, by go_num, by omega, by omega, by omega, HJ5, HR4⟩
              case measure => omega
            · have HR4 : Hid (jst (jn a) (m.drop j) (out2 ++ [⟨hk, hf, ht, ha⟩]) = R) := (show _ = _ by rw [if_neg hem] at HR3; rw [drop_at hy]; exact HR3)
              have hde : decide (yf ≥ yt) = false := decide_eq_false hem
              rw [hde] at HE
              clear HR3 hy HP hde hem
              go_wp2_with (first
                | (go_at_call 35; refine (HO.out _).mono ?_; rintro e w2 ⟨rfl, b2⟩; have HJ2 := hide (HJB.out.below b2); have HYB2 := hide (BoxT.below (t := 46) HYB.out b2); obtain ⟨q0, q1, q2, q3⟩ := box4 HYB2.out; simp only at q0 q1 q2 q3; clear b2)
                | (go_at_call 37; refine (HE.out _).mono ?_; rintro e w3 ⟨rfl, b3⟩; have HJ3 := hide (HJ2.out.below b3); obtain ⟨r0, r1, r2, r3⟩ := box4 HJ3.out.box; simp only at r0 r1 r2 r3; clear b3; have HJ4 := hide (HJ3.out.box_ (.cells #[.int .i64 hk, .int .i64 hf, .int .i64 ht, .int .i64 ha] 46)); have HS4 := hide HJ4.out.bel.size)
                | (at_builtin; refine app_L Try.infoPn Try.underlying35 rfl (by decide) (by decide) Pn.cs_len Pn.cs_one rfl _ _ rfl w1.heap.size _ out2 rfl HJ4.out.own _ _ (⟨hk, hf, ht, ha⟩ : Pn) rfl (new4 w3 rfl ⟨hk, hf, ht, ha⟩) HL2.out HS4.out ?_; intro v5 w5 h5 g5 k5; have HJ5 := hide (HJ4.out.app h5 g5 k5); clear h5 g5 k5))
              (try simp only [Exit.noGoto, Exit.inBlock, Exit.then])
              go_wp2_with fail
              go_roundg go
              case rel => exact ⟨j, _, by go_num, by omega, by omega, hide HJ5.out.own, HR4, hide HJ5.out.bel⟩
              case measure => omega
        · have bj : ¬ (j : Int) < (m.length : Int) := by omega
          obtain ⟨hk, hf, ht, ha⟩ := wh
          simp only at c0 c1 c2 c3
          have HR4 : Hid (jst (jn a) (m.drop j) (out2 ++ [⟨hk, hf, ht, ha⟩]) = R) := (show _ = _ by have h1 := HR2.out; rw [drop_end hjl] at h1 ⊢; exact h1)
          have HJ4 := hide (HJ.out.box_ (.cells #[.int .i64 hk, .int .i64 hf, .int .i64 ht, .int .i64 ha] 46))
          have HS4 := hide HJ4.out.bel.size
          go_wp2_with (at_builtin; refine app_L Try.infoPn Try.underlying35 rfl (by decide) (by decide) Pn.cs_len Pn.cs_one rfl _ _ rfl w1.heap.size _ out2 rfl HJ4.out.own _ _ (⟨hk, hf, ht, ha⟩ : Pn) rfl (new4 wr rfl ⟨hk, hf, ht, ha⟩) HL2.out HS4.out ?_; intro v5 w5 h5 g5 k5; have HJ5 := hide (HJ4.out.app h5 g5 k5); clear h5 g5 k5)
          (try simp only [Exit.noGoto, Exit.inBlock, Exit.then])
          go_wp2_with fail
          go_roundg go
          case rel => exact ⟨j, _, by go_num, by omega, by omega, hide HJ5.out.own, HR4, hide HJ5.out.bel⟩
          case measure => omega
    · have bt : ¬ (i : Int) < (m.length : Int) := by omega
      have HRE : Hid (out = R) := (show _ = _ by have h1 := GR.out; rw [drop_end hlt] at h1; exact h1)
      have HSO := hide (Sort_any (GO.out.seg Pn.cs_len (by rw [HRE.out]; have := HRL.out; omega)) (by rw [HRE.out]; have := HRL.out; omega))
      rw [HRE.out] at HSO
      subst ho
      go_wp2_with (go_at_call 24; refine HSO.out.mono ?_; rintro e w6 ⟨u, rfl, o6, b6⟩)
      go_ret
      have hb7 := B1.out.trans (GB.out.mono B1.out.size)
      exact ⟨_, rfl, o6.mono (hb7.size), hb7.trans (b6.mono hb7.size)⟩
end Go.Proofs.Ytlikikiglicdlaa
