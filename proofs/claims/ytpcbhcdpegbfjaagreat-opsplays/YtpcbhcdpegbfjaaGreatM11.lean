/-
  Texts in build order: SSmall, SSearch, SPick, SPanes, SDel.
-/
import Derived.Test.YtpcbhcdpegbfjaaGreatM09
import Derived.Test.YtpcbhcdpegbfjaaGreatM10
import Derived.Laws.IdiomCopy
/-
 The small calls of a state: last, placeOf, isReduce, the closures, Len, pick, Panes.
-/
namespace Go.Proofs.YtpcbhcdpegbfjaaGreat
set_option maxHeartbeats 16000000
set_option maxRecDepth 100000
open Go.RowKit
theorem last_any (w : World) (f t : Int) : Calls Tryz.prog 103 #[.agg #[.int .i64 f, .int .i64 t]] w fun e w' => e = .returned (.int .i64 (wrap64 (t - 1))) ∧ Below w.heap.size w w' := by
 have HB := hide (below_box w (.cells #[.int .i64 f, .int .i64 t] 72))
 go_enter Tryz.func103, Tryz.ntmps103
 go_wp2_with fail
 go_ret
 exact ⟨rfl, HB.out⟩
theorem placeOf_any (w : World) (x : Pn) : Calls Tryz.prog 104 #[x.val] w fun e w' => e = .returned (plV x) ∧ Below w.heap.size w w' := by
 obtain ⟨xk, xf, xt, xa⟩ := x
 unfold Pn.val plV
 simp only
 have HB := hide (below_box2 w (.cells #[.int .i64 xk, .int .i64 xf, .int .i64 xt, .int .i64 xa] 79) (.cells #[.int .i64 xk, .int .i64 xf, .int .i64 xt] 150))
 go_enter Tryz.func104, Tryz.ntmps104
 go_wp2_with fail
 exact bodyPost_ret (v := .agg #[.int .i64 xk, .int .i64 xf, .int .i64 xt]) (by simp [results, Tryz.results104, go_sem]) rfl ⟨rfl, HB.out⟩
theorem isReduce_any {w : World} {s : Nat} {kd : Int} (h : w.cell? ⟨s, 0, none⟩ = some (.int .i64 kd)) : Calls Tryz.prog 100 #[.pointer (some ⟨s, 0, none⟩)] w fun e w' => e = .returned (.bool (kd == 0)) ∧ w' = w := by
 go_enter Tryz.func100, Tryz.ntmps100
 go_wp2_with fail
 go_ret
 exact ⟨rfl, rfl⟩
theorem panesC_any (w : World) (x : Pn) : Calls Tryz.prog 107 #[plV x] w fun e w' => e = .returned (.bool true) ∧ Below w.heap.size w w' := by
 have HB := hide (below_box w (.cells #[.int .i64 x.k, .int .i64 x.f, .int .i64 x.t] 150))
 unfold plV
 go_enter Tryz.func107, Tryz.ntmps107
 go_wp2_with fail
 go_ret
 exact ⟨rfl, HB.out⟩
theorem Len_any {w : World} {s : Nat} {kd size slide ag : Int} {fp : Nat → Prop} {M : List Pn} (h : SA w s kd size slide ag fp M) : Calls Tryz.prog 162 #[.pointer (some ⟨s, 0, none⟩)] w fun e w' => e = .returned (.int .i64 M.length) ∧ w' = w := by
 obtain ⟨m, o, fq, R, h, _⟩ := h
 obtain ⟨_, _, _, _, c4, _⟩ := h.cells
 have hm := h.mp
 go_enter Tryz.func162, Tryz.ntmps162
 go_wp2_with (first | (at_len; refine wp_lenM _ rfl _ 113 rfl 2 Tryz.underlying113 rfl hm ?_) | fail)
 go_ret
 exact ⟨by simp, rfl⟩
end Go.Proofs.YtpcbhcdpegbfjaaGreat
/-
 sort.Search over a key's sessions.
-/
namespace Go.Proofs.YtpcbhcdpegbfjaaGreat
set_option maxHeartbeats 16000000
set_option maxRecDepth 100000
open Go.RowKit
theorem LSeg.span {B : Nat} {w : World} {ao : Option Addr} {n cap : Nat} {xs : List Sp} (h : LSeg 2 Sp.cs B w (.slice ao n cap) xs) {i : Nat} {x : Sp} (hx : xs[i]? = some x) : ∃ b o, ao = some ⟨b, o, none⟩ ∧ b < B ∧ w.cell? ⟨b, o + i * 2, none⟩ = some (.int .i64 x.f) ∧ w.cell? ⟨b, o + i * 2 + 1, none⟩ = some (.int .i64 x.t) := by
 obtain ⟨b, o, e, hb, _, d⟩ := h.readAt hx
 exact ⟨b, o, e, hb, d 0 _ rfl, d 1 _ rfl⟩
theorem addC_any {w : World} {KL KF : Nat} {v : Value} {l : List Sp} {f t : Int} (hL : BoxT 74 w KL #[v]) (hF : BoxT 72 w KF #[.int .i64 f, .int .i64 t]) (hl : LSeg 2 Sp.cs w.heap.size w v l) {i : Nat} {x : Sp} (hx : l[i]? = some x) :
  Calls Tryz.prog 138 #[.int .i64 (i : Int), .pointer (some ⟨KL, 0, none⟩), .pointer (some ⟨KF, 0, none⟩)] w fun e w' => e = .returned (.bool (decide (x.t > f))) ∧ Below w.heap.size w w' := by
 obtain ⟨ao, cap, rfl⟩ := hl.shapeOf
 obtain ⟨nb, no, rfl, nlt, e0, e1⟩ := hl.span hx
 have hlt := lt_of_get hx
 have bt : (i : Int) < (l.length : Int) := by omega
 have bt0 : (0 : Int) ≤ (i : Int) := by omega
 have c0 : w.cell? ⟨KL, 0, none⟩ = some (.slice (some ⟨nb, no, none⟩) l.length cap) := by have := hL.cellAt 0; simpa using this
 have f0 : w.cell? ⟨KF, 0, none⟩ = some (.int .i64 f) := by have := hF.cellAt 0; simpa using this
 obtain ⟨xf, xt⟩ := x
 simp only at *
 clear hl hx hL hF
 go_enter Tryz.func138, Tryz.ntmps138
 go_upto_region 1 with fail
 go_quiet (fail)
 go_wp2_with fail
 go_ret
 exact ⟨rfl, below_drewN (Below.refl _ _) _⟩
theorem Search_any {w : World} {n : Nat} (hn : n ≤ 1000000) (F : Nat) (cap : Array Value) (q : Nat → Bool) (hq : ∀ a b, a ≤ b → b < n → q a = true → q b = true)
  (hF : ∀ (args : Array Value) (W : World), (callFunc F args).run Tryz.prog W = .ok (.enter F args) W)
  (hC : ∀ (w1 : World), Below w.heap.size w w1 → ∀ i : Nat, i < n → Calls Tryz.prog F (#[.int .i64 (i : Int)] ++ cap) w1 fun e w' => e = .returned (.bool (q i)) ∧ Below w1.heap.size w1 w') :
  Calls Tryz.prog 137 #[.int .i64 (n : Int), .func (.func F) #[] cap] w fun e w' => (∃ k : Nat, e = .returned (.int .i64 (k : Int)) ∧ k ≤ n ∧ (∀ a, a < k → q a = false) ∧ ∀ a, k ≤ a → a < n → q a = true) ∧ Below w.heap.size w w' := by
 have HC := hide hC
 have HQ := hide hq
 clear hC hq
 go_enter Tryz.func137, Tryz.ntmps137
 go_wp2_with fail
 go_loopg [5, 6, 7] (n + 1) (fun gh iv jv _ wr => ∃ i j : Nat, iv = .int .i64 (i : Int) ∧ jv = .int .i64 (j : Int) ∧ i ≤ j ∧ j ≤ n ∧ j + 1 ≤ gh + i ∧ Hid (∀ a, a < i → q a = false) ∧ Hid (∀ a, j ≤ a → a < n → q a = true) ∧ Hid (Below w.heap.size w wr))
 case atStart => exact ⟨0, n, rfl, rfl, by omega, by omega, by omega, (show ∀ a, _ from fun a ha => by omega), (show ∀ a, _ from fun a ha => by omega), Below.refl _ _⟩
 case round =>
  obtain ⟨i, j, rfl, rfl, hij, hjn, hg, HI, HJ, GB⟩ := hrel
  obtain ⟨go, rfl⟩ : ∃ go, gk = go + 1 := ⟨gk - 1, by omega⟩
  have hrun := hF
  by_cases hlt : i < j
  ·have bt : (i : Int) < (j : Int) := by omega
   obtain ⟨h, hh⟩ : ∃ h, (i + j) / 2 = h := ⟨_, rfl⟩
   have hh1 : i ≤ h := by omega
   have hh2 : h < j := by omega
   have HH : Hid (((i : Int) + (j : Int)) / 2 = (h : Int)) := (show _ = _ by omega)
   clear hh
   have hC1 := HC.out wr GB.out h (by omega)
   rw [← HH.out] at hC1
   have HC1 := hide hC1
   clear hC1
   cases hb : q h with
   | true =>
    rw [hb] at HC1
    have HB := hide hb
    clear hb
    go_wp2_with (first | (refine HC1.out.mono ?_; rintro e w1 ⟨rfl, b1⟩; have B1 := hide (GB.out.trans (b1.mono GB.out.size)); clear b1) | fail)
    go_roundg go
    case rel => exact ⟨i, h, rfl, by rw [HH.out], by omega, by omega, by omega, HI, (show ∀ a, _ from fun a h1 h2 => HQ.out h a h1 h2 HB.out), B1⟩
    case measure => omega
   | false =>
    rw [hb] at HC1
    have HB := hide hb
    clear hb
    go_wp2_with (first | (refine HC1.out.mono ?_; rintro e w1 ⟨rfl, b1⟩; have B1 := hide (GB.out.trans (b1.mono GB.out.size)); clear b1) | fail)
    go_roundg go
    case rel =>
     refine ⟨h + 1, j, by rw [HH.out]; go_num, rfl, by omega, by omega, by omega, (show ∀ a, _ from fun a ha => ?_), HJ, B1⟩
     cases hqa : q a with
     | false => rfl
     | true => have := HQ.out a h (by omega) (by omega) hqa; rw [HB.out] at this; cases this
    case measure => omega
  ·have bt : ¬ (i : Int) < (j : Int) := by omega
   go_wp2_with fail
   go_ret
   exact ⟨⟨i, rfl, by omega, HI.out, fun a h1 h2 => HJ.out a (by omega) h2⟩, GB.out⟩
end Go.Proofs.YtpcbhcdpegbfjaaGreat
/-
 pick: the panes of wanted places; Panes.
-/
namespace Go.Proofs.YtpcbhcdpegbfjaaGreat
set_option maxHeartbeats 16000000
set_option maxRecDepth 100000
open Go.RowKit
theorem new4 (W : World) {n : Nat} (hn : n = W.heap.size) (x : Pn) (j : Nat) (u : Value) (hu : (Pn.cs x)[j]? = some u) : (W.alloc (.cells #[.int .i64 x.k, .int .i64 x.f, .int .i64 x.t, .int .i64 x.a] 79)).cell? ((⟨n, 0, none⟩ : Addr).add j) = some u := by
 have hb : BoxT 79 _ n _ := BoxT.new_at (t := 79) (w := W) (cs := #[.int .i64 x.k, .int .i64 x.f, .int .i64 x.t, .int .i64 x.a]) hn
 rw [add_plain2, hb.cellAt, Nat.zero_add]
 have hl := lt_of_get hu
 rw [Pn.cs_len] at hl
 match j, hu with
 | 0, hu | 1, hu | 2, hu | 3, hu => simp [Pn.cs] at hu; subst hu; rfl
theorem LSeg.pane {B : Nat} {w : World} {ao : Option Addr} {n cap : Nat} {xs : List Pn} (h : LSeg 4 Pn.cs B w (.slice ao n cap) xs) {i : Nat} {x : Pn} (hx : xs[i]? = some x) : ∃ b o, ao = some ⟨b, o, none⟩ ∧ b < B ∧ w.cell? ⟨b, o + i * 4, none⟩ = some (.int .i64 x.k) ∧ w.cell? ⟨b, o + i * 4 + 1, none⟩ = some (.int .i64 x.f) ∧ w.cell? ⟨b, o + i * 4 + 2, none⟩ = some (.int .i64 x.t) ∧ w.cell? ⟨b, o + i * 4 + 3, none⟩ = some (.int .i64 x.a) := by
 obtain ⟨b, o, e, hb, _, d⟩ := h.readAt hx
 exact ⟨b, o, e, hb, d 0 _ rfl, d 1 _ rfl, d 2 _ rfl, d 3 _ rfl⟩
theorem BoxT.cells3 {t : TypeId} {w : World} {k : Nat} {c0 c1 c2 : Value} (h : BoxT t w k #[c0, c1, c2]) : w.cell? ⟨k, 0, none⟩ = some c0 ∧ w.cell? ⟨k, 1, none⟩ = some c1 ∧ w.cell? ⟨k, 2, none⟩ = some c2 := by
 unfold BoxT at h
 simp [World.cell?, h]
theorem snoc_filter {α : Type} (q : α → Bool) (d : List α) (x : α) : (d ++ [x]).filter q = if q x then d.filter q ++ [x] else d.filter q := by
 rw [List.filter_append]
 cases h : q x <;> simp [h]
theorem perm_snoc {α : Type} {d rs rs' M : List α} {x : α} (h : (d ++ rs).Perm M) (hp : rs.Perm (x :: rs')) : ((d ++ [x]) ++ rs').Perm M := by
 rw [List.append_assoc]
 exact (List.Perm.append_left d hp.symm).trans h
structure PKI (w wr : World) (m : Nat) (M : List Pn) (q : Pn → Bool) (v : Value) (d rs : List Pn) : Prop where
 rg : RangeAt Tryz.prog 150 wr m w.heap.size (M.map pEnt) (rs.map pEnt)
 all : (d ++ rs).Perm M
 row : OwnL 79 4 Pn.cs (w.heap.size + 1) wr v (d.filter q)
 bel : Below w.heap.size w wr
theorem PKI.range {w wr w' : World} {m : Nat} {M : List Pn} {q : Pn → Bool} {v : Value} {d rs rs' : List Pn} {x : Pn} (h : PKI w wr m M q v d rs) (hp : rs.Perm (x :: rs')) (hr : RangeAt Tryz.prog 150 w' m w.heap.size (M.map pEnt) (rs'.map pEnt)) (hg : wr.grownBy w' (some w.heap.size)) :
  RangeAt Tryz.prog 150 w' m w.heap.size (M.map pEnt) (rs'.map pEnt) ∧ ((d ++ [x]) ++ rs').Perm M ∧ OwnL 79 4 Pn.cs (w.heap.size + 1) w' v (d.filter q) ∧ Below w.heap.size w w' :=
 ⟨hr, perm_snoc h.all hp, h.row.back (fun g e => hg.block g (h.row.lt g e) (fun e' => by have := h.row.at g e; cases e'; omega)), h.bel.grown hg h.bel.size (fun k e => by cases e; exact Nat.le_refl _)⟩
theorem pick_any {w : World} {s : Nat} {kd size slide ag : Int} {fp : Nat → Prop} {M : List Pn} (h : SA w s kd size slide ag fp M) (F : Nat) (cap : Array Value) (q : Pn → Bool)
  (hF : ∀ (args : Array Value) (W : World), (callFunc F args).run Tryz.prog W = .ok (.enter F args) W)
  (hC : ∀ (w1 : World), Below w.heap.size w w1 → ∀ x : Pn, Calls Tryz.prog F (#[plV x] ++ cap) w1 fun e w' => e = .returned (.bool (q x)) ∧ Below w1.heap.size w1 w') (hn : M.length ≤ 1000000) :
  Calls Tryz.prog 101 #[.pointer (some ⟨s, 0, none⟩), .func (.func F) #[] cap] w fun e w' => ∃ u c, e = .returned u ∧ OwnL 79 4 Pn.cs w.heap.size w' u c ∧ c.Perm (M.filter q) ∧ Below w.heap.size w w' := by
 obtain ⟨m, o, fq, R, h, _⟩ := h
 obtain ⟨_, _, _, _, c4, _⟩ := h.cells
 have hm := hide h.mp
 have HC := hide hC
 clear h hC
 go_enter Tryz.func101, Tryz.ntmps101
 go_wp2_with (first | (at_range; refine wp_rangeM _ rfl _ 113 rfl 2 Tryz.underlying113 rfl hm.out ?_; intro w0 hrg0 hg0 hs0) | fail)
 go_frame
 have H0 : Hid (PKI w w0 m M q (.slice none 0 0) [] M) := ⟨hrg0, .refl _, OwnL.nil _ _ _ _ _, (Below.refl _ _).grown hg0 (Nat.le_refl _) (fun k e => by cases e)⟩
 clear hrg0 hg0 hs0 hm c4
 go_loopg [5, 6, 7, 13] (M.length + 1) (fun gh v _ _ _ wr => ∃ d rs, rs.length + 1 ≤ gh ∧ d.length + rs.length ≤ 1000000 ∧ Hid (PKI w wr m M q v d rs))
 case atStart => exact ⟨[], M, Nat.le_refl _, by simpa using hn, H0⟩
 case round =>
  obtain ⟨d, rs, hgh, hlen, HI⟩ := hrel
  obtain ⟨go, rfl⟩ : ∃ go, gk = go + 1 := ⟨gk - 1, by omega⟩
  obtain ⟨va, vc, rfl⟩ := HI.out.row.shape
  have hrg := hide HI.out.rg
  go_wp2_with (first | (at_next; refine wp_nextM pEnt _ rfl _ rfl rfl hrg.out ?_ ?_) | fail)
  ·intro hl0
   subst hl0
   go_wp2_with fail
   go_ret
   exact ⟨_, _, rfl, HI.out.row.mono (Nat.le_succ _), by have := HI.out.all; rw [List.append_nil] at this; exact this.filter q, HI.out.bel⟩
  ·intro x rs' w1 hp hr1 hg1 hs1 hen
   have hx := HI.out.range hp hr1 hg1
   have HX := hide hx
   have hl2 := hp.length_eq
   simp only [List.length_cons] at hl2
   clear hx hp hr1 hg1 hrg hs1
   obtain ⟨xk, xf, xt, xa⟩ := x
   simp only [pEnt, plV] at hen
   unfold pEnt plV
   simp only
   have HB1 := hide (below_box w1 (.cells #[.int .i64 xk, .int .i64 xf, .int .i64 xt] 150))
   have HC1 := hide (HC.out (w1.alloc (.cells #[.int .i64 xk, .int .i64 xf, .int .i64 xt] 150)) (HX.out.2.2.2.trans (HB1.out.mono HX.out.2.2.2.size)) ⟨xk, xf, xt, xa⟩)
   have hrun := hF
   have HS := hide (snoc_filter q d ⟨xk, xf, xt, xa⟩)
   unfold plV at HC1
   simp only at HC1
   have HL : Hid ((d.filter q).length ≤ 1000000) := (show _ ≤ _ by have := List.length_filter_le q d; omega)
   have HBW : Hid (∀ w3, Below w1.heap.size w1 w3 → Below w.heap.size w w3) := fun w3 h3 => HX.out.2.2.2.trans (h3.mono HX.out.2.2.2.size)
   have HRW : Hid (∀ w3, Below w1.heap.size w1 w3 → RangeAt Tryz.prog 150 w3 m w.heap.size (M.map pEnt) (rs'.map pEnt)) := fun w3 h3 => HX.out.1.back (h3.block _ HX.out.1.mapAt.lt) (h3.block _ HX.out.1.lt)
   generalize hdq : d.filter q = dq at *
   cases hq : q ⟨xk, xf, xt, xa⟩ with
   | true =>
    rw [hq] at HC1 HS
    rw [if_pos rfl] at HS
    clear hq
    go_wp2_with (first | (refine HC1.out.mono ?_; rintro e w2 ⟨rfl, b2⟩; have HB2 := hide (HB1.out.trans (b2.mono HB1.out.size)); have HX2 := hide (BoxT.below (t := 150) (BoxT.new_at (t := 150) (w := w1) (cs := #[.int .i64 xk, .int .i64 xf, .int .i64 xt]) rfl) b2); obtain ⟨y0, y1, y2⟩ := HX2.out.cells3; have HB3 := hide (below_box w2 (.cells #[.int .i64 xk, .int .i64 xf, .int .i64 xt, .int .i64 xa] 79)); have HB4 := hide (HB2.out.trans (HB3.out.mono HB2.out.size)); have HO3 := hide (HX.out.2.2.1.below HB4.out); have HSZ := hide (show w.heap.size + 1 ≤ (w2.alloc (.cells #[.int .i64 xk, .int .i64 xf, .int .i64 xt, .int .i64 xa] 79)).heap.size from Nat.le_trans (Nat.succ_le_of_lt HX.out.1.lt) HB4.out.size); clear b2) | (at_builtin; refine app_L Tryz.infoPn Tryz.underlying47 rfl (by decide) (by decide) Pn.cs_len Pn.cs_one rfl _ _ rfl (w.heap.size + 1) _ dq rfl HO3.out _ _ (⟨xk, xf, xt, xa⟩ : Pn) rfl (new4 w2 (by simp) ⟨xk, xf, xt, xa⟩) HL.out HSZ.out ?_; intro v5 w5 h5 g5 k5) | fail)
    have hv5 : Below w1.heap.size w1 w5 → True := fun _ => trivial
    clear hv5
    go_roundg go
    case rel =>
     have h6 : ∀ i, some i = (Value.slice va dq.length vc).ownBlock → w.heap.size + 1 ≤ i := fun i e => HO3.out.at i e.symm
     refine ⟨d ++ [⟨xk, xf, xt, xa⟩], rs', by omega, by simp; omega, ⟨?_, HX.out.2.1, by rw [HS.out]; exact h5, ?_⟩⟩
     ·have hr := HRW.out _ HB4.out
      exact hr.back (g5.block _ hr.mapAt.lt (fun e => by
       obtain ⟨es, ck, hes⟩ := hr.mapAt.isMap
       obtain ⟨cu, hcu⟩ := HO3.out.has _ e.symm
       rw [hes] at hcu; cases hcu)) (g5.block _ hr.lt (fun e => by have := h6 _ e; omega))
     ·exact (HBW.out _ HB4.out).grown g5 (HBW.out _ HB4.out).size (fun k e => by have := h6 k e.symm; omega)
    case measure => omega
   | false =>
    rw [hq] at HC1 HS
    rw [if_neg (by decide)] at HS
    clear hq
    go_wp2_with (first | (refine HC1.out.mono ?_; rintro e w2 ⟨rfl, b2⟩; have HB2 := hide (HB1.out.trans (b2.mono HB1.out.size)); have HX2 := hide (BoxT.below (t := 150) (BoxT.new_at (t := 150) (w := w1) (cs := #[.int .i64 xk, .int .i64 xf, .int .i64 xt]) rfl) b2); obtain ⟨y0, y1, y2⟩ := HX2.out.cells3; have HB3 := hide (below_box w2 (.cells #[.int .i64 xk, .int .i64 xf, .int .i64 xt, .int .i64 xa] 79)); have HB4 := hide (HB2.out.trans (HB3.out.mono HB2.out.size)); have HO3 := hide (HX.out.2.2.1.below HB4.out); have HSZ := hide (show w.heap.size + 1 ≤ (w2.alloc (.cells #[.int .i64 xk, .int .i64 xf, .int .i64 xt, .int .i64 xa] 79)).heap.size from Nat.le_trans (Nat.succ_le_of_lt HX.out.1.lt) HB4.out.size); clear b2) | fail)
    go_roundg go
    case rel =>
     exact ⟨d ++ [⟨xk, xf, xt, xa⟩], rs', by omega, by simp; omega, ⟨HRW.out _ HB2.out, HX.out.2.1, by rw [HS.out]; exact HX.out.2.2.1.below HB2.out, HBW.out _ HB2.out⟩⟩
    case measure => omega
end Go.Proofs.YtpcbhcdpegbfjaaGreat
/-
 The closures of Group, Fire and end; Panes, Group, Next.
-/
namespace Go.Proofs.YtpcbhcdpegbfjaaGreat
set_option maxHeartbeats 16000000
set_option maxRecDepth 100000
open Go.RowKit
theorem fireC_any {w : World} {KB : Nat} {mk : Int} (hK : BoxT 2 w KB #[.int .i64 mk]) (x : Pn) : Calls Tryz.prog 102 #[plV x, .pointer (some ⟨KB, 0, none⟩)] w fun e w' => e = .returned (.bool (decide (wrap64 (x.t - 1) ≤ mk))) ∧ Below w.heap.size w w' := by
 obtain ⟨xk, xf, xt, xa⟩ := x
 unfold plV
 simp only
 have HB0 : Hid (BoxT 150 (w.alloc (.cells #[.int .i64 xk, .int .i64 xf, .int .i64 xt] 150)) w.heap.size #[.int .i64 xk, .int .i64 xf, .int .i64 xt]) := BoxT.new _ _ _
 have HBB := hide (below_box w (.cells #[.int .i64 xk, .int .i64 xf, .int .i64 xt] 150))
 have HK1 : Hid (BoxT 2 (w.alloc (.cells #[.int .i64 xk, .int .i64 xf, .int .i64 xt] 150)) KB #[.int .i64 mk]) := BoxT.below (t := 2) hK HBB.out
 have HG : Hid (∀ w', Below (w.alloc (.cells #[.int .i64 xk, .int .i64 xf, .int .i64 xt] 150)).heap.size (w.alloc (.cells #[.int .i64 xk, .int .i64 xf, .int .i64 xt] 150)) w' → Calls Tryz.prog 103 #[.agg #[.int .i64 xf, .int .i64 xt]] w' fun e w'' => e = .returned (.int .i64 (wrap64 (xt - 1))) ∧ Below (w.alloc (.cells #[.int .i64 xk, .int .i64 xf, .int .i64 xt] 150)).heap.size (w.alloc (.cells #[.int .i64 xk, .int .i64 xf, .int .i64 xt] 150)) w'') := fun w' h => (last_any w' xf xt).mono (by rintro e w'' ⟨rfl, h2⟩; exact ⟨rfl, h.trans (h2.mono h.size)⟩)
 generalize hL : wrap64 (xt - 1) = L at *
 clear hL
 have KC : Hid (∀ w' : World, Below ((w.alloc (.cells #[.int .i64 xk, .int .i64 xf, .int .i64 xt] 150))).heap.size ((w.alloc (.cells #[.int .i64 xk, .int .i64 xf, .int .i64 xt] 150))) w' → w'.cell? ⟨w.heap.size, 0, none⟩ = some (.int .i64 xk) ∧ w'.cell? ⟨w.heap.size, 1, none⟩ = some (.int .i64 xf) ∧ w'.cell? ⟨w.heap.size, 2, none⟩ = some (.int .i64 xt) ∧ w'.cell? ⟨KB, 0, none⟩ = some (.int .i64 mk)) := fun w' h => ⟨(by rw [(BoxT.below (t := 150) HB0.out h).cellAt]; rfl), (by rw [(BoxT.below (t := 150) HB0.out h).cellAt]; rfl), (by rw [(BoxT.below (t := 150) HB0.out h).cellAt]; rfl), (by rw [(BoxT.below (t := 2) HK1.out h).cellAt]; rfl)⟩
 clear hK
 go_enter Tryz.func102, Tryz.ntmps102
 go_upto_region 1 with fail
 have B1 : Hid (Below ((w.alloc (.cells #[.int .i64 xk, .int .i64 xf, .int .i64 xt] 150))).heap.size ((w.alloc (.cells #[.int .i64 xk, .int .i64 xf, .int .i64 xt] 150))) ((w.alloc (.cells #[.int .i64 xk, .int .i64 xf, .int .i64 xt] 150))).drew) := (Below.refl _ _).drew
 refine wp_region_M (S := fun w' => w'.cell? ⟨w.heap.size, 0, none⟩ = some (.int .i64 xk) ∧ w'.cell? ⟨w.heap.size, 1, none⟩ = some (.int .i64 xf) ∧ w'.cell? ⟨w.heap.size, 2, none⟩ = some (.int .i64 xt) ∧ w'.cell? ⟨KB, 0, none⟩ = some (.int .i64 mk)) (late := []) (by kernel_rfl) (KC.out _ B1.out) (fun hH => ?_)
 (try simp only [nr, Nat.reduceAdd])
 refine tkA 0 hH ?_; simp only [nm]; refine tkA 1 hH ?_; simp only [nm]; refine tkA 3 hH ?_; simp only [nm]
 refine tkO 2 fun K hK => ?_
 go_simp
 go_at_call 103
 refine (HG.out _ B1.out).mono ?_
 rintro e w2 ⟨rfl, hb⟩
 have B2 := hide hb
 refine hK.out _ _ (KC.out _ hb) (fun hH => ?_)
 clear hK K hb
 (try simp only [nm])
 refine tkA 4 hH ?_; simp only [nm]; refine tkA 5 hH ?_; simp only [nm]
 refine wpAnyM_done (by kernel_rfl) ?_ _
 go_wp2_with fail
 go_ret
 exact ⟨rfl, HBB.out.trans (B2.out.mono HBB.out.size)⟩
theorem endC_any {w : World} {KB : Nat} {mk : Int} (hK : BoxT 2 w KB #[.int .i64 mk]) (x : Sp) : Calls Tryz.prog 116 #[x.val, .pointer (some ⟨KB, 0, none⟩)] w fun e w' => e = .returned (.bool (decide (wrap64 (x.t - 1) ≤ mk))) ∧ Below w.heap.size w w' := by
 obtain ⟨xf, xt⟩ := x
 unfold Sp.val
 simp only
 have HB0 : Hid (BoxT 72 (w.alloc (.cells #[.int .i64 xf, .int .i64 xt] 72)) w.heap.size #[.int .i64 xf, .int .i64 xt]) := BoxT.new _ _ _
 have HBB := hide (below_box w (.cells #[.int .i64 xf, .int .i64 xt] 72))
 have HK1 : Hid (BoxT 2 (w.alloc (.cells #[.int .i64 xf, .int .i64 xt] 72)) KB #[.int .i64 mk]) := BoxT.below (t := 2) hK HBB.out
 have HG : Hid (∀ w', Below (w.alloc (.cells #[.int .i64 xf, .int .i64 xt] 72)).heap.size (w.alloc (.cells #[.int .i64 xf, .int .i64 xt] 72)) w' → Calls Tryz.prog 103 #[.agg #[.int .i64 xf, .int .i64 xt]] w' fun e w'' => e = .returned (.int .i64 (wrap64 (xt - 1))) ∧ Below (w.alloc (.cells #[.int .i64 xf, .int .i64 xt] 72)).heap.size (w.alloc (.cells #[.int .i64 xf, .int .i64 xt] 72)) w'') := fun w' h => (last_any w' xf xt).mono (by rintro e w'' ⟨rfl, h2⟩; exact ⟨rfl, h.trans (h2.mono h.size)⟩)
 generalize hL : wrap64 (xt - 1) = L at *
 clear hL
 have KC : Hid (∀ w' : World, Below ((w.alloc (.cells #[.int .i64 xf, .int .i64 xt] 72))).heap.size ((w.alloc (.cells #[.int .i64 xf, .int .i64 xt] 72))) w' → w'.cell? ⟨w.heap.size, 0, none⟩ = some (.int .i64 xf) ∧ w'.cell? ⟨w.heap.size, 1, none⟩ = some (.int .i64 xt) ∧ w'.cell? ⟨KB, 0, none⟩ = some (.int .i64 mk)) := fun w' h => ⟨(by rw [(BoxT.below (t := 72) HB0.out h).cellAt]; rfl), (by rw [(BoxT.below (t := 72) HB0.out h).cellAt]; rfl), (by rw [(BoxT.below (t := 2) HK1.out h).cellAt]; rfl)⟩
 clear hK
 go_enter Tryz.func116, Tryz.ntmps116
 go_upto_region 1 with fail
 have B1 : Hid (Below ((w.alloc (.cells #[.int .i64 xf, .int .i64 xt] 72))).heap.size ((w.alloc (.cells #[.int .i64 xf, .int .i64 xt] 72))) ((w.alloc (.cells #[.int .i64 xf, .int .i64 xt] 72))).drew) := (Below.refl _ _).drew
 refine wp_region_M (S := fun w' => w'.cell? ⟨w.heap.size, 0, none⟩ = some (.int .i64 xf) ∧ w'.cell? ⟨w.heap.size, 1, none⟩ = some (.int .i64 xt) ∧ w'.cell? ⟨KB, 0, none⟩ = some (.int .i64 mk)) (late := []) (by kernel_rfl) (KC.out _ B1.out) (fun hH => ?_)
 (try simp only [nr, Nat.reduceAdd])
 refine tkA 0 hH ?_; simp only [nm]; refine tkA 2 hH ?_; simp only [nm]
 refine tkO 1 fun K hK => ?_
 go_simp
 go_at_call 103
 refine (HG.out _ B1.out).mono ?_
 rintro e w2 ⟨rfl, hb⟩
 have B2 := hide hb
 refine hK.out _ _ (KC.out _ hb) (fun hH => ?_)
 clear hK K hb
 (try simp only [nm])
 refine tkA 3 hH ?_; simp only [nm]; refine tkA 4 hH ?_; simp only [nm]
 refine wpAnyM_done (by kernel_rfl) ?_ _
 go_wp2_with fail
 go_ret
 exact ⟨rfl, HBB.out.trans (B2.out.mono HBB.out.size)⟩
theorem Row.mono {α : Type} {t sz : Nat} {cs : α → List Value} {base base' : Nat} {w : World} {v : Value} {xs : List α} (h : Row t sz cs base w v xs) (hb : base' ≤ base) : Row t sz cs base' w v xs := by
 rcases h with h | ⟨g, off, cap, cur, h1, h2, h3⟩
 ·exact .inl h
 ·exact .inr ⟨g, off, cap, cur, h1, Nat.le_trans hb h2, h3⟩
theorem Panes_any {w : World} {s : Nat} {kd size slide ag : Int} {fp : Nat → Prop} {M : List Pn} (h : SA w s kd size slide ag fp M) (hn : M.length ≤ 1000000) :
  Calls Tryz.prog 96 #[.pointer (some ⟨s, 0, none⟩)] w fun e w' => ∃ u, e = .returned u ∧ Row 79 4 Pn.cs w.heap.size w' u (srt M) ∧ Below w.heap.size w w' := by
 have HP := hide (pick_any h 107 #[] (fun _ => true) (fun args W => by kernel_rfl) (fun w1 _ x => by simpa using panesC_any w1 x) hn)
 clear h
 go_enter Tryz.func96, Tryz.ntmps96
 go_wp2_with (first | (go_at_call 101; refine HP.out.mono ?_; rintro e w1 ⟨u, c, rfl, o1, p1, b1⟩; have hl1 : c.length ≤ 1000000 := (by rw [p1.length_eq]; exact Nat.le_trans (List.length_filter_le ..) hn); have HS := hide (Sort_any (o1.seg Pn.cs_len (by omega)) hl1); have P1 := hide p1; have B1 := hide b1; clear o1 p1 b1 hl1) | (go_at_call 98; refine HS.out.mono ?_; rintro e w2 ⟨u2, rfl, o2, b2⟩; have O2 := hide o2; have B2 := hide b2; clear o2 b2) | fail)
 go_ret
 have e1 : srt c = srt M := srt_eq (by have := P1.out; rwa [List.filter_eq_self.2 (fun _ _ => rfl)] at this)
 refine ⟨_, rfl, ?_, B1.out.trans (B2.out.mono B1.out.size)⟩
 rw [← e1]
 exact O2.out.mono B1.out.size
end Go.Proofs.YtpcbhcdpegbfjaaGreat
/-
 slices.IndexFunc and DeleteFunc over a key's sessions.
-/
namespace Go.Proofs.YtpcbhcdpegbfjaaGreat
set_option maxHeartbeats 16000000
set_option maxRecDepth 100000
open Go.RowKit
def ovm (mk : Int) (s : Sp) : Bool := decide (wrap64 (s.t - 1) ≤ mk)
theorem endO_any {w : World} {K : Nat} {mk : Int} (hK : BoxT 2 w K #[.int .i64 mk]) (x : Sp) : Calls Tryz.prog 116 #[x.val, .pointer (some ⟨K, 0, none⟩)] w fun e w' => e = .returned (.bool (ovm mk x)) ∧ Below w.heap.size w w' := endC_any hK x
theorem runEnd (args : Array Value) (W : World) : (callFunc 116 args).run Tryz.prog W = .ok (.enter 116 args) W := by kernel_rfl
theorem index_any {w : World} {K : Nat} {wh : Int} {v : Value} {l : List Sp} (hK : BoxT 2 w K #[.int .i64 wh]) (hl : LSeg 2 Sp.cs w.heap.size w v l) (hn : l.length ≤ 1000000) :
  Calls Tryz.prog 125 #[v, .func (.func 116) #[] #[.pointer (some ⟨K, 0, none⟩)]] w fun e w' => (∃ r : Int, e = .returned (.int .i64 r) ∧ ((r = -1 ∧ ∀ s ∈ l, ovm wh s = false) ∨ ∃ k : Nat, r = (k : Int) ∧ k < l.length ∧ (∀ i s, i < k → l[i]? = some s → ovm wh s = false) ∧ ∀ s, l[k]? = some s → ovm wh s = true)) ∧ Below w.heap.size w w' := by
 obtain ⟨ao, cap, rfl⟩ := hl.shapeOf
 have HL := hide hl
 have HK := hide hK
 clear hl hK
 go_enter Tryz.func125, Tryz.ntmps125
 go_wp2_with fail
 go_loopg [5, 8] (l.length + 1) (fun gh xv iv wr => ∃ t : Nat, iv = .int .i64 (t : Int) ∧ t ≤ l.length ∧ l.length + 1 ≤ gh + t ∧ Hid (∀ a s, a < t → l[a]? = some s → ovm wh s = false) ∧ Hid (Below w.heap.size w wr))
 case atStart => exact ⟨0, rfl, by omega, by omega, (show ∀ a s, _ from fun a s ha => by omega), Below.refl _ _⟩
 case round =>
  obtain ⟨t, rfl, ht, hg, HI, GB⟩ := hrel
  obtain ⟨go, rfl⟩ : ∃ go, gk = go + 1 := ⟨gk - 1, by omega⟩
  by_cases hlt : t < l.length
  ·obtain ⟨x, hx⟩ := get_of_lt hlt
   have bt : (t : Int) < (l.length : Int) := by omega
   obtain ⟨nb, no, rfl, nlt, e0, e1⟩ := (HL.out.below GB.out).span hx
   have HC := hide (endO_any (BoxT.below (t := 2) HK.out GB.out) x)
   have HX := hide hx
   clear hx
   have hrun := runEnd
   generalize hR : ovm wh x = R at HC
   have HR := hide hR
   clear hR
   obtain ⟨xf, xt⟩ := x
   unfold Sp.val at HC
   simp only at e0 e1
   cases R with
   | false =>
    go_wp2_with (refine HC.out.mono ?_; rintro e w1 ⟨rfl, b1⟩; have B1 := hide (GB.out.trans (b1.mono GB.out.size)); clear b1)
    go_roundg go
    case rel =>
     refine ⟨t + 1, by go_num, by omega, by omega, (show ∀ a s, _ from fun a s ha hs => ?_), B1⟩
     by_cases e : a = t
     ·subst e
      rw [HX.out] at hs
      cases hs
      exact HR.out
     ·exact HI.out a s (by omega) hs
    case measure => omega
   | true =>
    go_wp2_with (refine HC.out.mono ?_; rintro e w1 ⟨rfl, b1⟩; have B1 := hide (GB.out.trans (b1.mono GB.out.size)); clear b1)
    go_ret
    exact ⟨⟨t, rfl, .inr ⟨t, rfl, hlt, HI.out, fun s hs => by rw [HX.out] at hs; cases hs; exact HR.out⟩⟩, B1.out⟩
  ·have bt : ¬ (t : Int) < (l.length : Int) := by omega
   go_wp2_with fail
   go_ret
   refine ⟨⟨-1, rfl, .inl ⟨rfl, fun s hs => ?_⟩⟩, GB.out⟩
   obtain ⟨a, ha⟩ := List.getElem?_of_mem hs
   exact HI.out a s (by have := lt_of_get ha; omega) ha
def keepO (wh : Int) (l : List Sp) : List Sp := l.filter fun s => !ovm wh s
structure DI (w wr : World) (wh : Int) (K g cap : Nat) (l : List Sp) (j : Nat) : Prop where
 hk : BoxT 2 wr K #[.int .i64 wh]
 gr : w.grownBy wr (some g)
 box : ∃ cur : Array Value, BoxT 72 wr g cur ∧ cur.size = cap * 2 ∧ (∀ (a : Nat) (x : Sp), (keepO wh (l.take j))[a]? = some x → ∀ (q : Nat) (u : Value), x.cs[q]? = some u → cur[a * 2 + q]? = some u) ∧ (∀ (a : Nat) (x : Sp), j ≤ a → l[a]? = some x → ∀ (q : Nat) (u : Value), x.cs[q]? = some u → cur[a * 2 + q]? = some u)
theorem keep_take {wh : Int} {l : List Sp} {j : Nat} {s : Sp} (hs : l[j]? = some s) : keepO wh (l.take (j + 1)) = if ovm wh s then keepO wh (l.take j) else keepO wh (l.take j) ++ [s] := by
 have hlt := lt_of_get hs
 have e : l[j] = s := by rw [List.getElem?_eq_getElem hlt] at hs; exact Option.some.inj hs
 rw [List.take_succ_eq_append_getElem hlt, e]
 unfold keepO
 rw [List.filter_append]
 cases h : ovm wh s <;> simp [h]
theorem grown_below {w wr w' : World} {r : Option Nat} (h : w.grownBy wr r) (hb : Below wr.heap.size wr w') : w.grownBy w' r :=
 ⟨hb.os.trans h.os, hb.tape.trans h.tape, hb.output.trans h.output, Nat.le_trans h.size hb.size, fun i hi hne => (hb.block i (Nat.lt_of_lt_of_le hi h.size)).trans (h.block i hi hne)⟩
theorem DI.skip {w wr w' : World} {wh : Int} {K g cap : Nat} {l : List Sp} {j : Nat} {s : Sp} (h : DI w wr wh K g cap l j) (hb : Below wr.heap.size wr w') (hs : l[j]? = some s) (hw : ovm wh s = true) : DI w w' wh K g cap l (j + 1) := by
 obtain ⟨cur, h1, h2, h3, h4⟩ := h.box
 refine ⟨BoxT.below (t := 2) h.hk hb, grown_below h.gr hb, cur, BoxT.below (t := 72) h1 hb, h2, fun a x ht => ?_, fun a x ha ht => h4 a x (by omega) ht⟩
 rw [keep_take hs, if_pos hw] at ht
 exact h3 a x ht
theorem DI.move {w wr w' : World} {wh : Int} {K g cap : Nat} {l : List Sp} {j : Nat} {s : Sp} (h : DI w wr wh K g cap l j) (hb : Below wr.heap.size wr w') (hKg : K ≠ g) (hs : l[j]? = some s) (hw : ovm wh s = false) (hlt : (keepO wh (l.take j)).length < j) :
  DI w (w'.setCells g ((keepO wh (l.take j)).length * 2) s.cs) wh K g cap l (j + 1) := by
 obtain ⟨cur, h1, h2, h3, h4⟩ := h.box
 have h1' := BoxT.below (t := 72) h1 hb
 have hjl : j < cap := by
  have := lt_of_get (l := cur.toList) (by rw [Array.getElem?_toList]; exact h4 j s (Nat.le_refl _) hs 0 _ rfl)
  simp at this
  omega
 have hgr := grownBy_trans (grown_below h.gr hb) (grown_setCells g s.cs w' ((keepO wh (l.take j)).length * 2))
 have hk' : BoxT 2 (w'.setCells g ((keepO wh (l.take j)).length * 2) s.cs) K #[.int .i64 wh] := (BoxT.below (t := 2) h.hk hb).grown (grown_setCells g s.cs w' ((keepO wh (l.take j)).length * 2)) hKg
 refine ⟨hk', hgr, _, h1'.setCells s.cs, by rw [setL_size]; exact h2, fun a x ht q u hu => ?_, fun a x ha ht q u hu => ?_⟩
 ·have hq := lt_of_get hu
  rw [Sp.cs_len] at hq
  rw [keep_take hs, hw] at ht
  simp only [Bool.false_eq_true, if_false] at ht
  by_cases e : a < (keepO wh (l.take j)).length
  ·rw [List.getElem?_append_left e] at ht
   rw [setL_out _ _ _ _ (.inl (by omega))]
   exact h3 a x ht q u hu
  ·have ha : a = (keepO wh (l.take j)).length := by
    have := lt_of_get ht
    simp at this; omega
   subst ha
   simp at ht
   subst ht
   exact setL_in _ _ _ _ _ (by rw [Sp.cs_len, h2]; omega) hu
 ·have hq := lt_of_get hu
  rw [Sp.cs_len] at hq
  rw [setL_out _ _ _ _ (.inr (by rw [Sp.cs_len]; omega))]
  exact h4 a x (by omega) ht q u hu
theorem keep_all {wh : Int} {l : List Sp} (h : ∀ s ∈ l, ovm wh s = false) : keepO wh l = l := by
 unfold keepO
 rw [List.filter_eq_self]
 intro s hs
 rw [h s hs]; rfl
theorem Tryz.zeroSp (w : World) : (zeroValue 72).run Tryz.prog w = .ok (.agg #[.int .i64 0, .int .i64 0]) w := by
 obtain ⟨i, hi, hz, _⟩ := info_parts Tryz.infoSp
 simp [zeroValue, typeInfo, hi, hz]
theorem zero_cells (n : Nat) : (Builtin.zeroCells #[Value.int .i64 0, .int .i64 0] n).toList = List.replicate (n * 2) (.int .i64 0) := by
 simp only [Builtin.zeroCells]
 apply List.ext_getElem
 ·simp
 ·intro i h1 h2
  have : i % 2 = 0 ∨ i % 2 = 1 := by omega
  rcases this with h | h <;> simp [h]
theorem run_clear_sp (w : World) (ty b o n c : Nat) (hn : 0 < n) (hc : ∀ j, j < n * 2 → (w.cell? ⟨b, o + j, none⟩).isSome = true) (hf : ∀ j, j < n * 2 → w.frozen? ⟨b, o + j, none⟩ = false) :
  (Builtin.clear_ #[74] ty #[.slice (some ⟨b, o, none⟩) n c]).run Tryz.prog w = .ok (.tuple #[]) (w.setCells b o (List.replicate (n * 2) (.int .i64 0))) := by
 have hst := run_storeCells_cells (P := Tryz.prog) b o (List.replicate (n * 2) (.int .i64 0)) 0 w (by simpa using hc) (by simpa using hf) (by intro v hv'; rw [List.eq_of_mem_replicate hv']; rfl)
 simp only [Nat.add_zero] at hst
 have hz := zero_cells n
 obtain ⟨m, rfl⟩ : ∃ m, n = m + 1 := ⟨n - 1, by omega⟩
 simp [Builtin.clear_, run_underlying Tryz.underlying74, Value.cells, hz, hst]
theorem box_some2 {t : TypeId} {w : World} {g i cap : Nat} {cur : Array Value} (h : BoxT t w g cur) (hs : cur.size = cap * 2) (hi : i < cap) : ∃ u0 u1, w.cell? ⟨g, i * 2, none⟩ = some u0 ∧ w.cell? ⟨g, i * 2 + 1, none⟩ = some u1 := by
 refine ⟨cur[i * 2]'(by omega), cur[i * 2 + 1]'(by omega), ?_, ?_⟩ <;> (rw [h.cellAt]; exact Array.getElem?_eq_getElem _)
theorem index_nil (w : World) (fv : Value) : Calls Tryz.prog 125 #[.slice none 0 0, fv] w fun e w' => e = .returned (.int .i64 (-1)) ∧ w' = w := by
 go_enter Tryz.func125, Tryz.ntmps125
 go_wp2_with fail
 go_loopw [8] (fun iv wr => iv = .int .i64 0 ∧ wr = w) (fun _ _ => 0)
 case atStart => exact ⟨rfl, rfl⟩
 case round =>
  obtain ⟨rfl, rfl⟩ := hrel
  go_wp2
  go_ret
  exact ⟨rfl, rfl⟩
theorem delete_any {w : World} {K base : Nat} {wh : Int} {v : Value} {l : List Sp} (hK : BoxT 2 w K #[.int .i64 wh]) (ho : OwnL 72 2 Sp.cs base w v l) (hKv : v.ownBlock ≠ some K) (hn : l.length ≤ 1000000) :
  Calls Tryz.prog 115 #[v, .func (.func 116) #[] #[.pointer (some ⟨K, 0, none⟩)]] w fun e w' => ∃ v', e = .returned v' ∧ OwnL 72 2 Sp.cs base w' v' (keepO wh l) ∧ w.grownBy w' v.ownBlock ∧ (∀ g, v'.ownBlock = some g → v.ownBlock = some g) := by
 have hix := index_any hK (ho.seg Sp.cs_len (by omega)) hn
 rcases ho.2 with ⟨rfl, h0⟩ | ⟨g, cap, cur, rfl, hbg, hgb, hcl, hcm, hcs, hct⟩
 ·have h0 : l = [] := List.length_eq_zero_iff.1 h0
  subst h0
  clear hK hn hix
  go_enter Tryz.func115, Tryz.ntmps115
  go_wp2_with fail
  go_at_call 125
  refine (index_nil w _).mono ?_
  rintro e w1 ⟨rfl, rfl⟩
  go_wp2
  go_ret
  exact ⟨_, rfl, ho, grownBy_refl _ _, fun g e => e⟩
 ·have hbx : BoxT 72 w g cur := hgb
  have hKg : K ≠ g := fun e => hKv (by rw [e]; rfl)
  have hcell : ∀ (a : Nat) (x : Sp), l[a]? = some x → ∀ (q : Nat) (u : Value), x.cs[q]? = some u → cur[a * 2 + q]? = some u := fun a x hx q u hu => by
   have h2 := flat_get Sp.cs_len l a q x u hx hu
   rw [← hct, List.getElem?_take] at h2
   split at h2
   ·simpa using h2
   ·cases h2
  have HO := hide ho
  have HK := hide hK
  have HB := hide hbx
  have HCE := hide hcell
  have HCS := hide hcs
  have HKG := hide hKg
  clear hgb hct hbx hcell ho hcs hK hKv hKg
  generalize hlm : l.length = m at *
  have HL := hide hlm
  clear hlm
  go_enter Tryz.func115, Tryz.ntmps115
  go_wp2_with fail
  go_at_call 125
  refine hix.mono ?_
  rintro e w1 ⟨⟨r, rfl, hr⟩, b1⟩
  clear hix
  rcases hr with ⟨rfl, hall⟩ | ⟨k, rfl, hkl, hbef, hat⟩
  ·have hwa := keep_all hall
   clear hall
   have HWA := hide hwa
   have HN : Hid (OwnL 72 2 Sp.cs base w1 (.slice (some ⟨g, 0, none⟩) m cap) l) := OwnL.below HO.out b1
   clear hwa
   go_wp2
   go_ret
   exact ⟨_, rfl, by rw [HWA.out]; exact HN.out, ⟨b1.os, b1.tape, b1.output, b1.size, fun i hi _ => b1.block i hi⟩, fun g e => e⟩
  ·obtain ⟨s0, hs0⟩ : ∃ s, l[k]? = some s := ⟨_, List.getElem?_eq_getElem (by rw [HL.out]; exact hkl)⟩
   have hw0 := hat s0 hs0
   have hwk : keepO wh (l.take k) = l.take k := keep_all (fun s hs => by
    obtain ⟨a, ha⟩ := List.getElem?_of_mem hs
    rw [List.getElem?_take] at ha
    split at ha
    ·rename_i hak; exact hbef a s hak ha
    ·cases ha)
   have hwk1 : keepO wh (l.take (k + 1)) = l.take k := by rw [keep_take hs0, if_pos hw0, hwk]
   have hlk1 : (keepO wh (l.take (k + 1))).length = k := by rw [hwk1, List.length_take, HL.out]; omega
   have H0 : Hid (DI w w1 wh K g cap l (k + 1)) := by
    refine ⟨BoxT.below (t := 2) HK.out b1, ⟨b1.os, b1.tape, b1.output, b1.size, fun i hi _ => b1.block i hi⟩, cur, BoxT.below (t := 72) HB.out b1, HCS.out, fun a s hs q u hu => ?_, fun a s _ hs => HCE.out a s hs⟩
    rw [hwk1, List.getElem?_take] at hs
    split at hs
    ·exact HCE.out a s hs q u hu
    ·cases hs
   have HL1 := hide hlk1
   clear hat hbef hwk hwk1 hlk1 hs0 hw0 b1 HB HCE HK
   have hkm : ((k : Int) == -1) = false := by simp
   have hrun := runEnd
   go_wp2_with fail
   go_loopw [5, 6, 7] (fun iv jv _ wr => ∃ j i : Nat, k < j ∧ j ≤ m ∧ i < j ∧ iv = .int .i64 i ∧ jv = .int .i64 j ∧ Hid ((keepO wh (l.take j)).length = i) ∧ Hid (DI w wr wh K g cap l j)) (fun _ jv _ _ => m - (intOf jv).toNat)
   case atStart => exact ⟨k + 1, k, by omega, by omega, by omega, rfl, by go_num, HL1.out, H0.out⟩
   case round =>
    clear H0
    obtain ⟨j, i, hkj, hjm, hwl, rfl, rfl, HIL, HD⟩ := hrel
    obtain ⟨cur2, q1, q2, q3, q4⟩ := HD.out.box
    by_cases hlt : j < m
    ·obtain ⟨s, hs⟩ : ∃ s, l[j]? = some s := ⟨_, List.getElem?_eq_getElem (by rw [HL.out]; exact hlt)⟩
     have e0 : wr.cell? ⟨g, 0 + j * 2, none⟩ = some (.int .i64 s.f) := by rw [Nat.zero_add]; exact (q1.cellAt _).trans (q4 j s (Nat.le_refl _) hs 0 _ rfl)
     have e1 : wr.cell? ⟨g, j * 2 + 1, none⟩ = some (.int .i64 s.t) := (q1.cellAt _).trans (q4 j s (Nat.le_refl _) hs 1 _ rfl)
     rw [Nat.zero_add] at e0
     have hbx := below_box wr (.cells #[.int .i64 s.f, .int .i64 s.t] 72)
     have HKA := hide (endO_any (BoxT.below (t := 2) HD.out.hk hbx) s)
     have HBX := hide hbx
     have HQ1 := hide q1
     have HQ2 := hide q2
     have hcm2 : m ≤ cap := hcl
     have HS2 := hide hs
     have HWT := hide (keep_take (wh := wh) hs)
     have HNB := hide (BoxT.new 72 wr #[.int .i64 s.f, .int .i64 s.t])
     clear q1 q2 q3 q4 hs hbx
     generalize hR : ovm wh s = R at HKA HWT
     have HR := hide hR
     clear hR
     obtain ⟨sf, st⟩ := s
     unfold Sp.val at HKA
     simp only at e0 e1 HKA HBX HNB
     cases R with
     | false =>
      have HM := hide (fun w2 (b2 : Below wr.heap.size wr w2) => HD.out.move b2 HKG.out HS2.out HR.out (by rw [HIL.out]; exact hwl))
      rw [HIL.out] at HM
      have hlen : (keepO wh (l.take (j + 1))).length = i + 1 := by rw [HWT.out]; simp [HIL.out]
      have HLE := hide hlen
      clear hlen HD
      go_wp2_with (refine HKA.out.mono ?_; rintro e w2 ⟨rfl, b2⟩; have B2 := hide (HBX.out.trans (b2.mono HBX.out.size)); obtain ⟨n0, n1⟩ := (BoxT.below (t := 72) HNB.out b2).cells2; have qb := BoxT.below (t := 72) HQ1.out B2.out; have qf := fun j => qb.free j; obtain ⟨z0, z1, y0, y1⟩ := box_some2 qb HQ2.out (show i < cap by omega); have QB := hide qb; clear b2 qb)
      go_roundw
      case rel => exact ⟨j + 1, i + 1, by omega, by omega, by omega, by go_num, by go_num, HLE.out, HM.out w2 B2.out⟩
      case measure => simp [intOf]; omega
     | true =>
      have HM := hide (fun w2 (b2 : Below wr.heap.size wr w2) => HD.out.skip b2 HS2.out HR.out)
      have hlen : (keepO wh (l.take (j + 1))).length = i := by rw [HWT.out]; simp [HIL.out]
      have HLE := hide hlen
      clear hlen HD
      go_wp2_with (refine HKA.out.mono ?_; rintro e w2 ⟨rfl, b2⟩; have B2 := hide (HBX.out.trans (b2.mono HBX.out.size)); clear b2)
      go_roundw
      case rel => exact ⟨j + 1, i, by omega, by omega, by omega, rfl, by go_num, HLE.out, HM.out w2 B2.out⟩
      case measure => simp [intOf]; omega
    ·obtain rfl : j = m := by omega
     have HWS : Hid (keepO wh (l.take j) = keepO wh l) := by show _ = _; rw [List.take_of_length_le (by rw [HL.out]; exact Nat.le_refl _)]
     have hclr : ∀ ty, (Builtin.clear_ #[74] ty #[.slice (some ⟨g, i * 2, none⟩) (j - i) (cap - i)]).run Tryz.prog wr = .ok (.tuple #[]) (wr.setCells g (i * 2) (List.replicate ((j - i) * 2) (.int .i64 0))) :=
      fun ty => run_clear_sp wr ty g (i * 2) (j - i) (cap - i) (by omega) (fun a ha => by
       rw [q1.cellAt, Array.getElem?_eq_getElem (show i * 2 + a < cur2.size by omega)]; rfl) (fun a _ => q1.free _)
     have HBX := hide (q1.setCells (j := i * 2) (List.replicate ((j - i) * 2) (.int .i64 0)))
     have HGR := hide (grownBy_trans HD.out.gr (grown_setCells g (List.replicate ((j - i) * 2) (.int .i64 0)) wr (i * 2)))
     have HQ := hide (And.intro q2 q3)
     clear q1 q2 q3 q4
     go_wp2
     go_ret
     refine ⟨_, rfl, ?_, HGR.out, fun g e => e⟩
     have hil : (keepO wh l).length = i := by rw [← HWS.out]; exact HIL.out
     have hsz : (setL cur2 (i * 2) (List.replicate ((j - i) * 2) (.int .i64 0))).size = cap * 2 := by rw [setL_size]; exact HQ.out.1
     show World.ownsRow _ base 72 2 (.slice (some ⟨g, 0, none⟩) i cap) (keepO wh l).length ((keepO wh l).flatMap Sp.cs)
     refine ⟨by rw [flat_size Sp.cs_len], .inr ⟨g, cap, _, by rw [hil], hbg, HBX.out, by omega, hcm, by rw [hsz], ?_⟩⟩
     apply List.ext_getElem?
     intro a
     rw [List.getElem?_take]
     by_cases ha : a < i * 2
     ·rw [if_pos (by rw [hil]; exact ha), Array.getElem?_toList, setL_out _ _ _ _ (.inl ha)]
      have hlf : a < ((keepO wh l).flatMap Sp.cs).length := by rw [flat_size Sp.cs_len, hil]; exact ha
      obtain ⟨x, hx⟩ := get_of_lt (show a / 2 < (keepO wh l).length by rw [hil]; omega)
      have hm2 : a % 2 < x.cs.length := by rw [Sp.cs_len]; omega
      obtain ⟨u, hu⟩ := get_of_lt hm2
      have h1 := flat_get Sp.cs_len (keepO wh l) (a / 2) (a % 2) x u hx hu
      have h2 := HQ.out.2 (a / 2) x (by rw [HWS.out]; exact hx) (a % 2) u hu
      rw [show a / 2 * 2 + a % 2 = a by omega] at h1 h2
      rw [h1, h2]
     ·rw [if_neg (by rw [hil]; exact ha), List.getElem?_eq_none (by rw [flat_size Sp.cs_len, hil]; omega)]
end Go.Proofs.YtpcbhcdpegbfjaaGreat
