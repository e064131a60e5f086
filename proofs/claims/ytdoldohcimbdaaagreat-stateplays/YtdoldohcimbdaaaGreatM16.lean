/-
  Texts in build order: SPick.
-/
import Derived.Test.YtdoldohcimbdaaaGreatM14
/-
  pick: the panes of wanted places; Panes.
-/
namespace Go.Proofs.YtdoldohcimbdaaaGreat
open Go.RowKit

theorem new4 (W : World) {n : Nat} (hn : n = W.heap.size) (x : Pn) (j : Nat) (u : Value) (hu : (Pn.cs x)[j]? = some u) : (W.alloc (.cells #[.int .i64 x.k, .int .i64 x.f, .int .i64 x.t, .int .i64 x.a] 70)).cell? ((⟨n, 0, none⟩ : Addr).add j) = some u := by
  have hb : BoxT 70 _ n _ := BoxT.new_at (t := 70) (w := W) (cs := #[.int .i64 x.k, .int .i64 x.f, .int .i64 x.t, .int .i64 x.a]) hn
  rw [add_plain2, hb.cellAt, Nat.zero_add]
  have hl := lt_of_get hu
  rw [Pn.cs_len] at hl
  match j, hu with
  | 0, hu | 1, hu | 2, hu | 3, hu => simp [Pn.cs] at hu; subst hu; rfl
theorem LSeg.pane {B : Nat} {w : World} {ao : Option Addr} {n cap : Nat} {xs : List Pn} (h : LSeg 4 Pn.cs B w (.slice ao n cap) xs) {i : Nat} {x : Pn} (hx : xs[i]? = some x) : ∃ b o, ao = some ⟨b, o, none⟩ ∧ b < B ∧ w.cell? ⟨b, o + i * 4, none⟩ = some (.int .i64 x.k) ∧ w.cell? ⟨b, o + i * 4 + 1, none⟩ = some (.int .i64 x.f) ∧ w.cell? ⟨b, o + i * 4 + 2, none⟩ = some (.int .i64 x.t) ∧ w.cell? ⟨b, o + i * 4 + 3, none⟩ = some (.int .i64 x.a) := by
  obtain ⟨b, o, e, hb, _, d⟩ := h.readAt hx
  exact ⟨b, o, e, hb, d 0 _ rfl, d 1 _ rfl, d 2 _ rfl, d 3 _ rfl⟩
theorem BoxT.cells3 {t : TypeId} {w : World} {k : Nat} {c0 c1 c2 : Value} (h : BoxT t w k #[c0, c1, c2]) : w.cell? ⟨k, 0, none⟩ = some c0 ∧ w.cell? ⟨k, 1, none⟩ = some c1 ∧ w.cell? ⟨k, 2, none⟩ = some c2 := by
  unfold BoxT at h
  simp [World.cell?, h]
theorem snoc_filter {α : Type} (q : α → Bool) (d : List α) (x : α) : (d ++ [x]).filter q = if q x then d.filter q ++ [x] else d.filter q := by
  rw [List.filter_append]
  cases h : q x <;> simp [h]
theorem perm_snoc {α : Type} {d rs rs' M : List α} {x : α} (h : (d ++ rs).Perm M) (hp : rs.Perm (x :: rs')) : ((d ++ [x]) ++ rs').Perm M := by
  rw [List.append_assoc]
  exact (List.Perm.append_left d hp.symm).trans h
/-- What pick has under way. -/
structure PKI (w wr : World) (m : Nat) (M : List Pn) (q : Pn → Bool) (v : Value) (d rs : List Pn) : Prop where
  rg : RangeAt Tryz.prog 89 wr m w.heap.size (M.map pEnt) (rs.map pEnt)
  all : (d ++ rs).Perm M
  row : OwnL 70 4 Pn.cs (w.heap.size + 1) wr v (d.filter q)
  bel : Below w.heap.size w wr
theorem PKI.range {w wr w' : World} {m : Nat} {M : List Pn} {q : Pn → Bool} {v : Value} {d rs rs' : List Pn} {x : Pn} (h : PKI w wr m M q v d rs) (hp : rs.Perm (x :: rs')) (hr : RangeAt Tryz.prog 89 w' m w.heap.size (M.map pEnt) (rs'.map pEnt)) (hg : wr.grownBy w' (some w.heap.size)) :
    RangeAt Tryz.prog 89 w' m w.heap.size (M.map pEnt) (rs'.map pEnt) ∧ ((d ++ [x]) ++ rs').Perm M ∧ OwnL 70 4 Pn.cs (w.heap.size + 1) w' v (d.filter q) ∧ Below w.heap.size w w' :=
  ⟨hr, perm_snoc h.all hp, h.row.back (fun g e => hg.block g (h.row.lt g e) (fun e' => by have := h.row.at g e; cases e'; omega)), h.bel.grown hg h.bel.size (fun k e => by cases e; exact Nat.le_refl _)⟩
set_option maxHeartbeats 4000000 in
set_option maxRecDepth 100000 in
theorem pick_any {w : World} {s : Nat} {kd size slide ag : Int} {fp : Nat → Prop} {M : List Pn} (h : SA w s kd size slide ag fp M) (F : Nat) (cap : Array Value) (q : Pn → Bool)
    (hF : ∀ (args : Array Value) (W : World), (callFunc F args).run Tryz.prog W = .ok (.enter F args) W)
    (hC : ∀ (w1 : World), Below w.heap.size w w1 → ∀ x : Pn, Calls Tryz.prog F (#[plV x] ++ cap) w1 fun e w' => e = .returned (.bool (q x)) ∧ Below w1.heap.size w1 w') (hn : M.length ≤ 1000000) :
    Calls Tryz.prog 35 #[.pointer (some ⟨s, 0, none⟩), .func (.func F) #[] cap] w fun e w' => ∃ u c, e = .returned u ∧ OwnL 70 4 Pn.cs w.heap.size w' u c ∧ c.Perm (M.filter q) ∧ Below w.heap.size w w' := by
  obtain ⟨m, o, fq, R, h, _⟩ := h
  obtain ⟨_, _, _, _, c4, _⟩ := h.cells
  have hm := hide h.mp
  have HC := hide hC
  clear h hC
  go_enter Tryz.func35, Tryz.ntmps35
  go_wp2_with (first | (at_range; refine wp_rangeM _ rfl _ 72 rfl 2 Tryz.underlying72 rfl hm.out ?_; intro w0 hrg0 hg0 hs0) | fail)
  go_frame
  have H0 : Hid (PKI w w0 m M q (.slice none 0 0) [] M) := ⟨hrg0, .refl _, OwnL.nil _ _ _ _ _, (Below.refl _ _).grown hg0 (Nat.le_refl _) (fun k e => by cases e)⟩
  clear hrg0 hg0 hs0 hm c4
  go_loopg [5, 6, 7, 13] (M.length + 1) (fun gh v _ _ _ wr => ∃ d rs, rs.length + 1 ≤ gh ∧ d.length + rs.length ≤ 1000000 ∧ Hid (PKI w wr m M q v d rs))
  case atStart => exact ⟨[], M, Nat.le_refl _, by simpa using hn, H0⟩
  case round =>
    obtain ⟨d, rs, hgh, hlen, HI⟩ := hrel
    obtain ⟨go, rfl⟩ : ∃ go, gk = go + 1 := ⟨gk - 1, by omega⟩
    obtain ⟨va, vc, rfl⟩ := HI.out.row.shape
    have hrg := hide HI.out.rg
    go_wp2_with (first | (at_next; refine wp_nextM pEnt _ rfl _ rfl rfl hrg.out ?_ ?_) | fail)
    · intro hl0
      subst hl0
      go_wp2_with fail
      go_ret
      exact ⟨_, _, rfl, HI.out.row.mono (Nat.le_succ _), by have := HI.out.all; rw [List.append_nil] at this; exact this.filter q, HI.out.bel⟩
    · intro x rs' w1 hp hr1 hg1 hs1 hen
      have hx := HI.out.range hp hr1 hg1
      have HX := hide hx
      have hl2 := hp.length_eq
      simp only [List.length_cons] at hl2
      clear hx hp hr1 hg1 hrg hs1
      obtain ⟨xk, xf, xt, xa⟩ := x
      simp only [pEnt, plV] at hen
      unfold pEnt plV
      simp only
      have HB1 := hide (below_box w1 (.cells #[.int .i64 xk, .int .i64 xf, .int .i64 xt] 89))
      have HC1 := hide (HC.out (w1.alloc (.cells #[.int .i64 xk, .int .i64 xf, .int .i64 xt] 89)) (HX.out.2.2.2.trans (HB1.out.mono HX.out.2.2.2.size)) ⟨xk, xf, xt, xa⟩)
      have hrun := hF
      have HS := hide (snoc_filter q d ⟨xk, xf, xt, xa⟩)
      unfold plV at HC1
      simp only at HC1
      have HL : Hid ((d.filter q).length ≤ 1000000) := (show _ ≤ _ by have := List.length_filter_le q d; omega)
      have HBW : Hid (∀ w3, Below w1.heap.size w1 w3 → Below w.heap.size w w3) := fun w3 h3 => HX.out.2.2.2.trans (h3.mono HX.out.2.2.2.size)
      have HRW : Hid (∀ w3, Below w1.heap.size w1 w3 → RangeAt Tryz.prog 89 w3 m w.heap.size (M.map pEnt) (rs'.map pEnt)) := fun w3 h3 => HX.out.1.back (h3.block _ HX.out.1.mapAt.lt) (h3.block _ HX.out.1.lt)
      generalize hdq : d.filter q = dq at *
      cases hq : q ⟨xk, xf, xt, xa⟩ with
      | true =>
        rw [hq] at HC1 HS
        rw [if_pos rfl] at HS
        clear hq
        go_wp2_with (first | (refine HC1.out.mono ?_; rintro e w2 ⟨rfl, b2⟩; have HB2 := hide (HB1.out.trans (b2.mono HB1.out.size)); have HX2 := hide (BoxT.below (t := 89) (BoxT.new_at (t := 89) (w := w1) (cs := #[.int .i64 xk, .int .i64 xf, .int .i64 xt]) rfl) b2); obtain ⟨y0, y1, y2⟩ := HX2.out.cells3; have HB3 := hide (below_box w2 (.cells #[.int .i64 xk, .int .i64 xf, .int .i64 xt, .int .i64 xa] 70)); have HB4 := hide (HB2.out.trans (HB3.out.mono HB2.out.size)); have HO3 := hide (HX.out.2.2.1.below HB4.out); have HSZ := hide (show w.heap.size + 1 ≤ (w2.alloc (.cells #[.int .i64 xk, .int .i64 xf, .int .i64 xt, .int .i64 xa] 70)).heap.size from Nat.le_trans (Nat.succ_le_of_lt HX.out.1.lt) HB4.out.size); clear b2) | (at_builtin; refine app_L Tryz.infoPn Tryz.underlying44 rfl (by decide) (by decide) Pn.cs_len Pn.cs_one rfl _ _ rfl (w.heap.size + 1) _ dq rfl HO3.out _ _ (⟨xk, xf, xt, xa⟩ : Pn) rfl (new4 w2 (by simp) ⟨xk, xf, xt, xa⟩) HL.out HSZ.out ?_; intro v5 w5 h5 g5 k5) | fail)
        have hv5 : Below w1.heap.size w1 w5 → True := fun _ => trivial
        clear hv5
        go_roundg go
        case rel =>
          have h6 : ∀ i, some i = (Value.slice va dq.length vc).ownBlock → w.heap.size + 1 ≤ i := fun i e => HO3.out.at i e.symm
          refine ⟨d ++ [⟨xk, xf, xt, xa⟩], rs', by omega, by simp; omega, ⟨?_, HX.out.2.1, by rw [HS.out]; exact h5, ?_⟩⟩
          · have hr := HRW.out _ HB4.out
            exact hr.back (g5.block _ hr.mapAt.lt (fun e => by
              obtain ⟨es, ck, hes⟩ := hr.mapAt.isMap
              obtain ⟨cu, hcu⟩ := HO3.out.has _ e.symm
              rw [hes] at hcu; cases hcu)) (g5.block _ hr.lt (fun e => by have := h6 _ e; omega))
          · exact (HBW.out _ HB4.out).grown g5 (HBW.out _ HB4.out).size (fun k e => by have := h6 k e.symm; omega)
        case measure => omega
      | false =>
        rw [hq] at HC1 HS
        rw [if_neg (by decide)] at HS
        clear hq
        go_wp2_with (first | (refine HC1.out.mono ?_; rintro e w2 ⟨rfl, b2⟩; have HB2 := hide (HB1.out.trans (b2.mono HB1.out.size)); have HX2 := hide (BoxT.below (t := 89) (BoxT.new_at (t := 89) (w := w1) (cs := #[.int .i64 xk, .int .i64 xf, .int .i64 xt]) rfl) b2); obtain ⟨y0, y1, y2⟩ := HX2.out.cells3; have HB3 := hide (below_box w2 (.cells #[.int .i64 xk, .int .i64 xf, .int .i64 xt, .int .i64 xa] 70)); have HB4 := hide (HB2.out.trans (HB3.out.mono HB2.out.size)); have HO3 := hide (HX.out.2.2.1.below HB4.out); have HSZ := hide (show w.heap.size + 1 ≤ (w2.alloc (.cells #[.int .i64 xk, .int .i64 xf, .int .i64 xt, .int .i64 xa] 70)).heap.size from Nat.le_trans (Nat.succ_le_of_lt HX.out.1.lt) HB4.out.size); clear b2) | fail)
        go_roundg go
        case rel =>
          exact ⟨d ++ [⟨xk, xf, xt, xa⟩], rs', by omega, by simp; omega, ⟨HRW.out _ HB2.out, HX.out.2.1, by rw [HS.out]; exact HX.out.2.2.1.below HB2.out, HBW.out _ HB2.out⟩⟩
        case measure => omega
end Go.Proofs.YtdoldohcimbdaaaGreat
