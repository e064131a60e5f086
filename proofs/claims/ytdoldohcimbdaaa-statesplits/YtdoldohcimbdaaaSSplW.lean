/-
  Split: the walk.
-/
import Derived.Test.YtdoldohcimbdaaaSSpl
namespace Go.Proofs.Ytdoldohcimbdaaa
open Go.RowKit

theorem cell_back {W W' : World} {b o : Nat} (h : W'.heap[b]? = W.heap[b]?) : W'.cell? ⟨b, o, none⟩ = W.cell? ⟨b, o, none⟩ := by
  rw [World.cell?, World.cell?, h]
/-- The cells that a round reads. -/
def SC (W : World) (G q PB : Nat) (v : Value) (xk xf xt xa : Int) : Prop := W.cell? ⟨G, q, none⟩ = some v ∧ W.cell? ⟨PB, 0, none⟩ = some (.int .i64 xk) ∧ W.cell? ⟨PB, 1, none⟩ = some (.int .i64 xf) ∧ W.cell? ⟨PB, 2, none⟩ = some (.int .i64 xt) ∧ W.cell? ⟨PB, 3, none⟩ = some (.int .i64 xa)
theorem seg_one {w : World} {g : Nat} {x : Pn} (h : BoxT 43 w g #[.int .i64 x.k, .int .i64 x.f, .int .i64 x.t, .int .i64 x.a]) : LSeg 4 Pn.cs w.heap.size w (.slice (some ⟨g, 0, none⟩) 1 1) [x] := by
  refine ⟨_, 1, rfl, by simp, .inr ⟨g, 0, rfl, h.lt, fun i y hy j v hv => ?_⟩⟩
  have e0 : i = 0 := by have := lt_of_get hy; simp at this; exact this
  subst e0
  cases hy
  rw [h.cellAt]
  have hj : j < 4 := by have := lt_of_get hv; rwa [Pn.cs_len] at this
  have e4 : j = 0 ∨ j = 1 ∨ j = 2 ∨ j = 3 := by omega
  rcases e4 with rfl | rfl | rfl | rfl <;> simpa [Pn.cs] using hv
/-- The parts, the sorted row beside them. -/
structure SpI (w w2 wr : World) (G : Nat) (vs : List Value) (ls : List (List Pn)) : Prop where
  pts : Pts w2.heap.size wr G vs ls
  bl : Below w.heap.size w wr
  keep : ∀ b, b < w2.heap.size → b ≠ G → wr.heap[b]? = w2.heap[b]?
  sz : w2.heap.size ≤ wr.heap.size
def SpPost (w : World) (par : Nat) (L : List Pn) (e : Ending) (w' : World) : Prop := ∃ G vs, e = .returned (.slice (some ⟨G, 0, none⟩) par par) ∧ Pts w.heap.size w' G vs (ptL L par L.length) ∧ Below w.heap.size w w' ∧ w.heap.size ≤ G
theorem Pts.mono {base base' : Nat} {W : World} {G : Nat} {vs : List Value} {ls : List (List Pn)} (h : Pts base W G vs ls) (hb : base' ≤ base) : Pts base' W G vs ls :=
  ⟨h.row, h.len, fun j v l hv hl => (h.each j v l hv hl).mono hb, h.apart, h.no⟩
theorem Pts.cell {base : Nat} {W : World} {G : Nat} {vs : List Value} {ls : List (List Pn)} (h : Pts base W G vs ls) {q : Nat} {v : Value} (hv : vs[q]? = some v) : W.cell? ⟨G, q, none⟩ = some v := by
  rw [h.row.cellAt]
  simpa using hv
theorem SpI.push {w w2 wr W1 : World} {G : Nat} {vs : List Value} {ls : List (List Pn)} (h : SpI w w2 wr G vs ls) {W : World} (hb : Below wr.heap.size wr W) (hG : w.heap.size ≤ G) (hw2 : w.heap.size ≤ w2.heap.size) {q n : Nat} {v v' : Value} {l l' : List Pn} (hv : vs[q]? = some v) (hl : ls[q]? = some l) (ho : OwnL 43 4 Pn.cs w2.heap.size W1 v' l') (hg : W.grownBy W1 v.ownBlock) (hk : v'.ownBlock = v.ownBlock ∨ v'.ownBlock = some n) (hn : W.heap.size ≤ n) :
    SpI w w2 (W1.setCell ⟨G, q, none⟩ v') G (vs.set q v') (ls.set q l') := by
  have s1 := hb.size
  have s2 := hg.size
  have s3 := h.sz
  have hown := (h.pts.each q v l hv hl).at
  have hset : ∀ b, b ≠ G → (W1.setCell ⟨G, q, none⟩ v').heap[b]? = W1.heap[b]? := fun b hne => Below.heap_setCell W1 ⟨G, q, none⟩ v' b (fun e => hne (by rw [e]))
  have hgb : ∀ b, b < w2.heap.size → W1.heap[b]? = W.heap[b]? := fun b hlt => hg.block b (by omega) (fun e => by have := hown b e.symm; omega)
  refine ⟨(h.pts.below hb).push hv hl ho hg hk hn, ?_, fun b hlt hne => ?_, by simp; omega⟩
  · have h1 := h.bl.trans (hb.mono (by omega))
    have h2 : Below w.heap.size W W1 := Below.grown (Below.refl _ _) hg (by omega) (fun g e => by have := hown g e; omega)
    refine (h1.trans h2).trans ⟨rfl, rfl, rfl, by simp, fun i hi => hset i (by omega)⟩
  · rw [hset b hne, hgb b hlt, hb.block b (by omega)]
    exact h.keep b hlt hne
set_option maxHeartbeats 8000000 in
set_option maxRecDepth 100000 in
theorem Split_any {w : World} {v : Value} {l : List Pn} (hl : LSeg 4 Pn.cs w.heap.size w v l) (hn : l.length ≤ 90000) {par : Nat} (hp1 : 1 ≤ par) (hp2 : par ≤ 4) : Calls Try.prog 16 #[v, .int .i64 (par : Int)] w (SpPost w par (srt l)) := by
  obtain ⟨ao, cap, rfl⟩ := hl.shapeOf
  have hm := mkSl w par (by omega)
  rw [List.toArray_replicate] at hm
  have n1 : ¬ (par : Int) < 1 := by omega
  have n2 : ¬ (4 : Int) < (par : Int) := by omega
  have HB1 := hide (below_box w (.cells (Array.replicate par (Value.slice none 0 0)) 44))
  have HX1 := hide (BoxT.new 44 w (Array.replicate par (Value.slice none 0 0)))
  have HZ1 : Hid ((w.alloc (.cells (Array.replicate par (Value.slice none 0 0)) 44)).heap.size = w.heap.size + 1) := (show _ = _ by simp)
  have HL1 := hide (hl.on HB1.out)
  have HP1 := hide hp1
  have HP2 := hide hp2
  have hsl : (srt l).length = l.length := srt_len l
  clear hl
  go_enter Try.func16, Try.ntmps16
  go_upto_region 4 with fail
  generalize w.alloc (.cells (Array.replicate par (Value.slice none 0 0)) 44) = W1 at *
  have HSO := hide (Sort_any HL1.out (by omega))
  generalize srt l = L at *
  go_wp2_with (first | (go_at_call 34; refine HSO.out.mono ?_; rintro e w2 ⟨u, rfl, o3, b3⟩; have HR3 := hide o3; have B3 := hide b3; obtain ⟨ua, uc, rfl⟩ := o3.shape; clear o3 b3) | fail)
  have HI : Hid (SpI w w2 w2 w.heap.size (List.replicate par (.slice none 0 0)) (ptL L par 0)) := (show SpI _ _ _ _ _ _ from ⟨by rw [ptL_zero]; exact Pts.start (by rw [List.toArray_replicate]; exact BoxT.below (t := 44) HX1.out B3.out), HB1.out.trans (B3.out.mono HB1.out.size), fun _ _ _ => rfl, Nat.le_refl _⟩)
  have HW2 : Hid (w.heap.size + 1 ≤ w2.heap.size) := (show _ ≤ _ by have := HZ1.out; have := B3.out.size; omega)
  have HLT : Hid (∀ g, (Value.slice ua L.length uc).ownBlock = some g → w.heap.size + 1 ≤ g ∧ g < w2.heap.size) := (show ∀ g, _ from fun g e => by
    obtain ⟨cu, hcu⟩ := HR3.out.has g e
    have h1 := HR3.out.at g e
    have := HZ1.out
    exact ⟨by omega, hcu.lt⟩)
  have HSG := hide (HR3.out.seg Pn.cs_len (by omega))
  clear HSO HX1 HL1 HR3 HZ1 HB1 B3
  go_loopg [20] (L.length + 1) (fun gh iv wr => ∃ (i : Nat) (vs : List Value), iv = .int .i64 (i : Int) ∧ i ≤ L.length ∧ L.length + 1 ≤ gh + i ∧ Hid (SpI w w2 wr w.heap.size vs (ptL L par i)))
  case atStart => exact ⟨0, _, rfl, by omega, by omega, HI⟩
  case round =>
    clear HI
    obtain ⟨i, vs, rfl, hi, hg, HP⟩ := hrel
    obtain ⟨go, rfl⟩ : ∃ go, gk = go + 1 := ⟨gk - 1, by omega⟩
    by_cases hlt : i < L.length
    · obtain ⟨x, hx⟩ := get_of_lt hlt
      have bt : (i : Int) < (L.length : Int) := by omega
      obtain ⟨nb, no, rfl, nlt, e0, e1, e2, e3⟩ := (HSG.out.off (fun g e => HP.out.keep g (HLT.out g e).2 (fun e2 => by have := (HLT.out g e).1; omega)) HP.out.sz).pane hx
      obtain ⟨qz, hqz⟩ : ∃ qz, prt (grp x.k) (par : Int) = qz := ⟨_, rfl⟩
      have hqr := prt_in (grp_lt x.k) HP1.out HP2.out
      rw [hqz] at hqr
      obtain ⟨q, rfl⟩ : ∃ q : Nat, qz = (q : Int) := ⟨qz.toNat, by omega⟩
      have hql : q < par := by omega
      obtain ⟨m, hm1, hm2⟩ := ptL_step hx hqz hql
      have hvl : vs.length = par := by rw [HP.out.pts.len, ptL_len]
      obtain ⟨vq, hvq⟩ := get_of_lt (l := vs) (i := q) (by omega)
      have HO := hide (HP.out.pts.each q vq m hvq hm1)
      have HC := hide (HP.out.pts.cell hvq)
      have HML : Hid (m.length ≤ 90000) := (show _ ≤ _ by
        have h1 : m = (L.take i).filter (fun y => decide (prt (grp y.k) (par : Int) = (q : Int))) := by simp [ptL, hql] at hm1; exact hm1.symm
        rw [h1]
        refine Nat.le_trans (List.length_filter_le ..) ?_
        rw [List.length_take]
        omega)
      have HPL := hide hm2
      have HM1 := hide hm1
      have HVQ := hide hvq
      have HGR := hide (fun W => Group_any W x.k)
      have HPT := hide (fun W => Part_any W (grp x.k : Int) (par : Int))
      rw [hqz] at HPT
      obtain ⟨xk, xf, xt, xa⟩ := x
      simp only at e0 e1 e2 e3 HPL HGR HPT
      have HBX := hide (below_box wr (.cells #[.int .i64 xk, .int .i64 xf, .int .i64 xt, .int .i64 xa] 43))
      have HPX := hide (BoxT.new 43 wr #[.int .i64 xk, .int .i64 xf, .int .i64 xt, .int .i64 xa])
      have bq1 : (0 : Int) ≤ (q : Int) := by omega
      have bq2 : (q : Int) < (par : Int) := by omega
      obtain ⟨va, vc, rfl⟩ := HO.out.shape
      clear hm1 hm2 hvq hvl hx hqz hqr
      generalize (grp xk : Int) = gz at *
      go_upto_region 8 with (first
        | (go_at_call 36; refine (HGR.out _).mono ?_; rintro e w5 ⟨rfl, e5⟩; subst e5)
        | (go_at_call 35; refine (HPT.out _).mono ?_; rintro e w5 ⟨rfl, e5⟩; subst e5)
        | fail)
      clear HGR HPT
      generalize hWX : wr.alloc (.cells #[.int .i64 xk, .int .i64 xf, .int .i64 xt, .int .i64 xa] 43) = WX at *
      have HWX := hide hWX
      clear hWX
      have HO5 := hide (HO.out.below HBX.out)
      have HC5 : Hid (∀ W : World, W.heap[w.heap.size]? = WX.heap[w.heap.size]? → W.heap[wr.heap.size]? = WX.heap[wr.heap.size]? → SC W w.heap.size q wr.heap.size (.slice va m.length vc) xk xf xt xa) := (show ∀ W : World, _ from fun W h1 h2 => ⟨(cell_back h1).trans ((HP.out.pts.below HBX.out).cell HVQ.out), (cell_back h2).trans HPX.out.cells4.1, (cell_back h2).trans HPX.out.cells4.2.1, (cell_back h2).trans HPX.out.cells4.2.2.1, (cell_back h2).trans HPX.out.cells4.2.2.2⟩)
      refine wp_region_M (S := fun w' => SC w' w.heap.size q wr.heap.size (.slice va m.length vc) xk xf xt xa) (late := [10]) (by kernel_rfl) (HC5.out _ rfl rfl) (fun hHeld => ?_)
      (try simp only [List.size_toArray, List.length_cons, List.length_nil, Nat.zero_add, Nat.reduceAdd, Array.replicate, List.replicate])
      refine wpAnyM_take (i := 0) (oi := ⟨_, _, _, _, _, _⟩) (v := ?_) rfl (by kernel_rfl) (by kernel_rfl) (by kernel_rfl) (by kernel_rfl) (fun _ _ _ h => h) (Or.inl ⟨by rfl, ?_⟩) hHeld ?_
      rotate_left
      · (intro w' hSw; obtain ⟨s0, s1, s2, s3, s4⟩ := hSw; go_simp; try (with_reducible rfl))
      (try simp only [Act.put, List.setIfInBounds_toArray, List.set_cons_zero, List.set_cons_succ])
      refine wpAnyM_take (i := 1) (oi := ⟨_, _, _, _, _, _⟩) (v := ?_) rfl (by kernel_rfl) (by kernel_rfl) (by kernel_rfl) (by kernel_rfl) (fun _ _ _ h => h) (Or.inl ⟨by rfl, ?_⟩) hHeld ?_
      rotate_left
      · (intro w' hSw; obtain ⟨s0, s1, s2, s3, s4⟩ := hSw; go_simp; try (with_reducible rfl))
      (try simp only [Act.put, List.setIfInBounds_toArray, List.set_cons_zero, List.set_cons_succ])
      refine wpAnyM_take (i := 2) (oi := ⟨_, _, _, _, _, _⟩) (v := ?_) rfl (by kernel_rfl) (by kernel_rfl) (by kernel_rfl) (by kernel_rfl) (fun _ _ _ h => h) (Or.inl ⟨by rfl, ?_⟩) hHeld ?_
      rotate_left
      · (intro w' hSw; obtain ⟨s0, s1, s2, s3, s4⟩ := hSw; go_simp; try (with_reducible rfl))
      (try simp only [Act.put, List.setIfInBounds_toArray, List.set_cons_zero, List.set_cons_succ])
      refine wpAnyM_take (i := 3) (oi := ⟨_, _, _, _, _, _⟩) (v := ?_) rfl (by kernel_rfl) (by kernel_rfl) (by kernel_rfl) (by kernel_rfl) (fun _ _ _ h => h) (Or.inl ⟨by rfl, ?_⟩) hHeld ?_
      rotate_left
      · (intro w' hSw; obtain ⟨s0, s1, s2, s3, s4⟩ := hSw; go_simp; try (with_reducible rfl))
      (try simp only [Act.put, List.setIfInBounds_toArray, List.set_cons_zero, List.set_cons_succ])
      refine wpAnyM_take (i := 4) (oi := ⟨_, _, _, _, _, _⟩) (v := ?_) rfl (by kernel_rfl) (by kernel_rfl) (by kernel_rfl) (by kernel_rfl) (fun _ _ _ h => h) (Or.inl ⟨by rfl, ?_⟩) hHeld ?_
      rotate_left
      · (intro w' hSw; obtain ⟨s0, s1, s2, s3, s4⟩ := hSw; go_simp; try (with_reducible rfl))
      (try simp only [Act.put, List.setIfInBounds_toArray, List.set_cons_zero, List.set_cons_succ])
      refine wpAnyM_take (i := 5) (oi := ⟨_, _, _, _, _, _⟩) (v := ?_) rfl (by kernel_rfl) (by kernel_rfl) (by kernel_rfl) (by kernel_rfl) (fun _ _ _ h => h) (Or.inl ⟨by rfl, ?_⟩) hHeld ?_
      rotate_left
      · (intro w' hSw; obtain ⟨s0, s1, s2, s3, s4⟩ := hSw; go_simp; try (with_reducible rfl))
      (try simp only [Act.put, List.setIfInBounds_toArray, List.set_cons_zero, List.set_cons_succ])
      refine wpAnyM_take (i := 6) (oi := ⟨_, _, _, _, _, _⟩) (v := ?_) rfl (by kernel_rfl) (by kernel_rfl) (by kernel_rfl) (by kernel_rfl) (fun _ _ _ h => h) (Or.inl ⟨by rfl, ?_⟩) hHeld ?_
      rotate_left
      · (intro w' hSw; obtain ⟨s0, s1, s2, s3, s4⟩ := hSw; go_simp; try (with_reducible rfl))
      (try simp only [Act.put, List.setIfInBounds_toArray, List.set_cons_zero, List.set_cons_succ])
      refine wpAnyM_one (i := 7) (o := ⟨_, _, _, _, _, _⟩) (by kernel_rfl) rfl (fun K hK => ?_)
      go_simp
      have HB7 := hide (below_box WX (.cells #[.int .i64 xk, .int .i64 xf, .int .i64 xt, .int .i64 xa] 43)).drew
      have HX7 := hide (BoxT.new 43 WX #[.int .i64 xk, .int .i64 xf, .int .i64 xt, .int .i64 xa])
      generalize hW7 : (WX.alloc (.cells #[.int .i64 xk, .int .i64 xf, .int .i64 xt, .int .i64 xa] 43)).drew = W7 at *
      have HS7 : Hid (LSeg 4 Pn.cs W7.heap.size W7 (.slice (some ⟨WX.heap.size, 0, none⟩) 1 1) [⟨xk, xf, xt, xa⟩]) := (show LSeg _ _ _ _ _ _ by rw [← hW7]; exact seg_one HX7.out)
      have HG7 : Hid (w.heap.size < WX.heap.size ∧ wr.heap.size < WX.heap.size ∧ WX.heap.size < W7.heap.size ∧ w2.heap.size ≤ wr.heap.size) := (show _ from ⟨by have := HPX.out.lt; have := HW2.out; have := HP.out.sz; omega, HPX.out.lt, by rw [← hW7]; exact HX7.out.lt, HP.out.sz⟩)
      have HW7 := hide hW7
      clear hW7
      refine hK.out _ _ (HC5.out _ (HB7.out.block _ HG7.out.1) (HB7.out.block _ HG7.out.2.1)) (fun hHeld => ?_)
      clear hK K
      (try simp only [List.setIfInBounds_toArray, List.set_cons_zero, List.set_cons_succ])
      refine wpAnyM_one (i := 8) (o := ⟨_, _, _, _, _, _⟩) (by kernel_rfl) rfl (fun K hK => ?_)
      refine wp_segL Try.infoPn Try.underlying44 rfl (by decide) (by decide) Pn.cs_len Pn.cs_one _ _ rfl w2.heap.size _ m rfl (HO5.out.below HB7.out) _ _ [⟨xk, xf, xt, xa⟩] rfl HS7.out (by have := HML.out; simp; omega) (by have := HG7.out; omega) ?_
      intro v8 w8 h8 g8 k8
      (try simp only [Act.put, List.setIfInBounds_toArray, List.set_cons_zero, List.set_cons_succ])
      have HE8 : Hid (w8.heap[w.heap.size]? = WX.heap[w.heap.size]? ∧ w8.heap[wr.heap.size]? = WX.heap[wr.heap.size]?) := (show _ ∧ _ from ⟨(g8.block _ (by have := HG7.out; omega) (fun e => HP.out.pts.no q _ HVQ.out e.symm)).trans (HB7.out.block _ HG7.out.1), (g8.block _ (by have := HG7.out; omega) (fun e => by have := HO.out.lt _ e.symm; omega)).trans (HB7.out.block _ HG7.out.2.1)⟩)
      have hrow : BoxT 44 w8 w.heap.size vs.toArray := by
        have h1 := (HP.out.pts.below HBX.out).row
        unfold BoxT at *
        rw [HE8.out.1]
        exact h1
      have hcf := hrow.free q
      clear hrow
      obtain ⟨v8a, v8c, rfl⟩ := h8.shape
      have HPU := hide (HP.out.push (HBX.out.trans (HB7.out.mono (by have := HG7.out; omega))) (Nat.le_refl _) (by have := HW2.out; omega) HVQ.out HM1.out h8 g8 k8 (Nat.le_refl _))
      refine hK.out _ _ (HC5.out _ HE8.out.1 HE8.out.2) (fun hHeld => ?_)
      clear hK K h8 g8 k8 HE8
      (try simp only [List.setIfInBounds_toArray, List.set_cons_zero, List.set_cons_succ])
      refine wpAnyM_one (i := 9) (o := ⟨_, _, _, _, _, _⟩) (by kernel_rfl) rfl (fun K hK => ?_)
      go_simp
      refine hK.out _ _ hHeld (fun hHeld => ?_)
      clear hK K
      (try simp only [List.setIfInBounds_toArray, List.set_cons_zero, List.set_cons_succ])
      have hcx : w8.cell? ⟨w.heap.size, q, none⟩ = some (.slice va m.length vc) := hHeld.1
      refine wpAnyM_last (i := 10) (o := ⟨_, _, _, _, _, _⟩) (by kernel_rfl) (by kernel_rfl) rfl (fun K hK => ?_)
      go_simp
      refine hK.out _ _ ?_
      clear hK K
      (try simp only [List.setIfInBounds_toArray, List.set_cons_zero, List.set_cons_succ])
      refine wpAnyM_done (by kernel_rfl) ?_ _
      go_wp2_with fail
      go_roundg go
      case rel => exact ⟨i + 1, _, by go_num, by omega, by omega, (show SpI _ _ _ _ _ _ by
        rw [HPL.out]
        have h9 := HPU.out
        simp only [List.length_append, List.length_cons, List.length_nil, Nat.zero_add] at h9
        exact h9)⟩
      case measure => omega
    · obtain rfl : i = L.length := by omega
      have bt : ¬ ((L.length : Nat) : Int) < (L.length : Int) := by omega
      go_wp2_with fail
      go_ret
      exact ⟨w.heap.size, vs, rfl, HP.out.pts.mono (by have := HW2.out; omega), HP.out.bl, Nat.le_refl _⟩
end Go.Proofs.Ytdoldohcimbdaaa
