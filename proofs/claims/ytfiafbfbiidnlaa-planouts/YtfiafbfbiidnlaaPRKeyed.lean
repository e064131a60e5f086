/-
  The document's Keyed, From, To; the document's plan as it is being made.
-/
import Derived.Test.YtfiafbfbiidnlaaPLawS
import Derived.Test.YtfiafbfbiidnlaaPCountP
namespace Go.Proofs.Ytfiafbfbiidnlaa
open Go.RowKit

set_option maxHeartbeats 1000000 in
set_option maxRecDepth 100000 in
theorem RKeyed_any {w : World} {v : Value} {ns : List Nd} (hj : JobIn w.heap.size w v ns) (i : Int) :
    Calls Try.prog 19 #[.agg #[v], .int .i64 i] w fun e w' => e = .returned (.bool (kyd ns i)) ∧ Below w.heap.size w w' := by
  obtain ⟨na, ncp, rfl⟩ := hj.shape
  have HB := hide (below_box w (.cells #[.slice na ns.length ncp] 24))
  obtain ⟨R, hR⟩ : ∃ R, kyd ns i = R := ⟨_, rfl⟩
  rw [hR]
  unfold kyd at hR
  by_cases h1 : i < 0
  · rw [ndAt_out (.inl h1)] at hR
    have hR' : false = R := by rw [← hR]; rfl
    subst hR'
    have g1 : decide (0 ≤ i) = false := by simp; omega
    clear hR hj
    go_enter Try.func19, Try.ntmps19
    go_wp2_with fail
    go_ret
    exact ⟨rfl, HB.out⟩
  by_cases h2 : (ns.length : Int) ≤ i
  · rw [ndAt_out (.inr h2)] at hR
    have hR' : false = R := by rw [← hR]; rfl
    subst hR'
    have g1 : decide (0 ≤ i) = true := by simp; omega
    have g2 : decide (i < (ns.length : Int)) = false := by simp; omega
    clear hR hj
    go_enter Try.func19, Try.ntmps19
    go_wp2_with fail
    go_ret
    exact ⟨rfl, HB.out⟩
  obtain ⟨k, rfl⟩ : ∃ k : Nat, i = (k : Int) := ⟨i.toNat, by omega⟩
  obtain ⟨n, hn⟩ := get_of_lt (l := ns) (i := k) (by omega)
  rw [ndAt_in hn] at hR
  obtain ⟨nb, no, hna, nlt, d0, -⟩ := (hj.below HB.out).at_ hn
  subst hna
  have bk : (k : Int) < (ns.length : Int) := by omega
  clear hj hn h1 h2
  by_cases h6 : n.kind = 6
  · have g6 : (n.kind == 6) = true := by simp [h6]
    have hR' : true = R := by rw [← hR]; simp [h6]
    subst hR'
    clear hR h6
    go_enter Try.func19, Try.ntmps19
    go_wp2_with fail
    go_ret
    exact ⟨rfl, HB.out⟩
  · have g6 : (n.kind == 6) = false := by simp [h6]
    have HR : Hid ((n.kind == 7) = R) := (show _ = R by rw [← hR]; by_cases h7 : n.kind = 7 <;> simp [h6, h7])
    clear hR h6
    go_enter Try.func19, Try.ntmps19
    go_wp2_with fail
    go_ret
    exact ⟨ret_bool HR.out, HB.out⟩
set_option maxHeartbeats 1000000 in
set_option maxRecDepth 100000 in
theorem RFrom_any {w : World} {ta : Option Addr} {tn tc : Nat} {cv : Value} {cs : List Cn} (hc : LSeg 3 Cn.cs w.heap.size w cv cs) (hl : cs.length ≤ 100000) (k : Int) :
    Calls Try.prog 15 #[.agg #[.slice ta tn tc, cv], .int .i64 k] w fun e w' => ∃ u, e = .returned u ∧ OwnN w.heap.size w' u (plc (fun c : Cn => decide (c.fr = k)) 0 cs) ∧ Below w.heap.size w w' := by
  obtain ⟨ca, cc, rfl⟩ := hc.shape
  have HC := hide hc
  have HB0 := hide (below_box w (.cells #[.slice ta tn tc, .slice ca cs.length cc] 30))
  have HX0 := hide (BoxT.new 30 w #[.slice ta tn tc, .slice ca cs.length cc])
  clear hc
  go_enter Try.func15, Try.ntmps15
  go_wp2_with fail
  go_loopg [5, 6] (cs.length + 1) (fun g uv iv wr => ∃ t : Nat, iv = .int .i64 (t : Int) ∧ t ≤ cs.length ∧ cs.length + 1 ≤ g + t ∧ Hid (OwnN w.heap.size wr uv (plc (fun c : Cn => decide (c.fr = k)) 0 (cs.take t))) ∧ Hid (Below w.heap.size w wr) ∧ Hid (BoxT 30 wr w.heap.size #[.slice ta tn tc, .slice ca cs.length cc]))
  case atStart => exact ⟨0, rfl, by omega, by omega, OwnL.nil _ _ _ _ _, HB0.out, HX0.out⟩
  case round =>
    obtain ⟨t, rfl, ht, hg, GO, GB, GX⟩ := hrel
    obtain ⟨go, rfl⟩ : ∃ go, gk = go + 1 := ⟨gk - 1, by omega⟩
    have cx : wr.cell? ⟨w.heap.size, 1, none⟩ = some (.slice ca cs.length cc) := by rw [GX.out.cellAt]; rfl
    by_cases hlt : t < cs.length
    · obtain ⟨x, hx⟩ := get_of_lt hlt
      have bt : (t : Int) < (cs.length : Int) := by omega
      obtain ⟨nb, no, hca, nlt, d0, d1, d2⟩ := seg_cn (HC.out.below GB.out) hx
      subst hca
      have HT := hide (plc_take (fun c : Cn => decide (c.fr = k)) hx)
      have hpl : (plc (fun c : Cn => decide (c.fr = k)) 0 (cs.take t)).length ≤ 1000000 := by have := plc_len (fun c : Cn => decide (c.fr = k)) (cs.take t) 0; simp only [List.length_take] at this; omega
      have HPL := hide hpl
      clear hx hpl
      by_cases hp : x.fr = k
      · have g1 : (x.fr == k) = true := by simp [hp]
        have hd : decide (x.fr = k) = true := by simp [hp]
        simp only [hd, if_true] at HT
        have HNW : Hid ((wr.alloc (.cells #[.int .i64 (t : Int)] 3)).cell? ⟨wr.heap.size, 0, none⟩ = some (.int .i64 (t : Int))) := (show _ = _ by rw [(BoxT.new 3 wr _).cellAt]; rfl)
        have HBS : Hid (w.heap.size ≤ (wr.alloc (.cells #[.int .i64 (t : Int)] 3)).heap.size) := (show _ ≤ _ by have := GB.out.size; simp; omega)
        clear hp hd
        go_wp2_with (at_builtin; refine app_ownN (by kernel_rfl) rfl _ _ rfl w.heap.size u5 _ rfl (OwnL.alloc GO.out _) ⟨wr.heap.size, 0, none⟩ 1 t rfl HNW.out HPL.out HBS.out ?_; intro v4 w4 h4 g4 n4)
        go_roundg go
        case rel =>
          have ba : Below w.heap.size w (wr.alloc (.cells #[.int .i64 (t : Int)] 3)) := GB.out.alloc GB.out.size _
          refine ⟨t + 1, by go_num, by omega, by omega, (show OwnN _ _ _ _ by rw [HT.out]; exact h4), ba.grown g4 HBS.out (fun k e => GO.out.at k e), ?_⟩
          refine (GX.out.alloc _).grownO g4 (fun e => ?_)
          obtain ⟨cur, hc⟩ := GO.out.has _ e.symm
          exact GX.out.ne (t' := 3) hc (by decide) rfl
        case measure => omega
      · have g1 : (x.fr == k) = false := by simp [hp]
        have hd : decide (x.fr = k) = false := by simp [hp]
        simp only [hd, Bool.false_eq_true, if_false, List.append_nil] at HT
        clear hp hd
        go_wp2_with fail
        go_roundg go
        case rel => exact ⟨t + 1, by go_num, by omega, by omega, (show OwnN _ _ _ _ by rw [HT.out]; exact GO.out), GB, GX⟩
        case measure => omega
    · have bt : ¬ (t : Int) < (cs.length : Int) := by omega
      have HE : Hid (OwnN w.heap.size wr u5 (plc (fun c : Cn => decide (c.fr = k)) 0 cs)) := (show OwnN _ _ _ _ by have := GO.out; rwa [List.take_of_length_le (by omega)] at this)
      go_wp2_with fail
      go_ret
      exact ⟨_, rfl, HE.out, GB.out⟩
set_option maxHeartbeats 1000000 in
set_option maxRecDepth 100000 in
theorem RTo_any {w : World} {ta : Option Addr} {tn tc : Nat} {cv : Value} {cs : List Cn} (hc : LSeg 3 Cn.cs w.heap.size w cv cs) (hl : cs.length ≤ 100000) (k : Int) :
    Calls Try.prog 17 #[.agg #[.slice ta tn tc, cv], .int .i64 k] w fun e w' => ∃ u, e = .returned u ∧ OwnN w.heap.size w' u (plc (fun c : Cn => decide (c.tg = k)) 0 cs) ∧ Below w.heap.size w w' := by
  obtain ⟨ca, cc, rfl⟩ := hc.shape
  have HC := hide hc
  have HB0 := hide (below_box w (.cells #[.slice ta tn tc, .slice ca cs.length cc] 30))
  have HX0 := hide (BoxT.new 30 w #[.slice ta tn tc, .slice ca cs.length cc])
  clear hc
  go_enter Try.func17, Try.ntmps17
  go_wp2_with fail
  go_loopg [5, 6] (cs.length + 1) (fun g uv iv wr => ∃ t : Nat, iv = .int .i64 (t : Int) ∧ t ≤ cs.length ∧ cs.length + 1 ≤ g + t ∧ Hid (OwnN w.heap.size wr uv (plc (fun c : Cn => decide (c.tg = k)) 0 (cs.take t))) ∧ Hid (Below w.heap.size w wr) ∧ Hid (BoxT 30 wr w.heap.size #[.slice ta tn tc, .slice ca cs.length cc]))
  case atStart => exact ⟨0, rfl, by omega, by omega, OwnL.nil _ _ _ _ _, HB0.out, HX0.out⟩
  case round =>
    obtain ⟨t, rfl, ht, hg, GO, GB, GX⟩ := hrel
    obtain ⟨go, rfl⟩ : ∃ go, gk = go + 1 := ⟨gk - 1, by omega⟩
    have cx : wr.cell? ⟨w.heap.size, 1, none⟩ = some (.slice ca cs.length cc) := by rw [GX.out.cellAt]; rfl
    by_cases hlt : t < cs.length
    · obtain ⟨x, hx⟩ := get_of_lt hlt
      have bt : (t : Int) < (cs.length : Int) := by omega
      obtain ⟨nb, no, hca, nlt, d0, d1, d2⟩ := seg_cn (HC.out.below GB.out) hx
      subst hca
      have HT := hide (plc_take (fun c : Cn => decide (c.tg = k)) hx)
      have hpl : (plc (fun c : Cn => decide (c.tg = k)) 0 (cs.take t)).length ≤ 1000000 := by have := plc_len (fun c : Cn => decide (c.tg = k)) (cs.take t) 0; simp only [List.length_take] at this; omega
      have HPL := hide hpl
      clear hx hpl
      by_cases hp : x.tg = k
      · have g1 : (x.tg == k) = true := by simp [hp]
        have hd : decide (x.tg = k) = true := by simp [hp]
        simp only [hd, if_true] at HT
        have HNW : Hid ((wr.alloc (.cells #[.int .i64 (t : Int)] 3)).cell? ⟨wr.heap.size, 0, none⟩ = some (.int .i64 (t : Int))) := (show _ = _ by rw [(BoxT.new 3 wr _).cellAt]; rfl)
        have HBS : Hid (w.heap.size ≤ (wr.alloc (.cells #[.int .i64 (t : Int)] 3)).heap.size) := (show _ ≤ _ by have := GB.out.size; simp; omega)
        clear hp hd
        go_wp2_with (at_builtin; refine app_ownN (by kernel_rfl) rfl _ _ rfl w.heap.size u5 _ rfl (OwnL.alloc GO.out _) ⟨wr.heap.size, 0, none⟩ 1 t rfl HNW.out HPL.out HBS.out ?_; intro v4 w4 h4 g4 n4)
        go_roundg go
        case rel =>
          have ba : Below w.heap.size w (wr.alloc (.cells #[.int .i64 (t : Int)] 3)) := GB.out.alloc GB.out.size _
          refine ⟨t + 1, by go_num, by omega, by omega, (show OwnN _ _ _ _ by rw [HT.out]; exact h4), ba.grown g4 HBS.out (fun k e => GO.out.at k e), ?_⟩
          refine (GX.out.alloc _).grownO g4 (fun e => ?_)
          obtain ⟨cur, hc⟩ := GO.out.has _ e.symm
          exact GX.out.ne (t' := 3) hc (by decide) rfl
        case measure => omega
      · have g1 : (x.tg == k) = false := by simp [hp]
        have hd : decide (x.tg = k) = false := by simp [hp]
        simp only [hd, Bool.false_eq_true, if_false, List.append_nil] at HT
        clear hp hd
        go_wp2_with fail
        go_roundg go
        case rel => exact ⟨t + 1, by go_num, by omega, by omega, (show OwnN _ _ _ _ by rw [HT.out]; exact GO.out), GB, GX⟩
        case measure => omega
    · have bt : ¬ (t : Int) < (cs.length : Int) := by omega
      have HE : Hid (OwnN w.heap.size wr u5 (plc (fun c : Cn => decide (c.tg = k)) 0 cs)) := (show OwnN _ _ _ _ by have := GO.out; rwa [List.take_of_length_le (by omega)] at this)
      go_wp2_with fail
      go_ret
      exact ⟨_, rfl, HE.out, GB.out⟩
theorem keepBox {α : Type} {t t' sz k base : Nat} {cs : α → List Value} {w w4 : World} {c : Array Value} {rv : Value} {xs : List α} {o : Obj} (h : BoxT t w k c) (hr : OwnL t' sz cs base w rv xs) (ht : t ≠ t') (g4 : (w.alloc o).grownBy w4 rv.ownBlock) : BoxT t w4 k c :=
  (h.alloc o).grownO g4 (fun e => by
    obtain ⟨cur, hc⟩ := hr.has _ e.symm
    exact h.ne (t' := t') hc ht rfl)
theorem keepRow {α β : Type} {t t' sz sz' base base' : Nat} {cs : α → List Value} {cs' : β → List Value} {w w4 : World} {v rv : Value} {ys : List β} {xs : List α} {o : Obj} (h : OwnL t sz' cs' base' w v ys) (hr : OwnL t' sz cs base w rv xs) (ht : t ≠ t') (g4 : (w.alloc o).grownBy w4 rv.ownBlock) : OwnL t sz' cs' base' w4 v ys := by
  refine OwnL.back (OwnL.alloc h o) (fun g e => ?_)
  refine g4.block g ?_ (fun e' => ?_)
  · have := h.lt g e
    simp; omega
  · obtain ⟨cur', hc⟩ := hr.has g e'.symm
    obtain ⟨cur2, hc2⟩ := h.has g e
    exact BoxT.ne (t := t) (t' := t') hc2 hc ht rfl
theorem OwnL.set1 {α : Type} {t t' sz : Nat} {cs : α → List Value} {base : Nat} {w : World} {v x : Value} {xs : List α} {k i : Nat} {c : Array Value} (h : OwnL t sz cs base w v xs) (ht : t ≠ t') (hk : BoxT t' w k c) : OwnL t sz cs base (w.setCell ⟨k, i, none⟩ x) v xs := by
  refine h.back (fun g e => ?_)
  obtain ⟨cur, hc⟩ := h.has g e
  have hne : g ≠ k := BoxT.ne (t := t) (t' := t') hc hk ht
  rw [Below.heap_setCell w ⟨k, i, none⟩ x g hne]
/-- The document's plan, as it is being made. -/
structure MS (w wr : World) (v tv cv : Value) (ts : List Tk) (cs : List Cn) (fs : List Nat) : Prop where
  jx : BoxT 24 wr w.heap.size #[v]
  rx : BoxT 30 wr (w.heap.size + 1) #[.slice none 0 0, .slice none 0 0]
  px : BoxT 30 wr (w.heap.size + 1 + 1) #[tv, cv]
  fx : BoxT 3 wr (w.heap.size + 1 + 1 + 1) (fs.map iN).toArray
  ot : OwnL 42 2 Tk.cs w.heap.size wr tv ts
  oc : OwnL 40 3 Cn.cs w.heap.size wr cv cs
  bl : Below w.heap.size w wr
section
variable {w wr w' w4 : World} {v tv cv v4 : Value} {ts : List Tk} {cs : List Cn} {fs : List Nat} {o : Obj}
theorem MS.below (h : MS w wr v tv cv ts cs fs) (hb : Below wr.heap.size wr w') : MS w w' v tv cv ts cs fs :=
  ⟨h.jx.below hb, h.rx.below hb, h.px.below hb, h.fx.below hb, h.ot.below hb, h.oc.below hb, h.bl.trans (hb.mono h.bl.size)⟩
theorem MS.task {y : Tk} (h : MS w wr v tv cv ts cs fs) (h4 : OwnL 42 2 Tk.cs w.heap.size w4 v4 (ts ++ [y])) (g4 : (wr.alloc o).grownBy w4 tv.ownBlock) : MS w (w4.setCell ⟨w.heap.size + 1 + 1, 0, none⟩ v4) v v4 cv (ts ++ [y]) cs fs := by
  have hs := h.bl.size
  have px := keepBox h.px h.ot (by decide) g4
  refine ⟨(keepBox h.jx h.ot (by decide) g4).other _ _ (by omega), (keepBox h.rx h.ot (by decide) g4).other _ _ (by omega), by simpa using px.set 0 v4, (keepBox h.fx h.ot (by decide) g4).other _ _ (by omega), h4.set1 (t' := 30) (by decide) px, (keepRow h.oc h.ot (by decide) g4).set1 (t' := 30) (by decide) px, ?_⟩
  exact ((h.bl.alloc hs o).grown g4 (by simp; omega) (fun k e => h.ot.at k e)).setCell (p := ⟨w.heap.size + 1 + 1, 0, none⟩) (show w.heap.size ≤ w.heap.size + 1 + 1 by omega) _
theorem MS.chan {y : Cn} (h : MS w wr v tv cv ts cs fs) (h4 : OwnL 40 3 Cn.cs w.heap.size w4 v4 (cs ++ [y])) (g4 : (wr.alloc o).grownBy w4 cv.ownBlock) : MS w (w4.setCell ⟨w.heap.size + 1 + 1, 1, none⟩ v4) v tv v4 ts (cs ++ [y]) fs := by
  have hs := h.bl.size
  have px := keepBox h.px h.oc (by decide) g4
  refine ⟨(keepBox h.jx h.oc (by decide) g4).other _ _ (by omega), (keepBox h.rx h.oc (by decide) g4).other _ _ (by omega), by simpa using px.set 1 v4, (keepBox h.fx h.oc (by decide) g4).other _ _ (by omega), (keepRow h.ot h.oc (by decide) g4).set1 (t' := 30) (by decide) px, h4.set1 (t' := 30) (by decide) px, ?_⟩
  exact ((h.bl.alloc hs o).grown g4 (by simp; omega) (fun k e => h.oc.at k e)).setCell (p := ⟨w.heap.size + 1 + 1, 1, none⟩) (show w.heap.size ≤ w.heap.size + 1 + 1 by omega) _
theorem MS.first {i x : Nat} (h : MS w wr v tv cv ts cs fs) : MS w (wr.setCell ⟨w.heap.size + 1 + 1 + 1, i, none⟩ (.int .i64 (x : Int))) v tv cv ts cs (fs.set i x) := by
  refine ⟨h.jx.other _ _ (by omega), h.rx.other _ _ (by omega), h.px.other _ _ (by omega), ?_, h.ot.set1 (t' := 3) (by decide) h.fx, h.oc.set1 (t' := 3) (by decide) h.fx, h.bl.setCell (p := ⟨w.heap.size + 1 + 1 + 1, i, none⟩) (show w.heap.size ≤ w.heap.size + 1 + 1 + 1 by omega) _⟩
  have := h.fx.set i (iN x)
  rw [map_set iN] at this
  exact this
end
/-- append onto a row of one's own, as one step of a region that draws. -/
theorem step_L {α : Type} {t sl sz by_ : Nat} {z : Value} {cs : α → List Value} (hinfo : (Try.prog.info? t).map (fun i => (i.zero, i.size, i.bytes)) = some (some z, sz, by_)) (hund : Try.prog.underlying sl = some (.slice t)) (hz : z.cells.size = sz) (hsz : 0 < sz) (hby : by_ ≤ 100)
    (hcs : ∀ x, (cs x).length = sz) (h1c : ∀ x, ∀ u ∈ cs x, u.oneCell' = true) {w : World} {ops : Array Oper} {o : Oper} {a : Act} {K : Act → World → Prop} {Q : Exit → Act → World → Prop} {E : Prop} (hgd : o.guard = none) (s x : Operand)
    (ho : o.op = .call { callee := .builtin .append, args := #[s, x], argTypes := #[sl, sl] }) (base : Nat) (v : Value) (l : List α) (hs : a.eval s = v) (hown : OwnL t sz cs base w v l)
    (ad : Addr) (c : Nat) (y : α) (hx : a.eval x = .slice (some ad) 1 c) (hnews : ∀ (j : Nat) (u : Value), (cs y)[j]? = some u → w.cell? (ad.add j) = some u) (hl : l.length ≤ 1000000) (hbase : base ≤ w.heap.size)
    (h : ∀ v' w', OwnL t sz cs base w' v' (l ++ [y]) → w.grownBy w' v.ownBlock → (∀ g, v'.ownBlock = some g → v.ownBlock = some g ∨ w.heap.size ≤ g) → K (a.put o.dst v') w') :
    if Region.wanted o (yielded ops a.tmps) = true then Oper.wp Try.prog o a w K Q else E := by
  have hw : Region.wanted o (yielded ops a.tmps) = true := by simp [Region.wanted, hgd]
  rw [if_pos hw]
  obtain ⟨i0, hi, hz0, hz1, hz2⟩ := info_parts hinfo
  have hb2 : (l.length + 1) * by_ ≤ 140737488355328 := by
    have : (l.length + 1) * by_ ≤ 1000001 * 100 := Nat.mul_le_mul (by omega) hby
    omega
  obtain ⟨v', w', hr, h2, h3, _, h5⟩ := run_append_own_at (P := Try.prog) w base sl o.type t i0 z sz by_ hund hi hz0 hz1 hz2 hz hsz v l.length (l.flatMap cs) hown ad 1 c (cs y) (by rw [hcs]; omega) hnews (h1c y) (by unfold maxLen; omega) hb2 hbase
  unfold Oper.wp execOp
  simp only [ho, resolve, invoke, builtin, Sem.run_bind, Sem.run_pure, Result.andThen_ok, List.map_toArray, List.map_cons, List.map_nil, hs, hx, hr]
  refine h v' w' ?_ h3 (fun g e => ?_)
  · show w'.ownsRow _ _ _ _ _ _
    rw [List.length_append, List.flatMap_append]; simpa using h2
  · rcases h5 with h5 | h5
    · exact .inl (h5 ▸ e)
    · rw [h5] at e; cases e; exact .inr (Nat.le_refl _)
end Go.Proofs.Ytfiafbfbiidnlaa
