/-
  The document's Keyed, From, To, Make.
-/
import Derived.Test.YtfiafbfbiidnlaaPLawS
import Derived.Test.YtfiafbfbiidnlaaPCountP
namespace Go.Proofs.Ytfiafbfbiidnlaa
open Go.RowKit

set_option maxHeartbeats 1000000 in
set_option maxRecDepth 100000 in
theorem RKeyed_any {w : World} {v : Value} {ns : List Nd} (hj : JobIn w.heap.size w v ns) (i : Int) :
    Calls Try.prog 19 #[.agg #[v], .int .i64 i] w fun e w' => e = .returned (.bool (kyd ns i)) ∧ Below w.heap.size w w' := by
  obtain ⟨na, ncp, rfl⟩ := hj.shape
  have HB := hide (below_box w (.cells #[.slice na ns.length ncp] 24))
  obtain ⟨R, hR⟩ : ∃ R, kyd ns i = R := ⟨_, rfl⟩
  rw [hR]
  unfold kyd at hR
  by_cases h1 : i < 0
  · rw [ndAt_out (.inl h1)] at hR
    have hR' : false = R := by rw [← hR]; rfl
    subst hR'
    have g1 : decide (0 ≤ i) = false := by simp; omega
    clear hR hj
    go_enter Try.func19, Try.ntmps19
    go_wp2_with fail
    go_ret
    exact ⟨rfl, HB.out⟩
  by_cases h2 : (ns.length : Int) ≤ i
  · rw [ndAt_out (.inr h2)] at hR
    have hR' : false = R := by rw [← hR]; rfl
    subst hR'
    have g1 : decide (0 ≤ i) = true := by simp; omega
    have g2 : decide (i < (ns.length : Int)) = false := by simp; omega
    clear hR hj
    go_enter Try.func19, Try.ntmps19
    go_wp2_with fail
    go_ret
    exact ⟨rfl, HB.out⟩
  obtain ⟨k, rfl⟩ : ∃ k : Nat, i = (k : Int) := ⟨i.toNat, by omega⟩
  obtain ⟨n, hn⟩ := get_of_lt (l := ns) (i := k) (by omega)
  rw [ndAt_in hn] at hR
  obtain ⟨nb, no, hna, nlt, d0, -⟩ := (hj.below HB.out).at_ hn
  subst hna
  have bk : (k : Int) < (ns.length : Int) := by omega
  clear hj hn h1 h2
  by_cases h6 : n.kind = 6
  · have g6 : (n.kind == 6) = true := by simp [h6]
    have hR' : true = R := by rw [← hR]; simp [h6]
    subst hR'
    clear hR h6
    go_enter Try.func19, Try.ntmps19
    go_wp2_with fail
    go_ret
    exact ⟨rfl, HB.out⟩
  · have g6 : (n.kind == 6) = false := by simp [h6]
    have HR : Hid ((n.kind == 7) = R) := (show _ = R by rw [← hR]; by_cases h7 : n.kind = 7 <;> simp [h6, h7])
    clear hR h6
    go_enter Try.func19, Try.ntmps19
    go_wp2_with fail
    go_ret
    exact ⟨ret_bool HR.out, HB.out⟩
set_option maxHeartbeats 1000000 in
set_option maxRecDepth 100000 in
theorem RFrom_any {w : World} {ta : Option Addr} {tn tc : Nat} {cv : Value} {cs : List Cn} (hc : LSeg 3 Cn.cs w.heap.size w cv cs) (hl : cs.length ≤ 100000) (k : Int) :
    Calls Try.prog 15 #[.agg #[.slice ta tn tc, cv], .int .i64 k] w fun e w' => ∃ u, e = .returned u ∧ OwnN w.heap.size w' u (plc (fun c : Cn => decide (c.fr = k)) 0 cs) ∧ Below w.heap.size w w' := by
  obtain ⟨ca, cc, rfl⟩ := hc.shape
  have HC := hide hc
  have HB0 := hide (below_box w (.cells #[.slice ta tn tc, .slice ca cs.length cc] 30))
  have HX0 := hide (BoxT.new 30 w #[.slice ta tn tc, .slice ca cs.length cc])
  clear hc
  go_enter Try.func15, Try.ntmps15
  go_wp2_with fail
  go_loopg [5, 6] (cs.length + 1) (fun g uv iv wr => ∃ t : Nat, iv = .int .i64 (t : Int) ∧ t ≤ cs.length ∧ cs.length + 1 ≤ g + t ∧ Hid (OwnN w.heap.size wr uv (plc (fun c : Cn => decide (c.fr = k)) 0 (cs.take t))) ∧ Hid (Below w.heap.size w wr) ∧ Hid (BoxT 30 wr w.heap.size #[.slice ta tn tc, .slice ca cs.length cc]))
  case atStart => exact ⟨0, rfl, by omega, by omega, OwnL.nil _ _ _ _ _, HB0.out, HX0.out⟩
  case round =>
    obtain ⟨t, rfl, ht, hg, GO, GB, GX⟩ := hrel
    obtain ⟨go, rfl⟩ : ∃ go, gk = go + 1 := ⟨gk - 1, by omega⟩
    have cx : wr.cell? ⟨w.heap.size, 1, none⟩ = some (.slice ca cs.length cc) := by rw [GX.out.cellAt]; rfl
    by_cases hlt : t < cs.length
    · obtain ⟨x, hx⟩ := get_of_lt hlt
      have bt : (t : Int) < (cs.length : Int) := by omega
      obtain ⟨nb, no, hca, nlt, d0, d1, d2⟩ := seg_cn (HC.out.below GB.out) hx
      subst hca
      have HT := hide (plc_take (fun c : Cn => decide (c.fr = k)) hx)
      have hpl : (plc (fun c : Cn => decide (c.fr = k)) 0 (cs.take t)).length ≤ 1000000 := by have := plc_len (fun c : Cn => decide (c.fr = k)) (cs.take t) 0; simp only [List.length_take] at this; omega
      have HPL := hide hpl
      clear hx hpl
      by_cases hp : x.fr = k
      · have g1 : (x.fr == k) = true := by simp [hp]
        have hd : decide (x.fr = k) = true := by simp [hp]
        simp only [hd, if_true] at HT
        have HNW : Hid ((wr.alloc (.cells #[.int .i64 (t : Int)] 3)).cell? ⟨wr.heap.size, 0, none⟩ = some (.int .i64 (t : Int))) := (show _ = _ by rw [(BoxT.new 3 wr _).cellAt]; rfl)
        have HBS : Hid (w.heap.size ≤ (wr.alloc (.cells #[.int .i64 (t : Int)] 3)).heap.size) := (show _ ≤ _ by have := GB.out.size; simp; omega)
        clear hp hd
        go_wp2_with (at_builtin; refine app_ownN (by kernel_rfl) rfl _ _ rfl w.heap.size u5 _ rfl (OwnL.alloc GO.out _) ⟨wr.heap.size, 0, none⟩ 1 t rfl HNW.out HPL.out HBS.out ?_; intro v4 w4 h4 g4 n4)
        go_roundg go
        case rel =>
          have ba : Below w.heap.size w (wr.alloc (.cells #[.int .i64 (t : Int)] 3)) := GB.out.alloc GB.out.size _
          refine ⟨t + 1, by go_num, by omega, by omega, (show OwnN _ _ _ _ by rw [HT.out]; exact h4), ba.grown g4 HBS.out (fun k e => GO.out.at k e), ?_⟩
          refine (GX.out.alloc _).grownO g4 (fun e => ?_)
          obtain ⟨cur, hc⟩ := GO.out.has _ e.symm
          exact GX.out.ne (t' := 3) hc (by decide) rfl
        case measure => omega
      · have g1 : (x.fr == k) = false := by simp [hp]
        have hd : decide (x.fr = k) = false := by simp [hp]
        simp only [hd, Bool.false_eq_true, if_false, List.append_nil] at HT
        clear hp hd
        go_wp2_with fail
        go_roundg go
        case rel => exact ⟨t + 1, by go_num, by omega, by omega, (show OwnN _ _ _ _ by rw [HT.out]; exact GO.out), GB, GX⟩
        case measure => omega
    · have bt : ¬ (t : Int) < (cs.length : Int) := by omega
      have HE : Hid (OwnN w.heap.size wr u5 (plc (fun c : Cn => decide (c.fr = k)) 0 cs)) := (show OwnN _ _ _ _ by have := GO.out; rwa [List.take_of_length_le (by omega)] at this)
      go_wp2_with fail
      go_ret
      exact ⟨_, rfl, HE.out, GB.out⟩
set_option maxHeartbeats 1000000 in
set_option maxRecDepth 100000 in
theorem RTo_any {w : World} {ta : Option Addr} {tn tc : Nat} {cv : Value} {cs : List Cn} (hc : LSeg 3 Cn.cs w.heap.size w cv cs) (hl : cs.length ≤ 100000) (k : Int) :
    Calls Try.prog 17 #[.agg #[.slice ta tn tc, cv], .int .i64 k] w fun e w' => ∃ u, e = .returned u ∧ OwnN w.heap.size w' u (plc (fun c : Cn => decide (c.tg = k)) 0 cs) ∧ Below w.heap.size w w' := by
  obtain ⟨ca, cc, rfl⟩ := hc.shape
  have HC := hide hc
  have HB0 := hide (below_box w (.cells #[.slice ta tn tc, .slice ca cs.length cc] 30))
  have HX0 := hide (BoxT.new 30 w #[.slice ta tn tc, .slice ca cs.length cc])
  clear hc
  go_enter Try.func17, Try.ntmps17
  go_wp2_with fail
  go_loopg [5, 6] (cs.length + 1) (fun g uv iv wr => ∃ t : Nat, iv = .int .i64 (t : Int) ∧ t ≤ cs.length ∧ cs.length + 1 ≤ g + t ∧ Hid (OwnN w.heap.size wr uv (plc (fun c : Cn => decide (c.tg = k)) 0 (cs.take t))) ∧ Hid (Below w.heap.size w wr) ∧ Hid (BoxT 30 wr w.heap.size #[.slice ta tn tc, .slice ca cs.length cc]))
  case atStart => exact ⟨0, rfl, by omega, by omega, OwnL.nil _ _ _ _ _, HB0.out, HX0.out⟩
  case round =>
    obtain ⟨t, rfl, ht, hg, GO, GB, GX⟩ := hrel
    obtain ⟨go, rfl⟩ : ∃ go, gk = go + 1 := ⟨gk - 1, by omega⟩
    have cx : wr.cell? ⟨w.heap.size, 1, none⟩ = some (.slice ca cs.length cc) := by rw [GX.out.cellAt]; rfl
    by_cases hlt : t < cs.length
    · obtain ⟨x, hx⟩ := get_of_lt hlt
      have bt : (t : Int) < (cs.length : Int) := by omega
      obtain ⟨nb, no, hca, nlt, d0, d1, d2⟩ := seg_cn (HC.out.below GB.out) hx
      subst hca
      have HT := hide (plc_take (fun c : Cn => decide (c.tg = k)) hx)
      have hpl : (plc (fun c : Cn => decide (c.tg = k)) 0 (cs.take t)).length ≤ 1000000 := by have := plc_len (fun c : Cn => decide (c.tg = k)) (cs.take t) 0; simp only [List.length_take] at this; omega
      have HPL := hide hpl
      clear hx hpl
      by_cases hp : x.tg = k
      · have g1 : (x.tg == k) = true := by simp [hp]
        have hd : decide (x.tg = k) = true := by simp [hp]
        simp only [hd, if_true] at HT
        have HNW : Hid ((wr.alloc (.cells #[.int .i64 (t : Int)] 3)).cell? ⟨wr.heap.size, 0, none⟩ = some (.int .i64 (t : Int))) := (show _ = _ by rw [(BoxT.new 3 wr _).cellAt]; rfl)
        have HBS : Hid (w.heap.size ≤ (wr.alloc (.cells #[.int .i64 (t : Int)] 3)).heap.size) := (show _ ≤ _ by have := GB.out.size; simp; omega)
        clear hp hd
        go_wp2_with (at_builtin; refine app_ownN (by kernel_rfl) rfl _ _ rfl w.heap.size u5 _ rfl (OwnL.alloc GO.out _) ⟨wr.heap.size, 0, none⟩ 1 t rfl HNW.out HPL.out HBS.out ?_; intro v4 w4 h4 g4 n4)
        go_roundg go
        case rel =>
          have ba : Below w.heap.size w (wr.alloc (.cells #[.int .i64 (t : Int)] 3)) := GB.out.alloc GB.out.size _
          refine ⟨t + 1, by go_num, by omega, by omega, (show OwnN _ _ _ _ by rw [HT.out]; exact h4), ba.grown g4 HBS.out (fun k e => GO.out.at k e), ?_⟩
          refine (GX.out.alloc _).grownO g4 (fun e => ?_)
          obtain ⟨cur, hc⟩ := GO.out.has _ e.symm
          exact GX.out.ne (t' := 3) hc (by decide) rfl
        case measure => omega
      · have g1 : (x.tg == k) = false := by simp [hp]
        have hd : decide (x.tg = k) = false := by simp [hp]
        simp only [hd, Bool.false_eq_true, if_false, List.append_nil] at HT
        clear hp hd
        go_wp2_with fail
        go_roundg go
        case rel => exact ⟨t + 1, by go_num, by omega, by omega, (show OwnN _ _ _ _ by rw [HT.out]; exact GO.out), GB, GX⟩
        case measure => omega
    · have bt : ¬ (t : Int) < (cs.length : Int) := by omega
      have HE : Hid (OwnN w.heap.size wr u5 (plc (fun c : Cn => decide (c.tg = k)) 0 cs)) := (show OwnN _ _ _ _ by have := GO.out; rwa [List.take_of_length_le (by omega)] at this)
      go_wp2_with fail
      go_ret
      exact ⟨_, rfl, HE.out, GB.out⟩
theorem keepBox {α : Type} {t t' sz k base : Nat} {cs : α → List Value} {w w4 : World} {c : Array Value} {rv : Value} {xs : List α} {o : Obj} (h : BoxT t w k c) (hr : OwnL t' sz cs base w rv xs) (ht : t ≠ t') (g4 : (w.alloc o).grownBy w4 rv.ownBlock) : BoxT t w4 k c :=
  (h.alloc o).grownO g4 (fun e => by
    obtain ⟨cur, hc⟩ := hr.has _ e.symm
    exact h.ne (t' := t') hc ht rfl)
theorem keepRow {α β : Type} {t t' sz sz' base base' : Nat} {cs : α → List Value} {cs' : β → List Value} {w w4 : World} {v rv : Value} {ys : List β} {xs : List α} {o : Obj} (h : OwnL t sz' cs' base' w v ys) (hr : OwnL t' sz cs base w rv xs) (ht : t ≠ t') (g4 : (w.alloc o).grownBy w4 rv.ownBlock) : OwnL t sz' cs' base' w4 v ys := by
  refine OwnL.back (OwnL.alloc h o) (fun g e => ?_)
  refine g4.block g ?_ (fun e' => ?_)
  · have := h.lt g e
    simp; omega
  · obtain ⟨cur', hc⟩ := hr.has g e'.symm
    obtain ⟨cur2, hc2⟩ := h.has g e
    exact BoxT.ne (t := t) (t' := t') hc2 hc ht rfl
theorem OwnL.set1 {α : Type} {t t' sz : Nat} {cs : α → List Value} {base : Nat} {w : World} {v x : Value} {xs : List α} {k i : Nat} {c : Array Value} (h : OwnL t sz cs base w v xs) (ht : t ≠ t') (hk : BoxT t' w k c) : OwnL t sz cs base (w.setCell ⟨k, i, none⟩ x) v xs := by
  refine h.back (fun g e => ?_)
  obtain ⟨cur, hc⟩ := h.has g e
  have hne : g ≠ k := BoxT.ne (t := t) (t' := t') hc hk ht
  rw [Below.heap_setCell w ⟨k, i, none⟩ x g hne]
/-- The document's plan, as it is being made. -/
structure MS (w wr : World) (v tv cv : Value) (ts : List Tk) (cs : List Cn) (fs : List Nat) : Prop where
  jx : BoxT 24 wr w.heap.size #[v]
  rx : BoxT 30 wr (w.heap.size + 1) #[.slice none 0 0, .slice none 0 0]
  px : BoxT 30 wr (w.heap.size + 1 + 1) #[tv, cv]
  fx : BoxT 3 wr (w.heap.size + 1 + 1 + 1) (fs.map iN).toArray
  ot : OwnL 42 2 Tk.cs w.heap.size wr tv ts
  oc : OwnL 40 3 Cn.cs w.heap.size wr cv cs
  bl : Below w.heap.size w wr
section
variable {w wr w' w4 : World} {v tv cv v4 : Value} {ts : List Tk} {cs : List Cn} {fs : List Nat} {o : Obj}
theorem MS.below (h : MS w wr v tv cv ts cs fs) (hb : Below wr.heap.size wr w') : MS w w' v tv cv ts cs fs :=
  ⟨h.jx.below hb, h.rx.below hb, h.px.below hb, h.fx.below hb, h.ot.below hb, h.oc.below hb, h.bl.trans (hb.mono h.bl.size)⟩
theorem MS.task {y : Tk} (h : MS w wr v tv cv ts cs fs) (h4 : OwnL 42 2 Tk.cs w.heap.size w4 v4 (ts ++ [y])) (g4 : (wr.alloc o).grownBy w4 tv.ownBlock) : MS w (w4.setCell ⟨w.heap.size + 1 + 1, 0, none⟩ v4) v v4 cv (ts ++ [y]) cs fs := by
  have hs := h.bl.size
  have px := keepBox h.px h.ot (by decide) g4
  refine ⟨(keepBox h.jx h.ot (by decide) g4).other _ _ (by omega), (keepBox h.rx h.ot (by decide) g4).other _ _ (by omega), by simpa using px.set 0 v4, (keepBox h.fx h.ot (by decide) g4).other _ _ (by omega), h4.set1 (t' := 30) (by decide) px, (keepRow h.oc h.ot (by decide) g4).set1 (t' := 30) (by decide) px, ?_⟩
  exact ((h.bl.alloc hs o).grown g4 (by simp; omega) (fun k e => h.ot.at k e)).setCell (p := ⟨w.heap.size + 1 + 1, 0, none⟩) (show w.heap.size ≤ w.heap.size + 1 + 1 by omega) _
theorem MS.chan {y : Cn} (h : MS w wr v tv cv ts cs fs) (h4 : OwnL 40 3 Cn.cs w.heap.size w4 v4 (cs ++ [y])) (g4 : (wr.alloc o).grownBy w4 cv.ownBlock) : MS w (w4.setCell ⟨w.heap.size + 1 + 1, 1, none⟩ v4) v tv v4 ts (cs ++ [y]) fs := by
  have hs := h.bl.size
  have px := keepBox h.px h.oc (by decide) g4
  refine ⟨(keepBox h.jx h.oc (by decide) g4).other _ _ (by omega), (keepBox h.rx h.oc (by decide) g4).other _ _ (by omega), by simpa using px.set 1 v4, (keepBox h.fx h.oc (by decide) g4).other _ _ (by omega), (keepRow h.ot h.oc (by decide) g4).set1 (t' := 30) (by decide) px, h4.set1 (t' := 30) (by decide) px, ?_⟩
  exact ((h.bl.alloc hs o).grown g4 (by simp; omega) (fun k e => h.oc.at k e)).setCell (p := ⟨w.heap.size + 1 + 1, 1, none⟩) (show w.heap.size ≤ w.heap.size + 1 + 1 by omega) _
theorem MS.first {i x : Nat} (h : MS w wr v tv cv ts cs fs) : MS w (wr.setCell ⟨w.heap.size + 1 + 1 + 1, i, none⟩ (.int .i64 (x : Int))) v tv cv ts cs (fs.set i x) := by
  refine ⟨h.jx.other _ _ (by omega), h.rx.other _ _ (by omega), h.px.other _ _ (by omega), ?_, h.ot.set1 (t' := 3) (by decide) h.fx, h.oc.set1 (t' := 3) (by decide) h.fx, h.bl.setCell (p := ⟨w.heap.size + 1 + 1 + 1, i, none⟩) (show w.heap.size ≤ w.heap.size + 1 + 1 + 1 by omega) _⟩
  have := h.fx.set i (iN x)
  rw [map_set iN] at this
  exact this
end
/-- append onto a row of one's own, as one step of a region that draws. -/
theorem step_L {α : Type} {t sl sz by_ : Nat} {z : Value} {cs : α → List Value} (hinfo : (Try.prog.info? t).map (fun i => (i.zero, i.size, i.bytes)) = some (some z, sz, by_)) (hund : Try.prog.underlying sl = some (.slice t)) (hz : z.cells.size = sz) (hsz : 0 < sz) (hby : by_ ≤ 100)
    (hcs : ∀ x, (cs x).length = sz) (h1c : ∀ x, ∀ u ∈ cs x, u.oneCell' = true) {w : World} {ops : Array Oper} {o : Oper} {a : Act} {K : Act → World → Prop} {Q : Exit → Act → World → Prop} {E : Prop} (hgd : o.guard = none) (s x : Operand)
    (ho : o.op = .call { callee := .builtin .append, args := #[s, x], argTypes := #[sl, sl] }) (base : Nat) (v : Value) (l : List α) (hs : a.eval s = v) (hown : OwnL t sz cs base w v l)
    (ad : Addr) (c : Nat) (y : α) (hx : a.eval x = .slice (some ad) 1 c) (hnews : ∀ (j : Nat) (u : Value), (cs y)[j]? = some u → w.cell? (ad.add j) = some u) (hl : l.length ≤ 1000000) (hbase : base ≤ w.heap.size)
    (h : ∀ v' w', OwnL t sz cs base w' v' (l ++ [y]) → w.grownBy w' v.ownBlock → (∀ g, v'.ownBlock = some g → v.ownBlock = some g ∨ w.heap.size ≤ g) → K (a.put o.dst v') w') :
    if Region.wanted o (yielded ops a.tmps) = true then Oper.wp Try.prog o a w K Q else E := by
  have hw : Region.wanted o (yielded ops a.tmps) = true := by simp [Region.wanted, hgd]
  rw [if_pos hw]
  obtain ⟨i0, hi, hz0, hz1, hz2⟩ := info_parts hinfo
  have hb2 : (l.length + 1) * by_ ≤ 140737488355328 := by
    have : (l.length + 1) * by_ ≤ 1000001 * 100 := Nat.mul_le_mul (by omega) hby
    omega
  obtain ⟨v', w', hr, h2, h3, _, h5⟩ := run_append_own_at (P := Try.prog) w base sl o.type t i0 z sz by_ hund hi hz0 hz1 hz2 hz hsz v l.length (l.flatMap cs) hown ad 1 c (cs y) (by rw [hcs]; omega) hnews (h1c y) (by unfold maxLen; omega) hb2 hbase
  unfold Oper.wp execOp
  simp only [ho, resolve, invoke, builtin, Sem.run_bind, Sem.run_pure, Result.andThen_ok, List.map_toArray, List.map_cons, List.map_nil, hs, hx, hr]
  refine h v' w' ?_ h3 (fun g e => ?_)
  · show w'.ownsRow _ _ _ _ _ _
    rw [List.length_append, List.flatMap_append]; simpa using h2
  · rcases h5 with h5 | h5
    · exact .inl (h5 ▸ e)
    · rw [h5] at e; cases e; exact .inr (Nat.le_refl _)
theorem range_get {m a : Nat} (h : a < m) : (List.range m)[a]? = some a := List.getElem?_range h
set_option maxHeartbeats 8000000 in
set_option maxRecDepth 100000 in
theorem RMake_any {w : World} {v : Value} {ns : List Nd} (hj : JobIn w.heap.size w v ns) (hl : ns.length ≤ 1000) (hp : ∀ n ∈ ns, 0 ≤ n.par ∧ n.par ≤ 4) (hin : ∀ n ∈ ns, ∀ x ∈ n.ins, 0 ≤ x ∧ x < (ns.length : Int)) (hR : (chJ ns 0 ns).length ≤ 1000000) :
    Calls Try.prog 11 #[.agg #[v]] w fun e w' => ∃ tv cv, e = .returned (.agg #[tv, cv]) ∧ OwnL 42 2 Tk.cs w.heap.size w' tv (tksOf 0 ns) ∧ OwnL 40 3 Cn.cs w.heap.size w' cv (chJ ns 0 ns) ∧ Below w.heap.size w w' := by
  obtain ⟨na, ncp, rfl⟩ := hj.shape
  have HJ := hide hj
  have HP := hide hp
  have HIN := hide hin
  obtain ⟨R, hRe⟩ : ∃ R, chJ ns 0 ns = R := ⟨_, rfl⟩
  rw [hRe] at hR ⊢
  have HRE := hide hRe
  have HR := hide hR
  have m2 : ∀ W : World, (Instr.makeSlice 34 (.int .i64 (ns.length : Int)) (.int .i64 (ns.length : Int))).run Try.prog W = .ok (.slice (some ⟨W.heap.size, 0, none⟩) ns.length ns.length) (W.alloc (.cells ((List.replicate ns.length 0).map iN).toArray 3)) := fun W => mkN W ns.length (by omega)
  obtain ⟨cP, hcP⟩ : ∃ c, ((List.replicate ns.length 0).map iN).toArray = c := ⟨_, rfl⟩
  rw [hcP] at m2
  have H4 := hide (fourW w (.cells #[.slice na ns.length ncp] 24) (.cells #[.slice none 0 0, .slice none 0 0] 30) (.cells #[.slice none 0 0, .slice none 0 0] 30) (.cells cP 3))
  have HB4 : Hid (Below w.heap.size w ((((w.alloc (.cells #[.slice na ns.length ncp] 24)).alloc (.cells #[.slice none 0 0, .slice none 0 0] 30)).alloc (.cells #[.slice none 0 0, .slice none 0 0] 30)).alloc (.cells cP 3))) := ((((Below.refl _ _).alloc (Nat.le_refl _) _).alloc (by simp) _).alloc (by simp; omega) _).alloc (by simp; omega) _
  have HM0 : Hid (MS w ((((w.alloc (.cells #[.slice na ns.length ncp] 24)).alloc (.cells #[.slice none 0 0, .slice none 0 0] 30)).alloc (.cells #[.slice none 0 0, .slice none 0 0] 30)).alloc (.cells cP 3)) (.slice na ns.length ncp) (.slice none 0 0) (.slice none 0 0) [] [] (List.replicate ns.length 0)) :=
    ⟨H4.out.1, H4.out.2.1, H4.out.2.2.1, (show BoxT 3 _ _ _ by rw [hcP]; exact H4.out.2.2.2), OwnL.nil _ _ _ _ _, OwnL.nil _ _ _ _ _, HB4.out⟩
  clear hj hp hin hRe hR hcP H4 HB4
  go_enter Try.func11, Try.ntmps11
  go_wp2_with fail
  go_loopg [5] (ns.length + 1) (fun g iv wr => ∃ (i : Nat) (tv : Value) (fs : List Nat), iv = .int .i64 (i : Int) ∧ i ≤ ns.length ∧ ns.length + 1 ≤ g + i ∧ Hid (MS w wr (.slice na ns.length ncp) tv (.slice none 0 0) (tksOf 0 (ns.take i)) [] fs) ∧ Hid (fs.length = ns.length) ∧ Hid (∀ j < i, fs[j]? = some (off ns j)))
  case atStart => exact ⟨0, _, _, rfl, by omega, by omega, HM0, (show _ = _ by simp), (fun j hj => by omega)⟩
  case round =>
    clear HM0
    obtain ⟨i, tv, fs, rfl, hi, hg, GM, GL, GF⟩ := hrel
    obtain ⟨g1, rfl⟩ : ∃ go, gk = go + 1 := ⟨gk - 1, by omega⟩
    obtain ⟨wo, hwo⟩ : ∃ wo, wo = wr := ⟨_, rfl⟩
    subst hwo
    obtain ⟨ta, tc, htv⟩ := GM.out.ot.shape
    subst htv
    have cj : wo.cell? ⟨w.heap.size, 0, none⟩ = some (.slice na ns.length ncp) := by rw [GM.out.jx.cellAt]; rfl
    by_cases hil : i < ns.length
    · obtain ⟨n, hn⟩ := get_of_lt hil
      have bt : (i : Int) < (ns.length : Int) := by omega
      have bt0 : ¬ (i : Int) < 0 := by omega
      obtain ⟨o, hof⟩ : ∃ o, off ns i = o := ⟨_, rfl⟩
      have hof2 : (tksOf 0 (ns.take i)).length = o := hof
      have ct : wo.cell? ⟨w.heap.size + 1 + 1, 0, none⟩ = some (.slice ta o tc) := by rw [GM.out.px.cellAt, ← hof2]; rfl
      obtain ⟨y, hy⟩ := get_of_lt (l := fs) (i := i) (by rw [GL.out]; exact hil)
      have cf := iN_at GM.out.fx hy
      have ff := GM.out.fx.free i
      have hp4 := HP.out n (List.mem_of_getElem? hn)
      have HTK := hide (tksOf_take hn)
      have GM2 := hide (GM.out.first (i := i) (x := o))
      have GL2 : Hid ((fs.set i o).length = ns.length) := (show _ = _ by rw [List.length_set]; exact GL.out)
      have GF2 : Hid (∀ j < i + 1, (fs.set i o)[j]? = some (off ns j)) := fun j hj => by
        rw [get_set (by rw [GL.out]; exact hil)]
        split
        · rename_i e; subst e; rw [hof]
        · exact GF.out j (by omega)
      have hol : (tksOf 0 (ns.take i)).length ≤ 4 * i := by
        have := tksOf_len (ns.take i) (fun m hm => (HP.out m (List.mem_of_mem_take hm)).2) 0
        rw [List.length_take] at this
        omega
      have HOL := hide hol
      have HNI := hide hn
      clear hn hy hof hof2 hol GF GL
      obtain ⟨pn, hpn⟩ : ∃ pn : Nat, n.par = (pn : Int) := ⟨n.par.toNat, by omega⟩
      rw [show n.par.toNat = pn by omega] at HTK
      go_wp2_with fail
      go_loopg [6] (pn + 1) (fun g iv wr => ∃ (k : Nat) (tv : Value), iv = .int .i64 (k : Int) ∧ k ≤ pn ∧ pn + 1 ≤ g + k ∧ Hid (MS w wr (.slice na ns.length ncp) tv (.slice none 0 0) (tksOf 0 (ns.take i) ++ tkN i k) [] (fs.set i o)))
      case atStart => exact ⟨0, _, rfl, by omega, by omega, (show MS _ _ _ _ _ _ _ _ by simpa [tkN] using GM2.out)⟩
      case round =>
        clear GM GM2 cf ff ct cj
        obtain ⟨k, tv, rfl, hk, hgk, GM⟩ := hrel
        obtain ⟨g2, rfl⟩ : ∃ go, gk = go + 1 := ⟨gk - 1, by omega⟩
        have cj : wr.cell? ⟨w.heap.size, 0, none⟩ = some (.slice na ns.length ncp) := by rw [GM.out.jx.cellAt]; rfl
        obtain ⟨nb, no, hna, nlt, -, -, d2, -⟩ := (HJ.out.below GM.out.bl).at_ HNI.out
        subst hna
        rw [hpn] at d2
        by_cases hkp : k < pn
        · have bk : (k : Int) < (pn : Int) := by omega
          obtain ⟨ta2, tc2, htv⟩ := GM.out.ot.shape
          obtain ⟨tl, htl⟩ : ∃ l, (tksOf 0 (ns.take i) ++ tkN i k).length = l := ⟨_, rfl⟩
          rw [htl] at htv
          subst htv
          have ct : wr.cell? ⟨w.heap.size + 1 + 1, 0, none⟩ = some (.slice ta2 tl tc2) := by rw [GM.out.px.cellAt]; rfl
          have HNW : Hid (∀ (j : Nat) (u : Value), (Tk.cs ⟨i, k⟩)[j]? = some u → (wr.alloc (.cells #[.int .i64 (i : Int), .int .i64 (k : Int)] 42)).cell? ((⟨wr.heap.size, 0, none⟩ : Addr).add j) = some u) := fun j u hu => by
            rw [add_plain2, (BoxT.new 42 wr _).cellAt, Nat.zero_add]
            simpa [Tk.cs] using hu
          have HBS : Hid (w.heap.size ≤ (wr.alloc (.cells #[.int .i64 (i : Int), .int .i64 (k : Int)] 42)).heap.size) := (show _ ≤ _ by have := GM.out.bl.size; simp; omega)
          have HLL : Hid ((tksOf 0 (ns.take i) ++ tkN i k).length ≤ 1000000) := (show _ ≤ _ by rw [List.length_append, tkN_len]; have := HOL.out; omega)
          clear htl
          go_wp2_with (at_builtin; refine app_L Try.info42' (by kernel_rfl) rfl (by omega) (by omega) Tk.cs_len Tk.cs_one rfl _ _ rfl w.heap.size (.slice ta2 tl tc2) _ rfl (GM.out.ot.alloc _) ⟨wr.heap.size, 0, none⟩ 1 ⟨i, k⟩ rfl HNW.out HLL.out HBS.out ?_; intro v4 w4 h4 g4 n4
                       have kp := keepBox GM.out.px GM.out.ot (by decide) g4
                       have cp : w4.cell? ⟨w.heap.size + 1 + 1, 0, none⟩ = some (.slice ta2 tl tc2) := (by rw [kp.cellAt]; rfl)
                       have fp := kp.free 0
                       obtain ⟨ta4, tc4, hv4⟩ := h4.shape
                       obtain ⟨l4, hl4⟩ : ∃ l, (tksOf 0 (ns.take i) ++ tkN i k ++ [(⟨(i : Int), (k : Int)⟩ : Tk)]).length = l := ⟨_, rfl⟩
                       rw [hl4] at hv4
                       subst hv4
                       clear hl4
                       clear kp)
          go_roundg g2
          case rel => exact ⟨k + 1, _, by go_num, by omega, by omega, (show MS _ _ _ _ _ _ _ _ by rw [tkN_succ, ← List.append_assoc]; exact GM.out.task h4 g4)⟩
          case measure => omega
        · have bk : ¬ (k : Int) < (pn : Int) := by omega
          have hke : k = pn := by omega
          have GM5 : Hid (MS w wr (.slice (some ⟨nb, no, none⟩) ns.length ncp) tv (.slice none 0 0) (tksOf 0 (ns.take (i + 1))) [] (fs.set i o)) := (show MS _ _ _ _ _ _ _ _ by rw [HTK.out, ← hke]; exact GM.out)
          clear hke
          go_wp2_with fail
          go_roundg g1
          case rel => exact ⟨i + 1, tv, _, by go_num, by omega, by omega, GM5, GL2, GF2⟩
          case measure => omega
    · have bt : ¬ (i : Int) < (ns.length : Int) := by omega
      have hie : i = ns.length := by omega
      have GM6 : Hid (MS w wo (.slice na ns.length ncp) (.slice ta (tksOf 0 ns).length tc) (.slice none 0 0) (tksOf 0 ns) [] fs) := (show MS _ _ _ _ _ _ _ _ by have := GM.out; rw [hie, List.take_length] at this; exact this)
      have GF6 : Hid (∀ j < ns.length, fs[j]? = some (off ns j)) := (by rw [← hie]; exact GF)
      obtain ⟨tl, htl⟩ : ∃ l, (tksOf 0 ns).length = l := ⟨_, rfl⟩
      rw [htl] at GM6
      clear hie htl GM GF GL hg hi bt
      go_wp2_with fail
      go_loopg [7] (ns.length + 1) (fun g iv wr => ∃ (i : Nat) (cv : Value) (cur : List Cn), iv = .int .i64 (i : Int) ∧ i ≤ ns.length ∧ ns.length + 1 ≤ g + i ∧ Hid (MS w wr (.slice na ns.length ncp) (.slice ta tl tc) cv (tksOf 0 ns) cur fs) ∧ Hid (cur ++ chJ ns i (ns.drop i) = R))
      case atStart => exact ⟨0, _, [], rfl, by omega, by omega, GM6, (show _ = R by simpa using HRE.out)⟩
      case round =>
        clear GM6 cj
        obtain ⟨i, cv, cur, rfl, hi, hg, GM, GR⟩ := hrel
        obtain ⟨g1, rfl⟩ : ∃ go, gk = go + 1 := ⟨gk - 1, by omega⟩
        obtain ⟨wo, hwo⟩ : ∃ wo, wo = wr := ⟨_, rfl⟩
        subst hwo
        have cj : wo.cell? ⟨w.heap.size, 0, none⟩ = some (.slice na ns.length ncp) := by rw [GM.out.jx.cellAt]; rfl
        by_cases hil : i < ns.length
        · obtain ⟨n, hn⟩ := get_of_lt hil
          have bt : (i : Int) < (ns.length : Int) := by omega
          obtain ⟨nb, no, hna, nlt, d0, d1, d2, d3, d4, d5, d6, d7, d8, d9⟩ := (HJ.out.below GM.out.bl).at_ hn
          subst hna
          have hmem := List.mem_of_getElem? hn
          have HII := hide (HJ.out.ins n hmem)
          have HXR := hide (HIN.out n hmem)
          have hp4 := HP.out n hmem
          have HBX := hide (below_box wo (.cells n.cs.toArray 54))
          have hr1 := GR.out
          rw [drop_of hn, chJ] at hr1
          obtain ⟨X1, hX1⟩ : ∃ X, chJ ns (i + 1) (ns.drop (i + 1)) = X := ⟨_, rfl⟩
          rw [hX1] at hr1
          have GR1 := hide hr1
          have HX1 := hide hX1
          have hfi := GF6.out i hil
          have hoff : off ns i ≤ 4 * i := by
            have := tksOf_len (ns.take i) (fun m hm => (HP.out m (List.mem_of_mem_take hm)).2) 0
            rw [List.length_take] at this
            unfold off
            omega
          have hpN := parN_at hn
          have HKI := hide (ndAt_in hn)
          obtain ⟨oi, hoi⟩ : ∃ o, off ns i = o := ⟨_, rfl⟩
          rw [hoi] at hfi hoff
          have HFI := hide hfi
          have HOI := hide hoi
          clear hn hmem hr1 hX1 GR hfi hoi nlt
          obtain ⟨kd, ia, icp, ins, par, ⟨eo, en, ea, ec, el⟩, ag, wk, ws, wl⟩ := n
          unfold Nd.cs at HBX
          simp only at d0 d1 d2 d3 d4 d5 d6 d7 d8 d9 HII HXR hp4 HBX GR1 hpN HKI
          obtain ⟨pp, hpp⟩ : ∃ pp : Nat, par = (pp : Int) := ⟨par.toNat, by omega⟩
          subst hpp
          rw [Int.toNat_natCast] at hpN
          have HPN := hide hpN
          have hp5 : pp ≤ 4 := by omega
          clear hpN hp4
          obtain ⟨CS1, hCS1⟩ : ∃ C : Array Value, (#[.int .i64 kd, .slice ia ins.length icp, .int .i64 (pp : Int), .int .i64 eo, .int .i64 en, .slice ea el.length ec, .int .i64 ag, .int .i64 wk, .int .i64 ws, .int .i64 wl] : Array Value) = C := ⟨_, rfl⟩
          have HC1 := hide hCS1
          have HG1 : Hid (BoxT 54 (wo.alloc (.cells #[.int .i64 kd, .slice ia ins.length icp, .int .i64 (pp : Int), .int .i64 eo, .int .i64 en, .slice ea el.length ec, .int .i64 ag, .int .i64 wk, .int .i64 ws, .int .i64 wl] 54)) wo.heap.size CS1) := (show BoxT _ _ _ _ by rw [← hCS1]; exact BoxT.new 54 wo _)
          have hil2 := HII.out.len
          clear hCS1
          go_wp2_with fail
          go_loopg [9] (ins.length + 1) (fun g iv wr => ∃ (k : Nat) (cv : Value) (cur : List Cn), iv = .int .i64 (k : Int) ∧ k ≤ ins.length ∧ ins.length + 1 ≤ g + k ∧ Hid (MS w wr (.slice (some ⟨nb, no, none⟩) ns.length ncp) (.slice ta tl tc) cv (tksOf 0 ns) cur fs) ∧ Hid (BoxT 54 wr wo.heap.size CS1) ∧ Hid (cur ++ (chI ns i k (ins.drop k) ++ X1) = R))
          case atStart => exact ⟨0, cv, cur, rfl, by omega, by omega, GM.out.below HBX.out, HG1, (show _ = R by simpa using GR1.out)⟩
          case round =>
            clear GM GR1 HBX HG1 d0 d1 d2 d3 d4 d5 d6 d7 d8 d9 cj
            obtain ⟨k, cv, cur, rfl, hk, hgk, GM, G1, GR⟩ := hrel
            obtain ⟨g2, rfl⟩ : ∃ go, gk = go + 1 := ⟨gk - 1, by omega⟩
            obtain ⟨wp, hwp⟩ : ∃ wp, wp = wr := ⟨_, rfl⟩
            subst hwp
            have cj : wp.cell? ⟨w.heap.size, 0, none⟩ = some (.slice (some ⟨nb, no, none⟩) ns.length ncp) := by rw [GM.out.jx.cellAt]; rfl
            by_cases hkl : k < ins.length
            · obtain ⟨xi, hx⟩ := get_of_lt hkl
              have bk : (k : Int) < (ins.length : Int) := by omega
              have hxr := HXR.out xi (List.mem_of_getElem? hx)
              obtain ⟨x, rfl⟩ : ∃ x : Nat, xi = (x : Int) := ⟨xi.toNat, by omega⟩
              obtain ⟨ib, io, hia, ilt, ci⟩ := (HII.out.below GM.out.bl).num hx
              subst hia
              have HCI : Hid (∀ w', Below w.heap.size w w' → w'.cell? ⟨ib, io + k, none⟩ = some (.int .i64 (x : Int))) := fun w' hb => by
                obtain ⟨ib', io', e, _, c⟩ := (HII.out.below hb).num hx
                cases e
                exact c
              have G1E := G1
              rw [← HC1.out] at G1E
              obtain ⟨s0, s1, s2, -⟩ := G1E.out.cells10
              have bx : (x : Int) < (ns.length : Int) := hxr.2
              obtain ⟨nx, hnx⟩ := get_of_lt (l := ns) (i := x) (by omega)
              obtain ⟨nb2, no2, hna2, nlt2, f0, f1, f2, f3, f4, f5, f6, f7, f8, f9⟩ := (HJ.out.below GM.out.bl).at_ hnx
              cases hna2
              have hpx := HP.out nx (List.mem_of_getElem? hnx)
              have hfx := GF6.out x (by omega)
              have hpN2 := parN_at hnx
              have HKX := hide (ndAt_in hnx)
              have hoffx : off ns x ≤ 4 * x := by
                have := tksOf_len (ns.take x) (fun m hm => (HP.out m (List.mem_of_mem_take hm)).2) 0
                rw [List.length_take] at this
                unfold off
                omega
              obtain ⟨ox, hox⟩ : ∃ o, off ns x = o := ⟨_, rfl⟩
              rw [hox] at hfx hoffx
              have HFX := hide hfx
              have hr2 := GR.out
              rw [drop_of hx, chI, Int.toNat_natCast, List.append_assoc] at hr2
              obtain ⟨X2, hX2⟩ : ∃ X, chI ns i (k + 1) (ins.drop (k + 1)) ++ X1 = X := ⟨_, rfl⟩
              rw [hX2] at hr2
              have GRX := hide hr2
              have HX2 := hide hX2
              have hbx : Below wp.heap.size wp (wp.drew.alloc (.cells nx.cs.toArray 54)) := (Below.refl _ _).drew.alloc (Nat.le_refl _) _
              have GM18 := hide (GM.out.below hbx)
              have G118 := hide (G1.out.below hbx)
              have hb18 := GM.out.bl.trans (hbx.mono GM.out.bl.size)
              have HKY := hide (RKeyed_any ((HJ.out.below hb18).mono hb18.size) (i : Int))
              have G2X : Hid (BoxT 54 (wp.drew.alloc (.cells nx.cs.toArray 54)) wp.heap.size nx.cs.toArray) := BoxT.new 54 wp.drew _
              have G1X : Hid (BoxT 54 (wp.drew.alloc (.cells nx.cs.toArray 54)) wo.heap.size #[.int .i64 kd, .slice (some ⟨ib, io, none⟩) ins.length icp, .int .i64 (pp : Int), .int .i64 eo, .int .i64 en, .slice ea el.length ec, .int .i64 ag, .int .i64 wk, .int .i64 ws, .int .i64 wl]) := G1E.out.below hbx
              obtain ⟨kd2, ia2, icp2, ins2, par2, ⟨eo2, en2, ea2, ec2, el2⟩, ag2, wk2, ws2, wl2⟩ := nx
              unfold Nd.cs at *
              simp only at f0 f1 f2 f3 f4 f5 f6 f7 f8 f9 hpx hpN2 HKX GM18 G118 HKY G1X G2X
              obtain ⟨px, hpx0⟩ : ∃ px : Nat, par2 = (px : Int) := ⟨par2.toNat, by omega⟩
              subst hpx0
              rw [Int.toNat_natCast] at hpN2
              have hpx4 : px ≤ 4 := by omega
              have bz1 : wo.heap.size < wp.heap.size := G1.out.lt
              have bz2 : w.heap.size < wp.heap.size := GM.out.jx.lt
              have bz3 : nb < wp.heap.size := by omega
              have bz4 : ib < wp.heap.size := by omega
              have HCHX : Hid (chX ns i k x = (List.range px).flatMap fun a => ((List.range pp).filter fun b => fdAll ns (x : Int) (i : Int) || decide (a = b)).map fun b => (⟨((ox + a : Nat) : Int), ((oi + b : Nat) : Int), (k : Int)⟩ : Cn)) := (show _ = _ by unfold chX; rw [hpN2, HPN.out, hox, HOI.out])
              have hfd : fdAll ns (x : Int) (i : Int) = (kyd ns (i : Int) || decide (px ≠ pp)) := by
                unfold fdAll
                rw [HKX.out, HKI.out]
                congr 1
                by_cases h : px = pp
                · subst h; simp
                · rw [decide_eq_true h, decide_eq_true (show (px : Int) ≠ (pp : Int) by omega)]
              obtain ⟨CS2, hCS2⟩ : ∃ C : Array Value, (#[.int .i64 kd2, .slice ia2 ins2.length icp2, .int .i64 (px : Int), .int .i64 eo2, .int .i64 en2, .slice ea2 el2.length ec2, .int .i64 ag2, .int .i64 wk2, .int .i64 ws2, .int .i64 wl2] : Array Value) = C := ⟨_, rfl⟩
              have HC2 := hide hCS2
              have G218 : Hid (BoxT 54 (wp.drew.alloc (.cells #[.int .i64 kd2, .slice ia2 ins2.length icp2, .int .i64 (px : Int), .int .i64 eo2, .int .i64 en2, .slice ea2 el2.length ec2, .int .i64 ag2, .int .i64 wk2, .int .i64 ws2, .int .i64 wl2] 54)) wp.heap.size CS2) := (show BoxT _ _ _ _ by rw [← hCS2]; exact G2X.out)
              clear hx hnx hr2 hX2 hbx hb18 GR hfx hxr hpN2 hox hCS2 nlt2 ilt hpx
              cases hky : kyd ns (i : Int) with
              | true =>
                rw [hky] at HKY hfd
                clear hky
                have hAL : fdAll ns (x : Int) (i : Int) = true := by rw [hfd]; rfl
                clear hfd
                have GR2 : Hid (cur ++ (((List.range px).flatMap fun a => ((List.range pp).filter fun b => true || decide (a = b)).map fun b => (⟨((ox + a : Nat) : Int), ((oi + b : Nat) : Int), (k : Int)⟩ : Cn)) ++ X2) = R) := (show _ = R by rw [← GRX.out, HCHX.out, hAL])
                clear hAL GRX HCHX
                as_aux_lemma =>
                go_wp2_with fail
                go_region
                all_goals
                  go_wp2_with (go_at_call 19; refine HKY.out.mono ?_; rintro e wK ⟨rfl, bK⟩
                               obtain ⟨-, -, u2, -⟩ := (G1X.out.below bK).cells10
                               obtain ⟨-, -, t2, -⟩ := (G2X.out.below bK).cells10)
                  go_loopg [12] (px + 1) (fun g iv wr => ∃ (a : Nat) (cv : Value) (cur : List Cn), iv = .int .i64 (a : Int) ∧ a ≤ px ∧ px + 1 ≤ g + a ∧ Hid (MS w wr (.slice (some ⟨nb, no, none⟩) ns.length ncp) (.slice ta tl tc) cv (tksOf 0 ns) cur fs) ∧ Hid (BoxT 54 wr wo.heap.size CS1) ∧ Hid (BoxT 54 wr wp.heap.size CS2) ∧ Hid (cur ++ (((List.range px).drop a).flatMap (fun a => ((List.range pp).filter fun b => true || decide (a = b)).map fun b => (⟨((ox + a : Nat) : Int), ((oi + b : Nat) : Int), (k : Int)⟩ : Cn)) ++ X2) = R))
                  case atStart => exact ⟨0, cv, cur, rfl, by omega, by omega, GM18.out.below bK, G118.out.below bK, G218.out.below bK, (show _ = R by simpa using GR2.out)⟩
                  case round =>
                    clear GM GR2 G1 GM18 G118 G218 bK
                    obtain ⟨a, cv, cur, rfl, ha, hga, GM, G1, G2, GR⟩ := hrel
                    obtain ⟨g3, rfl⟩ : ∃ go, gk = go + 1 := ⟨gk - 1, by omega⟩
                    have G2E := G2
                    rw [← HC2.out] at G2E
                    obtain ⟨-, -, q2, -⟩ := G2E.out.cells10
                    by_cases hal : a < px
                    · have ba : (a : Int) < (px : Int) := by omega
                      have hr3 := GR.out
                      rw [drop_of (range_get hal), List.flatMap_cons, List.append_assoc] at hr3
                      obtain ⟨X3, hX3⟩ : ∃ X, ((List.range px).drop (a + 1)).flatMap (fun a => ((List.range pp).filter fun b => true || decide (a = b)).map fun b => (⟨((ox + a : Nat) : Int), ((oi + b : Nat) : Int), (k : Int)⟩ : Cn)) ++ X2 = X := ⟨_, rfl⟩
                      rw [hX3] at hr3
                      have GR3 := hide hr3
                      have HX3 := hide hX3
                      clear hr3 hX3 GR G2E
                      go_wp2_with fail
                      go_loopg [13] (pp + 1) (fun g iv wr => ∃ (b : Nat) (cv : Value) (cur : List Cn), iv = .int .i64 (b : Int) ∧ b ≤ pp ∧ pp + 1 ≤ g + b ∧ Hid (MS w wr (.slice (some ⟨nb, no, none⟩) ns.length ncp) (.slice ta tl tc) cv (tksOf 0 ns) cur fs) ∧ Hid (BoxT 54 wr wo.heap.size CS1) ∧ Hid (BoxT 54 wr wp.heap.size CS2) ∧ Hid (cur ++ ((((List.range pp).drop b).filter fun b => true || decide (a = b)).map (fun b => (⟨((ox + a : Nat) : Int), ((oi + b : Nat) : Int), (k : Int)⟩ : Cn)) ++ X3) = R))
                      case atStart => exact ⟨0, cv, cur, rfl, by omega, by omega, GM, G1, G2, (show _ = R by simpa using GR3.out)⟩
                      case round =>
                        clear GM G1 G2 GR3 q2
                        obtain ⟨b, cv, cur, rfl, hb, hgb, GM, G1, G2, GR⟩ := hrel
                        obtain ⟨g4, rfl⟩ : ∃ go, gk = go + 1 := ⟨gk - 1, by omega⟩
                        have G1E := G1
                        rw [← HC1.out] at G1E
                        obtain ⟨-, s1, s2, -⟩ := G1E.out.cells10
                        by_cases hbl : b < pp
                        · have bb : (b : Int) < (pp : Int) := by omega
                          have hr4 := GR.out
                          rw [drop_of (range_get hbl)] at hr4
                          have GR4 : Hid ((cur ++ [(⟨(ox : Int) + (a : Int), (oi : Int) + (b : Int), (k : Int)⟩ : Cn)]) ++ ((((List.range pp).drop (b + 1)).filter fun b => true || decide (a = b)).map (fun b => (⟨((ox + a : Nat) : Int), ((oi + b : Nat) : Int), (k : Int)⟩ : Cn)) ++ X3) = R) := (show _ = R by rw [← hr4, List.filter_cons, if_pos (by simp ), List.map_cons]; simp)
                          have HLL : Hid (cur.length ≤ 1000000) := (show _ ≤ _ by
                            have h1 := HR.out
                            rw [← GR.out, List.length_append] at h1
                            omega)
                          obtain ⟨ca, cc, hcv⟩ := GM.out.oc.shape
                          obtain ⟨cl, hcl⟩ : ∃ l, cur.length = l := ⟨_, rfl⟩
                          rw [hcl] at hcv
                          subst hcv
                          have HNW : Hid (∀ (j : Nat) (u : Value), (Cn.cs ⟨(ox : Int) + (a : Int), (oi : Int) + (b : Int), (k : Int)⟩)[j]? = some u → (wr.alloc (.cells #[.int .i64 ((ox : Int) + (a : Int)), .int .i64 ((oi : Int) + (b : Int)), .int .i64 (k : Int)] 40)).drew.cell? ((⟨wr.heap.size, 0, none⟩ : Addr).add j) = some u) := fun j u hu => by
                            have hbn : BoxT 40 (wr.alloc (.cells #[.int .i64 ((ox : Int) + (a : Int)), .int .i64 ((oi : Int) + (b : Int)), .int .i64 (k : Int)] 40)).drew wr.heap.size _ := (BoxT.new 40 wr _).drew
                            rw [add_plain2, hbn.cellAt, Nat.zero_add]
                            simpa [Cn.cs] using hu
                          have HBS : Hid (w.heap.size ≤ (wr.alloc (.cells #[.int .i64 ((ox : Int) + (a : Int)), .int .i64 ((oi : Int) + (b : Int)), .int .i64 (k : Int)] 40)).drew.heap.size) := (show _ ≤ _ by have := GM.out.bl.size; simp; omega)
                          have KC : Hid (∀ w' : World, Below wr.heap.size wr w' → w'.cell? ⟨w.heap.size + 1 + 1, 1, none⟩ = some (.slice ca cl cc) ∧ w'.cell? ⟨wo.heap.size, 1, none⟩ = some (.slice (some ⟨ib, io, none⟩) ins.length icp) ∧ w'.cell? ⟨ib, io + k, none⟩ = some (.int .i64 (x : Int)) ∧ w'.cell? ⟨w.heap.size + 1 + 1 + 1, x, none⟩ = some (.int .i64 (ox : Int)) ∧ w'.cell? ⟨w.heap.size + 1 + 1 + 1, i, none⟩ = some (.int .i64 (oi : Int)) ∧ w'.frozen? ⟨w.heap.size + 1 + 1, 1, none⟩ = false) := fun w' h => ⟨(by rw [(GM.out.px.below h).cellAt]; rfl), (by rw [(G1E.out.below h).cellAt]; rfl), HCI.out _ (GM.out.bl.trans (h.mono GM.out.bl.size)), iN_at (GM.out.fx.below h) HFX.out, iN_at (GM.out.fx.below h) HFI.out, (GM.out.px.below h).free 1⟩
                          have KG : Hid (∀ w' : World, (wr.alloc (.cells #[.int .i64 ((ox : Int) + (a : Int)), .int .i64 ((oi : Int) + (b : Int)), .int .i64 (k : Int)] 40)).grownBy w' (Value.slice ca cl cc).ownBlock → w'.cell? ⟨w.heap.size + 1 + 1, 1, none⟩ = some (.slice ca cl cc) ∧ w'.cell? ⟨wo.heap.size, 1, none⟩ = some (.slice (some ⟨ib, io, none⟩) ins.length icp) ∧ w'.cell? ⟨ib, io + k, none⟩ = some (.int .i64 (x : Int)) ∧ w'.cell? ⟨w.heap.size + 1 + 1 + 1, x, none⟩ = some (.int .i64 (ox : Int)) ∧ w'.cell? ⟨w.heap.size + 1 + 1 + 1, i, none⟩ = some (.int .i64 (oi : Int)) ∧ w'.frozen? ⟨w.heap.size + 1 + 1, 1, none⟩ = false) := fun w' h => ⟨(by rw [(keepBox GM.out.px GM.out.oc (by decide) h).cellAt]; rfl), (by rw [(keepBox G1E.out GM.out.oc (by decide) h).cellAt]; rfl), HCI.out _ ((GM.out.bl.alloc GM.out.bl.size _).grown h (by have := GM.out.bl.size; simp; omega) (fun k e => GM.out.oc.at k e)), iN_at (keepBox GM.out.fx GM.out.oc (by decide) h) HFX.out, iN_at (keepBox GM.out.fx GM.out.oc (by decide) h) HFI.out, (keepBox GM.out.px GM.out.oc (by decide) h).free 1⟩
                          have hw1 : IntKind.i64.wrap ((ox : Int) + (a : Int)) = (ox : Int) + (a : Int) := by rw [IntKind.wrap_i64]; omega
                          have hw2 : IntKind.i64.wrap ((oi : Int) + (b : Int)) = (oi : Int) + (b : Int) := by rw [IntKind.wrap_i64]; omega
                          clear hr4 GR s1 hcl
                          as_aux_lemma =>
                          go_wp2_with fail
                          have B1 : Hid (Below (wr).heap.size (wr) (wr).drew) := (Below.refl _ _).drew
                          refine wp_region_M (S := fun w' => w'.cell? ⟨w.heap.size + 1 + 1, 1, none⟩ = some (.slice ca cl cc) ∧ w'.cell? ⟨wo.heap.size, 1, none⟩ = some (.slice (some ⟨ib, io, none⟩) ins.length icp) ∧ w'.cell? ⟨ib, io + k, none⟩ = some (.int .i64 (x : Int)) ∧ w'.cell? ⟨w.heap.size + 1 + 1 + 1, x, none⟩ = some (.int .i64 (ox : Int)) ∧ w'.cell? ⟨w.heap.size + 1 + 1 + 1, i, none⟩ = some (.int .i64 (oi : Int)) ∧ w'.frozen? ⟨w.heap.size + 1 + 1, 1, none⟩ = false) (late := [23]) (by kernel_rfl) (KC.out _ B1.out) (fun hHeld => ?_)
                          (try simp only [List.size_toArray, List.length_cons, List.length_nil, Nat.zero_add, Nat.reduceAdd, Array.replicate, List.replicate])
                          refine wpAnyM_take (i := 0) (oi := ⟨_, _, _, _, _, _⟩) (v := ?_) rfl (by kernel_rfl) (by kernel_rfl) (by kernel_rfl) (by kernel_rfl) (fun _ _ _ h => h) (Or.inl ⟨by rfl, ?_⟩) hHeld ?_
                          rotate_left
                          · (intro w' hSw; (try dsimp only at hSw); go_simp; try (with_reducible rfl))
                          (try simp only [Act.put, List.setIfInBounds_toArray, List.set_cons_zero, List.set_cons_succ])
                          refine wpAnyM_take (i := 1) (oi := ⟨_, _, _, _, _, _⟩) (v := ?_) rfl (by kernel_rfl) (by kernel_rfl) (by kernel_rfl) (by kernel_rfl) (fun _ _ _ h => h) (Or.inl ⟨by rfl, ?_⟩) hHeld ?_
                          rotate_left
                          · (intro w' hSw; (try dsimp only at hSw); go_simp; try (with_reducible rfl))
                          (try simp only [Act.put, List.setIfInBounds_toArray, List.set_cons_zero, List.set_cons_succ])
                          refine wpAnyM_take (i := 2) (oi := ⟨_, _, _, _, _, _⟩) (v := ?_) rfl (by kernel_rfl) (by kernel_rfl) (by kernel_rfl) (by kernel_rfl) (fun _ _ _ h => h) (Or.inl ⟨by rfl, ?_⟩) hHeld ?_
                          rotate_left
                          · (intro w' hSw; (try dsimp only at hSw); go_simp; try (with_reducible rfl))
                          (try simp only [Act.put, List.setIfInBounds_toArray, List.set_cons_zero, List.set_cons_succ])
                          refine wpAnyM_take (i := 3) (oi := ⟨_, _, _, _, _, _⟩) (v := ?_) rfl (by kernel_rfl) (by kernel_rfl) (by kernel_rfl) (by kernel_rfl) (fun _ _ _ h => h) (Or.inl ⟨by rfl, ?_⟩) hHeld ?_
                          rotate_left
                          · (intro w' hSw; (try dsimp only at hSw); go_simp; try (with_reducible rfl))
                          (try simp only [Act.put, List.setIfInBounds_toArray, List.set_cons_zero, List.set_cons_succ])
                          refine wpAnyM_take (i := 4) (oi := ⟨_, _, _, _, _, _⟩) (v := ?_) rfl (by kernel_rfl) (by kernel_rfl) (by kernel_rfl) (by kernel_rfl) (fun _ _ _ h => h) (Or.inl ⟨by rfl, ?_⟩) hHeld ?_
                          rotate_left
                          · (intro w' hSw; (try dsimp only at hSw); go_simp; try (with_reducible rfl))
                          (try simp only [Act.put, List.setIfInBounds_toArray, List.set_cons_zero, List.set_cons_succ])
                          refine wpAnyM_take (i := 5) (oi := ⟨_, _, _, _, _, _⟩) (v := ?_) rfl (by kernel_rfl) (by kernel_rfl) (by kernel_rfl) (by kernel_rfl) (fun _ _ _ h => h) (Or.inl ⟨by rfl, ?_⟩) hHeld ?_
                          rotate_left
                          · (intro w' hSw; (try dsimp only at hSw); go_simp; try (with_reducible rfl))
                          (try simp only [Act.put, List.setIfInBounds_toArray, List.set_cons_zero, List.set_cons_succ])
                          refine wpAnyM_take (i := 6) (oi := ⟨_, _, _, _, _, _⟩) (v := ?_) rfl (by kernel_rfl) (by kernel_rfl) (by kernel_rfl) (by kernel_rfl) (fun _ _ _ h => h) (Or.inl ⟨by rfl, ?_⟩) hHeld ?_
                          rotate_left
                          · (intro w' hSw; (try dsimp only at hSw); go_simp; try (with_reducible rfl))
                          (try simp only [Act.put, List.setIfInBounds_toArray, List.set_cons_zero, List.set_cons_succ])
                          refine wpAnyM_take (i := 7) (oi := ⟨_, _, _, _, _, _⟩) (v := ?_) rfl (by kernel_rfl) (by kernel_rfl) (by kernel_rfl) (by kernel_rfl) (fun _ _ _ h => h) (Or.inl ⟨by rfl, ?_⟩) hHeld ?_
                          rotate_left
                          · (intro w' hSw; (try dsimp only at hSw); go_simp; try (with_reducible rfl))
                          (try simp only [Act.put, List.setIfInBounds_toArray, List.set_cons_zero, List.set_cons_succ])
                          refine wpAnyM_take (i := 8) (oi := ⟨_, _, _, _, _, _⟩) (v := ?_) rfl (by kernel_rfl) (by kernel_rfl) (by kernel_rfl) (by kernel_rfl) (fun _ _ _ h => h) (Or.inl ⟨by rfl, ?_⟩) hHeld ?_
                          rotate_left
                          · (intro w' hSw; (try dsimp only at hSw); go_simp; try (with_reducible rfl))
                          (try simp only [Act.put, List.setIfInBounds_toArray, List.set_cons_zero, List.set_cons_succ])
                          refine wpAnyM_take (i := 9) (oi := ⟨_, _, _, _, _, _⟩) (v := ?_) rfl (by kernel_rfl) (by kernel_rfl) (by kernel_rfl) (by kernel_rfl) (fun _ _ _ h => h) (Or.inl ⟨by rfl, ?_⟩) hHeld ?_
                          rotate_left
                          · (intro w' hSw; (try dsimp only at hSw); go_simp; try (with_reducible rfl))
                          (try simp only [Act.put, List.setIfInBounds_toArray, List.set_cons_zero, List.set_cons_succ])
                          refine wpAnyM_take (i := 10) (oi := ⟨_, _, _, _, _, _⟩) (v := ?_) rfl (by kernel_rfl) (by kernel_rfl) (by kernel_rfl) (by kernel_rfl) (fun _ _ _ h => h) (Or.inl ⟨by rfl, ?_⟩) hHeld ?_
                          rotate_left
                          · (intro w' hSw; (try dsimp only at hSw); go_simp; try (with_reducible rfl))
                          (try simp only [Act.put, List.setIfInBounds_toArray, List.set_cons_zero, List.set_cons_succ])
                          refine wpAnyM_take (i := 11) (oi := ⟨_, _, _, _, _, _⟩) (v := ?_) rfl (by kernel_rfl) (by kernel_rfl) (by kernel_rfl) (by kernel_rfl) (fun _ _ _ h => h) (Or.inl ⟨by rfl, ?_⟩) hHeld ?_
                          rotate_left
                          · (intro w' hSw; (try dsimp only at hSw); go_simp; try (with_reducible rfl))
                          (try simp only [Act.put, List.setIfInBounds_toArray, List.set_cons_zero, List.set_cons_succ])
                          refine wpAnyM_take (i := 12) (oi := ⟨_, _, _, _, _, _⟩) (v := ?_) rfl (by kernel_rfl) (by kernel_rfl) (by kernel_rfl) (by kernel_rfl) (fun _ _ _ h => h) (Or.inl ⟨by rfl, ?_⟩) hHeld ?_
                          rotate_left
                          · (intro w' hSw; (try dsimp only at hSw); go_simp; try (with_reducible rfl))
                          (try simp only [Act.put, List.setIfInBounds_toArray, List.set_cons_zero, List.set_cons_succ])
                          refine wpAnyM_take (i := 13) (oi := ⟨_, _, _, _, _, _⟩) (v := ?_) rfl (by kernel_rfl) (by kernel_rfl) (by kernel_rfl) (by kernel_rfl) (fun _ _ _ h => h) (Or.inl ⟨by rfl, ?_⟩) hHeld ?_
                          rotate_left
                          · (intro w' hSw; (try dsimp only at hSw); go_simp; try (with_reducible rfl))
                          (try simp only [Act.put, List.setIfInBounds_toArray, List.set_cons_zero, List.set_cons_succ])
                          refine wpAnyM_take (i := 14) (oi := ⟨_, _, _, _, _, _⟩) (v := ?_) rfl (by kernel_rfl) (by kernel_rfl) (by kernel_rfl) (by kernel_rfl) (fun _ _ _ h => h) (Or.inl ⟨by rfl, ?_⟩) hHeld ?_
                          rotate_left
                          · (intro w' hSw; (try dsimp only at hSw); go_simp; try (with_reducible rfl))
                          (try simp only [Act.put, List.setIfInBounds_toArray, List.set_cons_zero, List.set_cons_succ])
                          refine wpAnyM_take (i := 15) (oi := ⟨_, _, _, _, _, _⟩) (v := ?_) rfl (by kernel_rfl) (by kernel_rfl) (by kernel_rfl) (by kernel_rfl) (fun _ _ _ h => h) (Or.inl ⟨by rfl, ?_⟩) hHeld ?_
                          rotate_left
                          · (intro w' hSw; (try dsimp only at hSw); go_simp; try (with_reducible rfl))
                          (try simp only [Act.put, List.setIfInBounds_toArray, List.set_cons_zero, List.set_cons_succ])
                          refine wpAnyM_take (i := 16) (oi := ⟨_, _, _, _, _, _⟩) (v := ?_) rfl (by kernel_rfl) (by kernel_rfl) (by kernel_rfl) (by kernel_rfl) (fun _ _ _ h => h) (Or.inl ⟨by rfl, ?_⟩) hHeld ?_
                          rotate_left
                          · (intro w' hSw; (try dsimp only at hSw); go_simp; try (with_reducible rfl))
                          (try simp only [Act.put, List.setIfInBounds_toArray, List.set_cons_zero, List.set_cons_succ])
                          refine wpAnyM_take (i := 17) (oi := ⟨_, _, _, _, _, _⟩) (v := ?_) rfl (by kernel_rfl) (by kernel_rfl) (by kernel_rfl) (by kernel_rfl) (fun _ _ _ h => h) (Or.inl ⟨by rfl, ?_⟩) hHeld ?_
                          rotate_left
                          · (intro w' hSw; (try dsimp only at hSw); go_simp; try (with_reducible rfl))
                          (try simp only [Act.put, List.setIfInBounds_toArray, List.set_cons_zero, List.set_cons_succ])
                          refine wpAnyM_take (i := 18) (oi := ⟨_, _, _, _, _, _⟩) (v := ?_) rfl (by kernel_rfl) (by kernel_rfl) (by kernel_rfl) (by kernel_rfl) (fun _ _ _ h => h) (Or.inl ⟨by rfl, ?_⟩) hHeld ?_
                          rotate_left
                          · (intro w' hSw; (try dsimp only at hSw); go_simp; try (with_reducible rfl))
                          (try simp only [Act.put, List.setIfInBounds_toArray, List.set_cons_zero, List.set_cons_succ])
                          refine wpAnyM_take (i := 19) (oi := ⟨_, _, _, _, _, _⟩) (v := ?_) rfl (by kernel_rfl) (by kernel_rfl) (by kernel_rfl) (by kernel_rfl) (fun _ _ _ h => h) (Or.inl ⟨by rfl, ?_⟩) hHeld ?_
                          rotate_left
                          · (intro w' hSw; (try dsimp only at hSw); go_simp; try (with_reducible rfl))
                          (try simp only [Act.put, List.setIfInBounds_toArray, List.set_cons_zero, List.set_cons_succ])
                          refine wpAnyM_one (i := 20) (o := ⟨_, _, _, _, _, _⟩) (by kernel_rfl) rfl (fun K hK => ?_)
                          go_simp
                          have BA : Below wr.heap.size wr (wr.alloc (.cells #[.int .i64 ((ox : Int) + (a : Int)), .int .i64 ((oi : Int) + (b : Int)), .int .i64 (k : Int)] 40)).drew := ((Below.refl _ _).alloc (Nat.le_refl _) _).drew
                          refine hK.out _ _ (KC.out _ BA) (fun hHeld => ?_)
                          clear hK K BA
                          (try simp only [List.setIfInBounds_toArray, List.set_cons_zero, List.set_cons_succ])
                          refine wpAnyM_one (i := 21) (o := ⟨_, _, _, _, _, _⟩) (by kernel_rfl) rfl (fun K hK => ?_)
                          refine step_L Try.info40' (by kernel_rfl) rfl (by omega) (by omega) Cn.cs_len Cn.cs_one rfl _ _ rfl w.heap.size (.slice ca cl cc) cur rfl (GM.out.oc.alloc _).drew ⟨wr.heap.size, 0, none⟩ 1 ⟨(ox : Int) + (a : Int), (oi : Int) + (b : Int), (k : Int)⟩ rfl HNW.out HLL.out HBS.out ?_
                          intro v4 w4 h4 q4 n4
                          obtain ⟨ca4, cc4, hv4⟩ := h4.shape
                          obtain ⟨l4, hl4⟩ : ∃ l, (cur ++ [(⟨(ox : Int) + (a : Int), (oi : Int) + (b : Int), (k : Int)⟩ : Cn)]).length = l := ⟨_, rfl⟩
                          rw [hl4] at hv4
                          subst hv4
                          clear hl4
                          have q5 : (wr.alloc (.cells #[.int .i64 ((ox : Int) + (a : Int)), .int .i64 ((oi : Int) + (b : Int)), .int .i64 (k : Int)] 40)).grownBy w4 (Value.slice ca cl cc).ownBlock := ⟨q4.os, q4.tape, q4.output, q4.size, q4.block⟩
                          clear q4
                          refine hK.out _ _ (KG.out _ q5) (fun hHeld => ?_)
                          clear hK K
                          (try simp only [Act.put, List.setIfInBounds_toArray, List.set_cons_zero, List.set_cons_succ])
                          refine wpAnyM_take (i := 22) (oi := ⟨_, _, _, _, _, _⟩) (v := ?_) rfl (by kernel_rfl) (by kernel_rfl) (by kernel_rfl) (by kernel_rfl) (fun _ _ _ h => h) (Or.inl ⟨by rfl, ?_⟩) hHeld ?_
                          rotate_left
                          · (intro w' hSw; (try dsimp only at hSw); go_simp; try (with_reducible rfl))
                          (try simp only [Act.put, List.setIfInBounds_toArray, List.set_cons_zero, List.set_cons_succ])
                          refine wpAnyM_last (i := 23) (o := ⟨_, _, _, _, _, _⟩) (by kernel_rfl) (by rfl) rfl (fun K hK => ?_)
                          obtain ⟨hq1, hq2, hq3, hq4, hq5, hq6⟩ := hHeld
                          go_simp
                          refine hK.out _ _ ?_
                          clear hK K
                          (try simp only [List.setIfInBounds_toArray, List.set_cons_zero, List.set_cons_succ])
                          refine wpAnyM_done (by kernel_rfl) ?_ _
                          go_wp2_with fail
                          go_roundg g4
                          case rel =>
                            have kp := keepBox GM.out.px GM.out.oc (by decide) q5
                            have k1 := keepBox G1.out GM.out.oc (by decide) q5
                            have k2 := keepBox G2.out GM.out.oc (by decide) q5
                            exact ⟨b + 1, _, _, by go_num, by omega, by omega, GM.out.chan h4 q5, k1.other _ _ (k1.ne kp (by decide)), k2.other _ _ (k2.ne kp (by decide)), GR4⟩
                          case measure => omega
                        · have bb : ¬ (b : Int) < (pp : Int) := by omega
                          have GR5 : Hid (cur ++ (((List.range px).drop (a + 1)).flatMap (fun a => ((List.range pp).filter fun b => true || decide (a = b)).map fun b => (⟨((ox + a : Nat) : Int), ((oi + b : Nat) : Int), (k : Int)⟩ : Cn)) ++ X2) = R) := (show _ = R by
                            have := GR.out
                            rw [List.drop_eq_nil_of_le (by rw [List.length_range]; omega)] at this
                            rw [HX3.out]
                            exact this)
                          go_wp2_with fail
                          go_roundg g3
                          case rel => exact ⟨a + 1, cv, cur, by go_num, by omega, by omega, GM, G1, G2, GR5⟩
                          case measure => omega
                    · have ba : ¬ (a : Int) < (px : Int) := by omega
                      have GR5 : Hid (cur ++ (chI ns i (k + 1) (ins.drop (k + 1)) ++ X1) = R) := (show _ = R by
                        have := GR.out
                        rw [List.drop_eq_nil_of_le (by rw [List.length_range]; omega)] at this
                        rw [HX2.out]
                        exact this)
                      go_wp2_with fail
                      go_roundg g2
                      case rel => exact ⟨k + 1, cv, cur, by go_num, by omega, by omega, GM, G1, GR5⟩
                      case measure => omega
              | false =>
                rw [hky] at HKY hfd
                clear hky
                by_cases hpe : px = pp
                · have gp : ((px : Int) != (pp : Int)) = false := by simp [hpe]
                  have gp2 : (px != pp) = false := by simp [hpe]
                  have hAL : fdAll ns (x : Int) (i : Int) = false := by rw [hfd]; simp [hpe]
                  clear hfd hpe
                  have GR2 : Hid (cur ++ (((List.range px).flatMap fun a => ((List.range pp).filter fun b => false || decide (a = b)).map fun b => (⟨((ox + a : Nat) : Int), ((oi + b : Nat) : Int), (k : Int)⟩ : Cn)) ++ X2) = R) := (show _ = R by rw [← GRX.out, HCHX.out, hAL])
                  clear hAL GRX HCHX
                  as_aux_lemma =>
                  go_wp2_with fail
                  go_region
                  all_goals
                    go_wp2_with (go_at_call 19; refine HKY.out.mono ?_; rintro e wK ⟨rfl, bK⟩
                                 obtain ⟨-, -, u2, -⟩ := (G1X.out.below bK).cells10
                                 obtain ⟨-, -, t2, -⟩ := (G2X.out.below bK).cells10)
                    go_loopg [12] (px + 1) (fun g iv wr => ∃ (a : Nat) (cv : Value) (cur : List Cn), iv = .int .i64 (a : Int) ∧ a ≤ px ∧ px + 1 ≤ g + a ∧ Hid (MS w wr (.slice (some ⟨nb, no, none⟩) ns.length ncp) (.slice ta tl tc) cv (tksOf 0 ns) cur fs) ∧ Hid (BoxT 54 wr wo.heap.size CS1) ∧ Hid (BoxT 54 wr wp.heap.size CS2) ∧ Hid (cur ++ (((List.range px).drop a).flatMap (fun a => ((List.range pp).filter fun b => false || decide (a = b)).map fun b => (⟨((ox + a : Nat) : Int), ((oi + b : Nat) : Int), (k : Int)⟩ : Cn)) ++ X2) = R))
                    case atStart => exact ⟨0, cv, cur, rfl, by omega, by omega, GM18.out.below bK, G118.out.below bK, G218.out.below bK, (show _ = R by simpa using GR2.out)⟩
                    case round =>
                      clear GM GR2 G1 GM18 G118 G218 bK
                      obtain ⟨a, cv, cur, rfl, ha, hga, GM, G1, G2, GR⟩ := hrel
                      obtain ⟨g3, rfl⟩ : ∃ go, gk = go + 1 := ⟨gk - 1, by omega⟩
                      have G2E := G2
                      rw [← HC2.out] at G2E
                      obtain ⟨-, -, q2, -⟩ := G2E.out.cells10
                      by_cases hal : a < px
                      · have ba : (a : Int) < (px : Int) := by omega
                        have hr3 := GR.out
                        rw [drop_of (range_get hal), List.flatMap_cons, List.append_assoc] at hr3
                        obtain ⟨X3, hX3⟩ : ∃ X, ((List.range px).drop (a + 1)).flatMap (fun a => ((List.range pp).filter fun b => false || decide (a = b)).map fun b => (⟨((ox + a : Nat) : Int), ((oi + b : Nat) : Int), (k : Int)⟩ : Cn)) ++ X2 = X := ⟨_, rfl⟩
                        rw [hX3] at hr3
                        have GR3 := hide hr3
                        have HX3 := hide hX3
                        clear hr3 hX3 GR G2E
                        go_wp2_with fail
                        go_loopg [13] (pp + 1) (fun g iv wr => ∃ (b : Nat) (cv : Value) (cur : List Cn), iv = .int .i64 (b : Int) ∧ b ≤ pp ∧ pp + 1 ≤ g + b ∧ Hid (MS w wr (.slice (some ⟨nb, no, none⟩) ns.length ncp) (.slice ta tl tc) cv (tksOf 0 ns) cur fs) ∧ Hid (BoxT 54 wr wo.heap.size CS1) ∧ Hid (BoxT 54 wr wp.heap.size CS2) ∧ Hid (cur ++ ((((List.range pp).drop b).filter fun b => false || decide (a = b)).map (fun b => (⟨((ox + a : Nat) : Int), ((oi + b : Nat) : Int), (k : Int)⟩ : Cn)) ++ X3) = R))
                        case atStart => exact ⟨0, cv, cur, rfl, by omega, by omega, GM, G1, G2, (show _ = R by simpa using GR3.out)⟩
                        case round =>
                          clear GM G1 G2 GR3 q2
                          obtain ⟨b, cv, cur, rfl, hb, hgb, GM, G1, G2, GR⟩ := hrel
                          obtain ⟨g4, rfl⟩ : ∃ go, gk = go + 1 := ⟨gk - 1, by omega⟩
                          have G1E := G1
                          rw [← HC1.out] at G1E
                          obtain ⟨-, s1, s2, -⟩ := G1E.out.cells10
                          by_cases hbl : b < pp
                          · have bb : (b : Int) < (pp : Int) := by omega
                            have hr4 := GR.out
                            rw [drop_of (range_get hbl)] at hr4
                            by_cases hab : a = b
                            · have gab : ((a : Int) == (b : Int)) = true := by simp [hab]
                              have gab2 : (a == b) = true := by simp [hab]
                              have GR4 : Hid ((cur ++ [(⟨(ox : Int) + (a : Int), (oi : Int) + (b : Int), (k : Int)⟩ : Cn)]) ++ ((((List.range pp).drop (b + 1)).filter fun b => false || decide (a = b)).map (fun b => (⟨((ox + a : Nat) : Int), ((oi + b : Nat) : Int), (k : Int)⟩ : Cn)) ++ X3) = R) := (show _ = R by rw [← hr4, List.filter_cons, if_pos (by simp [hab]), List.map_cons]; simp)
                              have HLL : Hid (cur.length ≤ 1000000) := (show _ ≤ _ by
                                have h1 := HR.out
                                rw [← GR.out, List.length_append] at h1
                                omega)
                              obtain ⟨ca, cc, hcv⟩ := GM.out.oc.shape
                              obtain ⟨cl, hcl⟩ : ∃ l, cur.length = l := ⟨_, rfl⟩
                              rw [hcl] at hcv
                              subst hcv
                              have HNW : Hid (∀ (j : Nat) (u : Value), (Cn.cs ⟨(ox : Int) + (a : Int), (oi : Int) + (b : Int), (k : Int)⟩)[j]? = some u → (wr.alloc (.cells #[.int .i64 ((ox : Int) + (a : Int)), .int .i64 ((oi : Int) + (b : Int)), .int .i64 (k : Int)] 40)).drew.cell? ((⟨wr.heap.size, 0, none⟩ : Addr).add j) = some u) := fun j u hu => by
                                have hbn : BoxT 40 (wr.alloc (.cells #[.int .i64 ((ox : Int) + (a : Int)), .int .i64 ((oi : Int) + (b : Int)), .int .i64 (k : Int)] 40)).drew wr.heap.size _ := (BoxT.new 40 wr _).drew
                                rw [add_plain2, hbn.cellAt, Nat.zero_add]
                                simpa [Cn.cs] using hu
                              have HBS : Hid (w.heap.size ≤ (wr.alloc (.cells #[.int .i64 ((ox : Int) + (a : Int)), .int .i64 ((oi : Int) + (b : Int)), .int .i64 (k : Int)] 40)).drew.heap.size) := (show _ ≤ _ by have := GM.out.bl.size; simp; omega)
                              have KC : Hid (∀ w' : World, Below wr.heap.size wr w' → w'.cell? ⟨w.heap.size + 1 + 1, 1, none⟩ = some (.slice ca cl cc) ∧ w'.cell? ⟨wo.heap.size, 1, none⟩ = some (.slice (some ⟨ib, io, none⟩) ins.length icp) ∧ w'.cell? ⟨ib, io + k, none⟩ = some (.int .i64 (x : Int)) ∧ w'.cell? ⟨w.heap.size + 1 + 1 + 1, x, none⟩ = some (.int .i64 (ox : Int)) ∧ w'.cell? ⟨w.heap.size + 1 + 1 + 1, i, none⟩ = some (.int .i64 (oi : Int)) ∧ w'.frozen? ⟨w.heap.size + 1 + 1, 1, none⟩ = false) := fun w' h => ⟨(by rw [(GM.out.px.below h).cellAt]; rfl), (by rw [(G1E.out.below h).cellAt]; rfl), HCI.out _ (GM.out.bl.trans (h.mono GM.out.bl.size)), iN_at (GM.out.fx.below h) HFX.out, iN_at (GM.out.fx.below h) HFI.out, (GM.out.px.below h).free 1⟩
                              have KG : Hid (∀ w' : World, (wr.alloc (.cells #[.int .i64 ((ox : Int) + (a : Int)), .int .i64 ((oi : Int) + (b : Int)), .int .i64 (k : Int)] 40)).grownBy w' (Value.slice ca cl cc).ownBlock → w'.cell? ⟨w.heap.size + 1 + 1, 1, none⟩ = some (.slice ca cl cc) ∧ w'.cell? ⟨wo.heap.size, 1, none⟩ = some (.slice (some ⟨ib, io, none⟩) ins.length icp) ∧ w'.cell? ⟨ib, io + k, none⟩ = some (.int .i64 (x : Int)) ∧ w'.cell? ⟨w.heap.size + 1 + 1 + 1, x, none⟩ = some (.int .i64 (ox : Int)) ∧ w'.cell? ⟨w.heap.size + 1 + 1 + 1, i, none⟩ = some (.int .i64 (oi : Int)) ∧ w'.frozen? ⟨w.heap.size + 1 + 1, 1, none⟩ = false) := fun w' h => ⟨(by rw [(keepBox GM.out.px GM.out.oc (by decide) h).cellAt]; rfl), (by rw [(keepBox G1E.out GM.out.oc (by decide) h).cellAt]; rfl), HCI.out _ ((GM.out.bl.alloc GM.out.bl.size _).grown h (by have := GM.out.bl.size; simp; omega) (fun k e => GM.out.oc.at k e)), iN_at (keepBox GM.out.fx GM.out.oc (by decide) h) HFX.out, iN_at (keepBox GM.out.fx GM.out.oc (by decide) h) HFI.out, (keepBox GM.out.px GM.out.oc (by decide) h).free 1⟩
                              have hw1 : IntKind.i64.wrap ((ox : Int) + (a : Int)) = (ox : Int) + (a : Int) := by rw [IntKind.wrap_i64]; omega
                              have hw2 : IntKind.i64.wrap ((oi : Int) + (b : Int)) = (oi : Int) + (b : Int) := by rw [IntKind.wrap_i64]; omega
                              clear hr4 GR s1 hcl hab
                              as_aux_lemma =>
                              go_wp2_with fail
                              have B1 : Hid (Below (wr).heap.size (wr) (wr).drew) := (Below.refl _ _).drew
                              refine wp_region_M (S := fun w' => w'.cell? ⟨w.heap.size + 1 + 1, 1, none⟩ = some (.slice ca cl cc) ∧ w'.cell? ⟨wo.heap.size, 1, none⟩ = some (.slice (some ⟨ib, io, none⟩) ins.length icp) ∧ w'.cell? ⟨ib, io + k, none⟩ = some (.int .i64 (x : Int)) ∧ w'.cell? ⟨w.heap.size + 1 + 1 + 1, x, none⟩ = some (.int .i64 (ox : Int)) ∧ w'.cell? ⟨w.heap.size + 1 + 1 + 1, i, none⟩ = some (.int .i64 (oi : Int)) ∧ w'.frozen? ⟨w.heap.size + 1 + 1, 1, none⟩ = false) (late := [23]) (by kernel_rfl) (KC.out _ B1.out) (fun hHeld => ?_)
                              (try simp only [List.size_toArray, List.length_cons, List.length_nil, Nat.zero_add, Nat.reduceAdd, Array.replicate, List.replicate])
                              refine wpAnyM_take (i := 0) (oi := ⟨_, _, _, _, _, _⟩) (v := ?_) rfl (by kernel_rfl) (by kernel_rfl) (by kernel_rfl) (by kernel_rfl) (fun _ _ _ h => h) (Or.inl ⟨by rfl, ?_⟩) hHeld ?_
                              rotate_left
                              · (intro w' hSw; (try dsimp only at hSw); go_simp; try (with_reducible rfl))
                              (try simp only [Act.put, List.setIfInBounds_toArray, List.set_cons_zero, List.set_cons_succ])
                              refine wpAnyM_take (i := 1) (oi := ⟨_, _, _, _, _, _⟩) (v := ?_) rfl (by kernel_rfl) (by kernel_rfl) (by kernel_rfl) (by kernel_rfl) (fun _ _ _ h => h) (Or.inl ⟨by rfl, ?_⟩) hHeld ?_
                              rotate_left
                              · (intro w' hSw; (try dsimp only at hSw); go_simp; try (with_reducible rfl))
                              (try simp only [Act.put, List.setIfInBounds_toArray, List.set_cons_zero, List.set_cons_succ])
                              refine wpAnyM_take (i := 2) (oi := ⟨_, _, _, _, _, _⟩) (v := ?_) rfl (by kernel_rfl) (by kernel_rfl) (by kernel_rfl) (by kernel_rfl) (fun _ _ _ h => h) (Or.inl ⟨by rfl, ?_⟩) hHeld ?_
                              rotate_left
                              · (intro w' hSw; (try dsimp only at hSw); go_simp; try (with_reducible rfl))
                              (try simp only [Act.put, List.setIfInBounds_toArray, List.set_cons_zero, List.set_cons_succ])
                              refine wpAnyM_take (i := 3) (oi := ⟨_, _, _, _, _, _⟩) (v := ?_) rfl (by kernel_rfl) (by kernel_rfl) (by kernel_rfl) (by kernel_rfl) (fun _ _ _ h => h) (Or.inl ⟨by rfl, ?_⟩) hHeld ?_
                              rotate_left
                              · (intro w' hSw; (try dsimp only at hSw); go_simp; try (with_reducible rfl))
                              (try simp only [Act.put, List.setIfInBounds_toArray, List.set_cons_zero, List.set_cons_succ])
                              refine wpAnyM_take (i := 4) (oi := ⟨_, _, _, _, _, _⟩) (v := ?_) rfl (by kernel_rfl) (by kernel_rfl) (by kernel_rfl) (by kernel_rfl) (fun _ _ _ h => h) (Or.inl ⟨by rfl, ?_⟩) hHeld ?_
                              rotate_left
                              · (intro w' hSw; (try dsimp only at hSw); go_simp; try (with_reducible rfl))
                              (try simp only [Act.put, List.setIfInBounds_toArray, List.set_cons_zero, List.set_cons_succ])
                              refine wpAnyM_take (i := 5) (oi := ⟨_, _, _, _, _, _⟩) (v := ?_) rfl (by kernel_rfl) (by kernel_rfl) (by kernel_rfl) (by kernel_rfl) (fun _ _ _ h => h) (Or.inl ⟨by rfl, ?_⟩) hHeld ?_
                              rotate_left
                              · (intro w' hSw; (try dsimp only at hSw); go_simp; try (with_reducible rfl))
                              (try simp only [Act.put, List.setIfInBounds_toArray, List.set_cons_zero, List.set_cons_succ])
                              refine wpAnyM_take (i := 6) (oi := ⟨_, _, _, _, _, _⟩) (v := ?_) rfl (by kernel_rfl) (by kernel_rfl) (by kernel_rfl) (by kernel_rfl) (fun _ _ _ h => h) (Or.inl ⟨by rfl, ?_⟩) hHeld ?_
                              rotate_left
                              · (intro w' hSw; (try dsimp only at hSw); go_simp; try (with_reducible rfl))
                              (try simp only [Act.put, List.setIfInBounds_toArray, List.set_cons_zero, List.set_cons_succ])
                              refine wpAnyM_take (i := 7) (oi := ⟨_, _, _, _, _, _⟩) (v := ?_) rfl (by kernel_rfl) (by kernel_rfl) (by kernel_rfl) (by kernel_rfl) (fun _ _ _ h => h) (Or.inl ⟨by rfl, ?_⟩) hHeld ?_
                              rotate_left
                              · (intro w' hSw; (try dsimp only at hSw); go_simp; try (with_reducible rfl))
                              (try simp only [Act.put, List.setIfInBounds_toArray, List.set_cons_zero, List.set_cons_succ])
                              refine wpAnyM_take (i := 8) (oi := ⟨_, _, _, _, _, _⟩) (v := ?_) rfl (by kernel_rfl) (by kernel_rfl) (by kernel_rfl) (by kernel_rfl) (fun _ _ _ h => h) (Or.inl ⟨by rfl, ?_⟩) hHeld ?_
                              rotate_left
                              · (intro w' hSw; (try dsimp only at hSw); go_simp; try (with_reducible rfl))
                              (try simp only [Act.put, List.setIfInBounds_toArray, List.set_cons_zero, List.set_cons_succ])
                              refine wpAnyM_take (i := 9) (oi := ⟨_, _, _, _, _, _⟩) (v := ?_) rfl (by kernel_rfl) (by kernel_rfl) (by kernel_rfl) (by kernel_rfl) (fun _ _ _ h => h) (Or.inl ⟨by rfl, ?_⟩) hHeld ?_
                              rotate_left
                              · (intro w' hSw; (try dsimp only at hSw); go_simp; try (with_reducible rfl))
                              (try simp only [Act.put, List.setIfInBounds_toArray, List.set_cons_zero, List.set_cons_succ])
                              refine wpAnyM_take (i := 10) (oi := ⟨_, _, _, _, _, _⟩) (v := ?_) rfl (by kernel_rfl) (by kernel_rfl) (by kernel_rfl) (by kernel_rfl) (fun _ _ _ h => h) (Or.inl ⟨by rfl, ?_⟩) hHeld ?_
                              rotate_left
                              · (intro w' hSw; (try dsimp only at hSw); go_simp; try (with_reducible rfl))
                              (try simp only [Act.put, List.setIfInBounds_toArray, List.set_cons_zero, List.set_cons_succ])
                              refine wpAnyM_take (i := 11) (oi := ⟨_, _, _, _, _, _⟩) (v := ?_) rfl (by kernel_rfl) (by kernel_rfl) (by kernel_rfl) (by kernel_rfl) (fun _ _ _ h => h) (Or.inl ⟨by rfl, ?_⟩) hHeld ?_
                              rotate_left
                              · (intro w' hSw; (try dsimp only at hSw); go_simp; try (with_reducible rfl))
                              (try simp only [Act.put, List.setIfInBounds_toArray, List.set_cons_zero, List.set_cons_succ])
                              refine wpAnyM_take (i := 12) (oi := ⟨_, _, _, _, _, _⟩) (v := ?_) rfl (by kernel_rfl) (by kernel_rfl) (by kernel_rfl) (by kernel_rfl) (fun _ _ _ h => h) (Or.inl ⟨by rfl, ?_⟩) hHeld ?_
                              rotate_left
                              · (intro w' hSw; (try dsimp only at hSw); go_simp; try (with_reducible rfl))
                              (try simp only [Act.put, List.setIfInBounds_toArray, List.set_cons_zero, List.set_cons_succ])
                              refine wpAnyM_take (i := 13) (oi := ⟨_, _, _, _, _, _⟩) (v := ?_) rfl (by kernel_rfl) (by kernel_rfl) (by kernel_rfl) (by kernel_rfl) (fun _ _ _ h => h) (Or.inl ⟨by rfl, ?_⟩) hHeld ?_
                              rotate_left
                              · (intro w' hSw; (try dsimp only at hSw); go_simp; try (with_reducible rfl))
                              (try simp only [Act.put, List.setIfInBounds_toArray, List.set_cons_zero, List.set_cons_succ])
                              refine wpAnyM_take (i := 14) (oi := ⟨_, _, _, _, _, _⟩) (v := ?_) rfl (by kernel_rfl) (by kernel_rfl) (by kernel_rfl) (by kernel_rfl) (fun _ _ _ h => h) (Or.inl ⟨by rfl, ?_⟩) hHeld ?_
                              rotate_left
                              · (intro w' hSw; (try dsimp only at hSw); go_simp; try (with_reducible rfl))
                              (try simp only [Act.put, List.setIfInBounds_toArray, List.set_cons_zero, List.set_cons_succ])
                              refine wpAnyM_take (i := 15) (oi := ⟨_, _, _, _, _, _⟩) (v := ?_) rfl (by kernel_rfl) (by kernel_rfl) (by kernel_rfl) (by kernel_rfl) (fun _ _ _ h => h) (Or.inl ⟨by rfl, ?_⟩) hHeld ?_
                              rotate_left
                              · (intro w' hSw; (try dsimp only at hSw); go_simp; try (with_reducible rfl))
                              (try simp only [Act.put, List.setIfInBounds_toArray, List.set_cons_zero, List.set_cons_succ])
                              refine wpAnyM_take (i := 16) (oi := ⟨_, _, _, _, _, _⟩) (v := ?_) rfl (by kernel_rfl) (by kernel_rfl) (by kernel_rfl) (by kernel_rfl) (fun _ _ _ h => h) (Or.inl ⟨by rfl, ?_⟩) hHeld ?_
                              rotate_left
                              · (intro w' hSw; (try dsimp only at hSw); go_simp; try (with_reducible rfl))
                              (try simp only [Act.put, List.setIfInBounds_toArray, List.set_cons_zero, List.set_cons_succ])
                              refine wpAnyM_take (i := 17) (oi := ⟨_, _, _, _, _, _⟩) (v := ?_) rfl (by kernel_rfl) (by kernel_rfl) (by kernel_rfl) (by kernel_rfl) (fun _ _ _ h => h) (Or.inl ⟨by rfl, ?_⟩) hHeld ?_
                              rotate_left
                              · (intro w' hSw; (try dsimp only at hSw); go_simp; try (with_reducible rfl))
                              (try simp only [Act.put, List.setIfInBounds_toArray, List.set_cons_zero, List.set_cons_succ])
                              refine wpAnyM_take (i := 18) (oi := ⟨_, _, _, _, _, _⟩) (v := ?_) rfl (by kernel_rfl) (by kernel_rfl) (by kernel_rfl) (by kernel_rfl) (fun _ _ _ h => h) (Or.inl ⟨by rfl, ?_⟩) hHeld ?_
                              rotate_left
                              · (intro w' hSw; (try dsimp only at hSw); go_simp; try (with_reducible rfl))
                              (try simp only [Act.put, List.setIfInBounds_toArray, List.set_cons_zero, List.set_cons_succ])
                              refine wpAnyM_take (i := 19) (oi := ⟨_, _, _, _, _, _⟩) (v := ?_) rfl (by kernel_rfl) (by kernel_rfl) (by kernel_rfl) (by kernel_rfl) (fun _ _ _ h => h) (Or.inl ⟨by rfl, ?_⟩) hHeld ?_
                              rotate_left
                              · (intro w' hSw; (try dsimp only at hSw); go_simp; try (with_reducible rfl))
                              (try simp only [Act.put, List.setIfInBounds_toArray, List.set_cons_zero, List.set_cons_succ])
                              refine wpAnyM_one (i := 20) (o := ⟨_, _, _, _, _, _⟩) (by kernel_rfl) rfl (fun K hK => ?_)
                              go_simp
                              have BA : Below wr.heap.size wr (wr.alloc (.cells #[.int .i64 ((ox : Int) + (a : Int)), .int .i64 ((oi : Int) + (b : Int)), .int .i64 (k : Int)] 40)).drew := ((Below.refl _ _).alloc (Nat.le_refl _) _).drew
                              refine hK.out _ _ (KC.out _ BA) (fun hHeld => ?_)
                              clear hK K BA
                              (try simp only [List.setIfInBounds_toArray, List.set_cons_zero, List.set_cons_succ])
                              refine wpAnyM_one (i := 21) (o := ⟨_, _, _, _, _, _⟩) (by kernel_rfl) rfl (fun K hK => ?_)
                              refine step_L Try.info40' (by kernel_rfl) rfl (by omega) (by omega) Cn.cs_len Cn.cs_one rfl _ _ rfl w.heap.size (.slice ca cl cc) cur rfl (GM.out.oc.alloc _).drew ⟨wr.heap.size, 0, none⟩ 1 ⟨(ox : Int) + (a : Int), (oi : Int) + (b : Int), (k : Int)⟩ rfl HNW.out HLL.out HBS.out ?_
                              intro v4 w4 h4 q4 n4
                              obtain ⟨ca4, cc4, hv4⟩ := h4.shape
                              obtain ⟨l4, hl4⟩ : ∃ l, (cur ++ [(⟨(ox : Int) + (a : Int), (oi : Int) + (b : Int), (k : Int)⟩ : Cn)]).length = l := ⟨_, rfl⟩
                              rw [hl4] at hv4
                              subst hv4
                              clear hl4
                              have q5 : (wr.alloc (.cells #[.int .i64 ((ox : Int) + (a : Int)), .int .i64 ((oi : Int) + (b : Int)), .int .i64 (k : Int)] 40)).grownBy w4 (Value.slice ca cl cc).ownBlock := ⟨q4.os, q4.tape, q4.output, q4.size, q4.block⟩
                              clear q4
                              refine hK.out _ _ (KG.out _ q5) (fun hHeld => ?_)
                              clear hK K
                              (try simp only [Act.put, List.setIfInBounds_toArray, List.set_cons_zero, List.set_cons_succ])
                              refine wpAnyM_take (i := 22) (oi := ⟨_, _, _, _, _, _⟩) (v := ?_) rfl (by kernel_rfl) (by kernel_rfl) (by kernel_rfl) (by kernel_rfl) (fun _ _ _ h => h) (Or.inl ⟨by rfl, ?_⟩) hHeld ?_
                              rotate_left
                              · (intro w' hSw; (try dsimp only at hSw); go_simp; try (with_reducible rfl))
                              (try simp only [Act.put, List.setIfInBounds_toArray, List.set_cons_zero, List.set_cons_succ])
                              refine wpAnyM_last (i := 23) (o := ⟨_, _, _, _, _, _⟩) (by kernel_rfl) (by rfl) rfl (fun K hK => ?_)
                              obtain ⟨hq1, hq2, hq3, hq4, hq5, hq6⟩ := hHeld
                              go_simp
                              refine hK.out _ _ ?_
                              clear hK K
                              (try simp only [List.setIfInBounds_toArray, List.set_cons_zero, List.set_cons_succ])
                              refine wpAnyM_done (by kernel_rfl) ?_ _
                              go_wp2_with fail
                              go_roundg g4
                              case rel =>
                                have kp := keepBox GM.out.px GM.out.oc (by decide) q5
                                have k1 := keepBox G1.out GM.out.oc (by decide) q5
                                have k2 := keepBox G2.out GM.out.oc (by decide) q5
                                exact ⟨b + 1, _, _, by go_num, by omega, by omega, GM.out.chan h4 q5, k1.other _ _ (k1.ne kp (by decide)), k2.other _ _ (k2.ne kp (by decide)), GR4⟩
                              case measure => omega
                            · have gab : ((a : Int) == (b : Int)) = false := by simp; omega
                              have gab2 : (a == b) = false := by simp [hab]
                              have GR4 : Hid (cur ++ ((((List.range pp).drop (b + 1)).filter fun b => false || decide (a = b)).map (fun b => (⟨((ox + a : Nat) : Int), ((oi + b : Nat) : Int), (k : Int)⟩ : Cn)) ++ X3) = R) := (show _ = R by rw [← hr4, List.filter_cons, if_neg (by simp [hab])])
                              clear hr4 GR s1 hab
                              go_wp2_with fail
                              go_roundg g4
                              case rel => exact ⟨b + 1, cv, cur, by go_num, by omega, by omega, GM, G1, G2, GR4⟩
                              case measure => omega
                          · have bb : ¬ (b : Int) < (pp : Int) := by omega
                            have GR5 : Hid (cur ++ (((List.range px).drop (a + 1)).flatMap (fun a => ((List.range pp).filter fun b => false || decide (a = b)).map fun b => (⟨((ox + a : Nat) : Int), ((oi + b : Nat) : Int), (k : Int)⟩ : Cn)) ++ X2) = R) := (show _ = R by
                              have := GR.out
                              rw [List.drop_eq_nil_of_le (by rw [List.length_range]; omega)] at this
                              rw [HX3.out]
                              exact this)
                            go_wp2_with fail
                            go_roundg g3
                            case rel => exact ⟨a + 1, cv, cur, by go_num, by omega, by omega, GM, G1, G2, GR5⟩
                            case measure => omega
                      · have ba : ¬ (a : Int) < (px : Int) := by omega
                        have GR5 : Hid (cur ++ (chI ns i (k + 1) (ins.drop (k + 1)) ++ X1) = R) := (show _ = R by
                          have := GR.out
                          rw [List.drop_eq_nil_of_le (by rw [List.length_range]; omega)] at this
                          rw [HX2.out]
                          exact this)
                        go_wp2_with fail
                        go_roundg g2
                        case rel => exact ⟨k + 1, cv, cur, by go_num, by omega, by omega, GM, G1, GR5⟩
                        case measure => omega
                · have gp : ((px : Int) != (pp : Int)) = true := by simp; omega
                  have gp2 : (px != pp) = true := by simp [hpe]
                  have hAL : fdAll ns (x : Int) (i : Int) = true := by rw [hfd]; simp [hpe]
                  clear hfd hpe
                  have GR2 : Hid (cur ++ (((List.range px).flatMap fun a => ((List.range pp).filter fun b => true || decide (a = b)).map fun b => (⟨((ox + a : Nat) : Int), ((oi + b : Nat) : Int), (k : Int)⟩ : Cn)) ++ X2) = R) := (show _ = R by rw [← GRX.out, HCHX.out, hAL])
                  clear hAL GRX HCHX
                  as_aux_lemma =>
                  go_wp2_with fail
                  go_region
                  all_goals
                    go_wp2_with (go_at_call 19; refine HKY.out.mono ?_; rintro e wK ⟨rfl, bK⟩
                                 obtain ⟨-, -, u2, -⟩ := (G1X.out.below bK).cells10
                                 obtain ⟨-, -, t2, -⟩ := (G2X.out.below bK).cells10)
                    go_loopg [12] (px + 1) (fun g iv wr => ∃ (a : Nat) (cv : Value) (cur : List Cn), iv = .int .i64 (a : Int) ∧ a ≤ px ∧ px + 1 ≤ g + a ∧ Hid (MS w wr (.slice (some ⟨nb, no, none⟩) ns.length ncp) (.slice ta tl tc) cv (tksOf 0 ns) cur fs) ∧ Hid (BoxT 54 wr wo.heap.size CS1) ∧ Hid (BoxT 54 wr wp.heap.size CS2) ∧ Hid (cur ++ (((List.range px).drop a).flatMap (fun a => ((List.range pp).filter fun b => true || decide (a = b)).map fun b => (⟨((ox + a : Nat) : Int), ((oi + b : Nat) : Int), (k : Int)⟩ : Cn)) ++ X2) = R))
                    case atStart => exact ⟨0, cv, cur, rfl, by omega, by omega, GM18.out.below bK, G118.out.below bK, G218.out.below bK, (show _ = R by simpa using GR2.out)⟩
                    case round =>
                      clear GM GR2 G1 GM18 G118 G218 bK
                      obtain ⟨a, cv, cur, rfl, ha, hga, GM, G1, G2, GR⟩ := hrel
                      obtain ⟨g3, rfl⟩ : ∃ go, gk = go + 1 := ⟨gk - 1, by omega⟩
                      have G2E := G2
                      rw [← HC2.out] at G2E
                      obtain ⟨-, -, q2, -⟩ := G2E.out.cells10
                      by_cases hal : a < px
                      · have ba : (a : Int) < (px : Int) := by omega
                        have hr3 := GR.out
                        rw [drop_of (range_get hal), List.flatMap_cons, List.append_assoc] at hr3
                        obtain ⟨X3, hX3⟩ : ∃ X, ((List.range px).drop (a + 1)).flatMap (fun a => ((List.range pp).filter fun b => true || decide (a = b)).map fun b => (⟨((ox + a : Nat) : Int), ((oi + b : Nat) : Int), (k : Int)⟩ : Cn)) ++ X2 = X := ⟨_, rfl⟩
                        rw [hX3] at hr3
                        have GR3 := hide hr3
                        have HX3 := hide hX3
                        clear hr3 hX3 GR G2E
                        go_wp2_with fail
                        go_loopg [13] (pp + 1) (fun g iv wr => ∃ (b : Nat) (cv : Value) (cur : List Cn), iv = .int .i64 (b : Int) ∧ b ≤ pp ∧ pp + 1 ≤ g + b ∧ Hid (MS w wr (.slice (some ⟨nb, no, none⟩) ns.length ncp) (.slice ta tl tc) cv (tksOf 0 ns) cur fs) ∧ Hid (BoxT 54 wr wo.heap.size CS1) ∧ Hid (BoxT 54 wr wp.heap.size CS2) ∧ Hid (cur ++ ((((List.range pp).drop b).filter fun b => true || decide (a = b)).map (fun b => (⟨((ox + a : Nat) : Int), ((oi + b : Nat) : Int), (k : Int)⟩ : Cn)) ++ X3) = R))
                        case atStart => exact ⟨0, cv, cur, rfl, by omega, by omega, GM, G1, G2, (show _ = R by simpa using GR3.out)⟩
                        case round =>
                          clear GM G1 G2 GR3 q2
                          obtain ⟨b, cv, cur, rfl, hb, hgb, GM, G1, G2, GR⟩ := hrel
                          obtain ⟨g4, rfl⟩ : ∃ go, gk = go + 1 := ⟨gk - 1, by omega⟩
                          have G1E := G1
                          rw [← HC1.out] at G1E
                          obtain ⟨-, s1, s2, -⟩ := G1E.out.cells10
                          by_cases hbl : b < pp
                          · have bb : (b : Int) < (pp : Int) := by omega
                            have hr4 := GR.out
                            rw [drop_of (range_get hbl)] at hr4
                            have GR4 : Hid ((cur ++ [(⟨(ox : Int) + (a : Int), (oi : Int) + (b : Int), (k : Int)⟩ : Cn)]) ++ ((((List.range pp).drop (b + 1)).filter fun b => true || decide (a = b)).map (fun b => (⟨((ox + a : Nat) : Int), ((oi + b : Nat) : Int), (k : Int)⟩ : Cn)) ++ X3) = R) := (show _ = R by rw [← hr4, List.filter_cons, if_pos (by simp ), List.map_cons]; simp)
                            have HLL : Hid (cur.length ≤ 1000000) := (show _ ≤ _ by
                              have h1 := HR.out
                              rw [← GR.out, List.length_append] at h1
                              omega)
                            obtain ⟨ca, cc, hcv⟩ := GM.out.oc.shape
                            obtain ⟨cl, hcl⟩ : ∃ l, cur.length = l := ⟨_, rfl⟩
                            rw [hcl] at hcv
                            subst hcv
                            have HNW : Hid (∀ (j : Nat) (u : Value), (Cn.cs ⟨(ox : Int) + (a : Int), (oi : Int) + (b : Int), (k : Int)⟩)[j]? = some u → (wr.alloc (.cells #[.int .i64 ((ox : Int) + (a : Int)), .int .i64 ((oi : Int) + (b : Int)), .int .i64 (k : Int)] 40)).drew.cell? ((⟨wr.heap.size, 0, none⟩ : Addr).add j) = some u) := fun j u hu => by
                              have hbn : BoxT 40 (wr.alloc (.cells #[.int .i64 ((ox : Int) + (a : Int)), .int .i64 ((oi : Int) + (b : Int)), .int .i64 (k : Int)] 40)).drew wr.heap.size _ := (BoxT.new 40 wr _).drew
                              rw [add_plain2, hbn.cellAt, Nat.zero_add]
                              simpa [Cn.cs] using hu
                            have HBS : Hid (w.heap.size ≤ (wr.alloc (.cells #[.int .i64 ((ox : Int) + (a : Int)), .int .i64 ((oi : Int) + (b : Int)), .int .i64 (k : Int)] 40)).drew.heap.size) := (show _ ≤ _ by have := GM.out.bl.size; simp; omega)
                            have KC : Hid (∀ w' : World, Below wr.heap.size wr w' → w'.cell? ⟨w.heap.size + 1 + 1, 1, none⟩ = some (.slice ca cl cc) ∧ w'.cell? ⟨wo.heap.size, 1, none⟩ = some (.slice (some ⟨ib, io, none⟩) ins.length icp) ∧ w'.cell? ⟨ib, io + k, none⟩ = some (.int .i64 (x : Int)) ∧ w'.cell? ⟨w.heap.size + 1 + 1 + 1, x, none⟩ = some (.int .i64 (ox : Int)) ∧ w'.cell? ⟨w.heap.size + 1 + 1 + 1, i, none⟩ = some (.int .i64 (oi : Int)) ∧ w'.frozen? ⟨w.heap.size + 1 + 1, 1, none⟩ = false) := fun w' h => ⟨(by rw [(GM.out.px.below h).cellAt]; rfl), (by rw [(G1E.out.below h).cellAt]; rfl), HCI.out _ (GM.out.bl.trans (h.mono GM.out.bl.size)), iN_at (GM.out.fx.below h) HFX.out, iN_at (GM.out.fx.below h) HFI.out, (GM.out.px.below h).free 1⟩
                            have KG : Hid (∀ w' : World, (wr.alloc (.cells #[.int .i64 ((ox : Int) + (a : Int)), .int .i64 ((oi : Int) + (b : Int)), .int .i64 (k : Int)] 40)).grownBy w' (Value.slice ca cl cc).ownBlock → w'.cell? ⟨w.heap.size + 1 + 1, 1, none⟩ = some (.slice ca cl cc) ∧ w'.cell? ⟨wo.heap.size, 1, none⟩ = some (.slice (some ⟨ib, io, none⟩) ins.length icp) ∧ w'.cell? ⟨ib, io + k, none⟩ = some (.int .i64 (x : Int)) ∧ w'.cell? ⟨w.heap.size + 1 + 1 + 1, x, none⟩ = some (.int .i64 (ox : Int)) ∧ w'.cell? ⟨w.heap.size + 1 + 1 + 1, i, none⟩ = some (.int .i64 (oi : Int)) ∧ w'.frozen? ⟨w.heap.size + 1 + 1, 1, none⟩ = false) := fun w' h => ⟨(by rw [(keepBox GM.out.px GM.out.oc (by decide) h).cellAt]; rfl), (by rw [(keepBox G1E.out GM.out.oc (by decide) h).cellAt]; rfl), HCI.out _ ((GM.out.bl.alloc GM.out.bl.size _).grown h (by have := GM.out.bl.size; simp; omega) (fun k e => GM.out.oc.at k e)), iN_at (keepBox GM.out.fx GM.out.oc (by decide) h) HFX.out, iN_at (keepBox GM.out.fx GM.out.oc (by decide) h) HFI.out, (keepBox GM.out.px GM.out.oc (by decide) h).free 1⟩
                            have hw1 : IntKind.i64.wrap ((ox : Int) + (a : Int)) = (ox : Int) + (a : Int) := by rw [IntKind.wrap_i64]; omega
                            have hw2 : IntKind.i64.wrap ((oi : Int) + (b : Int)) = (oi : Int) + (b : Int) := by rw [IntKind.wrap_i64]; omega
                            clear hr4 GR s1 hcl
                            as_aux_lemma =>
                            go_wp2_with fail
                            have B1 : Hid (Below (wr).heap.size (wr) (wr).drew) := (Below.refl _ _).drew
                            refine wp_region_M (S := fun w' => w'.cell? ⟨w.heap.size + 1 + 1, 1, none⟩ = some (.slice ca cl cc) ∧ w'.cell? ⟨wo.heap.size, 1, none⟩ = some (.slice (some ⟨ib, io, none⟩) ins.length icp) ∧ w'.cell? ⟨ib, io + k, none⟩ = some (.int .i64 (x : Int)) ∧ w'.cell? ⟨w.heap.size + 1 + 1 + 1, x, none⟩ = some (.int .i64 (ox : Int)) ∧ w'.cell? ⟨w.heap.size + 1 + 1 + 1, i, none⟩ = some (.int .i64 (oi : Int)) ∧ w'.frozen? ⟨w.heap.size + 1 + 1, 1, none⟩ = false) (late := [23]) (by kernel_rfl) (KC.out _ B1.out) (fun hHeld => ?_)
                            (try simp only [List.size_toArray, List.length_cons, List.length_nil, Nat.zero_add, Nat.reduceAdd, Array.replicate, List.replicate])
                            refine wpAnyM_take (i := 0) (oi := ⟨_, _, _, _, _, _⟩) (v := ?_) rfl (by kernel_rfl) (by kernel_rfl) (by kernel_rfl) (by kernel_rfl) (fun _ _ _ h => h) (Or.inl ⟨by rfl, ?_⟩) hHeld ?_
                            rotate_left
                            · (intro w' hSw; (try dsimp only at hSw); go_simp; try (with_reducible rfl))
                            (try simp only [Act.put, List.setIfInBounds_toArray, List.set_cons_zero, List.set_cons_succ])
                            refine wpAnyM_take (i := 1) (oi := ⟨_, _, _, _, _, _⟩) (v := ?_) rfl (by kernel_rfl) (by kernel_rfl) (by kernel_rfl) (by kernel_rfl) (fun _ _ _ h => h) (Or.inl ⟨by rfl, ?_⟩) hHeld ?_
                            rotate_left
                            · (intro w' hSw; (try dsimp only at hSw); go_simp; try (with_reducible rfl))
                            (try simp only [Act.put, List.setIfInBounds_toArray, List.set_cons_zero, List.set_cons_succ])
                            refine wpAnyM_take (i := 2) (oi := ⟨_, _, _, _, _, _⟩) (v := ?_) rfl (by kernel_rfl) (by kernel_rfl) (by kernel_rfl) (by kernel_rfl) (fun _ _ _ h => h) (Or.inl ⟨by rfl, ?_⟩) hHeld ?_
                            rotate_left
                            · (intro w' hSw; (try dsimp only at hSw); go_simp; try (with_reducible rfl))
                            (try simp only [Act.put, List.setIfInBounds_toArray, List.set_cons_zero, List.set_cons_succ])
                            refine wpAnyM_take (i := 3) (oi := ⟨_, _, _, _, _, _⟩) (v := ?_) rfl (by kernel_rfl) (by kernel_rfl) (by kernel_rfl) (by kernel_rfl) (fun _ _ _ h => h) (Or.inl ⟨by rfl, ?_⟩) hHeld ?_
                            rotate_left
                            · (intro w' hSw; (try dsimp only at hSw); go_simp; try (with_reducible rfl))
                            (try simp only [Act.put, List.setIfInBounds_toArray, List.set_cons_zero, List.set_cons_succ])
                            refine wpAnyM_take (i := 4) (oi := ⟨_, _, _, _, _, _⟩) (v := ?_) rfl (by kernel_rfl) (by kernel_rfl) (by kernel_rfl) (by kernel_rfl) (fun _ _ _ h => h) (Or.inl ⟨by rfl, ?_⟩) hHeld ?_
                            rotate_left
                            · (intro w' hSw; (try dsimp only at hSw); go_simp; try (with_reducible rfl))
                            (try simp only [Act.put, List.setIfInBounds_toArray, List.set_cons_zero, List.set_cons_succ])
                            refine wpAnyM_take (i := 5) (oi := ⟨_, _, _, _, _, _⟩) (v := ?_) rfl (by kernel_rfl) (by kernel_rfl) (by kernel_rfl) (by kernel_rfl) (fun _ _ _ h => h) (Or.inl ⟨by rfl, ?_⟩) hHeld ?_
                            rotate_left
                            · (intro w' hSw; (try dsimp only at hSw); go_simp; try (with_reducible rfl))
                            (try simp only [Act.put, List.setIfInBounds_toArray, List.set_cons_zero, List.set_cons_succ])
                            refine wpAnyM_take (i := 6) (oi := ⟨_, _, _, _, _, _⟩) (v := ?_) rfl (by kernel_rfl) (by kernel_rfl) (by kernel_rfl) (by kernel_rfl) (fun _ _ _ h => h) (Or.inl ⟨by rfl, ?_⟩) hHeld ?_
                            rotate_left
                            · (intro w' hSw; (try dsimp only at hSw); go_simp; try (with_reducible rfl))
                            (try simp only [Act.put, List.setIfInBounds_toArray, List.set_cons_zero, List.set_cons_succ])
                            refine wpAnyM_take (i := 7) (oi := ⟨_, _, _, _, _, _⟩) (v := ?_) rfl (by kernel_rfl) (by kernel_rfl) (by kernel_rfl) (by kernel_rfl) (fun _ _ _ h => h) (Or.inl ⟨by rfl, ?_⟩) hHeld ?_
                            rotate_left
                            · (intro w' hSw; (try dsimp only at hSw); go_simp; try (with_reducible rfl))
                            (try simp only [Act.put, List.setIfInBounds_toArray, List.set_cons_zero, List.set_cons_succ])
                            refine wpAnyM_take (i := 8) (oi := ⟨_, _, _, _, _, _⟩) (v := ?_) rfl (by kernel_rfl) (by kernel_rfl) (by kernel_rfl) (by kernel_rfl) (fun _ _ _ h => h) (Or.inl ⟨by rfl, ?_⟩) hHeld ?_
                            rotate_left
                            · (intro w' hSw; (try dsimp only at hSw); go_simp; try (with_reducible rfl))
                            (try simp only [Act.put, List.setIfInBounds_toArray, List.set_cons_zero, List.set_cons_succ])
                            refine wpAnyM_take (i := 9) (oi := ⟨_, _, _, _, _, _⟩) (v := ?_) rfl (by kernel_rfl) (by kernel_rfl) (by kernel_rfl) (by kernel_rfl) (fun _ _ _ h => h) (Or.inl ⟨by rfl, ?_⟩) hHeld ?_
                            rotate_left
                            · (intro w' hSw; (try dsimp only at hSw); go_simp; try (with_reducible rfl))
                            (try simp only [Act.put, List.setIfInBounds_toArray, List.set_cons_zero, List.set_cons_succ])
                            refine wpAnyM_take (i := 10) (oi := ⟨_, _, _, _, _, _⟩) (v := ?_) rfl (by kernel_rfl) (by kernel_rfl) (by kernel_rfl) (by kernel_rfl) (fun _ _ _ h => h) (Or.inl ⟨by rfl, ?_⟩) hHeld ?_
                            rotate_left
                            · (intro w' hSw; (try dsimp only at hSw); go_simp; try (with_reducible rfl))
                            (try simp only [Act.put, List.setIfInBounds_toArray, List.set_cons_zero, List.set_cons_succ])
                            refine wpAnyM_take (i := 11) (oi := ⟨_, _, _, _, _, _⟩) (v := ?_) rfl (by kernel_rfl) (by kernel_rfl) (by kernel_rfl) (by kernel_rfl) (fun _ _ _ h => h) (Or.inl ⟨by rfl, ?_⟩) hHeld ?_
                            rotate_left
                            · (intro w' hSw; (try dsimp only at hSw); go_simp; try (with_reducible rfl))
                            (try simp only [Act.put, List.setIfInBounds_toArray, List.set_cons_zero, List.set_cons_succ])
                            refine wpAnyM_take (i := 12) (oi := ⟨_, _, _, _, _, _⟩) (v := ?_) rfl (by kernel_rfl) (by kernel_rfl) (by kernel_rfl) (by kernel_rfl) (fun _ _ _ h => h) (Or.inl ⟨by rfl, ?_⟩) hHeld ?_
                            rotate_left
                            · (intro w' hSw; (try dsimp only at hSw); go_simp; try (with_reducible rfl))
                            (try simp only [Act.put, List.setIfInBounds_toArray, List.set_cons_zero, List.set_cons_succ])
                            refine wpAnyM_take (i := 13) (oi := ⟨_, _, _, _, _, _⟩) (v := ?_) rfl (by kernel_rfl) (by kernel_rfl) (by kernel_rfl) (by kernel_rfl) (fun _ _ _ h => h) (Or.inl ⟨by rfl, ?_⟩) hHeld ?_
                            rotate_left
                            · (intro w' hSw; (try dsimp only at hSw); go_simp; try (with_reducible rfl))
                            (try simp only [Act.put, List.setIfInBounds_toArray, List.set_cons_zero, List.set_cons_succ])
                            refine wpAnyM_take (i := 14) (oi := ⟨_, _, _, _, _, _⟩) (v := ?_) rfl (by kernel_rfl) (by kernel_rfl) (by kernel_rfl) (by kernel_rfl) (fun _ _ _ h => h) (Or.inl ⟨by rfl, ?_⟩) hHeld ?_
                            rotate_left
                            · (intro w' hSw; (try dsimp only at hSw); go_simp; try (with_reducible rfl))
                            (try simp only [Act.put, List.setIfInBounds_toArray, List.set_cons_zero, List.set_cons_succ])
                            refine wpAnyM_take (i := 15) (oi := ⟨_, _, _, _, _, _⟩) (v := ?_) rfl (by kernel_rfl) (by kernel_rfl) (by kernel_rfl) (by kernel_rfl) (fun _ _ _ h => h) (Or.inl ⟨by rfl, ?_⟩) hHeld ?_
                            rotate_left
                            · (intro w' hSw; (try dsimp only at hSw); go_simp; try (with_reducible rfl))
                            (try simp only [Act.put, List.setIfInBounds_toArray, List.set_cons_zero, List.set_cons_succ])
                            refine wpAnyM_take (i := 16) (oi := ⟨_, _, _, _, _, _⟩) (v := ?_) rfl (by kernel_rfl) (by kernel_rfl) (by kernel_rfl) (by kernel_rfl) (fun _ _ _ h => h) (Or.inl ⟨by rfl, ?_⟩) hHeld ?_
                            rotate_left
                            · (intro w' hSw; (try dsimp only at hSw); go_simp; try (with_reducible rfl))
                            (try simp only [Act.put, List.setIfInBounds_toArray, List.set_cons_zero, List.set_cons_succ])
                            refine wpAnyM_take (i := 17) (oi := ⟨_, _, _, _, _, _⟩) (v := ?_) rfl (by kernel_rfl) (by kernel_rfl) (by kernel_rfl) (by kernel_rfl) (fun _ _ _ h => h) (Or.inl ⟨by rfl, ?_⟩) hHeld ?_
                            rotate_left
                            · (intro w' hSw; (try dsimp only at hSw); go_simp; try (with_reducible rfl))
                            (try simp only [Act.put, List.setIfInBounds_toArray, List.set_cons_zero, List.set_cons_succ])
                            refine wpAnyM_take (i := 18) (oi := ⟨_, _, _, _, _, _⟩) (v := ?_) rfl (by kernel_rfl) (by kernel_rfl) (by kernel_rfl) (by kernel_rfl) (fun _ _ _ h => h) (Or.inl ⟨by rfl, ?_⟩) hHeld ?_
                            rotate_left
                            · (intro w' hSw; (try dsimp only at hSw); go_simp; try (with_reducible rfl))
                            (try simp only [Act.put, List.setIfInBounds_toArray, List.set_cons_zero, List.set_cons_succ])
                            refine wpAnyM_take (i := 19) (oi := ⟨_, _, _, _, _, _⟩) (v := ?_) rfl (by kernel_rfl) (by kernel_rfl) (by kernel_rfl) (by kernel_rfl) (fun _ _ _ h => h) (Or.inl ⟨by rfl, ?_⟩) hHeld ?_
                            rotate_left
                            · (intro w' hSw; (try dsimp only at hSw); go_simp; try (with_reducible rfl))
                            (try simp only [Act.put, List.setIfInBounds_toArray, List.set_cons_zero, List.set_cons_succ])
                            refine wpAnyM_one (i := 20) (o := ⟨_, _, _, _, _, _⟩) (by kernel_rfl) rfl (fun K hK => ?_)
                            go_simp
                            have BA : Below wr.heap.size wr (wr.alloc (.cells #[.int .i64 ((ox : Int) + (a : Int)), .int .i64 ((oi : Int) + (b : Int)), .int .i64 (k : Int)] 40)).drew := ((Below.refl _ _).alloc (Nat.le_refl _) _).drew
                            refine hK.out _ _ (KC.out _ BA) (fun hHeld => ?_)
                            clear hK K BA
                            (try simp only [List.setIfInBounds_toArray, List.set_cons_zero, List.set_cons_succ])
                            refine wpAnyM_one (i := 21) (o := ⟨_, _, _, _, _, _⟩) (by kernel_rfl) rfl (fun K hK => ?_)
                            refine step_L Try.info40' (by kernel_rfl) rfl (by omega) (by omega) Cn.cs_len Cn.cs_one rfl _ _ rfl w.heap.size (.slice ca cl cc) cur rfl (GM.out.oc.alloc _).drew ⟨wr.heap.size, 0, none⟩ 1 ⟨(ox : Int) + (a : Int), (oi : Int) + (b : Int), (k : Int)⟩ rfl HNW.out HLL.out HBS.out ?_
                            intro v4 w4 h4 q4 n4
                            obtain ⟨ca4, cc4, hv4⟩ := h4.shape
                            obtain ⟨l4, hl4⟩ : ∃ l, (cur ++ [(⟨(ox : Int) + (a : Int), (oi : Int) + (b : Int), (k : Int)⟩ : Cn)]).length = l := ⟨_, rfl⟩
                            rw [hl4] at hv4
                            subst hv4
                            clear hl4
                            have q5 : (wr.alloc (.cells #[.int .i64 ((ox : Int) + (a : Int)), .int .i64 ((oi : Int) + (b : Int)), .int .i64 (k : Int)] 40)).grownBy w4 (Value.slice ca cl cc).ownBlock := ⟨q4.os, q4.tape, q4.output, q4.size, q4.block⟩
                            clear q4
                            refine hK.out _ _ (KG.out _ q5) (fun hHeld => ?_)
                            clear hK K
                            (try simp only [Act.put, List.setIfInBounds_toArray, List.set_cons_zero, List.set_cons_succ])
                            refine wpAnyM_take (i := 22) (oi := ⟨_, _, _, _, _, _⟩) (v := ?_) rfl (by kernel_rfl) (by kernel_rfl) (by kernel_rfl) (by kernel_rfl) (fun _ _ _ h => h) (Or.inl ⟨by rfl, ?_⟩) hHeld ?_
                            rotate_left
                            · (intro w' hSw; (try dsimp only at hSw); go_simp; try (with_reducible rfl))
                            (try simp only [Act.put, List.setIfInBounds_toArray, List.set_cons_zero, List.set_cons_succ])
                            refine wpAnyM_last (i := 23) (o := ⟨_, _, _, _, _, _⟩) (by kernel_rfl) (by rfl) rfl (fun K hK => ?_)
                            obtain ⟨hq1, hq2, hq3, hq4, hq5, hq6⟩ := hHeld
                            go_simp
                            refine hK.out _ _ ?_
                            clear hK K
                            (try simp only [List.setIfInBounds_toArray, List.set_cons_zero, List.set_cons_succ])
                            refine wpAnyM_done (by kernel_rfl) ?_ _
                            go_wp2_with fail
                            go_roundg g4
                            case rel =>
                              have kp := keepBox GM.out.px GM.out.oc (by decide) q5
                              have k1 := keepBox G1.out GM.out.oc (by decide) q5
                              have k2 := keepBox G2.out GM.out.oc (by decide) q5
                              exact ⟨b + 1, _, _, by go_num, by omega, by omega, GM.out.chan h4 q5, k1.other _ _ (k1.ne kp (by decide)), k2.other _ _ (k2.ne kp (by decide)), GR4⟩
                            case measure => omega
                          · have bb : ¬ (b : Int) < (pp : Int) := by omega
                            have GR5 : Hid (cur ++ (((List.range px).drop (a + 1)).flatMap (fun a => ((List.range pp).filter fun b => true || decide (a = b)).map fun b => (⟨((ox + a : Nat) : Int), ((oi + b : Nat) : Int), (k : Int)⟩ : Cn)) ++ X2) = R) := (show _ = R by
                              have := GR.out
                              rw [List.drop_eq_nil_of_le (by rw [List.length_range]; omega)] at this
                              rw [HX3.out]
                              exact this)
                            go_wp2_with fail
                            go_roundg g3
                            case rel => exact ⟨a + 1, cv, cur, by go_num, by omega, by omega, GM, G1, G2, GR5⟩
                            case measure => omega
                      · have ba : ¬ (a : Int) < (px : Int) := by omega
                        have GR5 : Hid (cur ++ (chI ns i (k + 1) (ins.drop (k + 1)) ++ X1) = R) := (show _ = R by
                          have := GR.out
                          rw [List.drop_eq_nil_of_le (by rw [List.length_range]; omega)] at this
                          rw [HX2.out]
                          exact this)
                        go_wp2_with fail
                        go_roundg g2
                        case rel => exact ⟨k + 1, cv, cur, by go_num, by omega, by omega, GM, G1, GR5⟩
                        case measure => omega
            · have bk : ¬ (k : Int) < (ins.length : Int) := by omega
              have G1E := G1
              rw [← HC1.out] at G1E
              obtain ⟨s0, s1, s2, -⟩ := G1E.out.cells10
              have GR5 : Hid (cur ++ chJ ns (i + 1) (ns.drop (i + 1)) = R) := (show _ = R by
                have := GR.out
                rw [List.drop_eq_nil_of_le (by omega)] at this
                rw [HX1.out]
                exact this)
              go_wp2_with fail
              go_roundg g1
              case rel => exact ⟨i + 1, cv, cur, by go_num, by omega, by omega, GM, GR5⟩
              case measure => omega
        · have bt : ¬ (i : Int) < (ns.length : Int) := by omega
          have HE : Hid (cur = R) := (show cur = R by
            have := GR.out
            rw [List.drop_eq_nil_of_le (by omega)] at this
            simpa [chJ] using this)
          obtain ⟨ca, cc, hcv⟩ := GM.out.oc.shape
          obtain ⟨cl, hcl⟩ : ∃ l, cur.length = l := ⟨_, rfl⟩
          rw [hcl] at hcv
          subst hcv
          have p0 : wo.cell? ⟨w.heap.size + 1 + 1, 0, none⟩ = some (.slice ta tl tc) := by rw [GM.out.px.cellAt]; rfl
          have p1 : wo.cell? ⟨w.heap.size + 1 + 1, 1, none⟩ = some (.slice ca cl cc) := by rw [GM.out.px.cellAt]; rfl
          have r0 : wo.cell? ⟨w.heap.size + 1, 0, none⟩ = some (.slice none 0 0) := by rw [GM.out.rx.cellAt]; rfl
          have r1 : wo.cell? ⟨w.heap.size + 1, 1, none⟩ = some (.slice none 0 0) := by rw [GM.out.rx.cellAt]; rfl
          have fr0 := GM.out.rx.free 0
          have fr1 := GM.out.rx.free 1
          clear hcl
          go_wp2_with fail
          have hfin : BoxT 30 ((wo.setCell ⟨w.heap.size + 1, 0, none⟩ (.slice ta tl tc)).setCell ⟨w.heap.size + 1, 1, none⟩ (.slice ca cl cc)) (w.heap.size + 1) #[.slice ta tl tc, .slice ca cl cc] := by
            have := (GM.out.rx.set 0 (.slice ta tl tc)).set 1 (.slice ca cl cc)
            simpa using this
          have z0 := hfin.cellAt 0
          have z1 := hfin.cellAt 1
          simp at z0 z1
          refine bodyPost_ret (v := .agg #[.slice ta tl tc, .slice ca cl cc]) (by simp [results, Try.results11, go_sem, z0, z1]) rfl ⟨_, _, rfl, ?_, ?_, ?_⟩
          · exact OwnL.set2 (t' := 30) GM.out.ot (by decide) GM.out.rx
          · rw [← HE.out]; exact OwnL.set2 (t' := 30) GM.out.oc (by decide) GM.out.rx
          · exact (GM.out.bl.setCell (p := ⟨w.heap.size + 1, 0, none⟩) (by simp) _).setCell (p := ⟨w.heap.size + 1, 1, none⟩) (by simp) _
end Go.Proofs.Ytfiafbfbiidnlaa
