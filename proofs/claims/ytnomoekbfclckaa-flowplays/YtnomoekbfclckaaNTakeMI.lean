/-
  slices.Backward and takeFrom over a ring of numbered whole numbers.
-/
import Derived.Test.YtnomoekbfclckaaNBack
import Derived.Test.YtnomoekbfclckaaRMInt2
namespace Go.Proofs.Ytnomoekbfclckaa
open Go.RowKit Go.Shelf
attribute [local go_sem] Oper.semAt_some

set_option maxRecDepth 100000 in
set_option maxHeartbeats 2000000 in
theorem back1MI (F : Fence) (n : Nat) (hB1 : F.fn 90) (hro : F.round = none) (hn : 1 ≤ n) (l Bs g : Nat) (zs : List (Int × Int)) (hlen : zs.length ≤ 200000) (J Jx : List (Int × (Int × Int)) → World → Prop)
    (hY : ∀ pre x W, J pre W → pre.length < zs.length → YieldAt F (n - 1) Try.prog l #[.int .i64 x.1, .agg #[.int .u64 x.2.1, Value.int .i64 x.2.2]] W fun e W' =>
      (e = .returned (.bool true) ∧ J (pre ++ [x]) W' ∧ Kept2 Bs g W W') ∨ (e = .returned (.bool false) ∧ Jx (pre ++ [x]) W'))
    (W : World) (hBs : BoxT 69 W Bs #[.slice (some ⟨g, 0, none⟩) zs.length zs.length]) (cs : Array Value) (hg : BoxT 58 W g cs) (hp : Prs (Value.int .i64) cs zs.length id zs) (h0 : J [] W) :
    CallsIn F n Try.prog 90 #[.func (.yield l) #[] #[], .pointer (some ⟨Bs, 0, none⟩)] W fun e W' => (∃ v, e = .returned v) ∧
      ((∃ ys : List (Int × (Int × Int)), ys.map Prod.snd = zs.reverse ∧ J ys W') ∨ (∃ pre, True ∧ Jx pre W')) := by
  have c0 : W.cell? ⟨Bs, 0, none⟩ = some (.slice (some ⟨g, 0, none⟩) zs.length zs.length) := by rw [hBs.cellAt]; rfl
  have HB := hide hBs
  have HG := hide hg
  have HP := hide hp
  clear hBs hg hp
  generalize hlz : zs.length = m at *
  refine callsIn_of_wp Try.func90 rfl hB1 ?_ hro
  simp only [Try.ntmps90, List.size_toArray, List.length_cons, List.length_nil, Nat.reduceAdd, Nat.reduceSub, Array.replicate_succ, Array.replicate_zero, List.push_toArray, List.append_toArray, List.nil_append, List.cons_append]
  gi_wp2
  gi_loopw [3] (fun iv wr => ∃ (k : Nat) (pre : List (Int × (Int × Int))) (v : Int), iv = .int .i64 v ∧ v = (k : Int) - 1 ∧ k ≤ m ∧ pre.map Prod.snd = (zs.drop k).reverse ∧ J pre wr ∧ Kept2 Bs g W wr)
    (fun iv _ => (intOf iv + 1).toNat)
  case atStart =>
    refine ⟨m, [], (m : Int) - 1, ?_, rfl, Nat.le_refl _, by rw [← hlz, List.drop_length]; rfl, h0, Kept2.refl _ _ _⟩
    go_num
  case round =>
    obtain ⟨k, pre, v, rfl, hv, hk, hpre, hJs, hkp⟩ := hrel
    have c1 : wr.cell? ⟨Bs, 0, none⟩ = some (.slice (some ⟨g, 0, none⟩) m m) := by rw [(HB.out.kept1 hkp).cellAt]; rfl
    rcases Nat.eq_zero_or_pos k with rfl | hpos
    · obtain rfl : v = -1 := by omega
      clear hv
      gi_wp2
      go_end0
      exact ⟨⟨_, rfl⟩, .inl ⟨pre, by simpa using hpre, hJs⟩⟩
    · obtain ⟨j, rfl⟩ : ∃ j, k = j + 1 := ⟨k - 1, by omega⟩
      clear hpos
      obtain rfl : v = (j : Int) := by omega
      clear hv
      obtain ⟨z, hz⟩ : ∃ z, zs[j]? = some z := ⟨_, List.getElem?_eq_getElem (by omega)⟩
      obtain ⟨e1, e2⟩ := HP.out.each j z hz
      have hgr := HG.out.kept2 hkp
      have c2 : wr.cell? ⟨g, j * 2, none⟩ = some (.int .u64 z.1) := by rw [hgr.cellAt]; exact e1
      have c3 : wr.cell? ⟨g, j * 2 + 1, none⟩ = some (Value.int .i64 z.2) := by rw [hgr.cellAt]; exact e2
      have hpl : pre.length < m := by
        have := congrArg List.length hpre
        simp at this; omega
      obtain ⟨z1, z2⟩ := z
      obtain ⟨fn, tmps, assign, body, hy, hR⟩ := hY pre ((j : Int), (z1, z2)) wr hJs hpl
      dsimp only at hy c2 c3
      clear e1 e2 hgr
      gi_wp2
      refine hR.mono ?_
      rintro e W3 (⟨rfl, hJ3, hk3⟩ | ⟨rfl, hJx3⟩)
      · gi_wp2
        go_roundw
        case rel =>
          refine ⟨j, pre ++ [((j : Int), (z1, z2))], (j : Int) - 1, by go_num, rfl, by omega, ?_, hJ3, hkp.trans hk3⟩
          rw [List.map_append, hpre, List.drop_eq_getElem_cons (by omega : j < zs.length), List.reverse_cons]
          have := (List.getElem?_eq_some_iff.1 hz).2
          rw [this]; rfl
        case measure => simp [intOf]
      · gi_wp2
        refine bodyPost_ret (results_none rfl _ _ _) rfl ?_
        exact ⟨⟨_, rfl⟩, .inr ⟨_, trivial, hJx3⟩⟩
theorem back_stopsMI (F : Fence) (n : Nat) (hB1 : F.fn 90) (hro : F.round = none) (hn : 1 ≤ n) (Bs g : Nat) (zs : List (Int × Int)) (hlen : zs.length ≤ 200000) (w : World) (hBs : BoxT 69 w Bs #[.slice (some ⟨g, 0, none⟩) zs.length zs.length]) (cs : Array Value) (hg : BoxT 58 w g cs) (hp : Prs (Value.int .i64) cs zs.length id zs) :
    SeqStopsK F n Try.prog 90 #[.pointer (some ⟨Bs, 0, none⟩)] (fun x : Int × (Int × Int) => #[.int .i64 x.1, .agg #[.int .u64 x.2.1, Value.int .i64 x.2.2]]) (Kept2 Bs g) (fun ys => ys.map Prod.snd = zs.reverse) (fun _ => True) zs.length w := fun l J Jx W hW _ _ hY h0 => by
  have e1 : BoxT 69 W Bs #[.slice (some ⟨g, 0, none⟩) zs.length zs.length] := by have h := hBs.lt; unfold BoxT at *; rw [hW.block _ h]; exact hBs
  have e2 : BoxT 58 W g cs := by have h := hg.lt; unfold BoxT at *; rw [hW.block _ h]; exact hg
  exact back1MI F n hB1 hro hn l Bs g zs hlen J Jx hY W e1 cs e2 hp h0
set_option maxHeartbeats 1000000 in
theorem backMI (F : Fence) (n : Nat) (hB2 : F.fn 85) (hro : F.round = none) (a : Option Addr) (len cap : Nat) (w : World) :
    CallsIn F n Try.prog 85 #[.slice a len cap] w fun e w' => e = .returned (.func (.func 90) #[] #[.pointer (some ⟨w.heap.size, 0, none⟩)]) ∧ w' = w.alloc (.cells #[.slice a len cap] 69) := by
  refine callsIn_of_wp Try.func85 rfl hB2 ?_ hro
  simp only [Try.ntmps85, List.size_toArray, List.length_cons, List.length_nil, Nat.reduceAdd, Nat.reduceSub, Array.replicate_succ, Array.replicate_zero, List.push_toArray, List.append_toArray, List.nil_append, List.cons_append]
  gi_wp2
  go_ret
  exact ⟨rfl, rfl⟩
/-- In the midst of takeFrom: the first i stand aside, in block g. -/
structure TkIMI (w wr : World) (k b mo g m : Nat) (q1 : List (Int × Int)) (r : List (Int × Int)) (i : Nat) : Prop where
  ring : ∃ b', R2 104 58 (Value.int .i64) wr k b' mo (q1.drop i ++ r) ∧ (b' = b ∨ g < b')
  aside : ∃ cs, BoxT 58 wr g cs ∧ Prs (Value.int .i64) cs m id (q1.take i)
  low : BoxT 95 wr w.heap.size #[.pointer (some ⟨k, 0, none⟩)]
  res : BoxT 58 wr (w.heap.size + 1) #[.int .u64 0, .int .i64 0]
  turned : Turned k b w wr
theorem TkIMI.step {w wr w' : World} {k b mo g m i : Nat} {q1 r : List (Int × Int)} {p : (Int × Int)} {b1 b2 : Nat} (h : TkIMI w wr k b mo g m q1 r i) (hg : w.heap.size + 1 < g) (hkw : k < w.heap.size) (hbw : b < w.heap.size) (hb1 : b1 = b ∨ g < b1)
    (hr : R2 104 58 (Value.int .i64) w' k b2 mo (q1.drop (i + 1) ++ r)) (ht : Turned k b1 wr w') (hb2 : b2 = b1 ∨ wr.heap.size ≤ b2) (hx : q1[i]? = some p) (hm : q1.length ≤ m) :
    TkIMI w ((w'.setCell ⟨g, i * 2, none⟩ (.int .u64 p.1)).setCell ⟨g, i * 2 + 1, none⟩ (Value.int .i64 p.2)) k b mo g m q1 r (i + 1) := by
  obtain ⟨cs, h1, h2⟩ := h.aside
  have hgl := h1.lt
  have hi := (List.getElem?_eq_some_iff.1 hx).1
  have hn : ∀ j, j ≠ g → ((w'.setCell ⟨g, i * 2, none⟩ (.int .u64 p.1)).setCell ⟨g, i * 2 + 1, none⟩ (Value.int .i64 p.2)).heap[j]? = w'.heap[j]? := fun j hj => (Below.heap_setCell _ ⟨g, i * 2 + 1, none⟩ _ j hj).trans (Below.heap_setCell _ ⟨g, i * 2, none⟩ _ j hj)
  have h1' : BoxT 58 w' g cs := h1.turned ht (by omega) (by omega)
  refine ⟨⟨b2, hr.back (hn k (by omega)) (fun _ => hn b2 (by omega)), by omega⟩, ⟨_, h1'.pair (i * 2) _ _, h2.put i (by omega) p.1 (Value.int .i64 p.2) _ _ fun j y hy => ?_⟩, ?_, ?_, ?_⟩
  · rw [List.getElem?_take] at hy
    split at hy
    · by_cases e : j = i
      · subst e
        rw [hx] at hy
        cases hy
        exact .inl ⟨rfl, rfl, rfl⟩
      · exact .inr ⟨e, j, rfl, by rw [List.getElem?_take, if_pos (by omega)]; exact hy⟩
    · cases hy
  · have := h.low.turned ht (by omega) (by omega)
    unfold BoxT at *
    rw [hn _ (by omega)]; exact this
  · have := h.res.turned ht (by omega) (by omega)
    unfold BoxT at *
    rw [hn _ (by omega)]; exact this
  · have t2 := h.turned.trans2 ht (by omega)
    exact t2.then (((Below.refl w.heap.size w').setCell (p := ⟨g, i * 2, none⟩) (by show w.heap.size ≤ g; omega) _).setCell (p := ⟨g, i * 2 + 1, none⟩) (by show w.heap.size ≤ g; omega) _)
/-- In the midst of the range: the things q are in the ring; the boxes of the call lie as they lay. -/
structure BkIMI (w W : World) (k b mo g X s0 : Nat) (q : List (Int × Int)) (x : (Int × Int)) : Prop where
  ring : ∃ b', R2 104 58 (Value.int .i64) W k b' mo q ∧ b' ≠ w.heap.size ∧ b' ≠ w.heap.size + 1 ∧ b' ≠ g ∧ b' ≠ X ∧ b' ≠ X + 1 ∧ (b' = b ∨ w.heap.size ≤ b')
  low : BoxT 95 W w.heap.size #[.pointer (some ⟨k, 0, none⟩)]
  res : BoxT 58 W (w.heap.size + 1) #[.int .u64 0, .int .i64 0]
  got : BoxT 58 W X #[.int .u64 x.1, Value.int .i64 x.2]
  turned : Turned k b w W
  size : s0 ≤ W.heap.size
theorem BkIMI.own {w : World} {k b mo g X s0 : Nat} {x : (Int × Int)} (q : List (Int × (Int × Int)) → List (Int × Int)) (hs : w.heap.size ≤ s0) : OwnFrom s0 (fun pre W => BkIMI w W k b mo g X s0 (q pre) x) := by
  intro s A B row h hg hr
  have hr2 : ∀ r, row = some r → ∃ o : Obj, A.heap[r]? = some o ∧ o.isCells = false := fun r e => (hr r e).2
  obtain ⟨b', h1, h2⟩ := h.ring
  refine ⟨⟨b', h1.own hg hr2, h2⟩, h.low.grown1 hg hr2, h.res.grown1 hg hr2, h.got.grown1 hg hr2, ?_, Nat.le_trans h.size hg.size⟩
  refine ⟨hg.os.trans h.turned.os, hg.tape.trans h.turned.tape, hg.output.trans h.turned.output, Nat.le_trans h.turned.size hg.size, fun i hi hk hb => ?_⟩
  rw [hg.block i (Nat.lt_of_lt_of_le hi h.turned.size) (fun e => by have := (hr i e.symm).1; omega)]
  exact h.turned.block i hi hk hb
theorem BkIMI.alloc {w W : World} {k b mo g X s0 : Nat} {q : List (Int × Int)} {x : (Int × Int)} (h : BkIMI w W k b mo g X s0 q x) (o : Obj) : BkIMI w (W.alloc o) k b mo g X s0 q x := by
  obtain ⟨b', h1, h2⟩ := h.ring
  exact ⟨⟨b', h1.below ((Below.refl _ _).alloc (Nat.le_refl _) _), h2⟩, h.low.alloc _, h.res.alloc _, h.got.alloc _, h.turned.trans (Turned.below ((Below.refl _ _).alloc (Nat.le_refl _) _)), Nat.le_trans h.size (by simp)⟩
theorem BkIMI.turn {w W W' : World} {k b mo g X s0 b1 b2 : Nat} {q q' : List (Int × Int)} {x : (Int × Int)} (h : BkIMI w W k b mo g X s0 q x) (hkw : k < w.heap.size) (hX : w.heap.size < X) (hs : X + 1 < s0) (hg : g < s0) (hbb : b1 ≠ w.heap.size ∧ b1 ≠ w.heap.size + 1 ∧ b1 ≠ g ∧ b1 ≠ X ∧ b1 ≠ X + 1 ∧ (b1 = b ∨ w.heap.size ≤ b1))
    (hr : R2 104 58 (Value.int .i64) W' k b2 mo q') (ht : Turned k b1 W W') (hb2 : b2 = b1 ∨ W.heap.size ≤ b2) : BkIMI w W' k b mo g X s0 q' x := by
  have hsz := h.size
  refine ⟨⟨b2, hr, by omega, by omega, by omega, by omega, by omega, by omega⟩, h.low.turned ht (by omega) (by omega), h.res.turned ht (by omega) (by omega), h.got.turned ht (by omega) (by omega), h.turned.trans2 ht (by omega), Nat.le_trans hsz ht.size⟩
set_option maxRecDepth 100000 in
set_option maxHeartbeats 4000000 in
theorem takeFromMI {w : World} {k b mo : Nat} {x : (Int × Int)} {q1 q2 : List (Int × Int)} (H : R2 104 58 (Value.int .i64) w k b mo (q1 ++ x :: q2)) (hmo : mo ≤ 65536) (hl : q1.length + q2.length < 2 * mo) {vi : Int} (hvi : vi = (q1.length : Int)) :
    Calls Try.prog 76 #[.pointer (some ⟨k, 0, none⟩), .int .i64 vi] w fun e w' => e = .returned (.agg #[.int .u64 x.1, Value.int .i64 x.2]) ∧ ∃ b', R2 104 58 (Value.int .i64) w' k b' mo (q1 ++ q2) ∧ Turned k b w w' ∧ (b' = b ∨ w.heap.size ≤ b') := by
  subst hvi
  have hkw := H.lt
  have hbw := H.blkMI
  obtain ⟨cs, hcs, hmk⟩ := makeMI ((w.alloc (.cells #[.pointer (some ⟨k, 0, none⟩)] 95)).alloc (.cells #[.int .u64 0, .int .i64 0] 58)) q1.length (by omega)
  have ba : Below w.heap.size w (((w.alloc (.cells #[.pointer (some ⟨k, 0, none⟩)] 95)).alloc (.cells #[.int .u64 0, .int .i64 0] 58)).alloc (.cells cs 58)) := (((Below.refl _ _).alloc (Nat.le_refl _) _).alloc (by simp) _).alloc (by simp; omega) _
  have g0 : BoxT 95 (((w.alloc (.cells #[.pointer (some ⟨k, 0, none⟩)] 95)).alloc (.cells #[.int .u64 0, .int .i64 0] 58)).alloc (.cells cs 58)) w.heap.size #[.pointer (some ⟨k, 0, none⟩)] := ((BoxT.new _ _ _).alloc _).alloc _
  have g1 : BoxT 58 (((w.alloc (.cells #[.pointer (some ⟨k, 0, none⟩)] 95)).alloc (.cells #[.int .u64 0, .int .i64 0] 58)).alloc (.cells cs 58)) (w.heap.size + 1) #[.int .u64 0, .int .i64 0] := (BoxT.new_at (by simp)).alloc _
  have g2 : BoxT 58 (((w.alloc (.cells #[.pointer (some ⟨k, 0, none⟩)] 95)).alloc (.cells #[.int .u64 0, .int .i64 0] 58)).alloc (.cells cs 58)) (w.heap.size + 2) cs := BoxT.new_at (by simp)
  have hsz : ((w.alloc (.cells #[.pointer (some ⟨k, 0, none⟩)] 95)).alloc (.cells #[.int .u64 0, .int .i64 0] 58)).heap.size = w.heap.size + 2 := by simp
  have HI0 : Hid (TkIMI w (((w.alloc (.cells #[.pointer (some ⟨k, 0, none⟩)] 95)).alloc (.cells #[.int .u64 0, .int .i64 0] 58)).alloc (.cells cs 58)) k b mo (w.heap.size + 2) q1.length q1 (x :: q2) 0) :=
    ⟨⟨b, H.below ba, .inl rfl⟩, ⟨cs, g2, hcs, fun i p hp => by simp at hp⟩, g0, g1, Turned.below ba⟩
  clear g0 g1 g2 ba hcs H
  generalize hlq : q1.length = m at *
  rw [hsz] at hmk
  clear hsz
  refine (callsIn_wide (n := 9)).1 ?_
  refine callsIn_of_wp_marks Try.func76 rfl trivial ?_ rfl
  simp only [Try.ntmps76, List.size_toArray, List.length_cons, List.length_nil, Nat.reduceAdd, Nat.reduceSub, Array.replicate_succ, Array.replicate_zero, List.push_toArray, List.append_toArray, List.nil_append, List.cons_append]
  gi_wp2
  generalize ((w.alloc (.cells #[.pointer (some ⟨k, 0, none⟩)] 95)).alloc (.cells #[.int .u64 0, .int .i64 0] 58)).alloc (.cells cs 58) = w0 at *
  have hsz0 : w.heap.size + 2 < w0.heap.size := by obtain ⟨c, h1, _⟩ := HI0.out.aside; exact h1.lt
  clear hmk
  generalize hgg : w.heap.size + 2 = g at *
  have hg1 : w.heap.size + 1 < g := by omega
  gi_loopw [15] (fun iv wr => ∃ i : Nat, i ≤ m ∧ iv = .int .i64 i ∧ Hid (TkIMI w wr k b mo g m q1 (x :: q2) i)) (fun iv _ => m - (intOf iv).toNat)
  case atStart => exact ⟨0, Nat.zero_le _, rfl, HI0.out⟩
  case round =>
    obtain ⟨i, hi, rfl, HI⟩ := hrel
    by_cases hlt : i < m
    · obtain ⟨p, hx⟩ : ∃ p, q1[i]? = some p := ⟨_, List.getElem?_eq_getElem (by rw [hlq]; exact hlt)⟩
      obtain ⟨b1, hr1, hb1⟩ := HI.out.ring
      have hdr : q1.drop i = p :: q1.drop (i + 1) := by
        rw [List.drop_eq_getElem_cons (by omega : i < q1.length)]
        rw [(List.getElem?_eq_some_iff.1 hx).2]
      rw [hdr, List.cons_append] at hr1
      have c0 : wr.cell? ⟨w.heap.size, 0, none⟩ = some (.pointer (some ⟨k, 0, none⟩)) := by rw [HI.out.low.cellAt]; rfl
      have hCT := hide (TakeMI hr1)
      have HX := hide hx
      clear hdr hx hr1
      obtain ⟨p1, p2⟩ := p
      gi_wp2_with (refine ⟨trivial, ?_⟩; gi_at_call 84; refine (callsIn_wide.2 hCT.out).mono ?_; rintro e w2 ⟨rfl, b2, hr2, t2, hb2⟩; have HS := hide (HI.out.step hg1 hkw hbw hb1 hr2 t2 hb2 HX.out (by omega)); have hz : ∀ t, t < m * 2 → ∃ u, w2.cell? ⟨g, t, none⟩ = some u := (by intro t ht; obtain ⟨cs, h1, h2⟩ := HI.out.aside; obtain ⟨u, hu⟩ := h2.all t ht; exact ⟨u, ((h1.turned t2 (by omega) (by omega)).cellAt t).trans hu⟩); have hf : ∀ t, w2.frozen? ⟨g, t, none⟩ = false := (by obtain ⟨cs, h1, h2⟩ := HI.out.aside; exact (h1.turned t2 (by omega) (by omega)).free); obtain ⟨u4, z6⟩ := hz (i * 2) (by omega); obtain ⟨u5, z7⟩ := hz (i * 2 + 1) (by omega); clear hr2 t2 hz)
      go_roundw
      case rel => exact ⟨i + 1, by omega, by go_num, HS.out⟩
      case measure => simp [intOf]; omega
    · obtain rfl : i = m := by omega
      obtain ⟨b1, hr1, hb1⟩ := HI.out.ring
      rw [List.drop_eq_nil_of_le (by omega), List.nil_append] at hr1
      have c0 : wr.cell? ⟨w.heap.size, 0, none⟩ = some (.pointer (some ⟨k, 0, none⟩)) := by rw [HI.out.low.cellAt]; rfl
      have hCT := hide (TakeMI hr1)
      clear hr1
      obtain ⟨x1, x2⟩ := x
      gi_wp2_with (refine ⟨trivial, ?_⟩; gi_at_call 84; refine (callsIn_wide.2 hCT.out).mono ?_; rintro e w2 ⟨rfl, b2, hr2, t2, hb2⟩)
      refine ⟨trivial, ?_⟩
      refine (backMI Fence.wide _ trivial rfl _ _ _ _).mono ?_
      rintro e w3 ⟨rfl, rfl⟩
      gi_wp2
      have hs1 := HI.out.turned.size
      have hs2 := t2.size
      obtain ⟨csg, hcg, hpg⟩ := HI.out.aside
      rw [List.take_of_length_le (by omega)] at hpg
      have hgl := hcg.lt
      have hgl2 := HI.out.res.lt
      have a1 : Below w2.heap.size w2 ((w2.alloc (.cells #[.int .u64 x1, Value.int .i64 x2] 58)).alloc (.cells #[.slice (some ⟨g, 0, none⟩) i i] 69)) := ((Below.refl _ _).alloc (Nat.le_refl _) _).alloc (by simp) _
      have y1 : BoxT 58 ((w2.alloc (.cells #[.int .u64 x1, Value.int .i64 x2] 58)).alloc (.cells #[.slice (some ⟨g, 0, none⟩) i i] 69)) w2.heap.size #[.int .u64 x1, Value.int .i64 x2] := (BoxT.new _ _ _).alloc _
      have y2 : BoxT 69 ((w2.alloc (.cells #[.int .u64 x1, Value.int .i64 x2] 58)).alloc (.cells #[.slice (some ⟨g, 0, none⟩) i i] 69)) (w2.heap.size + 1) #[.slice (some ⟨g, 0, none⟩) i i] := BoxT.new_at (by simp)
      have y3 : BoxT 58 ((w2.alloc (.cells #[.int .u64 x1, Value.int .i64 x2] 58)).alloc (.cells #[.slice (some ⟨g, 0, none⟩) i i] 69)) g csg := ((hcg.turned t2 (by omega) (by omega)).alloc _).alloc _
      have hsz : ((w2.alloc (.cells #[.int .u64 x1, Value.int .i64 x2] 58)).alloc (.cells #[.slice (some ⟨g, 0, none⟩) i i] 69)).heap.size = w2.heap.size + 2 := by simp
      have hB : BkIMI w ((w2.alloc (.cells #[.int .u64 x1, Value.int .i64 x2] 58)).alloc (.cells #[.slice (some ⟨g, 0, none⟩) i i] 69)) k b mo g w2.heap.size (w2.heap.size + 2) q2 (x1, x2) :=
        ⟨⟨b2, hr2.below a1, by omega, by omega, by omega, by have := hr2.blkMI; omega, by have := hr2.blkMI; omega, by omega⟩, ((HI.out.low.turned t2 (by omega) (by omega)).alloc _).alloc _, ((HI.out.res.turned t2 (by omega) (by omega)).alloc _).alloc _, y1, (HI.out.turned.trans2 t2 (by omega)).trans (Turned.below a1), by rw [hsz]; exact Nat.le_refl _⟩
      generalize (w2.alloc (.cells #[.int .u64 x1, Value.int .i64 x2] 58)).alloc (.cells #[.slice (some ⟨g, 0, none⟩) i i] 69) = W0 at *
      have hX : g < w2.heap.size := by omega
      generalize w2.heap.size = X at *
      clear HI HI0 hCT hcg hr2 t2 hb2 a1 y1 hs1 hs2 c0
      refine wpIn_rangeFunc_ownH rfl (by omega) (gf := 90) (lb := #[.pointer (some ⟨X + 1, 0, none⟩)]) rfl trivial (enters_of Try.func90 (by kernel_rfl) rfl)
        (back_stopsMI Fence.wide _ trivial rfl (by omega) (X + 1) g q1 (by omega) W0 (by rw [hlq]; exact y2) csg y3 (by rw [hlq]; exact hpg)) (fun h k => h.trans k)
        (fun W l o o' hl _ _ _ => ⟨World.putObj_heap_other (by omega), World.putObj_heap_other (by omega)⟩) (Below.refl _ _) (fun _ => rfl)
        (fun pre W => BkIMI w W k b mo g X (X + 2) ((pre.map Prod.snd).reverse ++ q2) (x1, x2))
        (fun _ _ _ => False)
        (by rw [hsz]; exact BkIMI.own (fun pre => (pre.map Prod.snd).reverse ++ q2) (by omega))
        (fun _ _ _ _ _ hs _ _ => hs)
        (by simpa using hB)
        (fun y a' W => ∃ Bx, BoxT 58 W Bx #[.int .u64 y.2.1, Value.int .i64 y.2.2] ∧ a' = { tmps := #[Value.pointer (some ⟨k, 0, none⟩), .int .i64 (i : Int), .pointer (some ⟨w.heap.size, 0, none⟩), undef, .pointer (some ⟨w.heap.size + 1, 0, none⟩), .slice (some ⟨g, 0, none⟩) i i,
          u6, .pointer (some ⟨X, 0, none⟩), .bool true, undef, .pointer (some ⟨Bx, 0, none⟩), .int .i64 (i : Int), .slice (some ⟨g, 0, none⟩) i i, .slice (some ⟨g, 0, none⟩) i i, .int .i64 (i : Int), .int .i64 (i : Int),
          .bool false, u17, u18, u19, u20, u21, u22, u23, u24, u25, u26, .tuple #[.agg #[.int .u64 x1, Value.int .i64 x2], .bool true], .pointer (some ⟨k, 0, none⟩), .tuple #[.agg #[.int .u64 x1, Value.int .i64 x2], .bool true],
          .agg #[.int .u64 x1, Value.int .i64 x2], .bool true, .slice (some ⟨g, 0, none⟩) i i, .func (.func 90) #[] #[.pointer (some ⟨X + 1, 0, none⟩)], .int .i64 y.1, .agg #[.int .u64 y.2.1, Value.int .i64 y.2.2], undef, undef, undef, undef], defers := [] })
        (fun y a' _ A B row hs hg hr => by obtain ⟨Bx, h2, h3⟩ := hs; exact ⟨Bx, h2.grown1 hg (fun r e => (hr r e).2), h3⟩)
        ?assign ?body ?done ?stop
      case assign =>
        rintro l pre y W K hi hK
        gi_wp2
        have hsW := hi.size
        exact hK _ _ ((KeepsOthers.alloc _ _).from _) ⟨Below.heap_alloc _ _ _ (by omega), Below.heap_alloc _ _ _ (by omega)⟩ (hi.alloc _) ⟨W.heap.size, BoxT.new _ _ _, rfl⟩
      case body =>
        rintro l pre y a' W hl _ hi ⟨Bx, hbx, rfl⟩ hlt
        obtain ⟨b3, hr3, hb3⟩ := hi.ring
        have d0 : W.cell? ⟨w.heap.size, 0, none⟩ = some (.pointer (some ⟨k, 0, none⟩)) := by rw [hi.low.cellAt]; rfl
        obtain ⟨d1, d2⟩ := hbx.cells2
        have hCF := hide (FrontMI hr3 hmo y.2 (by simp; omega))
        have HI := hide hi
        have HR := hide hr3
        have hsW := hi.size
        clear hi hr3 hbx
        gi_wp2_with (refine ⟨trivial, ?_⟩; gi_at_call 86; refine (CallsIn.inRound l (callsIn_wide.2 hCF.out)).mono ?_; rintro e W' ⟨rfl, b4, hr4, t4, hb4⟩)
        refine ⟨(HR.out.keeps t4).from _, ⟨t4.block _ (by omega) (by omega) (by omega), t4.block _ (by omega) (by omega) (by omega)⟩, ?_⟩
        refine HI.out.turn hkw (by omega) (by omega) (by omega) hb3 ?_ t4 hb4
        simpa using hr4
      case done =>
        rintro D ys W hD hS hi hK
        obtain ⟨b5, hr5, hb5⟩ := hi.ring
        rw [hS, List.reverse_reverse] at hr5
        obtain ⟨d1, d2⟩ := hi.got.cells2
        obtain ⟨d3, d4⟩ := hi.res.cells2
        have df := hi.res.free
        have HI := hide hi
        have HR := hide hr5
        have HRS := hide (hi.res.pair 0 (.int .u64 x1) (Value.int .i64 x2))
        clear hi hr5
        gi_wp2
        have hK' := ((KeepsOthers.setCell W ⟨w.heap.size + 1, 0, none⟩ (.int .u64 x1)).trans (KeepsOthers.setCell _ ⟨w.heap.size + 1, 1, none⟩ (Value.int .i64 x2))).same D _ hK rfl
        refine ⟨by simp, .inl ⟨_, _, rfl, run_takeDeferred hK', ?_⟩⟩
        have hn : ∀ j, j ≠ w.heap.size + 1 → ((W.setCell ⟨w.heap.size + 1, 0, none⟩ (.int .u64 x1)).setCell ⟨w.heap.size + 1, 1, none⟩ (Value.int .i64 x2)).heap[j]? = W.heap[j]? := fun j h1 => (Below.heap_setCell _ ⟨w.heap.size + 1, 1, none⟩ _ j h1).trans (Below.heap_setCell _ ⟨w.heap.size + 1, 0, none⟩ _ j h1)
        have hrD : ∀ r, some D = some r → ∃ o : Obj, ((W.setCell ⟨w.heap.size + 1, 0, none⟩ (.int .u64 x1)).setCell ⟨w.heap.size + 1, 1, none⟩ (Value.int .i64 x2)).heap[r]? = some o ∧ o.isCells = false := fun r e => by cases e; exact ⟨_, hK', rfl⟩
        have q1' := (HR.out.back (hn k (by omega)) (fun _ => hn b5 (by omega))).own (grownBy_putObj' _ D (.deferred none)) hrD
        have q2' := HRS.out.grown1 (grownBy_putObj' _ D (.deferred none)) hrD
        obtain ⟨r0, r1⟩ := BoxT.cells2 (c0 := .int .u64 x1) (c1 := Value.int .i64 x2) (by simpa using q2')
        have t5 := HI.out.turned.then (((Below.refl w.heap.size W).setCell (p := ⟨w.heap.size + 1, 0, none⟩) (by show w.heap.size ≤ w.heap.size + 1; omega) (.int .u64 x1)).setCell (p := ⟨w.heap.size + 1, 1, none⟩) (by show w.heap.size ≤ w.heap.size + 1; omega) (Value.int .i64 x2))
        have t6 := t5.then (belowK_b (w := w) (Nat.le_refl _) _ D _ (.deferred none) (by omega) hK' rfl rfl)
        exact ⟨.agg #[.int .u64 x1, Value.int .i64 x2], by simp [results, Try.results76, go_sem, r0, r1], rfl, b5, q1', t6, by omega⟩
      case stop =>
        rintro D c pre W _ _ h _
        exact h.elim
end Go.Proofs.Ytnomoekbfclckaa
