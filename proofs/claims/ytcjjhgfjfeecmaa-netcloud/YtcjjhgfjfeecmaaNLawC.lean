/-
  The law NetCloud, walked.
-/
import Derived.Test.YtcjjhgfjfeecmaaNKnown
import Derived.Test.YtcjjhgfjfeecmaaNSeg
import Derived.Test.YtcjjhgfjfeecmaaNClMI
import Derived.Deep.CutBlock
import Derived.Deep.CutRange
namespace Go.Proofs.Ytcjjhgfjfeecmaa
open Go.RowKit

theorem lseg_nil2 (B : Nat) (w : World) (a : Option Addr) (c : Nat) {n : Nat} (h : n = 0) : LSeg 1 i64cs B w (.slice a n c) [] := by subst h; exact lseg_nil _ _ _ _
/-- A cloud, and the law's two lists beside it. -/
structure CI (W w : World) (K : Nat) (fp : List Nat) (v1 v2 : Value) (q : List (Int × Int)) (q1 q2 : List Int) : Prop where
  cl : ClMI w fp K q
  r1 : Row 3 1 i64cs W.heap.size w v1 q1
  r2 : Row 3 1 i64cs W.heap.size w v2 q2
  bel : Below W.heap.size W w
  new : ∀ i ∈ fp, W.heap.size ≤ i
  d1 : ∀ g, v1.ownBlock = some g → g ∉ fp
  d2 : ∀ g, v2.ownBlock = some g → g ∉ fp
  d12 : ∀ g, v1.ownBlock = some g → v2.ownBlock ≠ some g
section
variable {W w w' : World} {K : Nat} {fp fp' : List Nat} {v1 v2 : Value} {q q' : List (Int × Int)} {q1 q2 q1' q2' : List Int}
theorem CI.below (H : CI W w K fp v1 v2 q q1 q2) (hb : Below w.heap.size w w') : CI W w' K fp v1 v2 q q1 q2 :=
  ⟨H.cl.below hb, H.r1.below hb, H.r2.below hb, H.bel.trans (hb.mono H.bel.size), H.new, H.d1, H.d2, H.d12⟩
theorem CI.turn (H : CI W w K fp v1 v2 q q1 q2) (hl : ClMI w' fp' K q') (ht : TurnedL fp w w') (hg : Grew fp fp' w) : CI W w' K fp' v1 v2 q' q1 q2 := by
  have hs := H.bel.size
  have hlt1 : ∀ g, v1.ownBlock = some g → g < w.heap.size := fun g e => by obtain ⟨cur, h⟩ := H.r1.has g e; exact h.lt
  have hlt2 : ∀ g, v2.ownBlock = some g → g < w.heap.size := fun g e => by obtain ⟨cur, h⟩ := H.r2.has g e; exact h.lt
  refine ⟨hl, H.r1.back (fun g e => ht.block g (hlt1 g e) (H.d1 g e)), H.r2.back (fun g e => ht.block g (hlt2 g e) (H.d2 g e)), ht.below H.bel H.new, fun i hi => ?_, fun g e hm => ?_, fun g e hm => ?_, H.d12⟩
  · rcases hg i hi with h | h
    · exact H.new i h
    · omega
  · rcases hg g hm with h | h
    · exact H.d1 g e h
    · have := hlt1 g e; omega
  · rcases hg g hm with h | h
    · exact H.d2 g e h
    · have := hlt2 g e; omega
theorem CI.row1 (H : CI W w K fp v1 v2 q q1 q2) {v' : Value} (h1 : Row 3 1 i64cs W.heap.size w' v' q1') (hg : w.grownBy w' v1.ownBlock) (hat : ∀ g, v'.ownBlock = some g → v1.ownBlock = some g ∨ w.heap.size ≤ g) : CI W w' K fp v' v2 q q1' q2 := by
  have hlt2 : ∀ g, v2.ownBlock = some g → g < w.heap.size := fun g e => by obtain ⟨cur, h⟩ := H.r2.has g e; exact h.lt
  refine ⟨H.cl.back hg.size (fun i hi => hg.block i (H.cl.lt i hi) (fun e => H.d1 i e.symm hi)), h1, H.r2.back (fun g e => hg.block g (hlt2 g e) (fun e2 => H.d12 g e2.symm e)), ?_, H.new, fun g e hm => ?_, H.d2, fun g e e2 => ?_⟩
  · exact ⟨hg.os.trans H.bel.os, hg.tape.trans H.bel.tape, hg.output.trans H.bel.output, Nat.le_trans H.bel.size hg.size, fun i hi => (hg.block i (Nat.lt_of_lt_of_le hi H.bel.size) (fun e => by have := H.r1.at i e.symm; omega)).trans (H.bel.block i hi)⟩
  · rcases hat g e with h | h
    · exact H.d1 g h hm
    · have := H.cl.lt g hm; omega
  · rcases hat g e with h | h
    · exact H.d12 g h e2
    · have := hlt2 g e2; omega
theorem CI.row2 (H : CI W w K fp v1 v2 q q1 q2) {v' : Value} (h1 : Row 3 1 i64cs W.heap.size w' v' q2') (hg : w.grownBy w' v2.ownBlock) (hat : ∀ g, v'.ownBlock = some g → v2.ownBlock = some g ∨ w.heap.size ≤ g) : CI W w' K fp v1 v' q q1 q2' := by
  have hlt1 : ∀ g, v1.ownBlock = some g → g < w.heap.size := fun g e => by obtain ⟨cur, h⟩ := H.r1.has g e; exact h.lt
  refine ⟨H.cl.back hg.size (fun i hi => hg.block i (H.cl.lt i hi) (fun e => H.d2 i e.symm hi)), H.r1.back (fun g e => hg.block g (hlt1 g e) (fun e2 => H.d12 g e e2.symm)), h1, ?_, H.new, H.d1, fun g e hm => ?_, fun g e e2 => ?_⟩
  · exact ⟨hg.os.trans H.bel.os, hg.tape.trans H.bel.tape, hg.output.trans H.bel.output, Nat.le_trans H.bel.size hg.size, fun i hi => (hg.block i (Nat.lt_of_lt_of_le hi H.bel.size) (fun e => by have := H.r2.at i e.symm; omega)).trans (H.bel.block i hi)⟩
  · rcases hat g e with h | h
    · exact H.d2 g h hm
    · have := H.cl.lt g hm; omega
  · rcases hat g e2 with h | h
    · exact H.d12 g e h
    · have := hlt1 g e; omega
theorem CI.new1 (H : CI W w K fp v1 v2 q q1 q2) {v' : Value} (h1 : OwnL 3 1 i64cs w.heap.size w' v' q1') (hb : Below w.heap.size w w') : CI W w' K fp v' v2 q q1' q2 := by
  have H2 := H.below hb
  have hlt2 : ∀ g, v2.ownBlock = some g → g < w.heap.size := fun g e => by obtain ⟨cur, h⟩ := H.r2.has g e; exact h.lt
  exact ⟨H2.cl, Row.of_own (h1.mono H.bel.size), H2.r2, H2.bel, H.new, fun g e hm => by have := h1.at g e; have := H.cl.lt g hm; omega, H.d2, fun g e e2 => by have := h1.at g e; have := hlt2 g e2; omega⟩
theorem CI.new2 (H : CI W w K fp v1 v2 q q1 q2) {v' : Value} (h1 : OwnL 3 1 i64cs w.heap.size w' v' q2') (hb : Below w.heap.size w w') : CI W w' K fp v1 v' q q1 q2' := by
  have H2 := H.below hb
  have hlt1 : ∀ g, v1.ownBlock = some g → g < w.heap.size := fun g e => by obtain ⟨cur, h⟩ := H.r1.has g e; exact h.lt
  exact ⟨H2.cl, H2.r1, Row.of_own (h1.mono H.bel.size), H2.bel, H.new, H.d1, fun g e hm => by have := h1.at g e; have := H.cl.lt g hm; omega, fun g e e2 => by have := h1.at g e2; have := hlt1 g e; omega⟩
theorem below_app {w w6 w7 : World} {v6 : Value} {xs : List Int} (o6 : OwnL 3 1 i64cs w.heap.size w6 v6 xs) (b6 : Below w.heap.size w w6) (g7 : w6.grownBy w7 v6.ownBlock) : Below w.heap.size w w7 :=
  ⟨g7.os.trans b6.os, g7.tape.trans b6.tape, g7.output.trans b6.output, Nat.le_trans b6.size g7.size, fun i hi => (g7.block i (Nat.lt_of_lt_of_le hi b6.size) (fun e => by have := o6.at i e.symm; omega)).trans (b6.block i hi)⟩
end
set_option maxHeartbeats 16000000 in
set_option maxRecDepth 100000 in
theorem NetCloud_walk (w : World) (ao : Option Addr) (cap : Nat) (xs : List Stp) (hs : Hid (LSeg 3 Stp.cs w.heap.size w (.slice ao xs.length cap) xs)) :
    Calls Try.prog 4 #[.slice ao xs.length cap] w fun e w' => e = .returned (.bool true) ∧ Below w.heap.size w w' := by
  have hknown := known_any w
  have hlen : xs.length ≤ 140737488355328 := by obtain ⟨_, _, e, h2, _⟩ := hs.out; exact h2
  go_enter Try.func4, Try.ntmps4
  go_wp2_with fail
  refine hknown.mono ?_
  rintro e w1 ⟨rfl, hb1⟩
  clear hknown
  have HB1 := hide hb1
  clear hb1
  by_cases hl : xs.length ≤ 500
  rotate_left
  · go_wp2
    go_ret
    exact ⟨rfl, HB1.out⟩
  go_wp2_with fail
  go_at_call 15
  refine (cNewMI w1).mono ?_
  rintro e w3 ⟨rfl, r3, l3⟩
  have hsz := HB1.out.size
  have HT : Hid (∃ fp, CI w w3 w1.heap.size fp (.slice none 0 0) (.slice none 0 0) [] [] []) :=
    ⟨_, r3, Row.nil _ _ _ _ _, Row.nil _ _ _ _ _, HB1.out.trans (l3.mono hsz), fun i hi => by rw [List.mem_singleton.1 hi]; exact hsz, fun g e => (by cases e), fun g e => (by cases e), fun g e => (by cases e)⟩
  clear r3 l3 hsz HB1
  generalize w1.heap.size = K at *
  go_wp2_with fail
  go_loopw [4, 5, 6] (fun v1 v2 iv wr => ∃ (i : Nat) (q : List (Int × Int)), i ≤ xs.length ∧ iv = .int .i64 i ∧ q.length ≤ i ∧ Hid (∃ fp, CI w wr K fp v1 v2 q (q.map Prod.fst) (q.map Prod.snd))) (fun _ _ iv _ => xs.length - (intOf iv).toNat)
  case atStart => exact ⟨0, [], Nat.zero_le _, rfl, by simp, HT.out⟩
  case round =>
    obtain ⟨i, q, hi, rfl, hq, fp, HI⟩ := hrel
    obtain ⟨qa, qc, rfl⟩ := HI.r1.shape
    obtain ⟨pa, pc, rfl⟩ := HI.r2.shape
    rw [List.length_map, List.length_map] at HI
    replace HI := hide HI
    by_cases hlt : i < xs.length
    · obtain ⟨t, ht⟩ : ∃ t, xs[i]? = some t := ⟨_, List.getElem?_eq_getElem hlt⟩
      obtain ⟨bb, off, rfl, hbb, c0, d0, f0⟩ := (hs.out.below HI.out.bel).stp ht
      obtain ⟨wh, x, sn⟩ := t
      dsimp only at c0 d0 f0
      clear ht
      have bx : BoxT 29 (wr.alloc (.cells #[.int .i64 wh, .int .i64 x, .int .i64 sn] 29)) wr.heap.size #[.int .i64 wh, .int .i64 x, .int .i64 sn] := BoxT.new _ _ _
      have HX := hide bx
      have H1 := hide (HI.out.below ((Below.refl wr.heap.size wr).alloc (Nat.le_refl _) (.cells #[.int .i64 wh, .int .i64 x, .int .i64 sn] 29)))
      have hBf : wr.heap.size ∉ fp := fun h => Nat.lt_irrefl _ (HI.out.cl.lt _ h)
      have hBq : ∀ g, (Value.slice qa q.length qc).ownBlock = some g → g ≠ wr.heap.size := fun g e => by obtain ⟨cur, h⟩ := HI.out.r1.has g e; have := h.lt; omega
      have hBp : ∀ g, (Value.slice pa q.length pc).ownBlock = some g → g ≠ wr.heap.size := fun g e => by obtain ⟨cur, h⟩ := HI.out.r2.has g e; have := h.lt; omega
      clear HI bx
      go_upto_if 31 with fail
      clear c0 d0 f0
      generalize wr.alloc (.cells #[.int .i64 wh, .int .i64 x, .int .i64 sn] 29) = wa at *
      generalize wr.heap.size = B at *
      generalize hd : decide (wh < 3) = dd
      go_cut [4, 5, 8, 9, 10, 11, 12] from 32 to 140 (fun v1 v2 _ _ _ _ _ wx => ∃ (q' : List (Int × Int)) (fp' : List Nat), q'.length ≤ i + 1 ∧ CI w wx K fp' v1 v2 q' (q'.map Prod.fst) (q'.map Prod.snd))
      case rest =>
        clear H1 HX hBf hBq hBp
        obtain ⟨q', fp', hl2, H7⟩ := hcut
        obtain ⟨a7, c7, rfl⟩ := H7.r1.shape
        obtain ⟨a8, c8, rfl⟩ := H7.r2.shape
        rw [List.length_map, List.length_map] at H7
        have hLn := hide (cLenMI H7.cl)
        replace H7 := hide H7
        go_wp2_with (first
          | (go_at_call 19; refine hLn.out.mono ?_; rintro r w9 ⟨rfl, rfl⟩)
          | fail)
        go_roundw
        case rel => exact ⟨i + 1, q', by omega, by go_num, hl2, _, H7.out⟩
        case measure => simp [intOf]; omega
      case first =>
      have f1 : wa.cell? ⟨B, 1, none⟩ = some (.int .i64 x) := (HX.out.cellAt 1).trans rfl
      have f2 : wa.cell? ⟨B, 2, none⟩ = some (.int .i64 sn) := (HX.out.cellAt 2).trans rfl
      clear hd
      cases dd
      rotate_left
      · go_wp2_with fail
        go_at_call 16
        refine (cSendMI H1.out.cl (by omega) (sn, x)).mono ?_
        rintro r w4 ⟨rfl, fp4, l4, t4, g4⟩
        have H4 := hide (H1.out.turn l4 t4 g4)
        have X4 := hide (HX.out.turnedL t4 hBf)
        have e4 : w4.cell? ⟨B, 1, none⟩ = some (.int .i64 x) := (X4.out.cellAt 1).trans rfl
        have e5 : w4.cell? ⟨B, 2, none⟩ = some (.int .i64 sn) := (X4.out.cellAt 2).trans rfl
        clear l4 t4 g4 H1 HX f1 f2
        go_wp2_with fail
        have hq1 : (q.map Prod.fst).length ≤ 1000000 := by rw [List.length_map]; omega
        have hq2 : (q.map Prod.snd).length ≤ 1000000 := by rw [List.length_map]; omega
        have A1 := hide (H4.out.below (((Below.refl w4.heap.size w4).alloc (Nat.le_refl _) (.cells #[.int .i64 sn] 3)).drew))
        have A2 := hide (H4.out.below ((((Below.refl w4.heap.size w4).alloc (Nat.le_refl _) (.cells #[.int .i64 x] 3)).alloc (by simp) (.cells #[.int .i64 sn] 3)).drew))
        have A3 := hide (H4.out.below ((((Below.refl w4.heap.size w4).alloc (Nat.le_refl _) (.cells #[.int .i64 sn] 3)).alloc (by simp) (.cells #[.int .i64 x] 3)).drew))
        have s1 : Hid ((w4.alloc (.cells #[.int .i64 sn] 3)).drew.cell? ⟨w4.heap.size, 0, none⟩ = some (.int .i64 sn)) := ((BoxT.new 3 w4 #[.int .i64 sn]).cellAt 0).trans rfl
        have s2 : Hid (((w4.alloc (.cells #[.int .i64 x] 3)).alloc (.cells #[.int .i64 sn] 3)).drew.cell? ⟨w4.heap.size + 1, 0, none⟩ = some (.int .i64 sn)) := ((BoxT.new_at (k := w4.heap.size + 1) (t := 3) (cs := #[.int .i64 sn]) (by simp)).cellAt 0).trans rfl
        have s3 : Hid (((w4.alloc (.cells #[.int .i64 sn] 3)).alloc (.cells #[.int .i64 x] 3)).drew.cell? ⟨w4.heap.size, 0, none⟩ = some (.int .i64 sn)) := (((BoxT.new 3 w4 #[.int .i64 sn]).alloc (.cells #[.int .i64 x] 3)).cellAt 0).trans rfl
        have b2 : Hid (BoxT 3 ((w4.alloc (.cells #[.int .i64 x] 3)).alloc (.cells #[.int .i64 sn] 3)).drew w4.heap.size #[.int .i64 x]) := (BoxT.new 3 w4 #[.int .i64 x]).alloc (.cells #[.int .i64 sn] 3)
        have b3 : Hid (BoxT 3 ((w4.alloc (.cells #[.int .i64 sn] 3)).alloc (.cells #[.int .i64 x] 3)).drew (w4.heap.size + 1) #[.int .i64 x]) := BoxT.new_at (by simp)
        have hl1 : ∀ g, (Value.slice qa q.length qc).ownBlock = some g → g < w4.heap.size := fun g e => by obtain ⟨cur, h⟩ := H4.out.r1.has g e; exact h.lt
        have k1 : Hid (BoxT 29 (w4.alloc (.cells #[.int .i64 sn] 3)).drew B #[.int .i64 wh, .int .i64 x, .int .i64 sn]) := X4.out.alloc _
        have k2 : Hid (BoxT 29 ((w4.alloc (.cells #[.int .i64 x] 3)).alloc (.cells #[.int .i64 sn] 3)).drew B #[.int .i64 wh, .int .i64 x, .int .i64 sn]) := (X4.out.alloc _).alloc _
        have k3 : Hid (BoxT 29 ((w4.alloc (.cells #[.int .i64 sn] 3)).alloc (.cells #[.int .i64 x] 3)).drew B #[.int .i64 wh, .int .i64 x, .int .i64 sn]) := (X4.out.alloc _).alloc _
        have hBl := X4.out.lt
        clear H4
        go_region_law (first
          | (refine step_row Try.info3' Try.underlying27 rfl (by decide) (by decide) i64cs_len i64cs_one rfl _ _ rfl w.heap.size (.slice qa q.length qc) (q.map Prod.fst) rfl A1.out.r1 ⟨w4.heap.size, 0, none⟩ 1 sn rfl (fun j u hu => by match j, hu with | 0, hu => simp [i64cs] at hu; subst hu; rw [add_plain2]; exact s1.out) hq1 A1.out.bel.size ?_; intro v5 w5 r5 g5 at5; have C5 := hide (A1.out.row1 r5 g5 at5); have e8 : w5.cell? ⟨B, 1, none⟩ = some (.int .i64 x) := ((k1.out.grownO g5 (fun e => hBq _ e rfl)).cellAt 1).trans rfl; have D1 := hide (C5.out.below ((Below.refl w5.heap.size w5).alloc (Nat.le_refl _) (.cells #[.int .i64 x] 3))); have t1 : Hid ((w5.alloc (.cells #[.int .i64 x] 3)).cell? ⟨w5.heap.size, 0, none⟩ = some (.int .i64 x)) := ((BoxT.new 3 w5 #[.int .i64 x]).cellAt 0).trans rfl; obtain ⟨a5, c5, hv5⟩ := r5.shape; simp only [List.length_append, List.length_map, List.length_singleton] at hv5; subst hv5; clear r5 g5 at5)
          | (refine step_row Try.info3' Try.underlying27 rfl (by decide) (by decide) i64cs_len i64cs_one rfl _ _ rfl w.heap.size (.slice qa q.length qc) (q.map Prod.fst) rfl A2.out.r1 ⟨w4.heap.size + 1, 0, none⟩ 1 sn rfl (fun j u hu => by match j, hu with | 0, hu => simp [i64cs] at hu; subst hu; rw [add_plain2]; exact s2.out) hq1 A2.out.bel.size ?_; intro v5 w5 r5 g5 at5; have C5 := hide (A2.out.row1 r5 g5 at5); have e8 : w5.cell? ⟨B, 1, none⟩ = some (.int .i64 x) := ((k2.out.grownO g5 (fun e => hBq _ e rfl)).cellAt 1).trans rfl; have t2 : Hid (w5.cell? ⟨w4.heap.size, 0, none⟩ = some (.int .i64 x)) := ((b2.out.grownO g5 (fun e => by have := hl1 _ e; omega)).cellAt 0).trans rfl; obtain ⟨a5, c5, hv5⟩ := r5.shape; simp only [List.length_append, List.length_map, List.length_singleton] at hv5; subst hv5; clear r5 g5 at5)
          | (refine step_row Try.info3' Try.underlying27 rfl (by decide) (by decide) i64cs_len i64cs_one rfl _ _ rfl w.heap.size (.slice qa q.length qc) (q.map Prod.fst) rfl A3.out.r1 ⟨w4.heap.size, 0, none⟩ 1 sn rfl (fun j u hu => by match j, hu with | 0, hu => simp [i64cs] at hu; subst hu; rw [add_plain2]; exact s3.out) hq1 A3.out.bel.size ?_; intro v5 w5 r5 g5 at5; have C5 := hide (A3.out.row1 r5 g5 at5); have e8 : w5.cell? ⟨B, 1, none⟩ = some (.int .i64 x) := ((k3.out.grownO g5 (fun e => hBq _ e rfl)).cellAt 1).trans rfl; have t3 : Hid (w5.cell? ⟨w4.heap.size + 1, 0, none⟩ = some (.int .i64 x)) := ((b3.out.grownO g5 (fun e => by have := hl1 _ e; omega)).cellAt 0).trans rfl; obtain ⟨a5, c5, hv5⟩ := r5.shape; simp only [List.length_append, List.length_map, List.length_singleton] at hv5; subst hv5; clear r5 g5 at5)
          | (refine step_row Try.info3' Try.underlying27 rfl (by decide) (by decide) i64cs_len i64cs_one rfl _ _ rfl w.heap.size (.slice pa q.length pc) (q.map Prod.snd) rfl D1.out.r2 ⟨w5.heap.size, 0, none⟩ 1 x rfl (fun j u hu => by match j, hu with | 0, hu => simp [i64cs] at hu; subst hu; rw [add_plain2]; exact t1.out) hq2 D1.out.bel.size ?_; intro v6 w6 r6 g6 at6; have C6 := hide (D1.out.row2 r6 g6 at6); obtain ⟨a6, c6, hv6⟩ := r6.shape; simp only [List.length_append, List.length_map, List.length_singleton] at hv6; subst hv6; clear r6 g6 at6)
          | (refine step_row Try.info3' Try.underlying27 rfl (by decide) (by decide) i64cs_len i64cs_one rfl _ _ rfl w.heap.size (.slice pa q.length pc) (q.map Prod.snd) rfl C5.out.r2 ⟨w4.heap.size, 0, none⟩ 1 x rfl (fun j u hu => by match j, hu with | 0, hu => simp [i64cs] at hu; subst hu; rw [add_plain2]; exact t2.out) hq2 C5.out.bel.size ?_; intro v6 w6 r6 g6 at6; have C6 := hide (C5.out.row2 r6 g6 at6); obtain ⟨a6, c6, hv6⟩ := r6.shape; simp only [List.length_append, List.length_map, List.length_singleton] at hv6; subst hv6; clear r6 g6 at6)
          | (refine step_row Try.info3' Try.underlying27 rfl (by decide) (by decide) i64cs_len i64cs_one rfl _ _ rfl w.heap.size (.slice pa q.length pc) (q.map Prod.snd) rfl C5.out.r2 ⟨w4.heap.size + 1, 0, none⟩ 1 x rfl (fun j u hu => by match j, hu with | 0, hu => simp [i64cs] at hu; subst hu; rw [add_plain2]; exact t3.out) hq2 C5.out.bel.size ?_; intro v6 w6 r6 g6 at6; have C6 := hide (C5.out.row2 r6 g6 at6); obtain ⟨a6, c6, hv6⟩ := r6.shape; simp only [List.length_append, List.length_map, List.length_singleton] at hv6; subst hv6; clear r6 g6 at6))
        all_goals
          have hmp : (q ++ [(sn, x)]).map Prod.fst = q.map Prod.fst ++ [sn] ∧ (q ++ [(sn, x)]).map Prod.snd = q.map Prod.snd ++ [x] := by simp
          rw [← hmp.1, ← hmp.2] at C6
          go_wp2
          go_meet
          exact ⟨q ++ [(sn, x)], _, by simp; omega, C6.out⟩
      · rcases Nat.eq_zero_or_pos q.length with hq0 | hqp
        · have hq0 := List.length_eq_zero_iff.1 hq0
          subst hq0
          simp only [List.length_nil] at *
          go_wp2_with fail
          go_at_call 17
          refine (cPickNMI H1.out.cl sn x).mono ?_
          rintro r w4 ⟨rfl, rfl⟩
          go_wp2
          go_roundw
          case rel => exact ⟨i + 1, [], by omega, by go_num, by simp, _, H1.out⟩
          case measure => simp [intOf]; omega
        · have hqn : ¬ ((q.length : Int) = 0) := by omega
          obtain ⟨j, hj⟩ : ∃ j : Nat, sn % (q.length : Int) = (j : Int) := ⟨(sn % (q.length : Int)).toNat, (Int.toNat_of_nonneg (Int.emod_nonneg _ (by omega))).symm⟩
          have hjl : j < q.length := by have := Int.emod_lt_of_pos sn (show (0 : Int) < q.length by omega); omega
          obtain ⟨y, hy⟩ : ∃ y, q[j]? = some y := ⟨_, List.getElem?_eq_getElem hjl⟩
          obtain ⟨y1, y2⟩ := y
          by_cases hx1 : x = 1
          · subst hx1
            go_wp2_with fail
            go_at_call 17
            refine (cPick1MI H1.out.cl (by omega) sn hj hy).mono ?_
            rintro r w4 ⟨rfl, b4⟩
            have H4 := hide (H1.out.below b4)
            have X4 := hide (show BoxT 29 w4 B #[.int .i64 wh, .int .i64 1, .int .i64 sn] from (by have h := HX.out; have hl := h.lt; unfold BoxT at *; rw [b4.block _ hl]; exact h))
            have e1 : w4.cell? ⟨B, 1, none⟩ = some (.int .i64 1) := (X4.out.cellAt 1).trans rfl
            have e2 : w4.cell? ⟨B, 2, none⟩ = some (.int .i64 sn) := (X4.out.cellAt 2).trans rfl
            obtain ⟨g, o, ca, hv, hr⟩ := H4.out.r1.read i64cs_len (i := j) (x := y1) (by rw [List.getElem?_map, hy]; rfl)
            rw [List.length_map] at hv
            cases hv
            obtain ⟨g2, o2, ca2, hv, hr2⟩ := H4.out.r2.read i64cs_len (i := j) (x := y2) (by rw [List.getElem?_map, hy]; rfl)
            rw [List.length_map] at hv
            cases hv
            have e3 : w4.cell? ⟨g, o + j, none⟩ = some (.int .i64 y1) := by simpa using hr 0 _ rfl
            have e4 : w4.cell? ⟨g2, o2 + j, none⟩ = some (.int .i64 y2) := by simpa using hr2 0 _ rfl
            have hpl := hide (Place_any w4 sn (q.length : Int) (by omega) (by omega))
            rw [hj] at hpl
            clear b4 H1 HX f1 f2 hr hr2 hj
            go_wp2_with (first | (go_at_call 18; refine hpl.out.mono ?_; rintro r w5 ⟨rfl, rfl⟩) | fail)
            go_meet
            exact ⟨q, _, by omega, H4.out⟩
          · have hsp : q = q.take j ++ (y1, y2) :: q.drop (j + 1) := by
              rw [← (List.getElem?_eq_some_iff.1 hy).2, ← List.drop_eq_getElem_cons hjl, List.take_append_drop]
            have hlt2 : (q.take j).length = j := by simp; omega
            have hld2 : (q.drop (j + 1)).length = q.length - (j + 1) := by simp
            have HC : Hid (ClMI wa fp K (q.take j ++ (y1, y2) :: q.drop (j + 1))) := by rw [← hsp]; exact hide H1.out.cl
            have hlen2 : (q.take j).length + (q.drop (j + 1)).length < 512 := by omega
            have hj2 : sn % ((q.take j ++ (y1, y2) :: q.drop (j + 1)).length : Int) = ((q.take j).length : Int) := by rw [← hsp, hlt2]; exact hj
            have HSP := hide (And.intro hsp (And.intro hlt2 hld2))
            clear hsp hlt2 hld2
            go_wp2_with fail
            go_at_call 17
            have hxb1 : (x != 1) = true := by simp [hx1]
            by_cases hx2 : x = 2
            · subst hx2
              refine (cPickMI (q1 := q.take j) (q2 := q.drop (j + 1)) (x := (y1, y2)) HC.out hlen2 sn 2 hj2 (by decide)).mono ?_
              rintro r w4 ⟨rfl, fp4, l4, t4, g4⟩
              rw [if_pos rfl]
              have H4 := hide (H1.out.turn l4 t4 g4)
              have X4 := hide (HX.out.turnedL t4 hBf)
              have e1 : w4.cell? ⟨B, 1, none⟩ = some (.int .i64 2) := (X4.out.cellAt 1).trans rfl
              have e2 : w4.cell? ⟨B, 2, none⟩ = some (.int .i64 sn) := (X4.out.cellAt 2).trans rfl
              obtain ⟨g, o, ca, hv, hr⟩ := H4.out.r1.read i64cs_len (i := j) (x := y1) (by rw [List.getElem?_map, hy]; rfl)
              rw [List.length_map] at hv
              cases hv
              obtain ⟨g2, o2, ca2, hv, hr2⟩ := H4.out.r2.read i64cs_len (i := j) (x := y2) (by rw [List.getElem?_map, hy]; rfl)
              rw [List.length_map] at hv
              cases hv
              have e3 : w4.cell? ⟨g, o + j, none⟩ = some (.int .i64 y1) := by simpa using hr 0 _ rfl
              have e4 : w4.cell? ⟨g2, o2 + j, none⟩ = some (.int .i64 y2) := by simpa using hr2 0 _ rfl
              have hpl := hide (Place_any w4 sn (q.length : Int) (by omega) (by omega))
              rw [hj] at hpl
              have hc1 : q.length ≤ qc ∧ qc ≤ maxLen := by
                rcases H4.out.r1 with ⟨h, _⟩ | ⟨_, _, _, _, e, _, _, h4, h5, _⟩
                · cases h
                · rw [List.length_map] at e h4; cases e; exact ⟨h4, h5⟩
              have hc2 : q.length ≤ pc ∧ pc ≤ maxLen := by
                rcases H4.out.r2 with ⟨h, _⟩ | ⟨_, _, _, _, e, _, _, h4, h5, _⟩
                · cases h
                · rw [List.length_map] at e h4; cases e; exact ⟨h4, h5⟩
              obtain ⟨hc1, hc1'⟩ := hc1
              obtain ⟨hc2, hc2'⟩ := hc2
              unfold maxLen at hc1' hc2'
              clear l4 t4 g4 H1 HX HC f1 f2 hr hr2 hj hj2
              go_wp2_with (first | (go_at_call 18; refine hpl.out.mono ?_; rintro r w5 ⟨rfl, rfl⟩) | fail)
              have hll : (q.take j ++ q.drop (j + 1)).length = q.length - 1 := by rw [List.length_append, List.length_take, List.length_drop]; omega
              have HFL : Hid (((q.map Prod.fst).take j).length = j ∧ ((q.map Prod.fst).drop (j + 1)).length = q.length - (j + 1) ∧ (q.map Prod.fst).take j ++ (q.map Prod.fst).drop (j + 1) = (q.take j ++ q.drop (j + 1)).map Prod.fst) := ⟨by rw [List.length_take, List.length_map]; omega, by rw [List.length_drop, List.length_map], by rw [List.map_append, List.map_take, List.map_drop]⟩
              have FR : Hid (LSeg 1 i64cs w5.heap.size w5.drew (.slice (some ⟨g, o, none⟩) j qc) ((q.map Prod.fst).take j)) := H4.out.r1.front (by rw [List.length_map]; omega) (by rw [List.length_map]; omega)
              have hi0 : (0 : Int) ≤ (j : Int) := by omega
              have hi1 : (j : Int) ≤ (qc : Int) := by omega
              have hi2 : (j : Int) + 1 ≤ (q.length : Int) := by omega
              have hi3 : (0 : Int) ≤ (j : Int) + 1 := by omega
              have hi4 : IntKind.i64.wrap ((j : Int) + 1) = (j : Int) + 1 := by rw [IntKind.wrap_i64]; omega
              have hi5 : ((j : Int) + 1).toNat = j + 1 := by omega
              have hi6 : (q.length : Int) ≤ (qc : Int) := by omega
              by_cases hccw6 : qc = j + 1
              · have hql : q.length = j + 1 := by omega
                have HD0 : Hid ((q.map Prod.fst).take j ++ [] = (q.take j ++ q.drop (j + 1)).map Prod.fst) := by
                  have hdn : (q.map Prod.fst).drop (j + 1) = [] := List.drop_eq_nil_of_le (by rw [List.length_map]; omega)
                  show _ = _
                  rw [← HFL.out.2.2, hdn]
                have hc0 : qc - (j + 1) = 0 := by omega
                have hl0 : q.length - (j + 1) = 0 := by omega
                have HQL := hide (And.intro hql hccw6)
                have hcTw6 : (qc = j + 1) = True := eq_true hccw6
                clear hql hccw6
                go_region_held3 (fun _ => True) (first | go_keep | exact trivial)
                  (first
                    | (refine step_lseg rfl _ _ rfl w5.heap.size (.slice none 0 0) [] rfl (OwnL.nil _ _ _ _ _) w5.heap.size (.slice (some ⟨g, o, none⟩) j qc) ((q.map Prod.fst).take j) rfl FR.out (by rw [HFL.out.1]; simp; omega) (Nat.le_refl _) ?_; intro vw6 w6a ow6 gw6; rw [List.nil_append] at ow6; have bw6 : Below w5.heap.size w5 w6a := (⟨gw6.os, gw6.tape, gw6.output, gw6.size, fun i hi => gw6.block i hi (by simp [Value.ownBlock])⟩ : Below w5.heap.size w5 w6a); have OO := hide ow6; have BB := hide bw6; obtain ⟨aw6, cw6, hvw6⟩ := ow6.shape; rw [HFL.out.1] at hvw6; subst hvw6; clear ow6 gw6 bw6)
                    | (refine step_lseg rfl _ _ rfl w5.heap.size (.slice aw6 j cw6) ((q.map Prod.fst).take j) rfl OO.out w5.heap.size _ [] rfl (lseg_nil2 _ _ _ _ (by first | rfl | exact hl0)) (by rw [HFL.out.1]; simp; omega) BB.out.size ?_; intro vw6' w6 ow6 gw6; have BN := hide (below_app OO.out BB.out gw6); rw [HD0.out] at ow6; have H6 := hide (H4.out.new1 ow6 BN.out); obtain ⟨aw6', cw6', hvw6⟩ := ow6.shape; rw [List.length_map, hll] at hvw6; subst hvw6; clear ow6 gw6))
                clear FR HFL hc0 hl0 HD0
                go_wp2_with fail
                have HFL : Hid (((q.map Prod.snd).take j).length = j ∧ ((q.map Prod.snd).drop (j + 1)).length = q.length - (j + 1) ∧ (q.map Prod.snd).take j ++ (q.map Prod.snd).drop (j + 1) = (q.take j ++ q.drop (j + 1)).map Prod.snd) := ⟨by rw [List.length_take, List.length_map]; omega, by rw [List.length_drop, List.length_map], by rw [List.map_append, List.map_take, List.map_drop]⟩
                have FR : Hid (LSeg 1 i64cs w6.heap.size w6.drew (.slice (some ⟨g2, o2, none⟩) j pc) ((q.map Prod.snd).take j)) := H6.out.r2.front (by rw [List.length_map]; omega) (by rw [List.length_map]; omega)
                have hi0 : (0 : Int) ≤ (j : Int) := by omega
                have hi1 : (j : Int) ≤ (pc : Int) := by omega
                have hi2 : (j : Int) + 1 ≤ (q.length : Int) := by omega
                have hi3 : (0 : Int) ≤ (j : Int) + 1 := by omega
                have hi4 : IntKind.i64.wrap ((j : Int) + 1) = (j : Int) + 1 := by rw [IntKind.wrap_i64]; omega
                have hi5 : ((j : Int) + 1).toNat = j + 1 := by omega
                have hi6 : (q.length : Int) ≤ (pc : Int) := by omega
                by_cases hccw8 : pc = j + 1
                · have hql : q.length = j + 1 := by omega
                  have HD0 : Hid ((q.map Prod.snd).take j ++ [] = (q.take j ++ q.drop (j + 1)).map Prod.snd) := by
                    have hdn : (q.map Prod.snd).drop (j + 1) = [] := List.drop_eq_nil_of_le (by rw [List.length_map]; omega)
                    show _ = _
                    rw [← HFL.out.2.2, hdn]
                  have hc0 : pc - (j + 1) = 0 := by omega
                  have hl0 : q.length - (j + 1) = 0 := by omega
                  have HQL := hide (And.intro hql hccw8)
                  have hcTw8 : (pc = j + 1) = True := eq_true hccw8
                  clear hql hccw8
                  go_region_held3 (fun _ => True) (first | go_keep | exact trivial)
                    (first
                      | (refine step_lseg rfl _ _ rfl w6.heap.size (.slice none 0 0) [] rfl (OwnL.nil _ _ _ _ _) w6.heap.size (.slice (some ⟨g2, o2, none⟩) j pc) ((q.map Prod.snd).take j) rfl FR.out (by rw [HFL.out.1]; simp; omega) (Nat.le_refl _) ?_; intro vw8 w8a ow8 gw8; rw [List.nil_append] at ow8; have bw8 : Below w6.heap.size w6 w8a := (⟨gw8.os, gw8.tape, gw8.output, gw8.size, fun i hi => gw8.block i hi (by simp [Value.ownBlock])⟩ : Below w6.heap.size w6 w8a); have OO := hide ow8; have BB := hide bw8; obtain ⟨aw8, cw8, hvw8⟩ := ow8.shape; rw [HFL.out.1] at hvw8; subst hvw8; clear ow8 gw8 bw8)
                      | (refine step_lseg rfl _ _ rfl w6.heap.size (.slice aw8 j cw8) ((q.map Prod.snd).take j) rfl OO.out w6.heap.size _ [] rfl (lseg_nil2 _ _ _ _ (by first | rfl | exact hl0)) (by rw [HFL.out.1]; simp; omega) BB.out.size ?_; intro vw8' w8 ow8 gw8; have BN := hide (below_app OO.out BB.out gw8); rw [HD0.out] at ow8; have H8 := hide (H6.out.new2 ow8 BN.out); obtain ⟨aw8', cw8', hvw8⟩ := ow8.shape; rw [List.length_map, hll] at hvw8; subst hvw8; clear ow8 gw8))
                  clear FR HFL hc0 hl0 HD0
                  go_wp2
                  go_meet
                  exact ⟨q.take j ++ q.drop (j + 1), _, by rw [hll]; omega, H8.out⟩
                · have RS : Hid (LSeg 1 i64cs w6.heap.size w6 (.slice (some ⟨g2, o2 + (j + 1), none⟩) (q.length - (j + 1)) (pc - (j + 1))) ((q.map Prod.snd).drop (j + 1))) := by
                    have := H6.out.r2.rest (j := j + 1) (by rw [List.length_map]; omega) (by rw [List.length_map]; omega)
                    rw [List.length_map] at this
                    exact this
                  have hcc2 : j + 1 < pc := by omega
                  have hcc3 : ¬ (pc - (j + 1) = 0) := by omega
                  go_region_held3 (fun _ => True) (first | go_keep | exact trivial)
                    (first
                      | (refine step_lseg rfl _ _ rfl w6.heap.size (.slice none 0 0) [] rfl (OwnL.nil _ _ _ _ _) w6.heap.size (.slice (some ⟨g2, o2, none⟩) j pc) ((q.map Prod.snd).take j) rfl FR.out (by rw [HFL.out.1]; simp; omega) (Nat.le_refl _) ?_; intro vw8 w8a ow8 gw8; rw [List.nil_append] at ow8; have bw8 : Below w6.heap.size w6 w8a := (⟨gw8.os, gw8.tape, gw8.output, gw8.size, fun i hi => gw8.block i hi (by simp [Value.ownBlock])⟩ : Below w6.heap.size w6 w8a); have LR := hide (RS.out.below bw8); have OO := hide ow8; have BB := hide bw8; obtain ⟨aw8, cw8, hvw8⟩ := ow8.shape; rw [HFL.out.1] at hvw8; subst hvw8; clear ow8 gw8 bw8)
                      | (refine step_lseg rfl _ _ rfl w6.heap.size (.slice aw8 j cw8) ((q.map Prod.snd).take j) rfl OO.out w6.heap.size (.slice (some ⟨g2, o2 + (j + 1), none⟩) (q.length - (j + 1)) (pc - (j + 1))) ((q.map Prod.snd).drop (j + 1)) rfl LR.out (by rw [HFL.out.1, HFL.out.2.1]; omega) BB.out.size ?_; intro vw8' w8 ow8 gw8; have BN := hide (below_app OO.out BB.out gw8); rw [HFL.out.2.2] at ow8; have H8 := hide (H6.out.new2 ow8 BN.out); obtain ⟨aw8', cw8', hvw8⟩ := ow8.shape; rw [List.length_map, hll] at hvw8; subst hvw8; clear ow8 gw8))
                  clear FR RS HFL hcc2 hcc3
                  go_wp2
                  go_meet
                  exact ⟨q.take j ++ q.drop (j + 1), _, by rw [hll]; omega, H8.out⟩
              · have RS : Hid (LSeg 1 i64cs w5.heap.size w5 (.slice (some ⟨g, o + (j + 1), none⟩) (q.length - (j + 1)) (qc - (j + 1))) ((q.map Prod.fst).drop (j + 1))) := by
                  have := H4.out.r1.rest (j := j + 1) (by rw [List.length_map]; omega) (by rw [List.length_map]; omega)
                  rw [List.length_map] at this
                  exact this
                have hcc2 : j + 1 < qc := by omega
                have hcc3 : ¬ (qc - (j + 1) = 0) := by omega
                go_region_held3 (fun _ => True) (first | go_keep | exact trivial)
                  (first
                    | (refine step_lseg rfl _ _ rfl w5.heap.size (.slice none 0 0) [] rfl (OwnL.nil _ _ _ _ _) w5.heap.size (.slice (some ⟨g, o, none⟩) j qc) ((q.map Prod.fst).take j) rfl FR.out (by rw [HFL.out.1]; simp; omega) (Nat.le_refl _) ?_; intro vw6 w6a ow6 gw6; rw [List.nil_append] at ow6; have bw6 : Below w5.heap.size w5 w6a := (⟨gw6.os, gw6.tape, gw6.output, gw6.size, fun i hi => gw6.block i hi (by simp [Value.ownBlock])⟩ : Below w5.heap.size w5 w6a); have LR := hide (RS.out.below bw6); have OO := hide ow6; have BB := hide bw6; obtain ⟨aw6, cw6, hvw6⟩ := ow6.shape; rw [HFL.out.1] at hvw6; subst hvw6; clear ow6 gw6 bw6)
                    | (refine step_lseg rfl _ _ rfl w5.heap.size (.slice aw6 j cw6) ((q.map Prod.fst).take j) rfl OO.out w5.heap.size (.slice (some ⟨g, o + (j + 1), none⟩) (q.length - (j + 1)) (qc - (j + 1))) ((q.map Prod.fst).drop (j + 1)) rfl LR.out (by rw [HFL.out.1, HFL.out.2.1]; omega) BB.out.size ?_; intro vw6' w6 ow6 gw6; have BN := hide (below_app OO.out BB.out gw6); rw [HFL.out.2.2] at ow6; have H6 := hide (H4.out.new1 ow6 BN.out); obtain ⟨aw6', cw6', hvw6⟩ := ow6.shape; rw [List.length_map, hll] at hvw6; subst hvw6; clear ow6 gw6))
                clear FR RS HFL hcc2 hcc3
                go_wp2_with fail
                have HFL : Hid (((q.map Prod.snd).take j).length = j ∧ ((q.map Prod.snd).drop (j + 1)).length = q.length - (j + 1) ∧ (q.map Prod.snd).take j ++ (q.map Prod.snd).drop (j + 1) = (q.take j ++ q.drop (j + 1)).map Prod.snd) := ⟨by rw [List.length_take, List.length_map]; omega, by rw [List.length_drop, List.length_map], by rw [List.map_append, List.map_take, List.map_drop]⟩
                have FR : Hid (LSeg 1 i64cs w6.heap.size w6.drew (.slice (some ⟨g2, o2, none⟩) j pc) ((q.map Prod.snd).take j)) := H6.out.r2.front (by rw [List.length_map]; omega) (by rw [List.length_map]; omega)
                have hi0 : (0 : Int) ≤ (j : Int) := by omega
                have hi1 : (j : Int) ≤ (pc : Int) := by omega
                have hi2 : (j : Int) + 1 ≤ (q.length : Int) := by omega
                have hi3 : (0 : Int) ≤ (j : Int) + 1 := by omega
                have hi4 : IntKind.i64.wrap ((j : Int) + 1) = (j : Int) + 1 := by rw [IntKind.wrap_i64]; omega
                have hi5 : ((j : Int) + 1).toNat = j + 1 := by omega
                have hi6 : (q.length : Int) ≤ (pc : Int) := by omega
                by_cases hccw8 : pc = j + 1
                · have hql : q.length = j + 1 := by omega
                  have HD0 : Hid ((q.map Prod.snd).take j ++ [] = (q.take j ++ q.drop (j + 1)).map Prod.snd) := by
                    have hdn : (q.map Prod.snd).drop (j + 1) = [] := List.drop_eq_nil_of_le (by rw [List.length_map]; omega)
                    show _ = _
                    rw [← HFL.out.2.2, hdn]
                  have hc0 : pc - (j + 1) = 0 := by omega
                  have hl0 : q.length - (j + 1) = 0 := by omega
                  have HQL := hide (And.intro hql hccw8)
                  have hcTw8 : (pc = j + 1) = True := eq_true hccw8
                  clear hql hccw8
                  go_region_held3 (fun _ => True) (first | go_keep | exact trivial)
                    (first
                      | (refine step_lseg rfl _ _ rfl w6.heap.size (.slice none 0 0) [] rfl (OwnL.nil _ _ _ _ _) w6.heap.size (.slice (some ⟨g2, o2, none⟩) j pc) ((q.map Prod.snd).take j) rfl FR.out (by rw [HFL.out.1]; simp; omega) (Nat.le_refl _) ?_; intro vw8 w8a ow8 gw8; rw [List.nil_append] at ow8; have bw8 : Below w6.heap.size w6 w8a := (⟨gw8.os, gw8.tape, gw8.output, gw8.size, fun i hi => gw8.block i hi (by simp [Value.ownBlock])⟩ : Below w6.heap.size w6 w8a); have OO := hide ow8; have BB := hide bw8; obtain ⟨aw8, cw8, hvw8⟩ := ow8.shape; rw [HFL.out.1] at hvw8; subst hvw8; clear ow8 gw8 bw8)
                      | (refine step_lseg rfl _ _ rfl w6.heap.size (.slice aw8 j cw8) ((q.map Prod.snd).take j) rfl OO.out w6.heap.size _ [] rfl (lseg_nil2 _ _ _ _ (by first | rfl | exact hl0)) (by rw [HFL.out.1]; simp; omega) BB.out.size ?_; intro vw8' w8 ow8 gw8; have BN := hide (below_app OO.out BB.out gw8); rw [HD0.out] at ow8; have H8 := hide (H6.out.new2 ow8 BN.out); obtain ⟨aw8', cw8', hvw8⟩ := ow8.shape; rw [List.length_map, hll] at hvw8; subst hvw8; clear ow8 gw8))
                  clear FR HFL hc0 hl0 HD0
                  go_wp2
                  go_meet
                  exact ⟨q.take j ++ q.drop (j + 1), _, by rw [hll]; omega, H8.out⟩
                · have RS : Hid (LSeg 1 i64cs w6.heap.size w6 (.slice (some ⟨g2, o2 + (j + 1), none⟩) (q.length - (j + 1)) (pc - (j + 1))) ((q.map Prod.snd).drop (j + 1))) := by
                    have := H6.out.r2.rest (j := j + 1) (by rw [List.length_map]; omega) (by rw [List.length_map]; omega)
                    rw [List.length_map] at this
                    exact this
                  have hcc2 : j + 1 < pc := by omega
                  have hcc3 : ¬ (pc - (j + 1) = 0) := by omega
                  go_region_held3 (fun _ => True) (first | go_keep | exact trivial)
                    (first
                      | (refine step_lseg rfl _ _ rfl w6.heap.size (.slice none 0 0) [] rfl (OwnL.nil _ _ _ _ _) w6.heap.size (.slice (some ⟨g2, o2, none⟩) j pc) ((q.map Prod.snd).take j) rfl FR.out (by rw [HFL.out.1]; simp; omega) (Nat.le_refl _) ?_; intro vw8 w8a ow8 gw8; rw [List.nil_append] at ow8; have bw8 : Below w6.heap.size w6 w8a := (⟨gw8.os, gw8.tape, gw8.output, gw8.size, fun i hi => gw8.block i hi (by simp [Value.ownBlock])⟩ : Below w6.heap.size w6 w8a); have LR := hide (RS.out.below bw8); have OO := hide ow8; have BB := hide bw8; obtain ⟨aw8, cw8, hvw8⟩ := ow8.shape; rw [HFL.out.1] at hvw8; subst hvw8; clear ow8 gw8 bw8)
                      | (refine step_lseg rfl _ _ rfl w6.heap.size (.slice aw8 j cw8) ((q.map Prod.snd).take j) rfl OO.out w6.heap.size (.slice (some ⟨g2, o2 + (j + 1), none⟩) (q.length - (j + 1)) (pc - (j + 1))) ((q.map Prod.snd).drop (j + 1)) rfl LR.out (by rw [HFL.out.1, HFL.out.2.1]; omega) BB.out.size ?_; intro vw8' w8 ow8 gw8; have BN := hide (below_app OO.out BB.out gw8); rw [HFL.out.2.2] at ow8; have H8 := hide (H6.out.new2 ow8 BN.out); obtain ⟨aw8', cw8', hvw8⟩ := ow8.shape; rw [List.length_map, hll] at hvw8; subst hvw8; clear ow8 gw8))
                  clear FR RS HFL hcc2 hcc3
                  go_wp2
                  go_meet
                  exact ⟨q.take j ++ q.drop (j + 1), _, by rw [hll]; omega, H8.out⟩
            · have hxb2 : (x != 2) = true := by simp [hx2]
              refine (cPickMI (q1 := q.take j) (q2 := q.drop (j + 1)) (x := (y1, y2)) HC.out hlen2 sn x hj2 hx1).mono ?_
              rintro r w4 ⟨rfl, fp4, l4, t4, g4⟩
              rw [if_neg hx2]
              have H4 := hide (H1.out.turn l4 t4 g4)
              have X4 := hide (HX.out.turnedL t4 hBf)
              have e1 : w4.cell? ⟨B, 1, none⟩ = some (.int .i64 x) := (X4.out.cellAt 1).trans rfl
              have e2 : w4.cell? ⟨B, 2, none⟩ = some (.int .i64 sn) := (X4.out.cellAt 2).trans rfl
              obtain ⟨g, o, ca, hv, hr⟩ := H4.out.r1.read i64cs_len (i := j) (x := y1) (by rw [List.getElem?_map, hy]; rfl)
              rw [List.length_map] at hv
              cases hv
              obtain ⟨g2, o2, ca2, hv, hr2⟩ := H4.out.r2.read i64cs_len (i := j) (x := y2) (by rw [List.getElem?_map, hy]; rfl)
              rw [List.length_map] at hv
              cases hv
              have e3 : w4.cell? ⟨g, o + j, none⟩ = some (.int .i64 y1) := by simpa using hr 0 _ rfl
              have e4 : w4.cell? ⟨g2, o2 + j, none⟩ = some (.int .i64 y2) := by simpa using hr2 0 _ rfl
              have hpl := hide (Place_any w4 sn (q.length : Int) (by omega) (by omega))
              rw [hj] at hpl
              have hc1 : q.length ≤ qc ∧ qc ≤ maxLen := by
                rcases H4.out.r1 with ⟨h, _⟩ | ⟨_, _, _, _, e, _, _, h4, h5, _⟩
                · cases h
                · rw [List.length_map] at e h4; cases e; exact ⟨h4, h5⟩
              have hc2 : q.length ≤ pc ∧ pc ≤ maxLen := by
                rcases H4.out.r2 with ⟨h, _⟩ | ⟨_, _, _, _, e, _, _, h4, h5, _⟩
                · cases h
                · rw [List.length_map] at e h4; cases e; exact ⟨h4, h5⟩
              obtain ⟨hc1, hc1'⟩ := hc1
              obtain ⟨hc2, hc2'⟩ := hc2
              unfold maxLen at hc1' hc2'
              clear l4 t4 g4 H1 HX HC f1 f2 hr hr2 hj hj2
              go_wp2_with (first | (go_at_call 18; refine hpl.out.mono ?_; rintro r w5 ⟨rfl, rfl⟩) | fail)
              have hll : (q.take j ++ q.drop (j + 1)).length = q.length - 1 := by rw [List.length_append, List.length_take, List.length_drop]; omega
              have HFL : Hid (((q.map Prod.fst).take j).length = j ∧ ((q.map Prod.fst).drop (j + 1)).length = q.length - (j + 1) ∧ (q.map Prod.fst).take j ++ (q.map Prod.fst).drop (j + 1) = (q.take j ++ q.drop (j + 1)).map Prod.fst) := ⟨by rw [List.length_take, List.length_map]; omega, by rw [List.length_drop, List.length_map], by rw [List.map_append, List.map_take, List.map_drop]⟩
              have FR : Hid (LSeg 1 i64cs w5.heap.size w5.drew (.slice (some ⟨g, o, none⟩) j qc) ((q.map Prod.fst).take j)) := H4.out.r1.front (by rw [List.length_map]; omega) (by rw [List.length_map]; omega)
              have hi0 : (0 : Int) ≤ (j : Int) := by omega
              have hi1 : (j : Int) ≤ (qc : Int) := by omega
              have hi2 : (j : Int) + 1 ≤ (q.length : Int) := by omega
              have hi3 : (0 : Int) ≤ (j : Int) + 1 := by omega
              have hi4 : IntKind.i64.wrap ((j : Int) + 1) = (j : Int) + 1 := by rw [IntKind.wrap_i64]; omega
              have hi5 : ((j : Int) + 1).toNat = j + 1 := by omega
              have hi6 : (q.length : Int) ≤ (qc : Int) := by omega
              by_cases hccw6 : qc = j + 1
              · have hql : q.length = j + 1 := by omega
                have HD0 : Hid ((q.map Prod.fst).take j ++ [] = (q.take j ++ q.drop (j + 1)).map Prod.fst) := by
                  have hdn : (q.map Prod.fst).drop (j + 1) = [] := List.drop_eq_nil_of_le (by rw [List.length_map]; omega)
                  show _ = _
                  rw [← HFL.out.2.2, hdn]
                have hc0 : qc - (j + 1) = 0 := by omega
                have hl0 : q.length - (j + 1) = 0 := by omega
                have HQL := hide (And.intro hql hccw6)
                have hcTw6 : (qc = j + 1) = True := eq_true hccw6
                clear hql hccw6
                go_region_held3 (fun _ => True) (first | go_keep | exact trivial)
                  (first
                    | (refine step_lseg rfl _ _ rfl w5.heap.size (.slice none 0 0) [] rfl (OwnL.nil _ _ _ _ _) w5.heap.size (.slice (some ⟨g, o, none⟩) j qc) ((q.map Prod.fst).take j) rfl FR.out (by rw [HFL.out.1]; simp; omega) (Nat.le_refl _) ?_; intro vw6 w6a ow6 gw6; rw [List.nil_append] at ow6; have bw6 : Below w5.heap.size w5 w6a := (⟨gw6.os, gw6.tape, gw6.output, gw6.size, fun i hi => gw6.block i hi (by simp [Value.ownBlock])⟩ : Below w5.heap.size w5 w6a); have OO := hide ow6; have BB := hide bw6; obtain ⟨aw6, cw6, hvw6⟩ := ow6.shape; rw [HFL.out.1] at hvw6; subst hvw6; clear ow6 gw6 bw6)
                    | (refine step_lseg rfl _ _ rfl w5.heap.size (.slice aw6 j cw6) ((q.map Prod.fst).take j) rfl OO.out w5.heap.size _ [] rfl (lseg_nil2 _ _ _ _ (by first | rfl | exact hl0)) (by rw [HFL.out.1]; simp; omega) BB.out.size ?_; intro vw6' w6 ow6 gw6; have BN := hide (below_app OO.out BB.out gw6); rw [HD0.out] at ow6; have H6 := hide (H4.out.new1 ow6 BN.out); obtain ⟨aw6', cw6', hvw6⟩ := ow6.shape; rw [List.length_map, hll] at hvw6; subst hvw6; clear ow6 gw6))
                clear FR HFL hc0 hl0 HD0
                go_wp2_with fail
                have HFL : Hid (((q.map Prod.snd).take j).length = j ∧ ((q.map Prod.snd).drop (j + 1)).length = q.length - (j + 1) ∧ (q.map Prod.snd).take j ++ (q.map Prod.snd).drop (j + 1) = (q.take j ++ q.drop (j + 1)).map Prod.snd) := ⟨by rw [List.length_take, List.length_map]; omega, by rw [List.length_drop, List.length_map], by rw [List.map_append, List.map_take, List.map_drop]⟩
                have FR : Hid (LSeg 1 i64cs w6.heap.size w6.drew (.slice (some ⟨g2, o2, none⟩) j pc) ((q.map Prod.snd).take j)) := H6.out.r2.front (by rw [List.length_map]; omega) (by rw [List.length_map]; omega)
                have hi0 : (0 : Int) ≤ (j : Int) := by omega
                have hi1 : (j : Int) ≤ (pc : Int) := by omega
                have hi2 : (j : Int) + 1 ≤ (q.length : Int) := by omega
                have hi3 : (0 : Int) ≤ (j : Int) + 1 := by omega
                have hi4 : IntKind.i64.wrap ((j : Int) + 1) = (j : Int) + 1 := by rw [IntKind.wrap_i64]; omega
                have hi5 : ((j : Int) + 1).toNat = j + 1 := by omega
                have hi6 : (q.length : Int) ≤ (pc : Int) := by omega
                by_cases hccw8 : pc = j + 1
                · have hql : q.length = j + 1 := by omega
                  have HD0 : Hid ((q.map Prod.snd).take j ++ [] = (q.take j ++ q.drop (j + 1)).map Prod.snd) := by
                    have hdn : (q.map Prod.snd).drop (j + 1) = [] := List.drop_eq_nil_of_le (by rw [List.length_map]; omega)
                    show _ = _
                    rw [← HFL.out.2.2, hdn]
                  have hc0 : pc - (j + 1) = 0 := by omega
                  have hl0 : q.length - (j + 1) = 0 := by omega
                  have HQL := hide (And.intro hql hccw8)
                  have hcTw8 : (pc = j + 1) = True := eq_true hccw8
                  clear hql hccw8
                  go_region_held3 (fun _ => True) (first | go_keep | exact trivial)
                    (first
                      | (refine step_lseg rfl _ _ rfl w6.heap.size (.slice none 0 0) [] rfl (OwnL.nil _ _ _ _ _) w6.heap.size (.slice (some ⟨g2, o2, none⟩) j pc) ((q.map Prod.snd).take j) rfl FR.out (by rw [HFL.out.1]; simp; omega) (Nat.le_refl _) ?_; intro vw8 w8a ow8 gw8; rw [List.nil_append] at ow8; have bw8 : Below w6.heap.size w6 w8a := (⟨gw8.os, gw8.tape, gw8.output, gw8.size, fun i hi => gw8.block i hi (by simp [Value.ownBlock])⟩ : Below w6.heap.size w6 w8a); have OO := hide ow8; have BB := hide bw8; obtain ⟨aw8, cw8, hvw8⟩ := ow8.shape; rw [HFL.out.1] at hvw8; subst hvw8; clear ow8 gw8 bw8)
                      | (refine step_lseg rfl _ _ rfl w6.heap.size (.slice aw8 j cw8) ((q.map Prod.snd).take j) rfl OO.out w6.heap.size _ [] rfl (lseg_nil2 _ _ _ _ (by first | rfl | exact hl0)) (by rw [HFL.out.1]; simp; omega) BB.out.size ?_; intro vw8' w8 ow8 gw8; have BN := hide (below_app OO.out BB.out gw8); rw [HD0.out] at ow8; have H8 := hide (H6.out.new2 ow8 BN.out); obtain ⟨aw8', cw8', hvw8⟩ := ow8.shape; rw [List.length_map, hll] at hvw8; subst hvw8; clear ow8 gw8))
                  clear FR HFL hc0 hl0 HD0
                  go_wp2
                  go_meet
                  exact ⟨q.take j ++ q.drop (j + 1), _, by rw [hll]; omega, H8.out⟩
                · have RS : Hid (LSeg 1 i64cs w6.heap.size w6 (.slice (some ⟨g2, o2 + (j + 1), none⟩) (q.length - (j + 1)) (pc - (j + 1))) ((q.map Prod.snd).drop (j + 1))) := by
                    have := H6.out.r2.rest (j := j + 1) (by rw [List.length_map]; omega) (by rw [List.length_map]; omega)
                    rw [List.length_map] at this
                    exact this
                  have hcc2 : j + 1 < pc := by omega
                  have hcc3 : ¬ (pc - (j + 1) = 0) := by omega
                  go_region_held3 (fun _ => True) (first | go_keep | exact trivial)
                    (first
                      | (refine step_lseg rfl _ _ rfl w6.heap.size (.slice none 0 0) [] rfl (OwnL.nil _ _ _ _ _) w6.heap.size (.slice (some ⟨g2, o2, none⟩) j pc) ((q.map Prod.snd).take j) rfl FR.out (by rw [HFL.out.1]; simp; omega) (Nat.le_refl _) ?_; intro vw8 w8a ow8 gw8; rw [List.nil_append] at ow8; have bw8 : Below w6.heap.size w6 w8a := (⟨gw8.os, gw8.tape, gw8.output, gw8.size, fun i hi => gw8.block i hi (by simp [Value.ownBlock])⟩ : Below w6.heap.size w6 w8a); have LR := hide (RS.out.below bw8); have OO := hide ow8; have BB := hide bw8; obtain ⟨aw8, cw8, hvw8⟩ := ow8.shape; rw [HFL.out.1] at hvw8; subst hvw8; clear ow8 gw8 bw8)
                      | (refine step_lseg rfl _ _ rfl w6.heap.size (.slice aw8 j cw8) ((q.map Prod.snd).take j) rfl OO.out w6.heap.size (.slice (some ⟨g2, o2 + (j + 1), none⟩) (q.length - (j + 1)) (pc - (j + 1))) ((q.map Prod.snd).drop (j + 1)) rfl LR.out (by rw [HFL.out.1, HFL.out.2.1]; omega) BB.out.size ?_; intro vw8' w8 ow8 gw8; have BN := hide (below_app OO.out BB.out gw8); rw [HFL.out.2.2] at ow8; have H8 := hide (H6.out.new2 ow8 BN.out); obtain ⟨aw8', cw8', hvw8⟩ := ow8.shape; rw [List.length_map, hll] at hvw8; subst hvw8; clear ow8 gw8))
                  clear FR RS HFL hcc2 hcc3
                  go_wp2
                  go_meet
                  exact ⟨q.take j ++ q.drop (j + 1), _, by rw [hll]; omega, H8.out⟩
              · have RS : Hid (LSeg 1 i64cs w5.heap.size w5 (.slice (some ⟨g, o + (j + 1), none⟩) (q.length - (j + 1)) (qc - (j + 1))) ((q.map Prod.fst).drop (j + 1))) := by
                  have := H4.out.r1.rest (j := j + 1) (by rw [List.length_map]; omega) (by rw [List.length_map]; omega)
                  rw [List.length_map] at this
                  exact this
                have hcc2 : j + 1 < qc := by omega
                have hcc3 : ¬ (qc - (j + 1) = 0) := by omega
                go_region_held3 (fun _ => True) (first | go_keep | exact trivial)
                  (first
                    | (refine step_lseg rfl _ _ rfl w5.heap.size (.slice none 0 0) [] rfl (OwnL.nil _ _ _ _ _) w5.heap.size (.slice (some ⟨g, o, none⟩) j qc) ((q.map Prod.fst).take j) rfl FR.out (by rw [HFL.out.1]; simp; omega) (Nat.le_refl _) ?_; intro vw6 w6a ow6 gw6; rw [List.nil_append] at ow6; have bw6 : Below w5.heap.size w5 w6a := (⟨gw6.os, gw6.tape, gw6.output, gw6.size, fun i hi => gw6.block i hi (by simp [Value.ownBlock])⟩ : Below w5.heap.size w5 w6a); have LR := hide (RS.out.below bw6); have OO := hide ow6; have BB := hide bw6; obtain ⟨aw6, cw6, hvw6⟩ := ow6.shape; rw [HFL.out.1] at hvw6; subst hvw6; clear ow6 gw6 bw6)
                    | (refine step_lseg rfl _ _ rfl w5.heap.size (.slice aw6 j cw6) ((q.map Prod.fst).take j) rfl OO.out w5.heap.size (.slice (some ⟨g, o + (j + 1), none⟩) (q.length - (j + 1)) (qc - (j + 1))) ((q.map Prod.fst).drop (j + 1)) rfl LR.out (by rw [HFL.out.1, HFL.out.2.1]; omega) BB.out.size ?_; intro vw6' w6 ow6 gw6; have BN := hide (below_app OO.out BB.out gw6); rw [HFL.out.2.2] at ow6; have H6 := hide (H4.out.new1 ow6 BN.out); obtain ⟨aw6', cw6', hvw6⟩ := ow6.shape; rw [List.length_map, hll] at hvw6; subst hvw6; clear ow6 gw6))
                clear FR RS HFL hcc2 hcc3
                go_wp2_with fail
                have HFL : Hid (((q.map Prod.snd).take j).length = j ∧ ((q.map Prod.snd).drop (j + 1)).length = q.length - (j + 1) ∧ (q.map Prod.snd).take j ++ (q.map Prod.snd).drop (j + 1) = (q.take j ++ q.drop (j + 1)).map Prod.snd) := ⟨by rw [List.length_take, List.length_map]; omega, by rw [List.length_drop, List.length_map], by rw [List.map_append, List.map_take, List.map_drop]⟩
                have FR : Hid (LSeg 1 i64cs w6.heap.size w6.drew (.slice (some ⟨g2, o2, none⟩) j pc) ((q.map Prod.snd).take j)) := H6.out.r2.front (by rw [List.length_map]; omega) (by rw [List.length_map]; omega)
                have hi0 : (0 : Int) ≤ (j : Int) := by omega
                have hi1 : (j : Int) ≤ (pc : Int) := by omega
                have hi2 : (j : Int) + 1 ≤ (q.length : Int) := by omega
                have hi3 : (0 : Int) ≤ (j : Int) + 1 := by omega
                have hi4 : IntKind.i64.wrap ((j : Int) + 1) = (j : Int) + 1 := by rw [IntKind.wrap_i64]; omega
                have hi5 : ((j : Int) + 1).toNat = j + 1 := by omega
                have hi6 : (q.length : Int) ≤ (pc : Int) := by omega
                by_cases hccw8 : pc = j + 1
                · have hql : q.length = j + 1 := by omega
                  have HD0 : Hid ((q.map Prod.snd).take j ++ [] = (q.take j ++ q.drop (j + 1)).map Prod.snd) := by
                    have hdn : (q.map Prod.snd).drop (j + 1) = [] := List.drop_eq_nil_of_le (by rw [List.length_map]; omega)
                    show _ = _
                    rw [← HFL.out.2.2, hdn]
                  have hc0 : pc - (j + 1) = 0 := by omega
                  have hl0 : q.length - (j + 1) = 0 := by omega
                  have HQL := hide (And.intro hql hccw8)
                  have hcTw8 : (pc = j + 1) = True := eq_true hccw8
                  clear hql hccw8
                  go_region_held3 (fun _ => True) (first | go_keep | exact trivial)
                    (first
                      | (refine step_lseg rfl _ _ rfl w6.heap.size (.slice none 0 0) [] rfl (OwnL.nil _ _ _ _ _) w6.heap.size (.slice (some ⟨g2, o2, none⟩) j pc) ((q.map Prod.snd).take j) rfl FR.out (by rw [HFL.out.1]; simp; omega) (Nat.le_refl _) ?_; intro vw8 w8a ow8 gw8; rw [List.nil_append] at ow8; have bw8 : Below w6.heap.size w6 w8a := (⟨gw8.os, gw8.tape, gw8.output, gw8.size, fun i hi => gw8.block i hi (by simp [Value.ownBlock])⟩ : Below w6.heap.size w6 w8a); have OO := hide ow8; have BB := hide bw8; obtain ⟨aw8, cw8, hvw8⟩ := ow8.shape; rw [HFL.out.1] at hvw8; subst hvw8; clear ow8 gw8 bw8)
                      | (refine step_lseg rfl _ _ rfl w6.heap.size (.slice aw8 j cw8) ((q.map Prod.snd).take j) rfl OO.out w6.heap.size _ [] rfl (lseg_nil2 _ _ _ _ (by first | rfl | exact hl0)) (by rw [HFL.out.1]; simp; omega) BB.out.size ?_; intro vw8' w8 ow8 gw8; have BN := hide (below_app OO.out BB.out gw8); rw [HD0.out] at ow8; have H8 := hide (H6.out.new2 ow8 BN.out); obtain ⟨aw8', cw8', hvw8⟩ := ow8.shape; rw [List.length_map, hll] at hvw8; subst hvw8; clear ow8 gw8))
                  clear FR HFL hc0 hl0 HD0
                  go_wp2
                  go_meet
                  exact ⟨q.take j ++ q.drop (j + 1), _, by rw [hll]; omega, H8.out⟩
                · have RS : Hid (LSeg 1 i64cs w6.heap.size w6 (.slice (some ⟨g2, o2 + (j + 1), none⟩) (q.length - (j + 1)) (pc - (j + 1))) ((q.map Prod.snd).drop (j + 1))) := by
                    have := H6.out.r2.rest (j := j + 1) (by rw [List.length_map]; omega) (by rw [List.length_map]; omega)
                    rw [List.length_map] at this
                    exact this
                  have hcc2 : j + 1 < pc := by omega
                  have hcc3 : ¬ (pc - (j + 1) = 0) := by omega
                  go_region_held3 (fun _ => True) (first | go_keep | exact trivial)
                    (first
                      | (refine step_lseg rfl _ _ rfl w6.heap.size (.slice none 0 0) [] rfl (OwnL.nil _ _ _ _ _) w6.heap.size (.slice (some ⟨g2, o2, none⟩) j pc) ((q.map Prod.snd).take j) rfl FR.out (by rw [HFL.out.1]; simp; omega) (Nat.le_refl _) ?_; intro vw8 w8a ow8 gw8; rw [List.nil_append] at ow8; have bw8 : Below w6.heap.size w6 w8a := (⟨gw8.os, gw8.tape, gw8.output, gw8.size, fun i hi => gw8.block i hi (by simp [Value.ownBlock])⟩ : Below w6.heap.size w6 w8a); have LR := hide (RS.out.below bw8); have OO := hide ow8; have BB := hide bw8; obtain ⟨aw8, cw8, hvw8⟩ := ow8.shape; rw [HFL.out.1] at hvw8; subst hvw8; clear ow8 gw8 bw8)
                      | (refine step_lseg rfl _ _ rfl w6.heap.size (.slice aw8 j cw8) ((q.map Prod.snd).take j) rfl OO.out w6.heap.size (.slice (some ⟨g2, o2 + (j + 1), none⟩) (q.length - (j + 1)) (pc - (j + 1))) ((q.map Prod.snd).drop (j + 1)) rfl LR.out (by rw [HFL.out.1, HFL.out.2.1]; omega) BB.out.size ?_; intro vw8' w8 ow8 gw8; have BN := hide (below_app OO.out BB.out gw8); rw [HFL.out.2.2] at ow8; have H8 := hide (H6.out.new2 ow8 BN.out); obtain ⟨aw8', cw8', hvw8⟩ := ow8.shape; rw [List.length_map, hll] at hvw8; subst hvw8; clear ow8 gw8))
                  clear FR RS HFL hcc2 hcc3
                  go_wp2
                  go_meet
                  exact ⟨q.take j ++ q.drop (j + 1), _, by rw [hll]; omega, H8.out⟩
    · obtain rfl : i = xs.length := by omega
      go_wp2
      go_ret
      exact ⟨rfl, HI.out.bel⟩
end Go.Proofs.Ytcjjhgfjfeecmaa
