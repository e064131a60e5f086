/-
  The law NetLink, walked.
-/
import Derived.Test.YtcjjhgfjfeecmaaNKnown
import Derived.Test.YtcjjhgfjfeecmaaNAll
import Derived.Deep.CutBlock
import Derived.Deep.CutRange
namespace Go.Proofs.Ytcjjhgfjfeecmaa
open Go.RowKit

/-- A link, and the law's list beside it. -/
structure NI (W w : World) (K : Nat) (fp : List Nat) (e : Int) (vq : Value) (qt q : List Int) : Prop where
  lk : LkI w fp K e qt
  row : Row 3 1 i64cs W.heap.size w vq q
  bel : Below W.heap.size W w
  new : ∀ i ∈ fp, W.heap.size ≤ i
  d : ∀ g, vq.ownBlock = some g → g ∉ fp
section
variable {W w w' : World} {K : Nat} {fp fp' : List Nat} {e e' : Int} {vq : Value} {qt qt' q q' : List Int}
theorem NI.below (H : NI W w K fp e vq qt q) (hb : Below w.heap.size w w') : NI W w' K fp e vq qt q :=
  ⟨H.lk.below hb, H.row.below hb, H.bel.trans (hb.mono H.bel.size), H.new, H.d⟩
theorem NI.turn (H : NI W w K fp e vq qt q) (hl : LkI w' fp' K e' qt') (ht : TurnedL fp w w') (hg : Grew fp fp' w) : NI W w' K fp' e' vq qt' q := by
  have hs := H.bel.size
  have hlt : ∀ g, vq.ownBlock = some g → g < w.heap.size := fun g e => by obtain ⟨cur, h⟩ := H.row.has g e; exact h.lt
  refine ⟨hl, H.row.back (fun g e => ht.block g (hlt g e) (H.d g e)), ht.below H.bel H.new, fun i hi => ?_, fun g e hm => ?_⟩
  · rcases hg i hi with h | h
    · exact H.new i h
    · omega
  · rcases hg g hm with h | h
    · exact H.d g e h
    · have := hlt g e; omega
theorem NI.rowed (H : NI W w K fp e vq qt q) {v' : Value} (h1 : Row 3 1 i64cs W.heap.size w' v' q') (hg : w.grownBy w' vq.ownBlock) (hat : ∀ g, v'.ownBlock = some g → vq.ownBlock = some g ∨ w.heap.size ≤ g) : NI W w' K fp e v' qt q' := by
  refine ⟨H.lk.back hg.size (fun i hi => hg.block i (H.lk.lt i hi) (fun e => H.d i e.symm hi)), h1, ?_, H.new, fun g e hm => ?_⟩
  · exact ⟨hg.os.trans H.bel.os, hg.tape.trans H.bel.tape, hg.output.trans H.bel.output, Nat.le_trans H.bel.size hg.size, fun i hi => (hg.block i (Nat.lt_of_lt_of_le hi H.bel.size) (fun e => by have := H.row.at i e.symm; omega)).trans (H.bel.block i hi)⟩
  · rcases hat g e with h | h
    · exact H.d g h hm
    · have := H.lk.lt g hm; omega
theorem NI.noRow (H : NI W w K fp e vq qt q) : NI W w K fp e (.slice none 0 0) qt [] := ⟨H.lk, Row.nil _ _ _ _ _, H.bel, H.new, fun g e => (by cases e)⟩
theorem NI.tail {x : Int} {pa : Option Addr} {n pc : Nat} (H : NI W w K fp e (.slice pa n pc) qt (x :: q)) : ∃ g off, pa = some ⟨g, off, none⟩ ∧ n = q.length + 1 ∧ 1 ≤ pc ∧ w.cell? ⟨g, off, none⟩ = some (.int .i64 x) ∧
    (pc ≠ 1 → NI W w K fp e (.slice (some ⟨g, off + 1, none⟩) q.length (pc - 1)) qt q) ∧ (pc = 1 → q = [] ∧ NI W w K fp e (.slice (some ⟨g, off, none⟩) 0 0) qt q) := by
  obtain ⟨g, off, rfl, h1, h2, h3, h4⟩ := H.row.tail i64cs_len
  obtain ⟨g', off', cap', e, hr⟩ := H.row.read i64cs_len (i := 0) rfl
  cases e
  refine ⟨g, off, rfl, h1, h2, by simpa using hr 0 _ rfl, fun hc => H.rowed (h3 hc) (grownBy_refl _ _) (fun g e => .inl e), fun hc => ?_⟩
  obtain ⟨h5, rfl⟩ := h4 hc
  exact ⟨rfl, H.rowed h5 (grownBy_refl _ _) (fun g e => .inl e)⟩
end
set_option maxHeartbeats 16000000 in
set_option maxRecDepth 100000 in
theorem NetLink_walk (w : World) (ep : Int) (ao : Option Addr) (cap : Nat) (xs : List Stp) (hs : Hid (LSeg 3 Stp.cs w.heap.size w (.slice ao xs.length cap) xs)) :
    Calls Try.prog 3 #[.int .u64 ep, .slice ao xs.length cap] w fun e w' => e = .returned (.bool true) ∧ Below w.heap.size w w' := by
  have hknown := known_any w
  have hlen : xs.length ≤ 140737488355328 := by obtain ⟨_, _, e, h2, _⟩ := hs.out; exact h2
  go_enter Try.func3, Try.ntmps3
  go_wp2_with fail
  refine hknown.mono ?_
  rintro e w1 ⟨rfl, hb1⟩
  clear hknown
  have HB1 := hide hb1
  clear hb1
  by_cases hl : xs.length ≤ 500
  rotate_left
  · go_wp2
    go_ret
    exact ⟨rfl, HB1.out⟩
  go_wp2_with fail
  go_at_call 7
  refine (lNewI w1 ep).mono ?_
  rintro e w3 ⟨rfl, r3, l3⟩
  have hsz := HB1.out.size
  have HT : Hid (∃ fp, NI w w3 w1.heap.size fp ep (.slice none 0 0) [] []) :=
    ⟨_, r3, Row.nil _ _ _ _ _, HB1.out.trans (l3.mono hsz), fun i hi => by rw [List.mem_singleton.1 hi]; exact hsz, fun g e => (by cases e)⟩
  clear r3 l3 hsz HB1
  generalize w1.heap.size = K at *
  go_wp2_with fail
  go_loopw [0, 6, 7] (fun ev qv iv wr => ∃ (e : Int) (i : Nat) (q : List Int), i ≤ xs.length ∧ ev = .int .u64 e ∧ iv = .int .i64 i ∧ q.length ≤ i ∧ Hid (∃ fp, NI w wr K fp e qv q q)) (fun _ _ iv _ => xs.length - (intOf iv).toNat)
  case atStart => exact ⟨ep, 0, [], Nat.zero_le _, rfl, rfl, by simp, HT.out⟩
  case round =>
    obtain ⟨e, i, q, hi, rfl, rfl, hq, fp, HI⟩ := hrel
    obtain ⟨qa, qc, rfl⟩ := HI.row.shape
    replace HI := hide HI
    by_cases hlt : i < xs.length
    · obtain ⟨t, ht⟩ : ∃ t, xs[i]? = some t := ⟨_, List.getElem?_eq_getElem hlt⟩
      obtain ⟨bb, off, rfl, hbb, c0, d0, f0⟩ := (hs.out.below HI.out.bel).stp ht
      obtain ⟨wh, x, sn⟩ := t
      dsimp only at c0 d0 f0
      clear ht
      go_upto_block 2 with fail
      have bx : BoxT 29 (wr.alloc (.cells #[.int .i64 wh, .int .i64 x, .int .i64 sn] 29)) wr.heap.size #[.int .i64 wh, .int .i64 x, .int .i64 sn] := BoxT.new _ _ _
      have H1 := hide (HI.out.below ((Below.refl wr.heap.size wr).alloc (Nat.le_refl _) (.cells #[.int .i64 wh, .int .i64 x, .int .i64 sn] 29)))
      have e1 : (wr.alloc (.cells #[.int .i64 wh, .int .i64 x, .int .i64 sn] 29)).cell? ⟨wr.heap.size, 1, none⟩ = some (.int .i64 x) := (bx.cellAt 1).trans rfl
      have hBf : wr.heap.size ∉ fp := fun h => Nat.lt_irrefl _ (HI.out.lk.lt _ h)
      clear HI c0 d0 f0
      generalize wr.alloc (.cells #[.int .i64 wh, .int .i64 x, .int .i64 sn] 29) = wa at *
      generalize IntKind.u64.wrap (IntKind.u64.wrap (e + IntKind.u64.wrap (bits BinOp.and IntKind.i64 sn 3)) - 1) = n
      generalize IntKind.u64.wrap (e + IntKind.u64.wrap (bits BinOp.and IntKind.i64 sn 3)) = n1
      generalize IntKind.u64.wrap (bits BinOp.and IntKind.i64 sn 3) = n2
      generalize bits BinOp.and IntKind.i64 sn 3 = n3
      have HX := hide bx
      generalize wr.heap.size = B at *
      clear bx
      go_cut [0, 6, 10, 11, 12] from 39 to 107 (fun ev qv _ _ _ wx => ∃ (e2 : Int) (q2 : List Int) (fp2 : List Nat), ev = .int .u64 e2 ∧ q2.length ≤ i + 1 ∧ NI w wx K fp2 e2 qv q2 q2)
      case rest =>
        clear H1 e1 HX
        obtain ⟨e2, q2, fp2, rfl, hl2, H7⟩ := hcut
        obtain ⟨a7, c7, rfl⟩ := H7.row.shape
        have hEp := hide (lEpochI H7.lk)
        have hLn := hide (lLenI H7.lk)
        have hAl := hide (lAllI H7.lk (by omega))
        replace H7 := hide H7
        go_wp2_with (first
          | (go_at_call 11; refine hEp.out.mono ?_; rintro r w8 ⟨rfl, rfl⟩)
          | (go_at_call 12; refine hLn.out.mono ?_; rintro r w9 ⟨rfl, rfl⟩)
          | (go_at_call 14; refine hAl.out.mono ?_; rintro r w10 ⟨v10, rfl, o10, b10⟩; have H10 := hide (H7.out.below b10); have hin := hide (Ints_any ((Row.of_own o10).lseg (by omega)) (H10.out.row.lseg (by omega))); obtain ⟨a10, c10, hv10⟩ := o10.shape; subst hv10; clear b10 o10)
          | (go_at_call 13; refine hin.out.mono ?_; rintro r w11 ⟨rfl, b11⟩; have H11 := hide (H10.out.below b11); clear b11)
          | fail)
        go_roundw
        case rel => exact ⟨e2, i + 1, q2, by omega, rfl, by go_num, hl2, _, H11.out⟩
        case measure => simp [intOf]; omega
      case first =>
      by_cases hw0 : wh = 0
      · subst hw0
        go_wp2_with fail
        go_at_call 8
        refine (lSendI H1.out.lk (by omega) x n).mono ?_
        rintro r w4 ⟨rfl, fp4, l4, t4, g4⟩
        have H4 := hide (H1.out.turn l4 t4 g4)
        have x4 := HX.out.turnedL t4 hBf
        have e4 : w4.cell? ⟨B, 1, none⟩ = some (.int .i64 x) := (x4.cellAt 1).trans rfl
        clear l4 t4 g4 H1 e1 HX x4
        by_cases hne : n = e
        · subst hne
          rw [if_pos rfl] at H4 ⊢
          have ba : Below w4.heap.size w4 (w4.alloc (.cells #[.int .i64 x] 3)) := (Below.refl _ _).alloc (Nat.le_refl _) _
          have H6 := hide (H4.out.below ba)
          have hz6 := H6.out.bel.size
          clear ba H4
          go_wp2_with (first | (at_builtin; refine app_row Try.info3' Try.underlying27 rfl (by decide) (by decide) i64cs_len i64cs_one rfl _ _ rfl w.heap.size _ q rfl H6.out.row ⟨w4.heap.size, 0, none⟩ 1 x rfl (fun j u hu => by match j, hu with | 0, hu => simp [i64cs] at hu; subst hu; simp [Addr.add]) (by omega) hz6 ?_) | fail)
          intro v7 w7 hr7 hg7 hat7
          have H7 := hide (H6.out.rowed hr7 hg7 (fun g e => (hat7 g e).imp id (fun h => by simpa using h)))
          have hl2 : (q ++ [x]).length ≤ i + 1 := by simp only [List.length_append, List.length_singleton]; omega
          obtain ⟨a7, c7, rfl⟩ := hr7.shape
          clear hr7 hg7 hat7 H6
          generalize q ++ [x] = q2 at *
          go_wp2
          go_meet
          exact ⟨n, q2, _, rfl, hl2, H7.out⟩
        · rw [if_neg hne] at H4 ⊢
          go_wp2
          go_meet
          exact ⟨e, q, _, rfl, by omega, H4.out⟩
      by_cases hw1 : wh = 1
      · subst hw1
        go_wp2_with fail
        go_at_call 8
        refine (lSendI H1.out.lk (by omega) x n).mono ?_
        rintro r w4 ⟨rfl, fp4, l4, t4, g4⟩
        have H4 := hide (H1.out.turn l4 t4 g4)
        have x4 := HX.out.turnedL t4 hBf
        have e4 : w4.cell? ⟨B, 1, none⟩ = some (.int .i64 x) := (x4.cellAt 1).trans rfl
        clear l4 t4 g4 H1 e1 HX x4
        by_cases hne : n = e
        · subst hne
          rw [if_pos rfl] at H4 ⊢
          have ba : Below w4.heap.size w4 (w4.alloc (.cells #[.int .i64 x] 3)) := (Below.refl _ _).alloc (Nat.le_refl _) _
          have H6 := hide (H4.out.below ba)
          have hz6 := H6.out.bel.size
          clear ba H4
          go_wp2_with (first | (at_builtin; refine app_row Try.info3' Try.underlying27 rfl (by decide) (by decide) i64cs_len i64cs_one rfl _ _ rfl w.heap.size _ q rfl H6.out.row ⟨w4.heap.size, 0, none⟩ 1 x rfl (fun j u hu => by match j, hu with | 0, hu => simp [i64cs] at hu; subst hu; simp [Addr.add]) (by omega) hz6 ?_) | fail)
          intro v7 w7 hr7 hg7 hat7
          have H7 := hide (H6.out.rowed hr7 hg7 (fun g e => (hat7 g e).imp id (fun h => by simpa using h)))
          have hl2 : (q ++ [x]).length ≤ i + 1 := by simp only [List.length_append, List.length_singleton]; omega
          obtain ⟨a7, c7, rfl⟩ := hr7.shape
          clear hr7 hg7 hat7 H6
          generalize q ++ [x] = q2 at *
          go_wp2
          go_meet
          exact ⟨n, q2, _, rfl, hl2, H7.out⟩
        · rw [if_neg hne] at H4 ⊢
          go_wp2
          go_meet
          exact ⟨e, q, _, rfl, by omega, H4.out⟩
      by_cases hw2 : wh = 2
      · subst hw2
        go_wp2_with fail
        go_at_call 8
        refine (lSendI H1.out.lk (by omega) x n).mono ?_
        rintro r w4 ⟨rfl, fp4, l4, t4, g4⟩
        have H4 := hide (H1.out.turn l4 t4 g4)
        have x4 := HX.out.turnedL t4 hBf
        have e4 : w4.cell? ⟨B, 1, none⟩ = some (.int .i64 x) := (x4.cellAt 1).trans rfl
        clear l4 t4 g4 H1 e1 HX x4
        by_cases hne : n = e
        · subst hne
          rw [if_pos rfl] at H4 ⊢
          have ba : Below w4.heap.size w4 (w4.alloc (.cells #[.int .i64 x] 3)) := (Below.refl _ _).alloc (Nat.le_refl _) _
          have H6 := hide (H4.out.below ba)
          have hz6 := H6.out.bel.size
          clear ba H4
          go_wp2_with (first | (at_builtin; refine app_row Try.info3' Try.underlying27 rfl (by decide) (by decide) i64cs_len i64cs_one rfl _ _ rfl w.heap.size _ q rfl H6.out.row ⟨w4.heap.size, 0, none⟩ 1 x rfl (fun j u hu => by match j, hu with | 0, hu => simp [i64cs] at hu; subst hu; simp [Addr.add]) (by omega) hz6 ?_) | fail)
          intro v7 w7 hr7 hg7 hat7
          have H7 := hide (H6.out.rowed hr7 hg7 (fun g e => (hat7 g e).imp id (fun h => by simpa using h)))
          have hl2 : (q ++ [x]).length ≤ i + 1 := by simp only [List.length_append, List.length_singleton]; omega
          obtain ⟨a7, c7, rfl⟩ := hr7.shape
          clear hr7 hg7 hat7 H6
          generalize q ++ [x] = q2 at *
          go_wp2
          go_meet
          exact ⟨n, q2, _, rfl, hl2, H7.out⟩
        · rw [if_neg hne] at H4 ⊢
          go_wp2
          go_meet
          exact ⟨e, q, _, rfl, by omega, H4.out⟩
      by_cases hw3 : wh = 3
      · subst hw3
        clear e1 HX
        cases q with
        | nil =>
          simp only [List.length_nil] at H1
          go_wp2_with fail
          go_at_call 9
          refine (lDeliverNI H1.out.lk).mono ?_
          rintro r w4 ⟨rfl, rfl⟩
          go_wp2
          go_roundw
          case rel => exact ⟨e, i + 1, [], by omega, rfl, by go_num, by simp, _, H1.out⟩
          case measure => simp [intOf]; omega
        | cons y q =>
          simp only [List.length_cons] at H1 hq
          go_wp2_with fail
          go_at_call 9
          refine (lDeliverI H1.out.lk (by omega)).mono ?_
          rintro r w4 ⟨rfl, fp4, l4, t4, g4⟩
          obtain ⟨g, o, rfl, _, h5, h6, h7, h8⟩ := (H1.out.turn l4 t4 g4).tail
          have h7 := hide h7
          have h8 := hide h8
          clear l4 t4 g4 H1
          by_cases hc : qc = 1
          · subst hc
            obtain ⟨rfl, H9⟩ := h8.out rfl
            have H9 := hide H9
            clear h7 h8
            go_wp2
            go_meet
            exact ⟨e, [], _, rfl, by simp, H9.out⟩
          · have H9 := hide (h7.out hc)
            clear h7 h8
            go_wp2
            go_meet
            exact ⟨e, q, _, rfl, by omega, H9.out⟩
      by_cases hw4 : wh = 4
      · subst hw4
        clear e1 HX
        cases q with
        | nil =>
          simp only [List.length_nil] at H1
          go_wp2_with fail
          go_at_call 9
          refine (lDeliverNI H1.out.lk).mono ?_
          rintro r w4 ⟨rfl, rfl⟩
          go_wp2
          go_roundw
          case rel => exact ⟨e, i + 1, [], by omega, rfl, by go_num, by simp, _, H1.out⟩
          case measure => simp [intOf]; omega
        | cons y q =>
          simp only [List.length_cons] at H1 hq
          go_wp2_with fail
          go_at_call 9
          refine (lDeliverI H1.out.lk (by omega)).mono ?_
          rintro r w4 ⟨rfl, fp4, l4, t4, g4⟩
          obtain ⟨g, o, rfl, _, h5, h6, h7, h8⟩ := (H1.out.turn l4 t4 g4).tail
          have h7 := hide h7
          have h8 := hide h8
          clear l4 t4 g4 H1
          by_cases hc : qc = 1
          · subst hc
            obtain ⟨rfl, H9⟩ := h8.out rfl
            have H9 := hide H9
            clear h7 h8
            go_wp2
            go_meet
            exact ⟨e, [], _, rfl, by simp, H9.out⟩
          · have H9 := hide (h7.out hc)
            clear h7 h8
            go_wp2
            go_meet
            exact ⟨e, q, _, rfl, by omega, H9.out⟩
      by_cases hw5 : wh = 5
      · subst hw5
        clear e1 HX
        go_wp2_with fail
        go_at_call 10
        refine (lKillI H1.out.lk n).mono ?_
        rintro r w4 ⟨rfl, fp4, l4, t4, g4⟩
        have H4 := hide (H1.out.turn l4 t4 g4).noRow
        clear l4 t4 g4 H1
        by_cases hmx : e < n
        · rw [show max e n = n by omega] at H4
          go_wp2
          go_meet
          exact ⟨n, [], _, rfl, by simp, H4.out⟩
        · rw [show max e n = e by omega] at H4
          go_wp2
          go_meet
          exact ⟨e, [], _, rfl, by simp, H4.out⟩
      clear e1 HX
      go_wp2
      go_meet
      exact ⟨e, q, _, rfl, by omega, H1.out⟩
    · obtain rfl : i = xs.length := by omega
      go_wp2
      go_ret
      exact ⟨rfl, HI.out.bel⟩
end Go.Proofs.Ytcjjhgfjfeecmaa
