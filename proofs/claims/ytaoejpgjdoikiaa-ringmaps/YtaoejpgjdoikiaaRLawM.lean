/-
  The law RingMaps, walked.
-/
import Derived.Test.YtaoejpgjdoikiaaRMap2
namespace Go.Proofs.Ytaoejpgjdoikiaa
open Go.RowKit

theorem eq39 (w : World) (a b : Int) : (Op.equalIn 10000 39 (.agg #[.int .i64 a, .int .i64 b]) (.agg #[.int .i64 a, .int .i64 b])).run Try.prog w = .ok true w := by
  have h3 : ∀ (x : Int), (Op.equalIn 9999 3 (.int .i64 x) (.int .i64 x)).run Try.prog w = .ok true w := fun x => by
    rw [show (9999 : Nat) = 9998 + 1 from rfl, run_equalIn_int (h := Try.underlying3)]
    simp
  have hr : List.range' 0 2 = [0, 1] := rfl
  rw [show (10000 : Nat) = 9999 + 1 from rfl]
  unfold Op.equalIn
  simp [run_underlying Try.underlying39, go_sem, hr, List.forIn_cons, isAgg, run_underlying Try.underlying3, h3]
theorem LSeg.int {B : Nat} {w : World} {xs : List Int} {ao : Option Addr} {cap : Nat} (h : LSeg 1 i64cs B w (.slice ao xs.length cap) xs) {i : Nat} {x : Int} (hp : xs[i]? = some x) :
    ∃ b off, ao = some ⟨b, off, none⟩ ∧ b < B ∧ w.cell? ⟨b, off + i, none⟩ = some (.int .i64 x) := by
  obtain ⟨ao', cap', e, h2, h4⟩ := h
  cases e
  rcases h4 with h4 | ⟨b, off, h5, h6, h7⟩
  · subst h4; simp at hp
  · exact ⟨b, off, h5, h6, by simpa using h7 i x hp 0 _ rfl⟩
/-- A ring, the law's list beside it, and the mapped ring. -/
structure MI (W w : World) (k b mo : Nat) (vq : Value) (q : List Int) (k2 b2 : Nat) (q2 : List (Int × Int)) : Prop where
  ri : RI 64 3 (Value.int .i64) i64cs W w k b mo vq q q
  r2 : R2 w k2 b2 mo q2
  hk2 : W.heap.size ≤ k2
  hb2 : W.heap.size ≤ b2
  n1 : k ≠ k2 ∧ k ≠ b2 ∧ b ≠ k2 ∧ b ≠ b2
  hbl : b2 < w.heap.size
  d : ∀ g, vq.ownBlock = some g → g ≠ k2 ∧ g ≠ b2
theorem MI.below {W w w' : World} {k b mo k2 b2 : Nat} {vq : Value} {q : List Int} {q2 : List (Int × Int)} (H : MI W w k b mo vq q k2 b2 q2) (hb : Below w.heap.size w w') : MI W w' k b mo vq q k2 b2 q2 :=
  ⟨H.ri.below hb, H.r2.below hb, H.hk2, H.hb2, H.n1, by have := H.hbl; have := hb.size; omega, H.d⟩
theorem MI.turn {W w w' : World} {k b mo k2 b2 b3 : Nat} {vq : Value} {q : List Int} {q2 q3 : List (Int × Int)} (H : MI W w k b mo vq q k2 b2 q2) (h1 : R2 w' k2 b3 mo q3) (t : Turned k2 b2 w w') (hb : b3 = b2 ∨ w.heap.size ≤ b3) : ∃ b4, MI W w' k b mo vq q k2 b4 q3 := by
  have hlt : ∀ g, vq.ownBlock = some g → g < w.heap.size := fun g e => by obtain ⟨cur, h⟩ := H.ri.row.has g e; exact h.lt
  obtain ⟨n1, n2, n3, n4⟩ := H.n1
  have hkl := H.ri.r.lt
  have hbl := H.ri.hbl
  have hz := H.ri.bel.size
  have ht := t.size
  have ri : RI 64 3 (Value.int .i64) i64cs W w' k b mo vq q q :=
    ⟨H.ri.r.beside t n1 n2 n3 n4, H.ri.row.back (fun g e => t.block g (hlt g e) (H.d g e).1 (H.d g e).2), t.toBelow H.ri.bel hz H.hk2 H.hb2, H.ri.hk, H.ri.hb, by omega, H.ri.d⟩
  have hk2l := h1.lt
  have hb2l := H.hbl
  have hHb2 := H.hb2
  obtain ⟨L, hd, so, h2⟩ := h1
  rcases h2.pl with p | ⟨p1, p2, p3, cur, p4, p5⟩
  · exact ⟨k2, ri, ⟨L, hd, so, h2.box, h2.le, h2.big, .inl p⟩, H.hk2, H.hk2, ⟨n1, n1, n3, n3⟩, hk2l, fun g e => ⟨(H.d g e).1, (H.d g e).1⟩⟩
  · refine ⟨b3, ri, ⟨L, hd, so, h2⟩, H.hk2, by omega, ⟨n1, by omega, n3, by omega⟩, p4.lt, fun g e => ⟨(H.d g e).1, ?_⟩⟩
    have := hlt g e
    rcases hb with rfl | hb
    · exact (H.d g e).2
    · omega

set_option maxHeartbeats 4000000 in
set_option maxRecDepth 100000 in
theorem RingMaps_walk (w : World) (mo : Int) (ao : Option Addr) (cap : Nat) (xs : List Int) (hs : Hid (LSeg 1 i64cs w.heap.size w (.slice ao xs.length cap) xs)) :
    Calls Try.prog 4 #[.int .i64 mo, .slice ao xs.length cap] w fun e w' => e = .returned (.bool true) ∧ Below w.heap.size w w' := by
  have hknown := known_any w
  have hlen : xs.length ≤ 140737488355328 := by obtain ⟨_, _, e, h2, _⟩ := hs.out; exact h2
  go_enter Try.func4, Try.ntmps4
  go_wp2_with fail
  refine hknown.mono ?_
  rintro e w1 ⟨rfl, hb1⟩
  clear hknown
  have HB1 := hide hb1
  clear hb1
  by_cases hl : xs.length ≤ 300
  rotate_left
  · go_wp2
    go_ret
    exact ⟨rfl, HB1.out⟩
  go_wp2_with fail
  go_at_call 8
  refine (NewI w1 mo).mono ?_
  rintro e w3 ⟨rfl, r3, l3⟩
  have hsz := HB1.out.size
  have hz3 := r3.lt
  obtain ⟨m, hm⟩ : ∃ m : Nat, (min (max mo 1) 65536).toNat = m := ⟨_, rfl⟩
  rw [hm] at r3
  have hmm : m ≤ 65536 := by omega
  have HT : Hid (∃ b, RI 64 3 (Value.int .i64) i64cs w w3 w1.heap.size b m (.slice none 0 0) [] []) :=
    ⟨_, r3, Row.nil _ _ _ _ _, HB1.out.trans (l3.mono hsz), hsz, hsz, hz3, fun g e => (by cases e)⟩
  clear r3 l3 hsz HB1 hz3 hm
  generalize w1.heap.size = k at *
  go_wp2_with fail
  go_loopw [6, 7] (fun qv iv wr => ∃ (i : Nat) (q : List Int), i ≤ xs.length ∧ iv = .int .i64 i ∧ q.length ≤ i ∧ Hid (∃ b, RI 64 3 (Value.int .i64) i64cs w wr k b m qv q q)) (fun _ iv _ => xs.length - (intOf iv).toNat)
  case atStart => exact ⟨0, [], Nat.zero_le _, rfl, by simp, HT.out⟩
  case round =>
    clear HT
    obtain ⟨i, q, hi, rfl, hq, b, HI⟩ := hrel
    obtain ⟨qa, qc, rfl⟩ := HI.row.shape
    replace HI := hide HI
    by_cases hlt : i < xs.length
    · obtain ⟨x, hx⟩ : ∃ x, xs[i]? = some x := ⟨_, List.getElem?_eq_getElem hlt⟩
      obtain ⟨bb, off, rfl, hbb, c0⟩ := (hs.out.below HI.out.bel).int hx
      clear hx
      go_wp2_with fail
      go_at_call 9
      refine (PutI HI.out.r hmm x).mono ?_
      rintro e w4 ⟨rfl, b4, r4, t4, h4⟩
      have B4 := hide (t4.toBelow HI.out.bel HI.out.bel.size HI.out.hk HI.out.hb)
      have H4 := hide (HI.out.turn r4 t4 h4)
      have hc4 : w4.cell? ⟨bb, off + i, none⟩ = some (.int .i64 x) :=
        Eq.trans (World.cell?_of_block ((B4.out.block bb hbb).trans (HI.out.bel.block bb hbb).symm)) c0
      clear r4 t4 h4 c0
      by_cases hroom : q.length < m
      · rw [if_pos hroom] at H4
        obtain ⟨b5, H5⟩ := H4.out
        have ba : Below w4.heap.size w4 (w4.alloc (.cells #[.int .i64 x] 3)) := (Below.refl _ _).alloc (Nat.le_refl _) _
        have H6 := hide (H5.below ba)
        have hz6 := H6.out.bel.size
        clear HI ba H5 H4
        go_wp2_with (first | (at_builtin; refine app_row Try.info3' Try.underlying26 rfl (by decide) (by decide) i64cs_len i64cs_one rfl _ _ rfl w.heap.size _ q rfl H6.out.row ⟨w4.heap.size, 0, none⟩ 1 x rfl (fun j u hu => by match j, hu with | 0, hu => simp [i64cs] at hu; subst hu; simp [Addr.add]) (by omega) hz6 ?_) | fail)
        intro v7 w7 hr7 hg7 hat7
        have H7 := hide (H6.out.rowed hr7 hg7 (fun g e => (hat7 g e).imp id (fun h => by simpa using h)))
        clear hr7 hg7 hat7 H6
        go_wp2
        go_roundw
        case rel => exact ⟨i + 1, q ++ [x], by omega, by go_num, by simp only [List.length_append, List.length_singleton]; omega, _, H7.out⟩
        case measure => simp [intOf]; omega
      · rw [if_neg hroom] at H4
        clear HI
        go_wp2
        go_roundw
        case rel => exact ⟨i + 1, q, by omega, by go_num, by omega, H4.out⟩
        case measure => simp [intOf]; omega
    · obtain rfl : i = xs.length := by omega
      have hq1 : q.length ≤ 300 := by omega
      clear hq hi hlt
      have hz := HI.out.bel.size
      have hkb := HI.out.r.lt
      have hbl0 := HI.out.hbl
      go_wp2_with fail
      go_at_call 18
      refine (Map_any HI.out.r (by omega)).mono ?_
      rintro e w4 ⟨k2, b2, rfl, r4, hk2, hb2, hbl, l4⟩
      have H4 : Hid (MI w w4 k b m (.slice qa q.length qc) q k2 b2 (q.map pr)) :=
        ⟨HI.out.below l4, r4, by omega, by omega, ⟨by omega, by omega, by omega, by omega⟩, hbl, fun g e => by obtain ⟨cur, h⟩ := HI.out.row.has g e; have := h.lt; omega⟩
      clear r4 l4 hbl hk2 hb2 HI hz hkb hbl0
      have hlm : (q.map pr).length = q.length := List.length_map ..
      have HLM := hide hlm
      go_wp2_with fail
      go_at_call 20
      refine (LenP H4.out.r2).mono ?_
      rintro e w5 ⟨rfl, rfl⟩
      rw [HLM.out]
      go_wp2_with fail
      go_at_call 21
      refine (RoomP H4.out.r2 hmm).mono ?_
      rintro e w6 ⟨rfl, b6⟩
      rw [HLM.out]
      have H6 := hide (H4.out.below b6)
      clear H4 b6
      go_wp2_with fail
      go_at_call 15
      refine (RoomI H6.out.ri.r hmm).mono ?_
      rintro e w7 ⟨rfl, b7⟩
      have H7 := hide (H6.out.below b7)
      clear H6 b7
      go_wp2_with fail
      go_at_call 16
      refine (AllI H7.out.ri.r (by omega)).mono ?_
      rintro e w8 ⟨rfl, a8, b8⟩
      have H8 := hide (H7.out.below b8)
      clear H7 b8
      go_wp2_with fail
      go_at_call 17
      refine (Ints_any (a8.lseg (by omega)) (H8.out.ri.row.lseg (by omega))).mono ?_
      rintro e w9 ⟨rfl, b9⟩
      have H9 : Hid (∃ b2, MI w w9 k b m (.slice qa q.length qc) q k2 b2 ((q.map pr).drop 0)) := ⟨_, H8.out.below b9⟩
      clear H8 b9 a8 hlm
      go_wp2_with fail
      go_loopw [9] (fun iv wr => ∃ (i : Nat), i ≤ q.length ∧ iv = .int .i64 i ∧ Hid (∃ b2, MI w wr k b m (.slice qa q.length qc) q k2 b2 ((q.map pr).drop i))) (fun iv _ => q.length - (intOf iv).toNat)
      case atStart => exact ⟨0, Nat.zero_le _, rfl, H9.out⟩
      case round =>
        clear H9
        obtain ⟨i, hi, rfl, b2, HI⟩ := hrel
        replace HI := hide HI
        by_cases hlt : i < q.length
        · obtain ⟨x, hx⟩ : ∃ x, q[i]? = some x := ⟨_, List.getElem?_eq_getElem hlt⟩
          have hdr : (q.map pr).drop i = pr x :: (q.map pr).drop (i + 1) := by
            rw [List.drop_eq_getElem_cons (by rw [List.length_map]; exact hlt)]
            congr 1
            rw [List.getElem?_eq_getElem hlt] at hx
            rw [List.getElem_map, Option.some.inj hx]
          rw [hdr] at HI
          go_wp2_with fail
          go_at_call 22
          refine (TakeP HI.out.r2).mono ?_
          rintro e w4 ⟨rfl, b4, r4, t4, h4⟩
          obtain ⟨b5, H4⟩ := HI.out.turn r4 t4 h4
          replace H4 := hide (H4.below ((Below.refl w4.heap.size w4).alloc (Nat.le_refl _) (.cells #[.int .i64 x, .int .i64 (ng x)] 39)))
          obtain ⟨g, off, cap2, e, hc⟩ := H4.out.ri.get (fun _ => rfl) hx
          cases e
          clear HI r4 t4 h4 hx hdr
          have hng : wrap64 (-x) = ng x := rfl
          have heq := fun v => eq39 v x (ng x)
          go_wp2
          simp only [pr]
          obtain ⟨y0, y1⟩ := (BoxT.new 39 w4 #[.int .i64 x, .int .i64 (ng x)]).cells2
          generalize w4.alloc (.cells #[.int .i64 x, .int .i64 (ng x)] 39) = w5 at *
          go_quiet (fail)
          have H5 := hide (H4.out.below (below_drewN (Below.refl w5.heap.size w5) nq))
          clear H4
          go_wp2
          go_roundw
          case rel => exact ⟨i + 1, by omega, by go_num, _, H5.out⟩
          case measure => simp [intOf]; omega
        · obtain rfl : i = q.length := by omega
          have hd0 : (q.map pr).drop q.length = [] := List.drop_of_length_le (by rw [List.length_map]; exact Nat.le_refl _)
          rw [hd0] at HI
          go_wp2_with fail
          go_at_call 22
          refine (TakeNP HI.out.r2).mono ?_
          rintro e w4 ⟨rfl, b4⟩
          have H4 := hide ((HI.out.below b4).below ((Below.refl w4.heap.size w4).alloc (Nat.le_refl _) (.cells #[.int .i64 0, .int .i64 0] 39)))
          clear HI b4
          go_wp2_with fail
          go_at_call 14
          refine (LenI H4.out.ri.r).mono ?_
          rintro e w5 ⟨rfl, rfl⟩
          go_wp2
          go_ret
          exact ⟨rfl, H4.out.ri.bel⟩
end Go.Proofs.Ytaoejpgjdoikiaa
