/-
  The law's known: a link and a cloud of strings worked by hand.
-/
import Derived.Test.YtcjjhgfjfeecmaaNLkS
import Derived.Test.YtcjjhgfjfeecmaaNClMS
namespace Go.Proofs.Ytcjjhgfjfeecmaa
open Go.RowKit

theorem TurnedL.below {fp : List Nat} {w0 w w' : World} (h : TurnedL fp w w') (hb : Below w0.heap.size w0 w) (hf : ∀ i ∈ fp, w0.heap.size ≤ i) : Below w0.heap.size w0 w' :=
  ⟨h.os.trans hb.os, h.tape.trans hb.tape, h.output.trans hb.output, Nat.le_trans hb.size h.size, fun i hi => (h.block i (Nat.lt_of_lt_of_le hi hb.size) (fun hm => by have := hf i hm; omega)).trans (hb.block i hi)⟩
/-- A link and a cloud side by side, both made behind w0. -/
structure KS (w0 w : World) (K1 K2 : Nat) (fL fC : List Nat) (e : Int) (qL : List ByteArray) (qC : List (Int × ByteArray)) : Prop where
  lk : LkS w fL K1 e qL
  cl : ClMS w fC K2 qC
  apart : ∀ i ∈ fL, i ∉ fC
  newL : ∀ i ∈ fL, w0.heap.size ≤ i
  newC : ∀ i ∈ fC, w0.heap.size ≤ i
  bel : Below w0.heap.size w0 w
section
variable {w0 w w' : World} {K1 K2 : Nat} {fL fC fp : List Nat} {e e' : Int} {qL qL' : List ByteArray} {qC qC' : List (Int × ByteArray)}
theorem KS.link (H : KS w0 w K1 K2 fL fC e qL qC) (hl : LkS w' fp K1 e' qL') (ht : TurnedL fL w w') (hg : Grew fL fp w) : KS w0 w' K1 K2 fp fC e' qL' qC := by
  have hs := H.bel.size
  refine ⟨hl, H.cl.back ht.size (fun i hi => ht.block i (H.cl.lt i hi) (fun hm => H.apart i hm hi)), fun i hi hc => ?_, fun i hi => ?_, H.newC, ht.below H.bel H.newL⟩
  · rcases hg i hi with h | h
    · exact H.apart i h hc
    · have := H.cl.lt i hc; omega
  · rcases hg i hi with h | h
    · exact H.newL i h
    · omega
theorem KS.cloud (H : KS w0 w K1 K2 fL fC e qL qC) (hl : ClMS w' fp K2 qC') (ht : TurnedL fC w w') (hg : Grew fC fp w) : KS w0 w' K1 K2 fL fp e qL qC' := by
  have hs := H.bel.size
  refine ⟨H.lk.back ht.size (fun i hi => ht.block i (H.lk.lt i hi) (fun hm => H.apart i hi hm)), hl, fun i hi hc => ?_, H.newL, fun i hi => ?_, ht.below H.bel H.newC⟩
  · rcases hg i hc with h | h
    · exact H.apart i hi h
    · have := H.lk.lt i hi; omega
  · rcases hg i hi with h | h
    · exact H.newC i h
    · omega
theorem KS.below (H : KS w0 w K1 K2 fL fC e qL qC) (hb : Below w.heap.size w w') : KS w0 w' K1 K2 fL fC e qL qC :=
  ⟨H.lk.below hb, H.cl.below hb, H.apart, H.newL, H.newC, H.bel.trans (hb.mono H.bel.size)⟩
end
set_option maxHeartbeats 4000000 in
set_option maxRecDepth 100000 in
theorem known_any (w : World) : Calls Try.prog 6 #[] w fun e w' => e = .returned (.bool true) ∧ Below w.heap.size w w' := by
  go_enter Try.func6, Try.ntmps6
  go_wp2_with fail
  go_at_call 20
  refine (lNewS w 1).mono ?_
  rintro r w1 ⟨rfl, l1, b1⟩
  go_wp2_with fail
  go_at_call 21
  refine (cNewMS w1).mono ?_
  rintro r w2 ⟨rfl, c2, b2⟩
  have hs1 := b1.size
  have hlt := l1.lt _ (List.mem_singleton.2 rfl)
  have H2 : Hid (KS w w2 w.heap.size w1.heap.size [w.heap.size] [w1.heap.size] 1 [] []) := ⟨l1.below b2, c2, fun i hi hc => by rw [List.mem_singleton.1 hi] at hc; have := List.mem_singleton.1 hc; omega, fun i hi => by rw [List.mem_singleton.1 hi]; exact Nat.le_refl _, fun i hi => by rw [List.mem_singleton.1 hi]; exact hs1, b1.trans (b2.mono hs1)⟩
  generalize w1.heap.size = K2 at *
  generalize w.heap.size = K1 at *
  clear l1 c2 b1 b2 hs1 hlt
  generalize [K1] = fL at *
  generalize [K2] = fC at *
  go_wp2_with fail
  go_at_call 22
  refine (lSendS H2.out.lk (by simp) ⟨#[97]⟩ 1).mono ?_
  rintro r w3 ⟨rfl, f3, l3, t3, g3⟩
  rw [if_pos rfl] at l3
  have H3 := hide (H2.out.link l3 t3 g3)
  clear l3 t3 g3 H2
  simp only [List.nil_append] at H3
  go_wp2_with fail
  go_at_call 22
  refine (lSendS H3.out.lk (by simp) ⟨#[98]⟩ 1).mono ?_
  rintro r w4 ⟨rfl, f4, l4, t4, g4⟩
  rw [if_pos rfl] at l4
  have H4 := hide (H3.out.link l4 t4 g4)
  clear l4 t4 g4 H3
  simp only [List.nil_append, List.cons_append] at H4
  go_wp2_with fail
  go_at_call 23
  refine (lDeliverS H4.out.lk (by simp)).mono ?_
  rintro r w5 ⟨rfl, f5, l5, t5, g5⟩
  have H5 := hide (H4.out.link l5 t5 g5)
  clear l5 t5 g5 H4
  go_wp2_with fail
  go_at_call 24
  refine (lKillS H5.out.lk 2).mono ?_
  rintro r w6 ⟨rfl, f6, l6, t6, g6⟩
  rw [show max (1 : Int) 2 = 2 from rfl] at l6
  have H6 := hide (H5.out.link l6 t6 g6)
  clear l6 t6 g6 H5
  go_wp2_with fail
  go_at_call 23
  refine (lDeliverNS H6.out.lk).mono ?_
  rintro r w6' ⟨rfl, rfl⟩
  go_wp2_with fail
  go_at_call 22
  refine (lSendS H6.out.lk (by simp) ⟨#[99]⟩ 1).mono ?_
  rintro r w7 ⟨rfl, f7, l7, t7, g7⟩
  rw [if_neg (by decide)] at l7
  have H7 := hide (H6.out.link l7 t7 g7)
  clear l7 t7 g7 H6
  go_wp2_with fail
  go_at_call 25
  refine (cSendMS H7.out.cl (by simp) (4, ⟨#[112]⟩)).mono ?_
  rintro r w8 ⟨rfl, f8, l8, t8, g8⟩
  have H8 := hide (H7.out.cloud l8 t8 g8)
  clear l8 t8 g8 H7
  simp only [List.nil_append] at H8
  go_wp2_with fail
  go_at_call 25
  refine (cSendMS H8.out.cl (by simp) (5, ⟨#[113]⟩)).mono ?_
  rintro r w9 ⟨rfl, f9, l9, t9, g9⟩
  have H9 := hide (H8.out.cloud l9 t9 g9)
  clear l9 t9 g9 H8
  simp only [List.nil_append, List.cons_append] at H9
  go_wp2_with fail
  go_at_call 26
  refine (cPick1MS (j := 1) H9.out.cl (by simp) (-1) (by decide) rfl).mono ?_
  rintro r w10 ⟨rfl, b10⟩
  have H10 := hide (H9.out.below b10)
  clear b10 H9
  go_wp2_with fail
  go_at_call 27
  refine (cLenMS H10.out.cl).mono ?_
  rintro r w11 ⟨rfl, rfl⟩
  simp only [List.length_cons, List.length_nil]
  go_wp2_with fail
  go_at_call 26
  refine (cPickMS (q1 := []) (q2 := [(5, ⟨#[113]⟩)]) H10.out.cl (by simp) 0 2 (by decide) (by decide)).mono ?_
  rintro r w12 ⟨rfl, f12, l12, t12, g12⟩
  have H12 := hide (H10.out.cloud l12 t12 g12)
  clear l12 t12 g12 H10
  rw [if_pos rfl]
  simp only [List.nil_append] at H12
  have hEp := hide (lEpochS H12.out.lk)
  have hLn := hide (cLenMS H12.out.cl)
  simp only [List.length_cons, List.length_nil] at hLn
  go_wp2_with (first | (go_at_call 28; refine hEp.out.mono ?_; rintro r w13 ⟨rfl, rfl⟩) | (go_at_call 27; refine hLn.out.mono ?_; rintro r w14 ⟨rfl, rfl⟩) | fail)
  go_ret
  exact ⟨rfl, H12.out.bel⟩
end Go.Proofs.Ytcjjhgfjfeecmaa
