/-
  rec, bar, Place; known.
-/
import Derived.Test.YtmipgfobggbndaaGNew
namespace Go.Proofs.Ytmipgfobggbndaa
open Go.RowKit

set_option maxRecDepth 100000 in
theorem rec_any (w : World) (n : Int) : Calls Try.prog 26 #[.int .i64 n] w fun e w' => e = .returned (.agg #[.int .i64 1, .int .i64 0, .int .i64 0, .int .i64 n, .int .i64 0, .int .u64 0, .bool false]) ∧ Below w.heap.size w w' := by
  go_enter Try.func26, Try.ntmps26
  go_wp2_with fail
  exact bodyPost_ret (v := .agg #[.int .i64 1, .int .i64 0, .int .i64 0, .int .i64 n, .int .i64 0, .int .u64 0, .bool false]) (by simp [results, Try.results26, go_sem]; try rfl) rfl ⟨rfl, below_box _ _⟩
set_option maxRecDepth 100000 in
theorem bar_any (w : World) (n : Int) (o : Bool) : Calls Try.prog 27 #[.int .u64 n, .bool o] w fun e w' => e = .returned (.agg #[.int .i64 3, .int .i64 0, .int .i64 0, .int .i64 0, .int .i64 0, .int .u64 n, .bool o]) ∧ Below w.heap.size w w' := by
  go_enter Try.func27, Try.ntmps27
  go_wp2_with fail
  exact bodyPost_ret (v := .agg #[.int .i64 3, .int .i64 0, .int .i64 0, .int .i64 0, .int .i64 0, .int .u64 n, .bool o]) (by simp [results, Try.results27, go_sem]; try rfl) rfl ⟨rfl, below_box _ _⟩
/-- Two gates side by side, and boxes of the caller's. -/
def KW (w0 w : World) (kg : Nat) (sg : Gs) (kh : Nat) (sh : Gs) (L : List (Nat × Array Value)) : Prop :=
  ∃ fg fh, GA w kg fg sg ∧ GA w kh fh sh ∧ (∀ i, fg i → ¬ fh i) ∧ Below w0.heap.size w0 w ∧ (∀ i, fg i → w0.heap.size ≤ i) ∧ (∀ i, fh i → w0.heap.size ≤ i) ∧ ∀ p ∈ L, BoxT 43 w p.1 p.2 ∧ ¬ fg p.1 ∧ ¬ fh p.1
section
variable {w0 w w' : World} {kg kh : Nat} {sg sh sg' sh' : Gs} {L : List (Nat × Array Value)}
theorem KW.below (h : KW w0 w kg sg kh sh L) (hb : Below w.heap.size w w') : KW w0 w' kg sg kh sh L := by
  obtain ⟨fg, fh, h1, h2, h3, h4, h5, h6, h7⟩ := h
  exact ⟨fg, fh, h1.below hb, h2.below hb, h3, h4.trans (hb.mono h4.size), h5, h6, fun p hp => ⟨(h7 p hp).1.below hb, (h7 p hp).2⟩⟩
theorem KW.box (h : KW w0 w kg sg kh sh L) (cs : Array Value) : KW w0 (w.alloc (.cells cs 43)) kg sg kh sh ((w.heap.size, cs) :: L) := by
  obtain ⟨fg, fh, h1, h2, h3, h4, h5, h6, h7⟩ := h.below (below_box w (.cells cs 43))
  obtain ⟨fg', fh', k1, k2, k3, k4, k5, k6, k7⟩ := h
  refine ⟨fg', fh', k1.below (below_box _ _), k2.below (below_box _ _), k3, h4, k5, k6, fun p hp => ?_⟩
  rcases List.mem_cons.1 hp with rfl | hp
  · exact ⟨BoxT.new _ _ _, fun e => by have := k1.flt _ e; simp at this, fun e => by have := k2.flt _ e; simp at this⟩
  · exact ⟨(k7 p hp).1.alloc _, (k7 p hp).2⟩
theorem KW.turnG (h : KW w0 w kg sg kh sh L) (hc : ∀ fg, GA w kg fg sg → ∃ fg', GA w' kg fg' sg' ∧ FT fg fg' w w') : KW w0 w' kg sg' kh sh L := by
  obtain ⟨fg, fh, h1, h2, h3, h4, h5, h6, h7⟩ := h
  obtain ⟨fg', g1, t1⟩ := hc fg h1
  have hd : ∀ i, fh i → ¬ fg i := fun i hi e => h3 i e hi
  refine ⟨fg', fh, g1, h2.beside t1 hd, fun i hi e => t1.apart h2.flt hd i e hi, h4.trans (t1.below h4.size h5), fun i hi => ?_, h6, fun p hp => ⟨(h7 p hp).1.back (t1.block _ (h7 p hp).1.lt (h7 p hp).2.1), fun e => ?_, (h7 p hp).2.2⟩⟩
  · rcases t1.sub i hi with e | e
    · exact h5 i e
    · exact Nat.le_trans h4.size e
  · rcases t1.sub _ e with e | e
    · exact (h7 p hp).2.1 e
    · have := (h7 p hp).1.lt; omega
theorem KW.swap (h : KW w0 w kg sg kh sh L) : KW w0 w kh sh kg sg L := by
  obtain ⟨fg, fh, h1, h2, h3, h4, h5, h6, h7⟩ := h
  exact ⟨fh, fg, h2, h1, fun i hi e => h3 i e hi, h4, h6, h5, fun p hp => ⟨(h7 p hp).1, (h7 p hp).2.2, (h7 p hp).2.1⟩⟩
end
def KT (w0 : World) (kg : Nat) (sg : Gs) (kh : Nat) (sh : Gs) (L : List (Nat × Array Value)) (x0 x1 x2 x3 x4 x5 x6 er : Int) (e : Ending) (w' : World) : Prop := e = .returned (.tuple #[.agg #[.int .i64 x0, .int .i64 x1, .int .i64 x2, .int .i64 x3, .int .i64 x4, .int .u64 x5, .int .u64 x6], .int .i64 er]) ∧ KW w0 w' kg sg kh sh L
theorem KW.takeG {w0 w : World} {kg kh : Nat} {sg sh sg' : Gs} {L : List (Nat × Array Value)} (h : KW w0 w kg sg kh sh L) (ch f0 f1 f2 f3 f4 f5 : Int) (f6 : Bool) (x0 x1 x2 x3 x4 x5 x6 er : Int) (hs : sg.tk ch ⟨f0, f1, f2, f3, f4, f5, f6⟩ = sg') (hx : sg.tkS ch ⟨f0, f1, f2, f3, f4, f5, f6⟩ = ⟨x0, x1, x2, x3, x4, x5, x6⟩) (he : sg.tkE ch = er) (hl : sg.cp.length ≤ 100000) :
    Calls Try.prog 13 #[.pointer (some ⟨kg, 0, none⟩), .int .i64 ch, .agg #[.int .i64 f0, .int .i64 f1, .int .i64 f2, .int .i64 f3, .int .i64 f4, .int .u64 f5, .bool f6]] w (KT w0 kg sg' kh sh L x0 x1 x2 x3 x4 x5 x6 er) := by
  obtain ⟨fg, fh, h1, h2⟩ := id h
  have hc := Take_any h1 ch ⟨f0, f1, f2, f3, f4, f5, f6⟩ hl
  rw [hs, hx, he] at hc
  refine hc.mono ?_
  rintro e w' ⟨rfl, fp', g', t'⟩
  refine ⟨rfl, ?_⟩
  obtain ⟨h2, h3, h4, h5, h6, h7⟩ := h2
  have hd : ∀ i, fh i → ¬ fg i := fun i hi e => h3 i e hi
  refine ⟨fp', fh, g', h2.beside t' hd, fun i hi e => t'.apart h2.flt hd i e hi, h4.trans (t'.below h4.size h5), fun i hi => ?_, h6, fun p hp => ⟨(h7 p hp).1.back (t'.block _ (h7 p hp).1.lt (h7 p hp).2.1), fun e => ?_, (h7 p hp).2.2⟩⟩
  · rcases t'.sub i hi with e | e
    · exact h5 i e
    · exact Nat.le_trans h4.size e
  · rcases t'.sub _ e with e | e
    · exact (h7 p hp).2.1 e
    · have := (h7 p hp).1.lt; omega
theorem KW.new {w0 w1 w2 : World} {kg kh : Nat} {fg fh : Nat → Prop} {sg sh : Gs} (g1 : GA w1 kg fg sg) (b1 : Below w0.heap.size w0 w1) (l1 : ∀ i, fg i → w0.heap.size ≤ i) (g2 : GA w2 kh fh sh) (b2 : Below w1.heap.size w1 w2) (l2 : ∀ i, fh i → w1.heap.size ≤ i) : KW w0 w2 kg sg kh sh [] :=
  ⟨fg, fh, g1.below b2, g2, fun i hi e => by have := g1.flt i hi; have := l2 i e; omega, b1.trans (b2.mono b1.size), l1, fun i hi => Nat.le_trans b1.size (l2 i hi), fun p hp => by cases hp⟩
def g2 (la un : Int) (ov : Bool) (co : List Bool) (cp : List Ou) : Gs := ⟨[mn, mn], la, un, ov, co, cp⟩
set_option maxHeartbeats 4000000 in
set_option maxRecDepth 100000 in
theorem known_any (w : World) : Calls Try.prog 8 #[] w fun e w' => e = .returned (.bool true) ∧ Below w.heap.size w w' := by
  have e2 : Gs.new (chans 2) = g2 0 0 false [false, false] [] := rfl
  have HN := hide (New_any (w := w) 2)
  rw [e2] at HN
  have HN2 : Hid (∀ w, Calls Try.prog 9 #[.int .i64 2] w fun e w' => ∃ k fp, e = .returned (.pointer (some ⟨k, 0, none⟩)) ∧ GA w' k fp (g2 0 0 false [false, false] []) ∧ Below w.heap.size w w' ∧ ∀ i, fp i → w.heap.size ≤ i) := by
    intro w
    rw [← e2]
    exact New_any 2
  clear e2
  go_enter Try.func8, Try.ntmps8
  go_upto_region 4 with (first | (go_at_call 9; refine HN.out.mono ?_; rintro e w1 ⟨kg, fg, rfl, a1, a2, a3⟩; clear HN; have A1 := hide (And.intro a1 (And.intro a2 a3)); clear a1 a2 a3) | (go_at_call 9; refine (HN2.out _).mono ?_; rintro e w2 ⟨kh, fh, rfl, c1, c2, c3⟩; have K0 := hide (KW.new A1.out.1 A1.out.2.1 A1.out.2.2 c1 c2 c3); clear c1 c2 c3 A1 HN2))
  go_upto_region 5 with (first | (go_at_call 27; refine (bar_any _ 1 false).mono ?_; rintro e w3 ⟨rfl, q⟩; have KA := hide (K0.out.below q); clear q) | (go_at_call 13; refine (KA.out.takeG (sg' := (g2 1 1 false [true, false] [])) 0 3 0 0 0 0 1 false 0 0 0 0 0 0 0 0 (by rfl) (by rfl) (by rfl) (by decide)).mono ?_; rintro e w4 ⟨rfl, q⟩; have KB := hide q; clear q KA))
  refine wp_at (fun W => KW w W kg (g2 1 1 false [true, false] []) kh (g2 0 0 false [false, false] []) ((w4.heap.size, #[.int .i64 0, .int .i64 0, .int .i64 0, .int .i64 0, .int .i64 0, .int .u64 0, .int .u64 0]) :: [])) (KB.out.box #[.int .i64 0, .int .i64 0, .int .i64 0, .int .i64 0, .int .i64 0, .int .u64 0, .int .u64 0]) ?_
  clear KB K0
  intro W4 q
  have K4 := hide q
  clear q
  have hb5 : ((g2 1 1 false [true, false] [])).bl 0 = true := rfl
  have HB5 : Hid (Calls Try.prog 23 #[.pointer (some ⟨kg, 0, none⟩), .int .i64 0] W4 fun e w' => e = .returned (.bool true) ∧ W4 = w') := by
    obtain ⟨fg, fh, q1, _⟩ := K4.out
    have := Blocked_any q1 0
    rw [hb5] at this
    exact this
  go_upto_region 6 with (go_at_call 23; refine HB5.out.mono ?_; rintro e w9 ⟨rfl, rfl⟩; clear HB5 hb5)
  go_upto_region 7 with (first | (go_at_call 26; refine (rec_any _ 1).mono ?_; rintro e w5 ⟨rfl, q⟩; have KA := hide (K4.out.below q); clear q) | (go_at_call 13; refine (KA.out.takeG (sg' := (g2 1 1 false [true, false] [])) 0 1 0 0 1 0 0 false 0 0 0 0 0 0 0 150 (by rfl) (by rfl) (by rfl) (by decide)).mono ?_; rintro e w6 ⟨rfl, q⟩; have KB := hide q; clear q KA))
  refine wp_at (fun W => KW w W kg (g2 1 1 false [true, false] []) kh (g2 0 0 false [false, false] []) ((w6.heap.size, #[.int .i64 0, .int .i64 0, .int .i64 0, .int .i64 0, .int .i64 0, .int .u64 0, .int .u64 0]) :: ((w4.heap.size, #[.int .i64 0, .int .i64 0, .int .i64 0, .int .i64 0, .int .i64 0, .int .u64 0, .int .u64 0]) :: []))) (KB.out.box #[.int .i64 0, .int .i64 0, .int .i64 0, .int .i64 0, .int .i64 0, .int .u64 0, .int .u64 0]) ?_
  clear KB K4
  intro W6 q
  have K6 := hide q
  clear q
  go_upto_region 8 with (first | (go_at_call 26; refine (rec_any _ 2).mono ?_; rintro e w7 ⟨rfl, q⟩; have KA := hide (K6.out.below q); clear q) | (go_at_call 13; refine (KA.out.takeG (sg' := (g2 1 1 false [true, false] [])) 1 1 0 0 2 0 0 false 1 0 0 2 0 0 0 0 (by rfl) (by rfl) (by rfl) (by decide)).mono ?_; rintro e w8 ⟨rfl, q⟩; have KB := hide q; clear q KA))
  refine wp_at (fun W => KW w W kg (g2 1 1 false [true, false] []) kh (g2 0 0 false [false, false] []) ((w8.heap.size, #[.int .i64 1, .int .i64 0, .int .i64 0, .int .i64 2, .int .i64 0, .int .u64 0, .int .u64 0]) :: ((w6.heap.size, #[.int .i64 0, .int .i64 0, .int .i64 0, .int .i64 0, .int .i64 0, .int .u64 0, .int .u64 0]) :: ((w4.heap.size, #[.int .i64 0, .int .i64 0, .int .i64 0, .int .i64 0, .int .i64 0, .int .u64 0, .int .u64 0]) :: [])))) (KB.out.box #[.int .i64 1, .int .i64 0, .int .i64 0, .int .i64 2, .int .i64 0, .int .u64 0, .int .u64 0]) ?_
  clear KB K6
  intro W7 q
  have K7 := hide q
  clear q
  go_upto_region 9 with (first | (go_at_call 27; refine (bar_any _ 1 false).mono ?_; rintro e w9 ⟨rfl, q⟩; have KA := hide (K7.out.below q); clear q) | (go_at_call 13; refine (KA.out.takeG (sg' := (g2 1 0 false [true, true] [])) 1 3 0 0 0 0 1 false 3 0 0 0 0 1 1 0 (by rfl) (by rfl) (by rfl) (by decide)).mono ?_; rintro e w10 ⟨rfl, q⟩; have KB := hide q; clear q KA))
  refine wp_at (fun W => KW w W kg (g2 1 0 false [true, true] []) kh (g2 0 0 false [false, false] []) ((w10.heap.size, #[.int .i64 3, .int .i64 0, .int .i64 0, .int .i64 0, .int .i64 0, .int .u64 1, .int .u64 1]) :: ((w8.heap.size, #[.int .i64 1, .int .i64 0, .int .i64 0, .int .i64 2, .int .i64 0, .int .u64 0, .int .u64 0]) :: ((w6.heap.size, #[.int .i64 0, .int .i64 0, .int .i64 0, .int .i64 0, .int .i64 0, .int .u64 0, .int .u64 0]) :: ((w4.heap.size, #[.int .i64 0, .int .i64 0, .int .i64 0, .int .i64 0, .int .i64 0, .int .u64 0, .int .u64 0]) :: []))))) (KB.out.box #[.int .i64 3, .int .i64 0, .int .i64 0, .int .i64 0, .int .i64 0, .int .u64 1, .int .u64 1]) ?_
  clear KB K7
  intro W8 q
  have K8 := hide q
  clear q
  go_upto_region 10 with (first | (go_at_call 27; refine (bar_any _ 1 true).mono ?_; rintro e w11 ⟨rfl, q⟩; have KA := hide (K8.out.below q); clear q) | (go_at_call 13; refine (KA.out.swap.takeG (sg' := (g2 1 1 true [true, false] [])) 0 3 0 0 0 0 1 true 3 0 0 0 0 1 0 0 (by rfl) (by rfl) (by rfl) (by decide)).mono ?_; rintro e w12 ⟨rfl, q⟩; have KB := hide q.swap; clear q KA))
  refine wp_at (fun W => KW w W kg (g2 1 0 false [true, true] []) kh (g2 1 1 true [true, false] []) ((w12.heap.size, #[.int .i64 3, .int .i64 0, .int .i64 0, .int .i64 0, .int .i64 0, .int .u64 1, .int .u64 0]) :: ((w10.heap.size, #[.int .i64 3, .int .i64 0, .int .i64 0, .int .i64 0, .int .i64 0, .int .u64 1, .int .u64 1]) :: ((w8.heap.size, #[.int .i64 1, .int .i64 0, .int .i64 0, .int .i64 2, .int .i64 0, .int .u64 0, .int .u64 0]) :: ((w6.heap.size, #[.int .i64 0, .int .i64 0, .int .i64 0, .int .i64 0, .int .i64 0, .int .u64 0, .int .u64 0]) :: ((w4.heap.size, #[.int .i64 0, .int .i64 0, .int .i64 0, .int .i64 0, .int .i64 0, .int .u64 0, .int .u64 0]) :: [])))))) (KB.out.box #[.int .i64 3, .int .i64 0, .int .i64 0, .int .i64 0, .int .i64 0, .int .u64 1, .int .u64 0]) ?_
  clear KB K8
  intro W9 q
  have K9 := hide q
  clear q
  go_upto_region 11 with (first | (go_at_call 26; refine (rec_any _ 3).mono ?_; rintro e w13 ⟨rfl, q⟩; have KA := hide (K9.out.below q); clear q) | (go_at_call 13; refine (KA.out.swap.takeG (sg' := (g2 1 1 true [true, false] [⟨1, ⟨1, 0, 0, 3, 0, 0, false⟩⟩])) 1 1 0 0 3 0 0 false 1 0 0 3 0 0 0 0 (by rfl) (by rfl) (by rfl) (by decide)).mono ?_; rintro e w14 ⟨rfl, q⟩; have KB := hide q.swap; clear q KA))
  refine wp_at (fun W => KW w W kg (g2 1 0 false [true, true] []) kh (g2 1 1 true [true, false] [⟨1, ⟨1, 0, 0, 3, 0, 0, false⟩⟩]) ((w12.heap.size, #[.int .i64 3, .int .i64 0, .int .i64 0, .int .i64 0, .int .i64 0, .int .u64 1, .int .u64 0]) :: ((w10.heap.size, #[.int .i64 3, .int .i64 0, .int .i64 0, .int .i64 0, .int .i64 0, .int .u64 1, .int .u64 1]) :: ((w8.heap.size, #[.int .i64 1, .int .i64 0, .int .i64 0, .int .i64 2, .int .i64 0, .int .u64 0, .int .u64 0]) :: ((w6.heap.size, #[.int .i64 0, .int .i64 0, .int .i64 0, .int .i64 0, .int .i64 0, .int .u64 0, .int .u64 0]) :: ((w4.heap.size, #[.int .i64 0, .int .i64 0, .int .i64 0, .int .i64 0, .int .i64 0, .int .u64 0, .int .u64 0]) :: [])))))) KB.out ?_
  clear KB K9
  intro W10 q
  have K10 := hide q
  clear q
  go_upto_region 12 with (first | (go_at_call 27; refine (bar_any _ 1 true).mono ?_; rintro e w15 ⟨rfl, q⟩; have KA := hide (K10.out.below q); clear q) | (go_at_call 13; refine (KA.out.swap.takeG (sg' := (g2 1 0 true [true, true] [⟨1, ⟨1, 0, 0, 3, 0, 0, false⟩⟩])) 1 3 0 0 0 0 1 true 0 0 0 0 0 0 1 0 (by rfl) (by rfl) (by rfl) (by decide)).mono ?_; rintro e w16 ⟨rfl, q⟩; have KB := hide q.swap; clear q KA))
  refine wp_at (fun W => KW w W kg (g2 1 0 false [true, true] []) kh (g2 1 0 true [true, true] [⟨1, ⟨1, 0, 0, 3, 0, 0, false⟩⟩]) ((w16.heap.size, #[.int .i64 0, .int .i64 0, .int .i64 0, .int .i64 0, .int .i64 0, .int .u64 0, .int .u64 1]) :: ((w12.heap.size, #[.int .i64 3, .int .i64 0, .int .i64 0, .int .i64 0, .int .i64 0, .int .u64 1, .int .u64 0]) :: ((w10.heap.size, #[.int .i64 3, .int .i64 0, .int .i64 0, .int .i64 0, .int .i64 0, .int .u64 1, .int .u64 1]) :: ((w8.heap.size, #[.int .i64 1, .int .i64 0, .int .i64 0, .int .i64 2, .int .i64 0, .int .u64 0, .int .u64 0]) :: ((w6.heap.size, #[.int .i64 0, .int .i64 0, .int .i64 0, .int .i64 0, .int .i64 0, .int .u64 0, .int .u64 0]) :: ((w4.heap.size, #[.int .i64 0, .int .i64 0, .int .i64 0, .int .i64 0, .int .i64 0, .int .u64 0, .int .u64 0]) :: []))))))) (KB.out.box #[.int .i64 0, .int .i64 0, .int .i64 0, .int .i64 0, .int .i64 0, .int .u64 0, .int .u64 1]) ?_
  clear KB K10
  intro W11 q
  have K11 := hide q
  clear q
  have HC : Hid (Calls Try.prog 22 #[.pointer (some ⟨kh, 0, none⟩)] W11 fun e w' => ∃ u, e = .returned u ∧ OwnL 65 8 Ou.cs W11.heap.size w' u [⟨1, ⟨1, 0, 0, 3, 0, 0, false⟩⟩] ∧ Below W11.heap.size W11 w') := by
    obtain ⟨fg, fh, q1, q2, _⟩ := K11.out
    exact Captured_any q2 (by decide)
  have HBL : Hid (∀ w', Below W11.heap.size W11 w' → Calls Try.prog 23 #[.pointer (some ⟨kg, 0, none⟩), .int .i64 0] w' fun e w'' => e = .returned (.bool false) ∧ w' = w'') := by
    intro w' hb
    obtain ⟨fg, fh, q1, _⟩ := K11.out.below hb
    exact Blocked_any q1 0
  have HX : Hid (∀ w', Below W11.heap.size W11 w' → w'.cell? ⟨w4.heap.size, 0, none⟩ = some (.int .i64 0) ∧ w'.cell? ⟨w8.heap.size, 0, none⟩ = some (.int .i64 1) ∧ w'.cell? ⟨w10.heap.size, 0, none⟩ = some (.int .i64 3) ∧ w'.cell? ⟨w10.heap.size, 5, none⟩ = some (.int .u64 1) ∧ w'.cell? ⟨w10.heap.size, 6, none⟩ = some (.int .u64 1) ∧ w'.cell? ⟨w12.heap.size, 0, none⟩ = some (.int .i64 3) ∧ w'.cell? ⟨w12.heap.size, 6, none⟩ = some (.int .u64 0) ∧ w'.cell? ⟨w16.heap.size, 0, none⟩ = some (.int .i64 0) ∧ w'.cell? ⟨w16.heap.size, 6, none⟩ = some (.int .u64 1)) := by
    intro w' hb
    obtain ⟨fg, fh, q1, q2, q3, q4, q5, q6, q7⟩ := K11.out.below hb
    have zw4 := (q7 (w4.heap.size, #[.int .i64 0, .int .i64 0, .int .i64 0, .int .i64 0, .int .i64 0, .int .u64 0, .int .u64 0]) (by simp)).1
    have zw8 := (q7 (w8.heap.size, #[.int .i64 1, .int .i64 0, .int .i64 0, .int .i64 2, .int .i64 0, .int .u64 0, .int .u64 0]) (by simp)).1
    have zw10 := (q7 (w10.heap.size, #[.int .i64 3, .int .i64 0, .int .i64 0, .int .i64 0, .int .i64 0, .int .u64 1, .int .u64 1]) (by simp)).1
    have zw12 := (q7 (w12.heap.size, #[.int .i64 3, .int .i64 0, .int .i64 0, .int .i64 0, .int .i64 0, .int .u64 1, .int .u64 0]) (by simp)).1
    have zw16 := (q7 (w16.heap.size, #[.int .i64 0, .int .i64 0, .int .i64 0, .int .i64 0, .int .i64 0, .int .u64 0, .int .u64 1]) (by simp)).1
    exact ⟨(zw4.cellAt 0).trans rfl, (zw8.cellAt 0).trans rfl, (zw10.cellAt 0).trans rfl, (zw10.cellAt 5).trans rfl, (zw10.cellAt 6).trans rfl, (zw12.cellAt 0).trans rfl, (zw12.cellAt 6).trans rfl, (zw16.cellAt 0).trans rfl, (zw16.cellAt 6).trans rfl⟩
  have HW : Hid (∀ w', Below W11.heap.size W11 w' → Below w.heap.size w w') := by
    intro w' hb
    obtain ⟨fg, fh, q1, q2, q3, q4, q5⟩ := K11.out.below hb
    exact q4
  clear K11
  go_upto_region 13 with ((go_at_call 22; refine HC.out.mono ?_; rintro e w30 ⟨u, rfl, o1, b1⟩; obtain ⟨ua, uc, rfl⟩ := o1.shape; obtain ⟨ub, uo, e9, _, _, d⟩ := (o1.seg Ou.cs_len (by decide)).readAt (i := 0) rfl; cases e9; have d0 := d 0 _ rfl; have d3 := d 4 _ rfl; clear d; have HB1 := hide b1; obtain ⟨yw4_0, yw8_0, yw10_0, yw10_5, yw10_6, yw12_0, yw12_6, yw16_0, yw16_6⟩ := HX.out _ b1; simp only [List.length_cons, List.length_nil, Nat.zero_add, Nat.zero_mul, Nat.add_zero] at *; clear o1 b1))
  clear HC HX
  go_wp2_with (go_at_call 23; refine (HBL.out _ HB1.out).mono ?_; rintro e w31 ⟨rfl, rfl⟩)
  go_ret
  exact ⟨rfl, HW.out _ HB1.out⟩
end Go.Proofs.Ytmipgfobggbndaa
