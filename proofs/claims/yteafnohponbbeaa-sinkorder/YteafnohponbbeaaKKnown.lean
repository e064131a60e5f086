/-
  known.
-/
import Derived.Test.YteafnohponbbeaaKFace
namespace Go.Proofs.Yteafnohponbbeaa
open Go.RowKit

def F0 : Int → PS := fun _ => emp
def F1 : Int → PS := stF F0 0 1 [⟨0, 0, 1⟩]
def F2 : Int → PS := stF F1 0 2 [⟨0, 0, 2⟩]
def F3 : Int → PS := cmF F2 0 1
def F4 : Int → PS := abF F3 0 1
def F5 : Int → PS := stF F4 0 2 [⟨0, 0, 3⟩]
def F6 : Int → PS := cmF F5 0 2
def F7 : Int → PS := cmF F6 0 2
def F8 : Int → PS := stF F7 0 2 []
def F9 : Int → PS := cmF F8 0 5
def O3 : List (List Rc) := [] ++ cmO F2 0 1
def O6 : List (List Rc) := O3 ++ cmO F5 0 2
def O7 : List (List Rc) := O6 ++ cmO F6 0 2
def O9 : List (List Rc) := O7 ++ cmO F8 0 5
theorem e1 : stE F0 0 1 = 0 := by kernel_rfl
theorem e2 : stE F1 0 2 = 0 := by kernel_rfl
theorem e3 : cmE F2 0 1 = 0 := by kernel_rfl
theorem e5 : stE F4 0 2 = 0 := by kernel_rfl
theorem e6 : cmE F5 0 2 = 0 := by kernel_rfl
theorem e7 : cmE F6 0 2 = 0 := by kernel_rfl
theorem e8 : stE F7 0 2 = 170 := by kernel_rfl
theorem e9 : cmE F8 0 5 = 171 := by kernel_rfl
theorem eo : O9.flatten = [⟨0, 0, 1⟩, ⟨0, 0, 3⟩] := by kernel_rfl
theorem el : (F9 0).last = 2 := by kernel_rfl
theorem es : ((F9 0).stg.map Prod.fst).length = 0 := by kernel_rfl
theorem eu : (uptoS (F9 0) 1).length = 1 := by kernel_rfl
/-- A log that was made behind w. -/
def KW (w wi : World) (l : Nat) (f : Int → PS) (o : List (List Rc)) (W : Nat) : Prop := ∃ fp, LA wi l fp f o W ∧ (∀ i, fp i → w.heap.size ≤ i) ∧ Below w.heap.size w wi
section
variable {w wi w' : World} {l : Nat} {f : Int → PS} {o : List (List Rc)} {W : Nat}
theorem KW.post {f' : Int → PS} {o' : List (List Rc)} {W' : Nat} {fp : Nat → Prop} (hn : ∀ i, fp i → w.heap.size ≤ i) (hb : Below w.heap.size w wi) (h : LPost wi w' l fp f' o' W') : KW w w' l f' o' W' := by
  obtain ⟨fp', h1, h2⟩ := h
  refine ⟨fp', h1, fun i hi => ?_, hb.trans (h2.below hb.size hn)⟩
  rcases h2.sub i hi with e | e
  · exact hn i e
  · have := hb.size; omega
theorem KW.below (h : KW w wi l f o W) (hb : Below wi.heap.size wi w') : KW w w' l f o W := by
  obtain ⟨fp, h1, h2, h3⟩ := h
  exact ⟨fp, h1.below hb, h2, h3.trans (hb.mono h3.size)⟩
theorem KW.world (h : KW w wi l f o W) : Below w.heap.size w wi := by
  obtain ⟨fp, h1, h2, h3⟩ := h
  exact h3
theorem KW.new (w : World) : Calls Try.prog 10 #[] w fun e w' => ∃ l, e = .returned (.pointer (some ⟨l, 0, none⟩)) ∧ KW w w' l F0 [] 0 := by
  refine (New_any w).mono ?_
  rintro e w' ⟨l, fp, rfl, h1, h2, h3⟩
  exact ⟨l, rfl, fp, h1, h3, h2⟩
theorem KW.stage (h : KW w wi l f o W) (hW : W ≤ 500000) {k : Int} (hk : In64 k) (n : Nat) {rv : Value} {rs : List Rc} (hr : LSeg 3 Rc.cs wi.heap.size wi rv rs) (hrl : rs.length ≤ 500000) {f' : Int → PS} (hf : f' = stF f k n rs) {W' : Nat} (hW' : W + rs.length + 1 ≤ W') {x : Int} (hx : stE f k n = x) :
    Calls Try.prog 11 #[.pointer (some ⟨l, 0, none⟩), .int .i64 k, .int .u64 (n : Int), rv] wi fun e w' => e = .returned (.int .i64 x) ∧ KW w w' l f' o W' := by
  obtain ⟨fp, h1, h2, h3⟩ := h
  subst hf hx
  refine (Stage_LA h1 hW hk n hr (Nat.le_refl _) hrl).mono ?_
  rintro e w' ⟨rfl, fp', h4, h5⟩
  exact ⟨rfl, KW.post h2 h3 ⟨fp', h4.up hW', h5⟩⟩
theorem KW.commit (h : KW w wi l f o W) (hW : W ≤ 500000) {k : Int} (hk : In64 k) (n : Nat) {f' : Int → PS} (hf : f' = cmF f k n) {o' : List (List Rc)} (ho : o' = o ++ cmO f k n) {x : Int} (hx : cmE f k n = x) :
    Calls Try.prog 13 #[.pointer (some ⟨l, 0, none⟩), .int .i64 k, .int .u64 (n : Int)] wi fun e w' => e = .returned (.int .i64 x) ∧ KW w w' l f' o' W := by
  obtain ⟨fp, h1, h2, h3⟩ := h
  subst hf hx ho
  refine (Commit_LA h1 hW hk n).mono ?_
  rintro e w' ⟨rfl, h4⟩
  exact ⟨rfl, KW.post h2 h3 h4⟩
theorem KW.abort (h : KW w wi l f o W) (hW : W ≤ 500000) {k : Int} (hk : In64 k) (n : Nat) {f' : Int → PS} (hf : f' = abF f k n) :
    Calls Try.prog 15 #[.pointer (some ⟨l, 0, none⟩), .int .i64 k, .int .u64 (n : Int)] wi fun e w' => e = .returned (.tuple #[]) ∧ KW w w' l f' o W := by
  obtain ⟨fp, h1, h2, h3⟩ := h
  subst hf
  refine (Abort_LA h1 hW hk n).mono ?_
  rintro e w' ⟨rfl, h4⟩
  exact ⟨rfl, KW.post h2 h3 h4⟩
theorem KW.all (h : KW w wi l f o W) (hW : W ≤ 500000) : Calls Try.prog 18 #[.pointer (some ⟨l, 0, none⟩)] wi fun e w' => ∃ u, e = .returned u ∧ OwnL 39 3 Rc.cs wi.heap.size w' u o.flatten ∧ KW w w' l f o W := by
  have h0 := h
  obtain ⟨fp, h1, h2, h3⟩ := h
  refine (All_LA h1 hW).mono ?_
  rintro e w' ⟨u, rfl, o1, b1⟩
  exact ⟨u, rfl, o1, h0.below b1⟩
theorem KW.last (h : KW w wi l f o W) {k : Int} (hk : In64 k) : Calls Try.prog 19 #[.pointer (some ⟨l, 0, none⟩), .int .i64 k] wi fun e w' => e = .returned (.int .u64 ((f k).last : Int)) ∧ wi = w' := by
  obtain ⟨fp, h1, h2, h3⟩ := h
  exact Last_LA h1 hk
theorem KW.staged (h : KW w wi l f o W) (hW : W ≤ 500000) {k : Int} (hk : In64 k) : Calls Try.prog 22 #[.pointer (some ⟨l, 0, none⟩), .int .i64 k] wi fun e w' => ∃ u, e = .returned u ∧ OwnL 32 1 u64cs wi.heap.size w' u ((f k).stg.map Prod.fst) ∧ KW w w' l f o W := by
  have h0 := h
  obtain ⟨fp, h1, h2, h3⟩ := h
  refine (Staged_LA h1 hW hk).mono ?_
  rintro e w' ⟨u, rfl, o1, b1⟩
  exact ⟨u, rfl, o1, h0.below b1⟩
theorem KW.upto (h : KW w wi l f o W) (hW : W ≤ 500000) {k : Int} (hk : In64 k) (n : Nat) : Calls Try.prog 24 #[.pointer (some ⟨l, 0, none⟩), .int .i64 k, .int .u64 (n : Int)] wi fun e w' => ∃ u, e = .returned u ∧ OwnL 39 3 Rc.cs wi.heap.size w' u (uptoS (f k) n) ∧ KW w w' l f o W := by
  have h0 := h
  obtain ⟨fp, h1, h2, h3⟩ := h
  refine (Upto_LA h1 hW hk n).mono ?_
  rintro e w' ⟨u, rfl, o1, b1⟩
  exact ⟨u, rfl, o1, h0.below b1⟩
theorem KW.rec (h : KW w wi l f o W) (n : Int) : Calls Try.prog 27 #[.int .i64 n] wi fun e w' => ∃ u, e = .returned u ∧ LSeg 3 Rc.cs w'.heap.size w' u [⟨0, 0, n⟩] ∧ KW w w' l f o W := by
  refine (rec_any wi n).mono ?_
  rintro e w' ⟨u, rfl, o1, b1⟩
  exact ⟨u, rfl, o1, h.below b1⟩
end
theorem seg_two {w : World} {N : Nat} (hb : BoxT 39 w N #[.int .i64 0, .int .i64 0, .int .i64 1, .int .i64 0, .int .i64 0, .int .i64 3]) : LSeg 3 Rc.cs w.heap.size w (.slice (some ⟨N, 0, none⟩) 2 2) [⟨0, 0, 1⟩, ⟨0, 0, 3⟩] := by
  refine ⟨_, _, rfl, by simp, .inr ⟨N, 0, rfl, hb.lt, fun i z hi j u hu => ?_⟩⟩
  rw [hb.cellAt]
  match i, hi with
  | 0, hi => obtain rfl : (⟨0, 0, 1⟩ : Rc) = z := by simpa using hi
             match j, hu with
             | 0, hu => simpa [Rc.cs] using hu
             | 1, hu => simpa [Rc.cs] using hu
             | 2, hu => simpa [Rc.cs] using hu
             | j + 3, hu => simp [Rc.cs] at hu
  | 1, hi => obtain rfl : (⟨0, 0, 3⟩ : Rc) = z := by simpa using hi
             match j, hu with
             | 0, hu => simpa [Rc.cs] using hu
             | 1, hu => simpa [Rc.cs] using hu
             | 2, hu => simpa [Rc.cs] using hu
             | j + 3, hu => simp [Rc.cs] at hu
  | i + 2, hi => simp at hi
theorem in0 : In64 0 := by unfold In64; omega
theorem in1 : In64 1 := by unfold In64; omega
set_option maxHeartbeats 4000000 in
set_option maxRecDepth 100000 in
theorem known_any (w : World) : Calls Try.prog 8 #[] w fun e w' => e = .returned (.bool true) ∧ Below w.heap.size w w' := by
  go_enter Try.func8, Try.ntmps8
  go_wp2_with (first | (go_at_call 10; refine (KW.new w).mono ?_; rintro e w2 ⟨l, rfl, k1⟩; have A0 := hide k1; clear k1) | (have chk := A0; clear chk; go_at_call 27; refine (A0.out.rec 1).mono ?_; rintro e w2 ⟨u, rfl, s1, k1⟩; have RB0 := hide s1; have B0 := hide k1; clear s1 k1 A0) | (have chk := B0; clear chk; go_at_call 11; refine (B0.out.stage (by omega) in0 1 RB0.out (by simp) (f' := F1) rfl (W' := 2) (by simp) e1).mono ?_; rintro e w2 ⟨rfl, k1⟩; have A1 := hide k1; clear k1 B0) | (have chk := A1; clear chk; go_at_call 27; refine (A1.out.rec 2).mono ?_; rintro e w2 ⟨u, rfl, s1, k1⟩; have RB1 := hide s1; have B1 := hide k1; clear s1 k1 A1) | (have chk := B1; clear chk; go_at_call 11; refine (B1.out.stage (by omega) in0 2 RB1.out (by simp) (f' := F2) rfl (W' := 4) (by simp) e2).mono ?_; rintro e w2 ⟨rfl, k1⟩; have A2 := hide k1; clear k1 B1) | (have chk := A2; clear chk; go_at_call 13; refine (A2.out.commit (by omega) in0 1 (f' := F3) rfl (o' := O3) rfl e3).mono ?_; rintro e w2 ⟨rfl, k1⟩; have A3 := hide k1; clear k1 A2) | (have chk := A3; clear chk; go_at_call 15; refine (A3.out.abort (by omega) in0 1 (f' := F4) rfl).mono ?_; rintro e w2 ⟨rfl, k1⟩; have A4 := hide k1; clear k1 A3) | (have chk := A4; clear chk; go_at_call 27; refine (A4.out.rec 3).mono ?_; rintro e w2 ⟨u, rfl, s1, k1⟩; have RB4 := hide s1; have B4 := hide k1; clear s1 k1 A4) | (have chk := B4; clear chk; go_at_call 11; refine (B4.out.stage (by omega) in0 2 RB4.out (by simp) (f' := F5) rfl (W' := 6) (by simp) e5).mono ?_; rintro e w2 ⟨rfl, k1⟩; have A5 := hide k1; clear k1 B4) | (have chk := A5; clear chk; go_at_call 13; refine (A5.out.commit (by omega) in0 2 (f' := F6) rfl (o' := O6) rfl e6).mono ?_; rintro e w2 ⟨rfl, k1⟩; have A6 := hide k1; clear k1 A5) | (have chk := A6; clear chk; go_at_call 13; refine (A6.out.commit (by omega) in0 2 (f' := F7) rfl (o' := O7) rfl e7).mono ?_; rintro e w2 ⟨rfl, k1⟩; have A7 := hide k1; clear k1 A6) | (have chk := A7; clear chk; go_at_call 11; refine (A7.out.stage (by omega) in0 2 (rs := []) (LSeg.nil' _ _ _ _) (by simp) (f' := F8) rfl (W' := 7) (by simp) e8).mono ?_; rintro e w2 ⟨rfl, k1⟩; have A8 := hide k1; clear k1 A7) | (have chk := A8; clear chk; go_at_call 13; refine (A8.out.commit (by omega) in0 5 (f' := F9) rfl (o' := O9) rfl e9).mono ?_; rintro e w2 ⟨rfl, k1⟩; have A9 := hide k1; clear k1 A8) | (have chk := A9; clear chk; go_at_call 18; refine (A9.out.all (by omega)).mono ?_; rintro e w2 ⟨u, rfl, o1, k1⟩; rw [eo] at o1; have A10 := hide k1; have OU := hide o1; clear k1 o1 A9) | (have chk := A10; clear chk; go_at_call 17; refine (hRecords_any ((OU.out.alloc _).seg Rc.cs_len (by simp)) (seg_two (BoxT.new _ _ _)) (by simp)).mono ?_; rintro e w2 ⟨rfl, b1⟩; have A11 := hide ((A10.out.below (below_box _ _)).below b1); clear b1 A10) | (have chk := A11; clear chk; go_at_call 19; refine (A11.out.last in0).mono ?_; rintro e w2 ⟨rfl, rfl⟩; rw [el]; have A12 := A11; clear A11) | (have chk := A12; clear chk; go_at_call 22; refine (A12.out.staged (by omega) in0).mono ?_; rintro e w2 ⟨u, rfl, o1, k1⟩; obtain ⟨ua, uc, hu⟩ := o1.shape; rw [es] at hu; subst hu; have A13 := hide k1; clear k1 o1 A12) | (have chk := A13; clear chk; go_at_call 24; refine (A13.out.upto (by omega) in0 1).mono ?_; rintro e w2 ⟨u, rfl, o1, k1⟩; obtain ⟨ua, uc, hu⟩ := o1.shape; rw [eu] at hu; subst hu; have A14 := hide k1; clear k1 o1 A13) | fail)
  go_ret
  exact ⟨rfl, A14.out.world⟩

end Go.Proofs.Yteafnohponbbeaa
