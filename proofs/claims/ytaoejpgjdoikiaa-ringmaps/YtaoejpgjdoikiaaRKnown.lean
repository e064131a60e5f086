/-
  The law's known(): the chapter's examples.
-/
import Derived.Test.YtaoejpgjdoikiaaRInt2
import Derived.Test.YtaoejpgjdoikiaaRTryS
namespace Go.Proofs.Ytaoejpgjdoikiaa
open Go.RowKit

section
variable {α : Type} {T e : Nat} {f : α → Value} {w w' : World} {k b mo : Nat} {q : List α}
theorem Rg.beside (H : Rg T e f w k b mo q) {k2 c2 : Nat} (t : Turned k2 c2 w w') (h1 : k ≠ k2) (h2 : k ≠ c2) (h3 : b ≠ k2) (h4 : b ≠ c2) : Rg T e f w' k b mo q :=
  H.back (t.block k H.lt h1 h2) (fun h => t.block b h h3 h4)
theorem Ty.beside {c s r : Nat} {gs : List Nat} (H : Ty T e f w k c mo gs q s r) {k2 c2 : Nat} (t : Turned k2 c2 w w') (h1 : k ≠ k2) (h2 : k ≠ c2) (h3 : c ≠ k2) (h4 : c ≠ c2) (hg : ∀ g ∈ gs, g ≠ k2 ∧ g ≠ c2) : Ty T e f w' k c mo gs q s r :=
  H.back (t.block k H.box.lt h1 h2) (t.block c H.lt h3 h4) (fun g hm => t.block g (H.ltg hm) (hg g hm).1 (hg g hm).2)
end
theorem Turned.toBelow {B k b : Nat} {a w w' : World} (h : Below B a w) (t : Turned k b w w') (hB : B ≤ w.heap.size) (hk : B ≤ k) (hb : B ≤ b) : Below B a w' :=
  h.trans ⟨t.os, t.tape, t.output, t.size, fun i hi => t.block i (by omega) (by omega) (by omega)⟩

set_option maxHeartbeats 4000000 in
set_option maxRecDepth 100000 in
theorem known_any (w : World) : Calls Try.prog 7 #[] w fun e w' => e = .returned (.bool true) ∧ Below w.heap.size w w' := by
  obtain ⟨B, hB⟩ : ∃ B, B = w.heap.size := ⟨_, rfl⟩
  rw [← hB]
  have L0 : Hid (Below B w w) := Below.refl _ _
  have HB0 : Hid (B ≤ w.heap.size) := Nat.le_of_eq hB
  clear hB
  go_enter Try.func7, Try.ntmps7
  go_wp2_with fail
  go_at_call 8
  refine (NewI w 2).mono ?_
  rintro e w1 ⟨rfl, r1, l1⟩
  have hk1 := r1.lt
  have L1 := hide (L0.out.trans (l1.mono HB0.out))
  have HB1 := HB0.out
  generalize w.heap.size = kr at *
  rw [show (min (max (2 : Int) 1) 65536).toNat = 2 from rfl] at r1
  clear l1 HB0 L0
  go_wp2_with fail
  go_at_call 34
  refine (NewTryS w1 1).mono ?_
  rintro e w2 ⟨rfl, t2, l2⟩
  have hk2 := t2.box.lt
  rw [show (min (max (1 : Int) 1) 65536).toNat = 1 from rfl] at t2
  have r2 := r1.below l2
  have L2 := hide (L1.out.trans (l2.mono (by omega)))
  clear r1 l2 L1
  generalize w1.heap.size = c1 at *
  go_wp2_with fail
  go_at_call 34
  refine (NewTryS w2 3).mono ?_
  rintro e w3 ⟨rfl, o3, l3⟩
  have hk3 := o3.box.lt
  rw [show (min (max (3 : Int) 1) 65536).toNat = 3 from rfl] at o3
  have t3 := t2.below l3
  have r3 := r2.below l3
  have L3 := hide (L2.out.trans (l3.mono (by omega)))
  clear r2 t2 l3 L2
  generalize w2.heap.size = c2 at *
  have hbk : B ≤ kr ∧ kr < c1 ∧ c1 + 1 < c2 := ⟨HB1, hk1, hk2⟩
  go_wp2_with fail
  go_at_call 9
  refine (PutI r3 (by omega) 1).mono ?_
  rintro e w4 ⟨rfl, b4, r4, u4, h4⟩
  have z4 := u4.size
  have t4 := t3.beside u4 (by omega) (by omega) (by omega) (by omega) (by simp)
  have o4 := o3.beside u4 (by omega) (by omega) (by omega) (by omega) (by simp)
  have L4 := hide (u4.toBelow L3.out (by omega) (by omega) (by omega))
  simp only [List.length_nil, Nat.zero_lt_succ, if_true, List.nil_append] at r4
  have q4 : kr ≤ b4 ∧ (b4 = kr ∨ c2 + 1 < b4) := by omega
  clear r3 t3 o3 u4 L3 h4
  go_wp2_with fail
  go_at_call 9
  refine (PutI r4 (by omega) 2).mono ?_
  rintro e w5 ⟨rfl, b5, r5, u5, h5⟩
  have z5 := u5.size
  have t5 := t4.beside u5 (by omega) (by omega) (by omega) (by omega) (by simp)
  have o5 := o4.beside u5 (by omega) (by omega) (by omega) (by omega) (by simp)
  have L5 := hide (u5.toBelow L4.out (by omega) (by omega) (by omega))
  replace r5 : Rg 64 3 (Value.int .i64) w5 kr b5 2 [1, 2] := r5
  have q5 : kr ≤ b5 ∧ (b5 = kr ∨ c2 + 1 < b5) := by omega
  clear r4 t4 o4 u5 L4 h5
  go_wp2_with fail
  go_at_call 9
  refine (PutI r5 (by omega) 3).mono ?_
  rintro e w6 ⟨rfl, b6, r6, u6, h6⟩
  have z6 := u6.size
  have t6 := t5.beside u6 (by omega) (by omega) (by omega) (by omega) (by simp)
  have o6 := o5.beside u6 (by omega) (by omega) (by omega) (by omega) (by simp)
  have L6 := hide (u6.toBelow L5.out (by omega) (by omega) (by omega))
  replace r6 : Rg 64 3 (Value.int .i64) w6 kr b6 2 [1, 2] := r6
  have q6 : kr ≤ b6 ∧ (b6 = kr ∨ c2 + 1 < b6) := by omega
  clear r5 t5 o5 u6 L5 h6
  go_wp2_with fail
  go_at_call 10
  refine (FrontI r6 (by omega) 3).mono ?_
  rintro e w7 ⟨rfl, b7, r7, u7, h7⟩
  have z7 := u7.size
  have t7 := t6.beside u7 (by omega) (by omega) (by omega) (by omega) (by simp)
  have o7 := o6.beside u7 (by omega) (by omega) (by omega) (by omega) (by simp)
  have L7 := hide (u7.toBelow L6.out (by omega) (by omega) (by omega))
  replace r7 : Rg 64 3 (Value.int .i64) w7 kr b7 2 [3, 1, 2] := r7
  have q7 : kr ≤ b7 ∧ (b7 = kr ∨ c2 + 1 < b7) := by omega
  clear r6 t6 o6 u7 L6 h7
  go_wp2_with fail
  go_at_call 11
  refine (TakeI r7).mono ?_
  rintro e w8 ⟨rfl, b8, r8, u8, h8⟩
  have z8 := u8.size
  have t8 := t7.beside u8 (by omega) (by omega) (by omega) (by omega) (by simp)
  have o8 := o7.beside u8 (by omega) (by omega) (by omega) (by omega) (by simp)
  have L8 := hide (u8.toBelow L7.out (by omega) (by omega) (by omega))
  have q8 : kr ≤ b8 ∧ (b8 = kr ∨ c2 + 1 < b8) := by omega
  clear r7 t7 o7 u8 L7 h8
  go_wp2_with fail
  go_at_call 35
  refine (SendS t8 ⟨#[120]⟩).mono ?_
  rintro e w9 ⟨rfl, ⟨s9, t9⟩, u9⟩
  have z9 := u9.size
  replace t9 : Ty 78 9 Value.string w9 (c1 + 1) c1 1 [w8.heap.size] [⟨#[120]⟩] s9 0 := t9
  have hg9 : c2 + 1 < w8.heap.size := by omega
  have L9 := hide (u9.toBelow L8.out (by omega) (by omega) (by omega))
  generalize w8.heap.size = g9 at *
  have o9 := o8.beside u9 (by omega) (by omega) (by omega) (by omega) (by simp)
  have r9 := r8.beside u9 (by omega) (by omega) (by omega) (by omega)
  clear r8 t8 o8 u9 L8
  go_wp2_with fail
  go_at_call 35
  refine (SendS t9 ⟨#[121]⟩).mono ?_
  rintro e w10 ⟨rfl, ⟨s10, t10⟩, u10⟩
  have z10 := u10.size
  replace t10 : Ty 78 9 Value.string w10 (c1 + 1) c1 1 [g9] [⟨#[120]⟩] s10 0 := t10
  have o10 := o9.beside u10 (by omega) (by omega) (by omega) (by omega) (by simp)
  have r10 := r9.beside u10 (by omega) (by omega) (by omega) (by omega)
  have L10 := hide (u10.toBelow L9.out (by omega) (by omega) (by omega))
  clear r9 t9 o9 u10 L9
  go_wp2_with fail
  go_at_call 35
  refine (SendS o10 ⟨#[122]⟩).mono ?_
  rintro e w11 ⟨rfl, ⟨s11, o11⟩, u11⟩
  have z11 := u11.size
  replace o11 : Ty 78 9 Value.string w11 (c2 + 1) c2 3 [w10.heap.size] [⟨#[122]⟩] s11 0 := o11
  have t11 := t10.beside u11 (by omega) (by omega) (by omega) (by omega) (by intro g hg; simp at hg; omega)
  have r11 := r10.beside u11 (by omega) (by omega) (by omega) (by omega)
  have L11 := hide (u11.toBelow L10.out (by omega) (by omega) (by omega))
  have hg11 : c2 + 1 < w10.heap.size := by omega
  generalize w10.heap.size = g11 at *
  clear r10 t10 o10 u11 L10
  go_wp2_with fail
  go_at_call 36
  refine (Either0S t11 _).mono ?_
  rintro e w12 ⟨rfl, t12, u12⟩
  have z12 := u12.size
  have o12 := o11.beside u12 (by omega) (by omega) (by omega) (by omega) (by intro g hg; simp at hg; omega)
  have r12 := r11.beside u12 (by omega) (by omega) (by omega) (by omega)
  have L12 := hide (u12.toBelow L11.out (by omega) (by omega) (by omega))
  clear r11 t11 o11 u12 L11
  go_wp2_with fail
  go_at_call 36
  refine (Either1S t12 o12).mono ?_
  rintro e w13 ⟨rfl, o13, u13⟩
  have z13 := u13.size
  have t13 := t12.beside u13 (by omega) (by omega) (by omega) (by omega) (by simp)
  have r13 := r12.beside u13 (by omega) (by omega) (by omega) (by omega)
  have L13 := hide (u13.toBelow L12.out (by omega) (by omega) (by omega))
  clear r12 t12 o12 u13 L12
  go_wp2_with fail
  go_at_call 36
  refine (EitherNS t13 o13).mono ?_
  rintro e w14 ⟨rfl, rfl⟩
  clear t13 o13
  go_wp2_with fail
  go_at_call 14
  refine (LenI r13).mono ?_
  rintro e w15 ⟨rfl, rfl⟩
  go_wp2_with fail
  go_at_call 15
  refine (RoomI r13 (by omega)).mono ?_
  rintro e w16 ⟨rfl, b16⟩
  go_wp2
  go_ret
  exact ⟨rfl, L13.out.trans (b16.mono (by omega))⟩
end Go.Proofs.Ytaoejpgjdoikiaa
