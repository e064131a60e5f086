/-
  A channel of whole numbers: Peek.
-/
import Derived.Test.YtnomoekbfclckaaFCallI
namespace Go.Proofs.Ytnomoekbfclckaa
open Go.RowKit

set_option maxHeartbeats 1000000 in
set_option maxRecDepth 100000 in
theorem PeekNI {w : World} {k b mo : Nat} {q : List Int} (H : Rg 85 3 (Value.int .i64) w k b mo q) (i : Int) (hi : i < 0 ∨ (q.length : Int) ≤ i) :
    Calls Try.prog 54 #[.pointer (some ⟨k, 0, none⟩), .int .i64 i] w fun e w' => e = .returned (.tuple #[.int .i64 0, .bool false]) ∧ w' = w := by
  obtain ⟨L, h, so, H⟩ := H
  obtain ⟨d0, d1, d2, d3⟩ := H.box.cells4
  clear H
  rcases hi with hi | hi
  · go_enter Try.func54, Try.ntmps54
    go_wp2
    go_ret2
    exact ⟨rfl, rfl⟩
  · by_cases h0 : i < 0
    · go_enter Try.func54, Try.ntmps54
      go_wp2
      go_ret2
      exact ⟨rfl, rfl⟩
    · go_enter Try.func54, Try.ntmps54
      go_wp2
      go_ret2
      exact ⟨rfl, rfl⟩
set_option maxHeartbeats 1000000 in
set_option maxRecDepth 100000 in
theorem PeekI {w : World} {k b mo i : Nat} {x : Int} {q : List Int} (H : Rg 85 3 (Value.int .i64) w k b mo q) (hx : q[i]? = some x) {vi : Int} (hvi : vi = (i : Int)) :
    Calls Try.prog 54 #[.pointer (some ⟨k, 0, none⟩), .int .i64 vi] w fun e w' => e = .returned (.tuple #[Value.int .i64 x, .bool true]) ∧ Below w.heap.size w w' := by
  subst hvi
  obtain ⟨L, h, so, H⟩ := H
  have hi := (List.getElem?_eq_some_iff.1 hx).1
  have hL := H.big
  have hle := H.le
  rcases H.pl with ⟨h0, _⟩ | ⟨p1, p2, p3, cur, p4, p5, p6⟩
  · omega
  subst p2
  have hc := p6 i x hx
  obtain ⟨s, hs⟩ : ∃ s, (h + i) % L = s := ⟨_, rfl⟩
  have hix : s < L := by rw [← hs]; exact Nat.mod_lt _ (by omega)
  rw [hs] at hc
  have c5 := (p4.cellAt s).trans hc
  have hbl := p4.lt
  obtain ⟨c0, c1, c2, c3⟩ := H.box.cells4
  have HBX := hide H.box
  have HSS := hide hs
  clear H p4 p5 p6 hc hs hx
  generalize q.length = m at *
  have hneg : ¬ ((m : Int) ≤ i) := by omega
  go_enter Try.func54, Try.ntmps54
  go_wp2_with fail
  go_region_held3 (fun w' => w'.cell? ⟨k, 1, none⟩ = some (.slice (some ⟨b, 0, none⟩) L L) ∧ w'.cell? ⟨b, s, none⟩ = some (Value.int .i64 x)) (first | go_keep | exact ⟨c1, c5⟩ | exact ⟨z1, z5⟩)
      (first | (go_at_call 60; refine (slotI (k := k) (L := L) (h := h) (i := i) HBX.out.drew (by omega) (by omega) (by omega) HSS.out rfl).mono ?_; rintro e w4 ⟨rfl, b4⟩; have z1 : w4.cell? ⟨k, 1, none⟩ = some (.slice (some ⟨b, 0, none⟩) L L) := (b4.cell (p := ⟨k, 1, none⟩) HBX.out.lt).trans c1; have z5 : w4.cell? ⟨b, s, none⟩ = some (Value.int .i64 x) := (b4.cell (p := ⟨b, s, none⟩) hbl).trans c5; have HB4 := hide (((Below.refl w.heap.size w).drew).trans b4); clear b4))
  go_wp2
  go_ret2
  exact ⟨rfl, HB4.out⟩


section
variable {w : World} {fp : List Nat} {K cr : Nat} {S : FS Int}
set_option maxHeartbeats 1000000 in
set_option maxRecDepth 100000 in
theorem cPeekN (H : ChI w fp K cr S) (i : Int) (hi : i < 0 ∨ (S.wait.length : Int) ≤ i) : Calls Try.prog 34 #[.pointer (some ⟨K, 0, none⟩), .int .i64 i] w fun r w' => r = .returned (.tuple #[.int .i64 0, .bool false]) ∧ w' = w := by
  obtain ⟨_, _, kb, km, kw, bw, fb, fm, rfl, H⟩ := H
  obtain ⟨c0, c1, c2, c3, c4, c5⟩ := H.cells
  have hpk := hide (PeekNI H.ring i hi)
  clear H
  go_enter Try.func34, Try.ntmps34
  go_wp2_with (first | (go_at_call 54; refine hpk.out.mono ?_; rintro r w1 ⟨rfl, rfl⟩) | fail)
  go_ret2
  exact ⟨rfl, rfl⟩
set_option maxHeartbeats 1000000 in
set_option maxRecDepth 100000 in
theorem cPeek (H : ChI w fp K cr S) {i : Nat} {x : Int} (hx : S.wait[i]? = some x) : Calls Try.prog 34 #[.pointer (some ⟨K, 0, none⟩), .int .i64 (i : Int)] w fun r w' => r = .returned (.tuple #[.int .i64 x, .bool true]) ∧ Below w.heap.size w w' := by
  obtain ⟨_, _, kb, km, kw, bw, fb, fm, rfl, H⟩ := H
  obtain ⟨c0, c1, c2, c3, c4, c5⟩ := H.cells
  have hpk := hide (PeekI H.ring hx rfl)
  clear H
  go_enter Try.func34, Try.ntmps34
  go_wp2_with (first | (go_at_call 54; refine hpk.out.mono ?_; rintro r w1 ⟨rfl, b1⟩; have B1 := hide b1; clear b1) | fail)
  go_ret2
  exact ⟨rfl, B1.out⟩
end
end Go.Proofs.Ytnomoekbfclckaa
