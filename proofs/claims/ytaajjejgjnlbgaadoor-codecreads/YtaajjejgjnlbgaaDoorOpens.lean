import Derived.Test.YtaajjejgjnlbgaaDoorSeal
namespace Go.Proofs.YtaajjejgjnlbgaaDoor
open Go.RowKit

/-- What is within a seal, if it is whole. -/
def rOpen (l : List Nat) : Option (List Nat) :=
  if (num 4 (l, false)).1 ≤ 1048576 ∧ (num 4 (num 4 (l, false)).2).2.2 = false ∧ (num 4 (l, false)).1 ≤ (num 4 (num 4 (l, false)).2).2.1.length ∧ crc ((num 4 (num 4 (l, false)).2).2.1.take (num 4 (l, false)).1) = (num 4 (num 4 (l, false)).2).1
  then some ((num 4 (num 4 (l, false)).2).2.1.take (num 4 (l, false)).1) else none

def OpenPost (w : World) (r : Option (List Nat)) (e : Ending) (w' : World) : Prop :=
  (∃ l v', r = some l ∧ e = .returned (.tuple #[v', .int .i64 (8 + (l.length : Int)), .int .i64 0]) ∧ Own w.heap.size w' v' l ∧ Below w.heap.size w w') ∨ (r = none ∧ e = .returned (.tuple #[.slice none 0 0, .int .i64 0, .int .i64 11]) ∧ Below w.heap.size w w')
theorem OpenPost.no {w w' : World} {r : Option (List Nat)} (hr : r = none) (h : Below w.heap.size w w') : OpenPost w r (.returned (.tuple #[.slice none 0 0, .int .i64 0, .int .i64 11])) w' := .inr ⟨hr, rfl, h⟩
theorem OpenPost.yes {w w' : World} {r : Option (List Nat)} {l : List Nat} {v' : Value} (hr : r = some l) (ho : Own w.heap.size w' v' l) (h : Below w.heap.size w w') : OpenPost w r (.returned (.tuple #[v', .int .i64 (8 + (l.length : Int)), .int .i64 0])) w' := .inl ⟨l, v', hr, rfl, ho, h⟩

theorem Byts.take {l : List Nat} (h : Byts l) (k : Nat) : Byts (l.take k) := fun i x hx => h i x (by
  rw [List.getElem?_take] at hx
  split at hx
  · exact hx
  · cases hx)

set_option maxHeartbeats 2000000 in
set_option maxRecDepth 100000 in
theorem Open_any (v : Value) (l : List Nat) (w : World) (h : Seg w v l) (hb : Byts l) (hg : Glob w) : Calls Tryd.prog 31 #[v] w (OpenPost w (rOpen l)) := by
  have hg0 := hg.1
  have HG : Hid (Glob w) := hg
  have hr0 := RdS.start h hb
  obtain ⟨ao, cap, rfl, h1, h2, h3, h4⟩ := h
  clear h4 hg
  generalize hro : rOpen l = ro
  unfold rOpen at hro
  have n0 := number_any (sz := 4) hr0 (by omega) (by omega)
  have n1 := fun (w1 : World) (hr : RdS w.heap.size w1 (num 4 (l, false)).2) => number_any (sz := 4) hr (by omega) (by omega)
  rw [show (4 : Int).toNat = 4 from rfl] at n0 n1
  have hsl : (num 4 (l, false)).1 < 4294967296 := num_lt (k := 4) hb
  have hsu : ∀ s : List Nat × Bool, Byts s.1 → (num 4 s).1 < 4294967296 := fun s hs => num_lt (k := 4) hs
  generalize num 4 (l, false) = p0 at *
  obtain ⟨size, s0⟩ := p0
  simp only at *
  have hsu := hsu s0
  generalize num 4 s0 = p1 at *
  obtain ⟨sum, s1, bad⟩ := p1
  simp only at *
  have HR : Hid ((if size ≤ 1048576 ∧ bad = false ∧ size ≤ s1.length ∧ crc (s1.take size) = sum then some (s1.take size) else none) = ro) := hro
  have N1 : Hid (∀ (w1 : World), RdS w.heap.size w1 s0 → Calls Tryd.prog 65 #[.pointer (some ⟨w.heap.size, 0, none⟩), .int .i64 4] w1 fun e w' => e = .returned (.int .u64 sum) ∧ RdS w.heap.size w' (s1, bad) ∧ w1.grownBy w' (some w.heap.size)) := n1
  clear hro n1 hr0
  go_enter Tryd.func31, Tryd.ntmps31
  go_wp2_with fail
  refine n0.mono ?_
  rintro e w1 ⟨rfl, hr1, hg1⟩
  clear n0
  have hsum := hsu hr1.2
  clear hsu
  go_wp2_with fail
  refine (N1.out w1 hr1).mono ?_
  rintro e w2 ⟨rfl, hr2, hg2⟩
  have hG := grownBy_trans (grownBy_trans (grownBy_alloc' w _ (some w.heap.size)) hg1) hg2
  clear hg1 hg2 hr1 N1
  have hbel := Below.of_grown hG (Nat.le_refl _) (Nat.le_refl _)
  have hR := hr2.lt
  by_cases hsz : size ≤ 1048576
  · have hw : wrap64 (size : Int) = size := by unfold wrap64; omega
    have hws : IntKind.u32.wrap (sum : Int) = sum := by rw [IntKind.wrap_u32]; omega
    by_cases hle : size ≤ s1.length
    · go_wp2_with fail
      refine (take_yes w.heap.size w2 s1 bad size hr2.1 hle).mono ?_
      rintro e w3 ⟨v3, rfl, hsg, hrd, hg3⟩
      have hbel := hbel.trans (Below.of_grown hg3 (Nat.le_refl _) (by omega))
      have hb3 : Byts (s1.take size) := hr2.2.take _
      have hb3' : Byts (s1.drop size) := hr2.2.drop _
      have hz3 := hg3.size
      obtain ⟨ao', cap', r0, r1, rf⟩ := RdS.cells (s := (s1.drop size, bad)) ⟨hrd, hb3'⟩
      clear hg3 hG hr2 r0
      simp only at r1
      cases bad
      · go_wp2_with fail
        refine (Sum_any v3 (s1.take size) w3 (hsg.seg (by omega)) hb3 (HG.out.below hbel hg0)).mono ?_
        rintro e w4 ⟨rfl, rfl⟩
        have hsg4 := hsg.seg (show w.heap.size ≤ w4.heap.size by omega)
        have hlen : (s1.take size).length = size := by simp; omega
        by_cases hce : crc (s1.take size) = sum
        · have e1 : ((crc (s1.take size) : Int) != (sum : Int)) = false := by simp [hce]
          have HC : Hid (crc (s1.take size) = sum) := hce
          have HS4 : Hid (Seg w4 v3 (s1.take size)) := hsg4
          obtain ⟨ao3, cap3, hv3, k1, k2, k3, _⟩ := hsg4
          rw [hlen] at hv3
          clear hsg hrd hce hlen
          rw [hv3] at HS4 ⊢
          go_wp2_with fail
          refine (Clone_any _ (s1.take size) w4 HS4.out (by simp; omega)).mono ?_
          rintro e w5 ⟨v5, rfl, ho5, hb5⟩
          have hbel := hbel.trans (hb5.mono (by omega))
          have ho5 := ho5.mono (show w.heap.size ≤ w4.heap.size by omega)
          go_wp2
          go_ret3
          have hlen : (s1.take size).length = size := by simp; omega
          have hp := OpenPost.yes (r := ro) (l := s1.take size) (by rw [← HR.out, if_pos ⟨hsz, by trivial, hle, HC.out⟩]) ho5 hbel
          rw [hlen] at hp
          exact hp
        · have e1 : ((crc (s1.take size) : Int) != (sum : Int)) = true := by simp; omega
          have HC : Hid (¬ crc (s1.take size) = sum) := hce
          clear hsg hsg4 hrd hce
          go_wp2
          go_ret3
          refine OpenPost.no ?_ hbel
          rw [← HR.out, if_neg (fun h => HC.out h.2.2.2)]
      · go_wp2
        go_ret3
        refine OpenPost.no ?_ hbel
        rw [← HR.out, if_neg (fun h => by cases h.2.1)]
    · go_wp2_with fail
      refine (take_no w.heap.size w2 s1 bad size hr2.1 (by omega)).mono ?_
      rintro e w3 ⟨rfl, hrd, hg3⟩
      have hbel := hbel.trans (Below.of_grown hg3 (Nat.le_refl _) (by omega))
      obtain ⟨ao', cap', r0, r1, rf⟩ := RdS.cells (s := (s1, true)) ⟨hrd, hr2.2⟩
      clear hg3 hG hr2 r0
      simp only at r1
      go_wp2
      go_ret3
      refine OpenPost.no ?_ hbel
      rw [← HR.out, if_neg (fun h => hle h.2.2.1)]
  · go_wp2
    go_ret3
    refine OpenPost.no ?_ hbel
    rw [← HR.out, if_neg (fun h => hsz h.1)]
end Go.Proofs.YtaajjejgjnlbgaaDoor
