/-
  The document's readers: seals.
-/
import Derived.Test.YtaajjejgjnlbgaaDoorDRd
import Derived.Test.YtaajjejgjnlbgaaDoorRefSeal
import Derived.Test.YtaajjejgjnlbgaaDoorQuiet
namespace Go.Proofs.YtaajjejgjnlbgaaDoor
open Go.RowKit

theorem RdSD.view {R : Nat} {w : World} {s : List Nat × Bool} (h : RdSD R w s) : ∃ ao cap, w.cell? ⟨R, 0, none⟩ = some (.slice ao s.1.length cap) ∧ w.cell? ⟨R, 1, none⟩ = some (.bool s.2) ∧ s.1.length ≤ cap ∧ cap ≤ 9223372036854775807 ∧ Seg w (.slice ao s.1.length cap) s.1 := by
  have hR := h.lt
  obtain ⟨⟨v, hbx, hsg⟩, hb⟩ := h
  have hs := hsg.seg (by omega)
  obtain ⟨ao, cap, rfl, h1, h2, _⟩ := hsg
  exact ⟨ao, cap, hbx.cells2.1, hbx.cells2.2, h1, h2, hs⟩
/-- What the document's Open tells. -/
def rOpenD (l : List Nat) : Option (List Nat) :=
  if (numD 4 (l, false)).1 ≤ 1048576 ∧ (numD 4 (numD 4 (l, false)).2).2.2 = false ∧ (numD 4 (l, false)).1 ≤ (numD 4 (numD 4 (l, false)).2).2.1.length ∧ crc ((numD 4 (numD 4 (l, false)).2).2.1.take (numD 4 (l, false)).1) = (numD 4 (numD 4 (l, false)).2).1
  then some ((numD 4 (numD 4 (l, false)).2).2.1.take (numD 4 (l, false)).1) else none

set_option maxHeartbeats 2000000 in
set_option maxRecDepth 100000 in
theorem OpenD_any (v : Value) (l : List Nat) (w : World) (h : Seg w v l) (hb : Byts l) : Calls Tryd.prog 32 #[v] w (OpenPost w (rOpenD l)) := by
  have hr0 := RdSD.start h hb
  obtain ⟨ao, cap, rfl, h1, h2, h3, h4⟩ := h
  clear h4
  generalize hro : rOpenD l = ro
  unfold rOpenD at hro
  have hsl : (numD 4 (l, false)).1 < 4294967296 := numD_lt (k := 4) hb
  generalize hp0 : numD 4 (l, false) = p0 at hro hsl
  obtain ⟨size, s0⟩ := p0
  have HP0 := hide hp0
  clear hp0
  dsimp only at hro hsl
  generalize hp1 : numD 4 s0 = p1 at hro
  obtain ⟨sum, s1, bad⟩ := p1
  have HP1 := hide hp1
  clear hp1
  dsimp only at hro
  have HR := hide hro
  clear hro
  have N0 := numD_any (sz := 4) hr0 (by omega) (by omega)
  rw [show (4 : Int).toNat = 4 from rfl, HP0.out] at N0
  go_enter Tryd.func32, Tryd.ntmps32
  go_wp2_with fail
  refine N0.mono ?_
  rintro e w1 ⟨rfl, hr1, hg1⟩
  clear N0 hr0
  have N1 := numD_any (sz := 4) hr1 (by omega) (by omega)
  rw [show (4 : Int).toNat = 4 from rfl, HP1.out] at N1
  go_wp2_with fail
  refine N1.mono ?_
  rintro e w2 ⟨rfl, hr2, hg2⟩
  have hG := grownBy_trans (grownBy_trans (grownBy_alloc' w _ (some w.heap.size)) hg1) hg2
  have hbel := Below.of_grown hG (Nat.le_refl _) (Nat.le_refl _)
  have hR := hr2.lt
  have hbt := hr2.2
  obtain ⟨ao', cap', r0, r1, hlc, hcm, hsg⟩ := hr2.view
  have HSG := hide hsg
  clear hg1 hg2 hr1 N1 hG hsg hr2
  dsimp only at r0 r1 hlc hbt
  have hl3 : s1.length ≤ 140737488355328 := by obtain ⟨_, _, _, _, _, h, _⟩ := HSG.out; exact h
  have hwl : IntKind.u64.wrap (s1.length : Int) = s1.length := by rw [IntKind.wrap_u64]; omega
  cases bad
  rotate_left
  · go_wp2
    go_ret3
    refine OpenPost.no ?_ hbel
    rw [← HR.out, if_neg (fun h => by cases h.2.1)]
  by_cases hsz : 1048576 < size
  · go_wp2
    go_ret3
    refine OpenPost.no ?_ hbel
    rw [← HR.out, if_neg (fun h => by have := h.1; omega)]
  by_cases hle : s1.length < size
  · go_wp2
    go_ret3
    refine OpenPost.no ?_ hbel
    rw [← HR.out, if_neg (fun h => by have := h.2.2.1; omega)]
  have hw : wrap64 (size : Int) = size := by unfold wrap64; omega
  have hsz' : size ≤ 1048576 := by omega
  have hle' : size ≤ s1.length := by omega
  have hcp : size ≤ cap' := by omega
  have hst := HSG.out.first size hle'
  have HST := hide hst
  have hcall := refSum_any _ (s1.take size) w2 hst (hbt.take size)
  have hcl := crc_lt (s1.take size) (hbt.take size)
  have hwc : IntKind.u64.wrap (crc (s1.take size) : Int) = crc (s1.take size) := by rw [IntKind.wrap_u64]; omega
  have hlen : (s1.take size).length = size := by simp; omega
  have HL := hide hlen
  clear hst hlen
  generalize hcr : crc (s1.take size) = cr at *
  have HC := hide hcr
  clear hcr
  go_wp2_with fail
  refine hcall.mono ?_
  rintro e w3 ⟨rfl, rfl⟩
  clear hcall
  by_cases hce : cr = sum
  · have e1 : ((cr : Int) != (sum : Int)) = false := by simp [hce]
    have HCE := hide hce
    clear hce
    go_wp2_with (first | (at_builtin; refine app_seg rfl _ _ rfl w.heap.size _ [] rfl (Own.nil _ _) _ (s1.take size) rfl HST.out (by have := HL.out; simp only [List.length_nil]; omega) (by omega) ?_) | fail)
    intro v4 w4 ho4 hk4
    have hbel := hbel.trans (hk4.below (by omega))
    have hp := OpenPost.yes (r := ro) (l := s1.take size) (by rw [← HR.out, if_pos ⟨hsz', by trivial, hle', HCE.out⟩]) ho4 hbel
    rw [HL.out] at hp
    have HPP := hide hp
    clear hp hk4 ho4
    have e8 : (size : Int) + 8 = 8 + (size : Int) := by omega
    go_wp2
    go_ret3
    exact HPP.out
  · have e1 : ((cr : Int) != (sum : Int)) = true := by simp; omega
    have HCE := hide hce
    clear hce
    go_wp2
    go_ret3
    refine OpenPost.no ?_ hbel
    rw [← HR.out, if_neg (fun h => HCE.out h.2.2.2)]
end Go.Proofs.YtaajjejgjnlbgaaDoor
