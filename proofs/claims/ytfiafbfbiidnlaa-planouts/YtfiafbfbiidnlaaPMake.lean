/-
  Make of a job that Check takes.
-/
import Derived.Test.YtfiafbfbiidnlaaPChans
namespace Go.Proofs.Ytfiafbfbiidnlaa
open Go.RowKit

theorem OwnL.lsegA' {α : Type} {t sz : Nat} {cs : α → List Value} (hcs : ∀ x, (cs x).length = sz) {base : Nat} {w : World} {v : Value} {xs : List α} (h : OwnL t sz cs base w v xs) (hl : xs.length ≤ 1000000) : LSeg sz cs w.heap.size w v xs := by
  rcases h.2 with ⟨rfl, h0⟩ | ⟨g, cap, cur, rfl, h2, h3, h4, h5, h6, h7⟩
  · rw [List.length_eq_zero_iff.1 h0]; exact LSeg.none
  · refine LSeg.ofRow hcs (t := t) (cur := cur) h3 (Array.getElem?_eq_some_iff.1 h3).1 (by omega) (fun j u hj => ?_)
    rw [← h7, List.getElem?_take] at hj
    split at hj
    · simpa using hj
    · cases hj
theorem OwnL.set2 {α : Type} {t t' sz : Nat} {cs : α → List Value} {base : Nat} {w : World} {v x y : Value} {xs : List α} {k i j : Nat} {c : Array Value} (h : OwnL t sz cs base w v xs) (ht : t ≠ t') (hk : BoxT t' w k c) : OwnL t sz cs base ((w.setCell ⟨k, i, none⟩ x).setCell ⟨k, j, none⟩ y) v xs := by
  refine h.back (fun g e => ?_)
  obtain ⟨cur, hc⟩ := h.has g e
  have hne : g ≠ k := BoxT.ne (t := t) (t' := t') hc hk ht
  rw [Below.heap_setCell _ ⟨k, j, none⟩ y g hne, Below.heap_setCell w ⟨k, i, none⟩ x g hne]
/-- The channels of a job. -/
def chOf (ns : List Nd) : List Cn := chNs ns (tksOf 0 ns) 0 ns
set_option maxHeartbeats 2000000 in
set_option maxRecDepth 100000 in
theorem Make_any {w : World} {v : Value} {ns : List Nd} (hj : JobIn w.heap.size w v ns) (hl : ns.length ≤ 1000) (hp : ∀ n ∈ ns, n.par ≤ 4) (hR : (chOf ns).length ≤ 1000000)
    (hck : ∀ w', Below w.heap.size w w' → Calls Try.prog 29 #[.agg #[v]] w' fun e w'' => e = .returned (.int .i64 0) ∧ Below w'.heap.size w' w'') :
    Calls Try.prog 10 #[.agg #[v]] w fun e w' => ∃ tv cv, e = .returned (.agg #[tv, cv]) ∧ OwnL 42 2 Tk.cs w.heap.size w' tv (tksOf 0 ns) ∧ OwnL 40 3 Cn.cs w.heap.size w' cv (chOf ns) ∧ Below w.heap.size w w' := by
  obtain ⟨na, ncp, rfl⟩ := hj.shape
  have hb : Below w.heap.size w ((w.alloc (.cells #[.slice na ns.length ncp] 24)).alloc (.cells #[.slice none 0 0, .slice none 0 0] 30)) := ((Below.refl _ _).alloc (Nat.le_refl _) _).alloc (by simp) _
  have H2 := hide (two2 w (.cells #[.slice na ns.length ncp] 24) (.cells #[.slice none 0 0, .slice none 0 0] 30))
  have HC := hide (hck _ hb)
  have HJ := hide hj
  have HB := hide hb
  have HP := hide hp
  have HR := hide hR
  have htl : (tksOf 0 ns).length ≤ 4000 := by have := tksOf_len ns hp 0; omega
  have HTL := hide htl
  clear hj hb hck hp hR htl
  go_enter Try.func10, Try.ntmps10
  go_wp2_with (first
    | (go_at_call 29; refine HC.out.mono ?_; rintro e w1 ⟨rfl, b1⟩
       have b1' := HB.out.trans (b1.mono HB.out.size)
       have k1 : BoxT 24 w1 w.heap.size #[.slice na ns.length ncp] := (show BoxT 24 _ _ _ from H2.out.1).below b1
       have k2 : BoxT 30 w1 (w.heap.size + 1) #[.slice none 0 0, .slice none 0 0] := (show BoxT 30 _ _ _ from H2.out.2).below b1
       have c1 : w1.cell? ⟨w.heap.size, 0, none⟩ = some (.slice na ns.length ncp) := (by rw [k1.cellAt]; rfl)
       have HT := hide (tasksOf_any ((HJ.out.below b1').mono b1'.size) hl HP.out)
       have B1 := hide b1'
       have K1 := hide k1
       have K2 := hide k2
       clear b1 b1' k1 k2)
    | (go_at_call 30; refine HT.out.mono ?_; rintro e w2 ⟨tv, rfl, o2, b2⟩
       obtain ⟨ta, tc, htv⟩ := o2.shape
       subst htv
       have b2' := B1.out.trans (b2.mono B1.out.size)
       have k1 := K1.out.below b2
       have k2 := K2.out.below b2
       have c2 : w2.cell? ⟨w.heap.size, 0, none⟩ = some (.slice na ns.length ncp) := (by rw [k1.cellAt]; rfl)
       have HCH := hide (channelsOf_any ((HJ.out.below b2').mono b2'.size) (OwnL.lsegA' Tk.cs_len o2 (by have := HTL.out; omega)) hl (by have := HTL.out; omega) HR.out)
       have B2 := hide b2'
       have L2 := hide k2
       have O2 := hide (OwnL.mono o2 B1.out.size)
       clear b2 b2' k1 k2 o2)
    | (go_at_call 31; refine HCH.out.mono ?_; rintro e w3 ⟨cv, rfl, o3, b3⟩
       obtain ⟨ca, cc, hcv⟩ := o3.shape
       subst hcv
       have b3' := B2.out.trans (b3.mono B2.out.size)
       have k3 := L2.out.below b3
       have e0 : w3.cell? ⟨w.heap.size + 1, 0, none⟩ = some (.slice none 0 0) := (by rw [k3.cellAt]; rfl)
       have e1 : w3.cell? ⟨w.heap.size + 1, 1, none⟩ = some (.slice none 0 0) := (by rw [k3.cellAt]; rfl)
       have f0 := k3.free 0
       have f1 := k3.free 1
       have B3 := hide b3'
       have O2' := hide (O2.out.below b3)
       have O3 := hide (OwnL.mono o3 B2.out.size)
       have K3 := hide k3
       clear b3 b3' o3 k3))
  have hfin : BoxT 30 ((w3.setCell ⟨w.heap.size + 1, 0, none⟩ (.slice ta (tksOf 0 ns).length tc)).setCell ⟨w.heap.size + 1, 1, none⟩ (.slice ca (chNs ns (tksOf 0 ns) 0 ns).length cc)) (w.heap.size + 1) #[.slice ta (tksOf 0 ns).length tc, .slice ca (chNs ns (tksOf 0 ns) 0 ns).length cc] := by
    have := (K3.out.set 0 (.slice ta (tksOf 0 ns).length tc)).set 1 (.slice ca (chNs ns (tksOf 0 ns) 0 ns).length cc)
    simpa using this
  have r0 := hfin.cellAt 0
  have r1 := hfin.cellAt 1
  simp at r0 r1
  refine bodyPost_ret (v := .agg #[.slice ta (tksOf 0 ns).length tc, .slice ca (chNs ns (tksOf 0 ns) 0 ns).length cc]) (by simp [results, Try.results10, go_sem, r0, r1]) rfl ⟨_, _, rfl, ?_, ?_, ?_⟩
  · exact OwnL.set2 (t' := 30) O2'.out (by decide) K3.out
  · exact OwnL.set2 (t' := 30) O3.out (by decide) K3.out
  · exact (B3.out.setCell (p := ⟨w.heap.size + 1, 0, none⟩) (by simp) _).setCell (p := ⟨w.heap.size + 1, 1, none⟩) (by simp) _
end Go.Proofs.Ytfiafbfbiidnlaa
