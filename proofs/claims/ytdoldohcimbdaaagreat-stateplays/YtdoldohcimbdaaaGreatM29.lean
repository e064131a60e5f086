/-
  Texts in build order: SPane.
-/
import Derived.Test.YtdoldohcimbdaaaGreatM28
/-
  paneOf.
-/
namespace Go.Proofs.YtdoldohcimbdaaaGreat
open Go.RowKit

/-- Bytes as they lie, and no more of them than the slice may have. -/
def BSeg (B : Nat) (w : World) (b off cap : Nat) (l : List Nat) : Prop := b < B ∧ l.length ≤ cap ∧ cap ≤ 9223372036854775807 ∧ (∀ x ∈ l, x < 256) ∧ ∀ (i x : Nat), l[i]? = some x → w.cell? ⟨b, off + i, none⟩ = some (.int .u8 (x : Int))
def g8 (l : List Nat) (j : Nat) : Int := wrap64 (nOf ((l.drop (j * 8)).take 8) : Int)
def pOf (l : List Nat) : Pn := ⟨g8 l 0, g8 l 1, g8 l 2, g8 l 3⟩
theorem BSeg.below {B : Nat} {w w' : World} {b off cap : Nat} {l : List Nat} (h : BSeg B w b off cap l) (hb : Below B w w') : BSeg B w' b off cap l := by
  refine ⟨h.1, h.2.1, h.2.2.1, h.2.2.2.1, fun i x hx => ?_⟩
  have h1 := h.2.2.2.2 i x hx
  have h2 := hb.block b h.1
  simp only [World.cell?, h2] at *
  exact h1
theorem BSeg.part {B : Nat} {w : World} {b off cap : Nat} {l : List Nat} (h : BSeg B w b off cap l) (hB : B ≤ w.heap.size) {j : Nat} (hj : j * 8 + 8 ≤ l.length) : LSeg 1 u8cs w.heap.size w (.slice (some ⟨b, off + j * 8, none⟩) 8 (cap - j * 8)) ((l.drop (j * 8)).take 8) := by
  have hl : ((l.drop (j * 8)).take 8).length = 8 := by rw [List.length_take, List.length_drop]; omega
  refine ⟨some ⟨b, off + j * 8, none⟩, cap - j * 8, by rw [hl], by rw [hl]; omega, .inr ⟨b, off + j * 8, rfl, Nat.lt_of_lt_of_le h.1 hB, fun i x hx q u hu => ?_⟩⟩
  rw [List.getElem?_take] at hx
  split at hx
  · rw [List.getElem?_drop] at hx
    have h1 := h.2.2.2.2 _ x hx
    match q, hu with
    | 0, hu =>
      simp [u8cs] at hu
      subst hu
      simp [Nat.add_assoc] at *
      exact h1
  · cases hx
def arI (A : Nat → Int) (i : Nat) : Array Value := #[.int .i64 (if 0 < i then A 0 else 0), .int .i64 (if 1 < i then A 1 else 0), .int .i64 (if 2 < i then A 2 else 0), .int .i64 (if 3 < i then A 3 else 0)]
set_option maxHeartbeats 4000000 in
set_option maxRecDepth 100000 in
theorem paneOf_any {w : World} {b off cap : Nat} {l : List Nat} (h : BSeg w.heap.size w b off cap l) (hn : 32 ≤ l.length) : Calls Tryz.prog 63 #[.slice (some ⟨b, off, none⟩) l.length cap] w fun e w' => e = .returned (pOf l).val ∧ Below w.heap.size w w' := by
  obtain ⟨A, hA⟩ : ∃ A, A = g8 l := ⟨_, rfl⟩
  rw [show (pOf l).val = .agg #[.int .i64 (A 0), .int .i64 (A 1), .int .i64 (A 2), .int .i64 (A 3)] by rw [hA]; rfl]
  have HA : Hid (∀ j, A j = wrap64 (nOf ((l.drop (j * 8)).take 8) : Int)) := fun j => (show _ = _ by rw [hA]; rfl)
  clear hA
  have HS := hide h
  have hcap := h.2.1
  have hcm := h.2.2.1
  have H0 : Hid (BoxT 70 ((w.alloc (.cells #[.int .i64 0, .int .i64 0, .int .i64 0, .int .i64 0] 70)).alloc (.cells #[.int .i64 0, .int .i64 0, .int .i64 0, .int .i64 0] 115)) w.heap.size #[.int .i64 0, .int .i64 0, .int .i64 0, .int .i64 0]) := BoxT.alloc (t := 70) (BoxT.new _ _ _) _
  have H1 : Hid (BoxT 115 ((w.alloc (.cells #[.int .i64 0, .int .i64 0, .int .i64 0, .int .i64 0] 70)).alloc (.cells #[.int .i64 0, .int .i64 0, .int .i64 0, .int .i64 0] 115)) (w.heap.size + 1) (arI A 0)) := BoxT.new_at (t := 115) (by simp)
  have HB := hide (below_box2 w (.cells #[.int .i64 0, .int .i64 0, .int .i64 0, .int .i64 0] 70) (.cells #[.int .i64 0, .int .i64 0, .int .i64 0, .int .i64 0] 115))
  clear h
  go_enter Tryz.func63, Tryz.ntmps63
  go_wp2_with fail
  go_loopg [5] 5 (fun gh iv wr => ∃ i : Nat, iv = .int .i64 (i : Int) ∧ i ≤ 4 ∧ 5 ≤ gh + i ∧ Hid (BoxT 70 wr w.heap.size #[.int .i64 0, .int .i64 0, .int .i64 0, .int .i64 0]) ∧ Hid (BoxT 115 wr (w.heap.size + 1) (arI A i)) ∧ Hid (Below w.heap.size w wr))
  case atStart => exact ⟨0, rfl, by omega, by omega, H0, H1, HB⟩
  case round =>
    clear H0 H1 HB
    obtain ⟨i, rfl, hi, hg, H0, H1, HB⟩ := hrel
    obtain ⟨go, rfl⟩ : ∃ go, gk = go + 1 := ⟨gk - 1, by omega⟩
    have HW : Hid (BSeg w.heap.size wr b off cap l) := HS.out.below HB.out
    have hsz := HB.out.size
    by_cases hlt : i < 4
    · have bt : (i : Int) < 4 := by omega
      have HN := hide (numberOf_any (HW.out.part hsz (j := i) (by omega)) (fun x hx => HW.out.2.2.2.1 x (List.mem_of_mem_drop (List.mem_of_mem_take hx))) (by rw [List.length_take]; omega))
      obtain ⟨G, hG⟩ : ∃ G, G = nOf ((l.drop (i * 8)).take 8) := ⟨_, rfl⟩
      rw [← hG] at HN
      have HG : Hid (A i = wrap64 (G : Int)) := (show _ = _ by rw [hG]; exact HA.out i)
      clear hG
      have hf := fun j => H1.out.free j
      have hc : ∀ j, j < 4 → ∃ u, wr.cell? ⟨w.heap.size + 1, j, none⟩ = some u := fun j hj => by
        rw [H1.out.cellAt]
        exact ⟨_, Array.getElem?_eq_getElem (show j < (arI A i).size from hj)⟩
      have HK : Hid (∀ u, Below w.heap.size w (wr.setCell ⟨w.heap.size + 1, i, none⟩ u) ∧ BoxT 70 (wr.setCell ⟨w.heap.size + 1, i, none⟩ u) w.heap.size #[.int .i64 0, .int .i64 0, .int .i64 0, .int .i64 0] ∧ BoxT 115 (wr.setCell ⟨w.heap.size + 1, i, none⟩ u) (w.heap.size + 1) ((arI A i).setIfInBounds i u)) := fun u => ⟨HB.out.grown (grownBy_set _ _ _ _) HB.out.size (fun k e => by cases e; omega), BoxT.other (t := 70) H0.out _ _ (by omega), BoxT.set (t := 115) H1.out _ _⟩
      obtain rfl | rfl | rfl | rfl : i = 0 ∨ i = 1 ∨ i = 2 ∨ i = 3 := by omega
      · obtain ⟨c0, hc0⟩ := hc 0 (by omega)
        clear hc
        simp only [Nat.zero_mul, Nat.add_zero, Nat.sub_zero] at HN
        generalize hW : wrap64 (G : Int) = V at *
        go_wp2_with (first | (go_at_call 62; refine HN.out.mono ?_; rintro e w1 ⟨rfl, rfl⟩) | fail)
        go_roundg go
        case rel =>
          refine ⟨1, rfl, by omega, by omega, (HK.out _).2.1, (show BoxT _ _ _ _ from ?_), (HK.out _).1⟩
          have h5 := (HK.out (.int .i64 V)).2.2
          rw [show (arI A 0).setIfInBounds 0 (.int .i64 V) = arI A 1 by rw [← HG.out]; simp [arI]] at h5
          exact h5
        case measure => omega
      · obtain ⟨c0, hc0⟩ := hc 1 (by omega)
        clear hc
        simp only [Nat.one_mul] at HN
        generalize hW : wrap64 (G : Int) = V at *
        go_wp2_with (first | (go_at_call 62; refine HN.out.mono ?_; rintro e w1 ⟨rfl, rfl⟩) | fail)
        go_roundg go
        case rel =>
          refine ⟨2, rfl, by omega, by omega, (HK.out _).2.1, (show BoxT _ _ _ _ from ?_), (HK.out _).1⟩
          have h5 := (HK.out (.int .i64 V)).2.2
          rw [show (arI A 1).setIfInBounds 1 (.int .i64 V) = arI A 2 by rw [← HG.out]; simp [arI]] at h5
          exact h5
        case measure => omega
      · obtain ⟨c0, hc0⟩ := hc 2 (by omega)
        clear hc
        simp only [Nat.reduceMul] at HN
        generalize hW : wrap64 (G : Int) = V at *
        go_wp2_with (first | (go_at_call 62; refine HN.out.mono ?_; rintro e w1 ⟨rfl, rfl⟩) | fail)
        go_roundg go
        case rel =>
          refine ⟨3, rfl, by omega, by omega, (HK.out _).2.1, (show BoxT _ _ _ _ from ?_), (HK.out _).1⟩
          have h5 := (HK.out (.int .i64 V)).2.2
          rw [show (arI A 2).setIfInBounds 2 (.int .i64 V) = arI A 3 by rw [← HG.out]; simp [arI]] at h5
          exact h5
        case measure => omega
      · obtain ⟨c0, hc0⟩ := hc 3 (by omega)
        clear hc
        simp only [Nat.reduceMul] at HN
        generalize hW : wrap64 (G : Int) = V at *
        go_wp2_with (first | (go_at_call 62; refine HN.out.mono ?_; rintro e w1 ⟨rfl, rfl⟩) | fail)
        go_roundg go
        case rel =>
          refine ⟨4, rfl, by omega, by omega, (HK.out _).2.1, (show BoxT _ _ _ _ from ?_), (HK.out _).1⟩
          have h5 := (HK.out (.int .i64 V)).2.2
          rw [show (arI A 3).setIfInBounds 3 (.int .i64 V) = arI A 4 by rw [← HG.out]; simp [arI]] at h5
          exact h5
        case measure => omega
    · obtain rfl : i = 4 := by omega
      have bt : ¬ ((4 : Nat) : Int) < 4 := by omega
      have h4 : BoxT 115 wr (w.heap.size + 1) #[.int .i64 (A 0), .int .i64 (A 1), .int .i64 (A 2), .int .i64 (A 3)] := H1.out
      obtain ⟨a0, a1, a2, a3⟩ := h4.cells4
      obtain ⟨p0, p1, p2, p3⟩ := H0.out.cells4
      have hf := fun j => H0.out.free j
      have HW5 : Hid (∀ W5, W5 = (((wr.setCell ⟨w.heap.size, 0, none⟩ (.int .i64 (A 0))).setCell ⟨w.heap.size, 1, none⟩ (.int .i64 (A 1))).setCell ⟨w.heap.size, 2, none⟩ (.int .i64 (A 2))).setCell ⟨w.heap.size, 3, none⟩ (.int .i64 (A 3)) → BoxT 70 W5 w.heap.size #[.int .i64 (A 0), .int .i64 (A 1), .int .i64 (A 2), .int .i64 (A 3)] ∧ Below w.heap.size w W5) := fun W5 e => by
        subst e
        have hk : ∀ k : Nat, some k = some w.heap.size → w.heap.size ≤ k := fun k e => by cases e; exact Nat.le_refl _
        refine ⟨BoxT.set (t := 70) (BoxT.set (t := 70) (BoxT.set (t := 70) (BoxT.set (t := 70) H0.out 0 (.int .i64 (A 0))) 1 (.int .i64 (A 1))) 2 (.int .i64 (A 2))) 3 (.int .i64 (A 3)), ?_⟩
        have b1 := HB.out.grown (grownBy_set wr w.heap.size 0 (.int .i64 (A 0))) HB.out.size (fun k e => hk k e.symm)
        have b2 := b1.grown (grownBy_set _ w.heap.size 1 (.int .i64 (A 1))) b1.size (fun k e => hk k e.symm)
        have b3 := b2.grown (grownBy_set _ w.heap.size 2 (.int .i64 (A 2))) b2.size (fun k e => hk k e.symm)
        exact b3.grown (grownBy_set _ w.heap.size 3 (.int .i64 (A 3))) b3.size (fun k e => hk k e.symm)
      go_wp2_with fail
      generalize hW5 : (((wr.setCell ⟨w.heap.size, 0, none⟩ (.int .i64 (A 0))).setCell ⟨w.heap.size, 1, none⟩ (.int .i64 (A 1))).setCell ⟨w.heap.size, 2, none⟩ (.int .i64 (A 2))).setCell ⟨w.heap.size, 3, none⟩ (.int .i64 (A 3)) = W5
      obtain ⟨h5, b5⟩ := HW5.out W5 hW5.symm
      obtain ⟨q0, q1, q2, q3⟩ := h5.cells4
      exact bodyPost_ret (v := .agg #[.int .i64 (A 0), .int .i64 (A 1), .int .i64 (A 2), .int .i64 (A 3)]) (by simp [results, Tryz.results63, go_sem, q0, q1, q2, q3]) rfl ⟨rfl, b5⟩
end Go.Proofs.YtdoldohcimbdaaaGreat
