/-
  weight.
-/
import Derived.Test.YtfiafbfbiidnlaaJWt
namespace Go.Proofs.Ytfiafbfbiidnlaa
open Go.RowKit

/-- By how much a window that slides multiplies. -/
def mulN (n : Nd) : Nat := if n.kind = 7 ∧ n.wk = 2 then ((n.ws + n.wl - 1) / n.wl).toNat else 1
def sumN (ins : List Int) (ws : List Nat) : Nat := (ins.map fun x => ws.getD x.toNat 0).sum
def wt1 (n : Nd) (ws : List Nat) : Nat := if n.kind = 1 then 1 else min (sumN n.ins ws * mulN n) 65
theorem sumN_take {ins : List Int} {ws : List Nat} {t : Nat} {x : Int} (hx : ins[t]? = some x) : sumN (ins.take (t + 1)) ws = sumN (ins.take t) ws + ws.getD x.toNat 0 := by
  have hl := lt_of_get hx
  rw [List.getElem?_eq_getElem hl] at hx
  cases hx
  unfold sumN
  rw [List.take_succ_eq_append_getElem hl, List.map_append, List.sum_append]
  simp
theorem sumN_le {ins : List Int} {ws : List Nat} (h : ∀ x ∈ ws, x ≤ 65) : sumN ins ws ≤ ins.length * 65 := by
  unfold sumN
  induction ins with
  | nil => simp
  | cons x r ih =>
    have hx : ws.getD x.toNat 0 ≤ 65 := by
      rw [List.getD_eq_getElem?_getD]
      cases hg : ws[x.toNat]? with
      | none => simp
      | some y => exact h y (List.mem_of_getElem? hg)
    simp only [List.map_cons, List.sum_cons, List.length_cons]
    omega

set_option maxHeartbeats 4000000 in
set_option maxRecDepth 100000 in
theorem weight_any {B G : Nat} {w : World} (n : Nd) (ws : List Nat) (hi : LSeg 1 ic B w (.slice n.ia n.ins.length n.ic) n.ins) (hB : B ≤ w.heap.size) (hl : n.ins.length ≤ 4)
    (hin : ∀ x ∈ n.ins, 0 ≤ x ∧ x < (ws.length : Int)) (h65 : ∀ x ∈ ws, x ≤ 65) (hw : BoxT 3 w G (ws.map fun x : Nat => Value.int .i64 (x : Int)).toArray)
    (hwin : n.kind = 7 → n.wk = 2 → 1 ≤ n.ws ∧ n.ws ≤ 68719476736 ∧ 1 ≤ n.wl ∧ n.wl ≤ 68719476736) :
    Calls Try.prog 53 #[n.val, .slice (some ⟨G, 0, none⟩) ws.length ws.length] w fun e w' => e = .returned (.int .i64 (wt1 n ws : Nat)) ∧ Below w.heap.size w w' := by
  have hb : Below w.heap.size w (w.alloc (.cells n.cs.toArray 54)) := (Below.refl _ _).alloc (Nat.le_refl _) _
  have HB := hide hb
  have HBX := hide (BoxT.new 54 w n.cs.toArray)
  have HI := hide hi
  have HIN := hide hin
  have H65 := hide h65
  have HW := hide hw
  have HBB := hide hB
  obtain ⟨m, hm⟩ : ∃ m, mulN n = m := ⟨_, rfl⟩
  have hsum := sumN_le (ins := n.ins) h65
  unfold wt1
  rw [hm]
  unfold mulN at hm
  clear hi hin h65 hw hb
  obtain ⟨kd, ia, icp, ins, par, ⟨eo, en, ea, ec, el⟩, ag, wk, wz, wl⟩ := n
  unfold Nd.val at *
  unfold Nd.cs at *
  simp only at *
  by_cases k1 : kd = 1
  · rw [if_pos k1]
    subst k1
    go_enter Try.func53, Try.ntmps53
    go_wp2_with fail
    go_ret
    exact ⟨rfl, HB.out⟩
  · rw [if_neg k1]
    have q1 : (kd == 1) = false := by simp [k1]
    obtain ⟨S, hS⟩ : ∃ S, sumN ins ws = S := ⟨_, rfl⟩
    rw [hS] at hsum ⊢
    have HS := hide hS
    clear hS k1
    have hS260 : S ≤ 260 := by omega
    have hpost : Hid (∀ (W : World) (R : Nat), R = min (S * m) 65 → Below w.heap.size w W → (Ending.returned (.int .i64 (R : Int)) = .returned (.int .i64 ((min (S * m) 65 : Nat) : Int)) ∧ Below w.heap.size w W)) := fun W R h1 h2 => ⟨by rw [h1], h2⟩
    go_enter Try.func53, Try.ntmps53
    go_wp2_with fail
    go_loopg [5, 14] (ins.length + 1) (fun g sv iv wr => ∃ t : Nat, iv = .int .i64 (t : Int) ∧ sv = .int .i64 (sumN (ins.take t) ws : Nat) ∧ t ≤ ins.length ∧ ins.length + 1 ≤ g + t ∧ sumN (ins.take t) ws ≤ 260 ∧ Hid (Below w.heap.size w wr) ∧ Hid (wr.heap = (w.alloc (.cells #[.int .i64 kd, .slice ia ins.length icp, .int .i64 par, .int .i64 eo, .int .i64 en, .slice ea el.length ec, .int .i64 ag, .int .i64 wk, .int .i64 wz, .int .i64 wl] 54)).heap))
    case atStart => exact ⟨0, rfl, rfl, by omega, by omega, by simp [sumN], HB, rfl⟩
    case round =>
      obtain ⟨t, rfl, rfl, ht, hg, hs2, GB, GH⟩ := hrel
      obtain ⟨go, rfl⟩ : ∃ go, gk = go + 1 := ⟨gk - 1, by omega⟩
      have X1 : BoxT 54 wr w.heap.size #[.int .i64 kd, .slice ia ins.length icp, .int .i64 par, .int .i64 eo, .int .i64 en, .slice ea el.length ec, .int .i64 ag, .int .i64 wk, .int .i64 wz, .int .i64 wl] := by
        unfold BoxT
        rw [GH.out]; exact HBX.out
      by_cases hlt : t < ins.length
      · obtain ⟨x, hx⟩ := get_of_lt hlt
        obtain ⟨xb, xo, rfl, -, cx⟩ := (HI.out.below (GB.out.mono HBB.out)).num hx
        obtain ⟨x0, x1⟩ := HIN.out x (List.mem_of_getElem? hx)
        obtain ⟨f, rfl⟩ : ∃ f : Nat, x = (f : Int) := ⟨x.toNat, by omega⟩
        obtain ⟨y, hy⟩ := get_of_lt (l := ws) (i := f) (by omega)
        have cy : wr.cell? ⟨G, f, none⟩ = some (.int .i64 (y : Int)) := by
          rw [(HW.out.below GB.out).cellAt]; simp [hy]
        have hst := sumN_take (ws := ws) hx
        rw [Int.toNat_natCast, getD_of hy] at hst
        have bt : (t : Int) < (ins.length : Int) := by omega
        have hy65 := H65.out y (List.mem_of_getElem? hy)
        have htk : sumN (ins.take (t + 1)) ws ≤ 260 := by
          have := sumN_le (ins := ins.take (t + 1)) H65.out
          rw [List.length_take] at this
          omega
        have HST := hide hst
        obtain ⟨q, hq⟩ : ∃ q, sumN (ins.take t) ws = q := ⟨_, rfl⟩
        rw [hq] at HST hs2 ⊢
        clear hst hx hy hq X1
        go_wp2_with fail
        go_roundg go
        case rel => exact ⟨t + 1, by go_num, by rw [HST.out]; go_num, by omega, by omega, htk, GB, GH⟩
        case measure => omega
      · have hte : t = ins.length := by omega
        have htt : sumN (ins.take t) ws = S := by rw [hte, List.take_length]; exact HS.out
        have bt : ¬ (t : Int) < (ins.length : Int) := by omega
        rw [htt]
        obtain ⟨d0, d1, d2, d3, d4, d5, d6, d7, d8, d9⟩ := X1.cells10
        clear X1 htt hs2 hte
        by_cases k7 : kd = 7 ∧ wk = 2
        · rw [if_pos k7] at hm
          obtain ⟨rfl, rfl⟩ := k7
          obtain ⟨s1, s2, s3, s4⟩ := hwin rfl rfl
          have hq0 : 0 ≤ (wz + wl - 1) / wl := Int.ediv_nonneg (by omega) (by omega)
          have hq1 : (wz + wl - 1) / wl ≤ wz + wl - 1 := Int.ediv_le_self _ (by omega)
          have hq : (wz + wl - 1) / wl = (m : Int) := by omega
          have hmb : m ≤ 137438953472 := by omega
          obtain ⟨P, hP⟩ : ∃ P, S * m = P := ⟨_, rfl⟩
          have hP1 : (S : Int) * (m : Int) = (P : Int) := by rw [← hP]; push_cast; rfl
          have hP2 : P ≤ 260 * 137438953472 := by rw [← hP]; exact Nat.mul_le_mul hS260 hmb
          have hz : (wl == 0) = false := by simp; omega
          have hmin : (if (65 : Int) < (P : Int) then 65 else (P : Int)) = ((min P 65 : Nat) : Int) := by split <;> omega
          obtain ⟨R, hR⟩ : ∃ R, min P 65 = R := ⟨_, rfl⟩
          rw [hR] at hmin
          have HR : Hid (R = min (S * m) 65) := by rw [hP]; exact hR.symm
          clear hm hP hq0 hq1 hR hwin
          have hwl0 : wl ≠ 0 := by omega
          go_wp2_with fail
          go_ret
          exact hpost.out _ R HR.out GB.out
        · rw [if_neg k7] at hm
          have hmin : (if (65 : Int) < (S : Int) then 65 else (S : Int)) = ((min S 65 : Nat) : Int) := by split <;> omega
          obtain ⟨R, hR⟩ : ∃ R, min S 65 = R := ⟨_, rfl⟩
          rw [hR] at hmin
          have HR : Hid (R = min (S * m) 65) := by rw [← hm, Nat.mul_one]; exact hR.symm
          clear hR hm
          by_cases h7 : kd = 7
          · subst h7
            have q2 : (wk == 2) = false := by simp; omega
            clear k7 hwin
            go_wp2_with fail
            go_ret
            exact hpost.out _ R HR.out GB.out
          · have q7 : (kd == 7) = false := by simp [h7]
            clear k7 h7 hwin
            go_wp2_with fail
            go_ret
            exact hpost.out _ R HR.out GB.out
end Go.Proofs.Ytfiafbfbiidnlaa
