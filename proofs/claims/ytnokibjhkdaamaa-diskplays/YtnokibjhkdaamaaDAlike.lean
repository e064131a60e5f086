/-
  Walks: alike: a disk and the document's disk of the same files are told to be alike.
-/
import Derived.Test.YtnokibjhkdaamaaDReadN
import Derived.Test.YtnokibjhkdaamaaDApart
namespace Go.Proofs.Ytnokibjhkdaamaa
open Go.RowKit Go.Maps Go.Shelf

theorem pFind_of_mem {p : Pd} {n : Nat} (h : Ok p n) (h0 : p.left ≠ 0) {f : Fi} (hf : f ∈ p.l) : pFind p f.n = (some f, 0) := by
  have h1 := fGet_of_mem h.rise hf
  unfold pFind
  simp [h0, h1]

set_option maxHeartbeats 4000000 in
set_option maxRecDepth 100000 in
theorem alike_p {w : World} {k b n R : Nat} {p : Pd} {rs : List Rf} {vl : Value} (h1 : PdAt w k b n p) (h2 : RAt w R p rs vl) :
    Calls Try.prog 36 #[.pointer (some ⟨k, 0, none⟩), .pointer (some ⟨R, 0, none⟩)] w fun e w' => e = .returned (.bool true) ∧ Below w.heap.size w w' := by
  obtain ⟨ao, cap, rfl, hc1, hc2⟩ := h2.cap
  have hok := hide h1.ok
  have hrl : rs.length ≤ 1000000 := by rw [h2.len]; exact Nat.le_trans h1.ok.len h1.ok.many
  have HH := hide (And.intro h1 h2)
  have hl1 := List_any h1
  clear h1 h2
  by_cases h0 : p.left = 0
  · have e0 : (p.left == 0) = true := by simp [h0]
    have hp : pList p = [] := if_pos h0
    rw [hp] at hl1
    go_enter Try.func36, Try.ntmps36
    go_wp2_with fail
    refine hl1.mono ?_
    rintro e wa ⟨va, rfl, na, -, ba⟩
    have HA : Hid (Below w.heap.size w wa ∧ PdAt wa k b n p ∧ RAt wa R p rs (.slice ao rs.length cap)) := ⟨ba, HH.out.1.below ba, HH.out.2.below ba⟩
    obtain ⟨a1, q1, rfl, -⟩ := na
    clear ba hl1
    have hD := Dead_p HA.out.2.1
    have hR := rDead HA.out.2.2
    rw [e0] at hD hR
    go_wp2_with fail
    refine hD.mono ?_
    rintro e w2 ⟨rfl, rfl⟩
    go_wp2_with fail
    refine hR.mono ?_
    rintro e w3 ⟨rfl, rfl⟩
    go_wp2_with fail
    refine (Used_p HA.out.2.1).mono ?_
    rintro e w4 ⟨rfl, rfl⟩
    go_wp2_with fail
    refine (rUsed HA.out.2.2 hrl hok.out.used).mono ?_
    rintro e w5 ⟨rfl, rfl⟩
    go_wp2_with fail
    refine hR.mono ?_
    rintro e w6 ⟨rfl, rfl⟩
    go_wp2_with fail
    refine hR.mono ?_
    rintro e w7 ⟨rfl, rfl⟩
    go_wp2_with fail
    go_loopw [6] (fun iv wr => iv = .int .i64 0 ∧ wr = w7) (fun iv _ => 0)
    case atStart => exact ⟨rfl, rfl⟩
    case round =>
      obtain ⟨rfl, rfl⟩ := hrel
      go_wp2
      go_ret
      exact ⟨rfl, HA.out.1⟩
  · have e0 : (p.left == 0) = false := by simp [h0]
    have hp : pList p = rs.map fun r => r.f.n := by
      unfold pList
      rw [if_neg h0, ← HH.out.2.eq, List.map_map]; rfl
    rw [hp] at hl1
    go_enter Try.func36, Try.ntmps36
    go_wp2_with fail
    refine hl1.mono ?_
    rintro e wa ⟨va, rfl, na, -, ba⟩
    have HA : Hid (Below w.heap.size w wa ∧ PdAt wa k b n p ∧ RAt wa R p rs (.slice ao rs.length cap) ∧ NSeg wa.heap.size wa va (rs.map fun r => r.f.n)) := ⟨ba, HH.out.1.below ba, HH.out.2.below ba, na⟩
    obtain ⟨a1, q1, rfl, -⟩ := na
    rw [List.length_map] at HA ⊢
    clear ba hl1
    have hD := Dead_p HA.out.2.1
    have hR := rDead HA.out.2.2.1
    rw [e0] at hD hR
    obtain ⟨z0, z1, z2⟩ := HA.out.2.2.1.box.cells3
    go_wp2_with fail
    refine hD.mono ?_
    rintro e w2 ⟨rfl, rfl⟩
    go_wp2_with fail
    refine hR.mono ?_
    rintro e w3 ⟨rfl, rfl⟩
    go_wp2_with fail
    refine (Used_p HA.out.2.1).mono ?_
    rintro e w4 ⟨rfl, rfl⟩
    go_wp2_with fail
    refine (rUsed HA.out.2.2.1 hrl hok.out.used).mono ?_
    rintro e w5 ⟨rfl, rfl⟩
    go_wp2_with fail
    refine hR.mono ?_
    rintro e w6 ⟨rfl, rfl⟩
    go_wp2_with fail
    refine hR.mono ?_
    rintro e w7 ⟨rfl, rfl⟩
    go_wp2_with fail
    clear hD hR z0 z1 z2
    go_loopw [6] (fun iv wr => ∃ i : Nat, i ≤ rs.length ∧ iv = .int .i64 i ∧ Hid (Below w7.heap.size w7 wr)) (fun iv _ => rs.length - (intOf iv).toNat)
    case atStart => exact ⟨0, Nat.zero_le _, rfl, Below.refl _ _⟩
    case round =>
      obtain ⟨i, hi, rfl, HI⟩ := hrel
      by_cases hlt : i < rs.length
      · obtain ⟨r, hr⟩ : ∃ r, rs[i]? = some r := ⟨_, List.getElem?_eq_getElem hlt⟩
        have hs : (rs.map fun r => r.f.n)[i]? = some r.f.n := by rw [List.getElem?_map, hr]; rfl
        have hrm := List.mem_of_getElem? hr
        have hfm : r.f ∈ p.l := by rw [← HA.out.2.2.1.eq]; exact List.mem_map_of_mem hrm
        have hnl : r.f.n.length ≤ 32 := pList_name hok.out (by rw [hp]; exact List.mem_of_getElem? hs)
        have hss : (⟨r.f.n.toArray⟩ : ByteArray).size ≤ maxLen := by
          show r.f.n.toArray.size ≤ maxLen
          unfold maxLen; simp; omega
        have hr1 := Read_n (HA.out.2.1.below HI.out) ⟨r.f.n.toArray⟩ hss
        rw [nm_ba, pFind_of_mem hok.out h0 hfm] at hr1
        have HS := hide hs
        have HR := hide hr
        have HM := hide hrm
        obtain ⟨g1, o1, rfl, c1⟩ := (HA.out.2.2.2.below HI.out).at hs
        clear hs hr hrm hfm
        go_wp2_with fail
        refine hr1.mono ?_
        rintro e w8 ⟨v8, rfl, g8, b8, s8⟩
        have HB := hide (HI.out.trans (b8.mono HI.out.size))
        have H8 : Hid (Seg w8 v8 r.f.x ∧ Below wr.heap.size wr w8 ∧ Soft wr.heap.size w8 v8) := ⟨g8, b8, s8⟩
        obtain ⟨_, _, e1, c1⟩ := (HA.out.2.2.2.below HB.out).at HS.out
        cases e1
        have hra := HA.out.2.2.1.below HB.out
        obtain ⟨z0, z1, z2⟩ := hra.box.cells3
        obtain ⟨g2, o2, rfl, d0, d1, d2⟩ := hra.file HR.out
        have hsr := hra.data r HM.out
        have HC := fun n => Bytesq_any v8 (.slice r.a r.f.x.length r.c) r.f.x r.f.x (w8.drewN n) (H8.out.1.drewN n) (hsr.drewN n)
        have hdq : decide (r.f.x = r.f.x) = true := by simp
        rw [hdq] at HC
        have HSP := fun n => Spoil_p (H8.out.2.2.below (below_drewN' (Below.refl w8.heap.size w8) n))
        clear g8 b8 s8 hdq hr1 hra hsr
        go_wp2_with fail
        go_quiet (first | (go_at_call 29; exact Calls.quiet_of (HC _)))
        clear HC
        go_wp2_with fail
        refine (HSP nq).mono ?_
        rintro e w9 ⟨rfl, b9⟩
        have H9 := hide (HI.out.trans (((below_drewN' H8.out.2.1 nq).trans b9).mono HI.out.size))
        clear b9 HSP
        go_wp2
        go_roundw
        case rel => exact ⟨i + 1, by omega, by go_num, H9.out⟩
        case measure => simp [intOf]; omega
      · have hie : i = rs.length := by omega
        subst hie
        go_wp2
        go_ret
        exact ⟨rfl, HA.out.1.trans (HI.out.mono HA.out.1.size)⟩
end Go.Proofs.Ytnokibjhkdaamaa
