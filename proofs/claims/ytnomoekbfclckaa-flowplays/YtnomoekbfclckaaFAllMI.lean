/-
  Walks over package net: all of a link's numbered things.
-/
import Derived.Test.YtnomoekbfclckaaNLkMI
import Derived.Test.YtnomoekbfclckaaFAllI
namespace Go.Proofs.Ytnomoekbfclckaa
open Go.RowKit

def numcs (p : Int × Int) : List Value := [.int .u64 p.1, .int .i64 p.2]
theorem numcs_len (p : Int × Int) : (numcs p).length = 2 := rfl
theorem numcs_one (p : Int × Int) : ∀ u ∈ numcs p, u.oneCell' = true := fun u hu => by
  simp only [numcs, List.mem_cons, List.not_mem_nil, or_false] at hu
  rcases hu with rfl | rfl <;> rfl
theorem flat_num (q : List (Int × Int)) (j : Nat) (u : Value) (h : (q.flatMap numcs)[j]? = some u) : ∃ i x, q[i]? = some x ∧ ((j = i * 2 ∧ u = .int .u64 x.1) ∨ (j = i * 2 + 1 ∧ u = .int .i64 x.2)) := by
  induction q generalizing j with
  | nil => simp at h
  | cons x q ih =>
    rw [List.flatMap_cons] at h
    match j, h with
    | 0, h => exact ⟨0, x, rfl, .inl ⟨rfl, by simpa [numcs] using h.symm⟩⟩
    | 1, h => exact ⟨0, x, rfl, .inr ⟨rfl, by simpa [numcs] using h.symm⟩⟩
    | j + 2, h =>
      rw [List.getElem?_append_right (by rw [numcs_len]; omega), numcs_len, Nat.add_sub_cancel] at h
      obtain ⟨i, y, h1, h2⟩ := ih j h
      exact ⟨i + 1, y, by simpa using h1, h2.imp (fun h => ⟨by omega, h.2⟩) (fun h => ⟨by omega, h.2⟩)⟩
set_option maxHeartbeats 1000000 in
set_option maxRecDepth 100000 in
theorem AllMI {w : World} {k b mo : Nat} {q : List (Int × Int)} (H : R2 104 58 (Value.int .i64) w k b mo q) (hl : q.length ≤ 1000) : Calls Try.prog 79 #[.pointer (some ⟨k, 0, none⟩)] w fun e w' => e = .returned (.slice (some ⟨w.heap.size, 0, none⟩) q.length q.length) ∧ InP 58 (Value.int .i64) w w' w.heap.size q q.length q.length := by
  obtain ⟨L, h, so, H⟩ := H
  obtain ⟨c0, c1, c2, c3⟩ := H.box.cells4
  have hin := hide (inSlotsMI H (n := q.length) (Nat.le_refl _) (by omega) rfl)
  clear H
  go_enter Try.func79, Try.ntmps79
  go_wp2_with (first | (go_at_call 87; refine hin.out.mono ?_; rintro e w1 ⟨rfl, h1⟩) | fail)
  go_ret
  exact ⟨rfl, h1⟩
set_option maxHeartbeats 2000000 in
set_option maxRecDepth 100000 in
theorem allMI {w : World} {fp : List Nat} {K o t : Nat} {cs : Array Value} {q : List (Int × Int)} {v : Value} {ks : List Nat} (H : Ln 95 RMI w fp K o t cs q v ks) (hl : q.length ≤ 1000) :
    Calls Try.prog 63 #[.pointer (some ⟨K, o, none⟩)] w fun e w' => ∃ v', e = .returned v' ∧ OwnL 58 2 numcs w.heap.size w' v' q ∧ Below w.heap.size w w' := by
  obtain ⟨c0, c1⟩ := H.cells
  obtain ⟨i0, hi, hz0, hz1, hz2⟩ := info_parts Try.info58'
  obtain ⟨w1, hmk, how, hgr⟩ := run_make_own (P := Try.prog) w w.heap.size 69 58 i0 (.agg #[.int .u64 0, .int .i64 0]) 2 Try.underlying69 hi hz0 hz1 .i64 .i64 q.length (by rw [hz2]; omega) (by unfold maxLen; omega) (Nat.le_refl _)
  have b1 : Below w.heap.size w w1 := ⟨hgr.os, hgr.tape, hgr.output, hgr.size, fun i hi => hgr.block i hi (by simp)⟩
  have H1 := H.below rlMI b1
  have B1 := hide b1
  have HO : Hid (OwnL 58 2 numcs w.heap.size w1 (.slice (some ⟨w.heap.size, 0, none⟩) 0 q.length) []) := how
  clear how hgr b1 hz0 hz1 hz2
  rcases H1.rings with ⟨rfl, rfl⟩ | ⟨k, b, rfl, hq, hr, _⟩
  · obtain ⟨a, c, rfl⟩ := H.row.shape
    have d0 := H1.cells.1
    simp only [List.length_nil, Int.ofNat_zero] at c0 c1 d0 hmk
    clear H H1
    go_enter Try.func63, Try.ntmps63
    go_wp2_with fail
    go_loopw [3, 16] (fun a b wr => a = .slice (some ⟨w.heap.size, 0, none⟩) 0 0 ∧ b = .int .i64 0 ∧ wr = w1) (fun _ _ _ => 0)
    case atStart => exact ⟨rfl, rfl, rfl⟩
    case round =>
      obtain ⟨rfl, rfl, rfl⟩ := hrel
      go_wp2
      go_ret
      exact ⟨_, rfl, HO.out, B1.out⟩
  · obtain ⟨g, off, cap, hv, hcell⟩ := H1.row.read pc1 (i := 0) rfl
    subst hv
    have d2 := hcell 0 _ rfl
    simp only [Nat.zero_mul, Nat.add_zero] at d2
    have d0 := H1.cells.1
    simp only [List.length_singleton] at c0 d0
    have hgl := (H1.own g rfl).1
    have hgl2 := H1.lt g hgl
    have hal := hide (AllMI hr hl)
    clear H H1 hcell hr
    go_enter Try.func63, Try.ntmps63
    go_wp2_with fail
    go_loopw [3, 16] (fun a b wr => (a = .slice (some ⟨w.heap.size, 0, none⟩) 0 q.length ∧ b = .int .i64 0 ∧ wr = w1) ∨ (∃ a' c', a = .slice a' q.length c' ∧ b = .int .i64 1 ∧ Hid (OwnL 58 2 numcs w.heap.size wr a q ∧ Below w.heap.size w wr))) (fun _ b _ => 1 - (intOf b).toNat)
    case atStart => exact .inl ⟨rfl, rfl, rfl⟩
    case round =>
      rcases hrel with ⟨rfl, rfl, rfl⟩ | ⟨a', c', rfl, rfl, HE⟩
      · go_wp2_with (first
          | (go_at_call 79; refine hal.out.mono ?_; rintro e w2 ⟨rfl, h2⟩; have HI := hide h2; have hb2 := hide h2.bel; clear h2)
          | (at_builtin; refine stop_here ?_) | fail)
        have hcc : ∀ j u, (q.flatMap numcs)[j]? = some u → w2.cell? ((⟨wr.heap.size, 0, none⟩ : Addr).add j) = some u := fun j u hu => by
          obtain ⟨i, x, hx, hu⟩ := flat_num q j u hu
          obtain ⟨cs2, h1, h2⟩ := HI.out.box
          rw [List.take_length] at h2
          rw [add_plain2, Nat.zero_add, h1.cellAt]
          rcases hu with ⟨rfl, rfl⟩ | ⟨rfl, rfl⟩
          · exact (h2.each i x hx).1
          · exact (h2.each i x hx).2
        have hsz := B1.out.size
        have hsz2 := hb2.out.size
        refine app_ownC Try.info58' Try.underlying69 rfl (by decide) (by decide) numcs_len numcs_one rfl _ _ rfl w.heap.size (.slice (some ⟨w.heap.size, 0, none⟩) 0 q.length) [] rfl (HO.out.below hb2.out) ⟨wr.heap.size, 0, none⟩ q.length q rfl hcc (by simp; omega) (by omega) ?_
        intro v3 w3 o3 g3
        rw [List.nil_append] at o3
        have HF : Hid (OwnL 58 2 numcs w.heap.size w3 v3 q ∧ Below w.heap.size w w3) := by
          have hb := B1.out.trans (hb2.out.mono hsz)
          exact ⟨o3, ⟨g3.os.trans hb.os, g3.tape.trans hb.tape, g3.output.trans hb.output, Nat.le_trans hb.size g3.size, fun j hj => (g3.block j (Nat.lt_of_lt_of_le hj hb.size) (fun e => by simp [Value.ownBlock] at e; omega)).trans (hb.block j hj)⟩⟩
        obtain ⟨a3, c3, hv3⟩ := o3.shape
        subst hv3
        clear o3 g3
        go_wp2
        go_roundw
        case rel => exact .inr ⟨_, _, rfl, rfl, HF.out⟩
        case measure => simp [intOf]
      · go_wp2
        go_ret
        exact ⟨_, rfl, HE.out.1, HE.out.2⟩
set_option maxHeartbeats 1000000 in
set_option maxRecDepth 100000 in
theorem lAllMI {w : World} {fp : List Nat} {K : Nat} {e : Int} {q : List (Int × Int)} (H : LkMI w fp K e q) (hl : q.length ≤ 1000) :
    Calls Try.prog 44 #[.pointer (some ⟨K, 0, none⟩)] w fun r w' => ∃ v', r = .returned v' ∧ OwnL 58 2 numcs w.heap.size w' v' q ∧ Below w.heap.size w w' := by
  obtain ⟨cs, v, ks, h1, h2, H⟩ := H
  have hal := hide (allMI H hl)
  clear H
  go_enter Try.func44, Try.ntmps44
  go_wp2_with (first | (go_at_call 63; refine hal.out.mono ?_; rintro r w1 ⟨v', rfl, o1, b1⟩; have HF := hide (And.intro o1 b1); obtain ⟨a3, c3, hv3⟩ := o1.shape; subst hv3; clear o1 b1) | fail)
  go_ret
  exact ⟨_, rfl, HF.out.1, HF.out.2⟩
end Go.Proofs.Ytnomoekbfclckaa
