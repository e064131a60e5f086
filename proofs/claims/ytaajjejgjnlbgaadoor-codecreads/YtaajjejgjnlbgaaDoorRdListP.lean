/-
  Walks over package codec's readers of snapshots: the lists of panes.
-/
import Derived.Test.YtaajjejgjnlbgaaDoorRdListI
namespace Go.Proofs.YtaajjejgjnlbgaaDoor
open Go.RowKit

set_option maxHeartbeats 2000000 in
set_option maxRecDepth 100000 in
theorem readListP_any {R : Nat} {w : World} {s : List Nat × Bool} (h : RdS R w s) :
    Calls Tryd.prog 80 #[.pointer (some ⟨R, 0, none⟩), .int .i64 4096, .func (.func 81) #[] #[]] w fun e w' => ∃ v, e = .returned v ∧ OwnL 100 4 Pn.cs w.heap.size w' v (rList rPane 4096 s).1 ∧ RdS R w' (rList rPane 4096 s).2 ∧ w.grownBy w' (some R) := by
  have hR := h.lt
  have hb0 := num_lt (k := 2) h.2
  have n0 := number_any (sz := 2) h (by omega) (by omega)
  rw [show (2 : Int).toNat = 2 from rfl] at n0
  unfold rList
  generalize num 2 s = p0 at *
  obtain ⟨n, s0⟩ := p0
  simp only at *
  have hn : n < 65536 := hb0
  have hw : wrap64 (n : Int) = n := by unfold wrap64; omega
  have N0 := n0
  clear n0 hb0
  by_cases hm : 4096 < n
  · rw [if_pos hm]
    go_enter Tryd.func80, Tryd.ntmps80
    go_wp2_with fail
    refine N0.mono ?_
    rintro e w1 ⟨rfl, hr, hg⟩
    clear N0
    obtain ⟨ao, cap, r0, r1, rf⟩ := hr.cells
    have hrb := hr.bad
    have hg := grownBy_trans hg (grownBy_set w1 R 1 (.bool true))
    obtain ⟨ao', cap', r0', r1', rf'⟩ := hrb.cells
    simp only at r1'
    clear hr r0 r0'
    go_wp2
    refine wp_loop_rounds 1 ?_
    rw [rounds_succ]
    go_wp2
    go_ret
    exact ⟨_, rfl, OwnL.nil _ _ _ _ _, hrb, hg⟩
  rw [if_neg hm]
  generalize hrl : rL rPane n s0 = rl
  have HRL : Hid (rL rPane n s0 = rl) := hrl
  clear hrl
  go_enter Tryd.func80, Tryd.ntmps80
  go_wp2_with fail
  refine N0.mono ?_
  rintro e w1 ⟨rfl, hr, hg⟩
  clear N0
  have HR1 : Hid (RdS R w1 s0) := hr
  clear hr
  go_wp2
  go_loopw [8, 9] (fun v i wr => ∃ (k : Nat) (sk : List Nat × Bool) (acc : List Pn), k ≤ n ∧ i = .int .i64 k ∧ Hid (acc.length = k) ∧ Hid (RdS R wr sk) ∧ Hid (OwnL 100 4 Pn.cs w.heap.size wr v acc) ∧ Hid (w.grownBy wr (some R)) ∧ Hid (rl = (acc ++ (rL rPane (n - k) sk).1, (rL rPane (n - k) sk).2))) (fun _ i _ => n - (intOf i).toNat)
  case atStart => exact ⟨0, s0, [], Nat.zero_le _, rfl, rfl, HR1, OwnL.nil _ _ _ _ _, hg, by show rl = _; rw [← HRL.out]; rfl⟩
  case round =>
    obtain ⟨k, ⟨lk, bad⟩, acc, hk, rfl, HL, HRk, HO, HG, HE⟩ := hrel
    obtain ⟨ao, cap, r0, r1, rf⟩ := HRk.out.cells
    simp only at r0 r1
    clear r0
    by_cases hlt : k < n
    · cases bad
      · generalize hx : rPane (lk, false) = px
        obtain ⟨x, sx⟩ := px
        have HX : Hid (rPane (lk, false) = (x, sx)) := hx
        clear hx
        go_wp2_with fail
        refine (readPane_any HRk.out).mono ?_
        rw [HX.out]
        rintro e w2 ⟨rfl, hr2, hg2⟩
        have ho2 := HO.out.grown hg2 hR
        have hG2 := grownBy_trans HG.out hg2
        have hz2 := hG2.size
        have HR2 : Hid (RdS R (w2.alloc (.cells #[.int .i64 x.ke, .int .i64 x.fr, .int .i64 x.to, .int .i64 x.ac] 100)) sx) := hr2.alloc _
        have HO2 : Hid (OwnL 100 4 Pn.cs w.heap.size (w2.alloc (.cells #[.int .i64 x.ke, .int .i64 x.fr, .int .i64 x.to, .int .i64 x.ac] 100)) _ acc) := ho2.alloc _
        have HG3 : Hid (w.grownBy (w2.alloc (.cells #[.int .i64 x.ke, .int .i64 x.fr, .int .i64 x.to, .int .i64 x.ac] 100)) (some R)) := grown_alloc hG2 _
        have hla : acc.length ≤ 1000000 := by have := HL.out; omega
        clear hr2 hg2 ho2 hG2
        simp only [Pn.cs]
        go_wp2_with (first | (at_builtin; refine app_ownL Tryd.info100 Tryd.underlying45 rfl (by decide) (by decide) (fun _ => rfl) (fun y u hu => by simp [Pn.cs] at hu; rcases hu with rfl | rfl | rfl | rfl <;> rfl) rfl _ _ rfl w.heap.size _ acc rfl HO2.out ⟨w2.heap.size, 0, none⟩ 1 x rfl (fun j u hu => by match j, hu with | 0, hu | 1, hu | 2, hu | 3, hu => simp [Pn.cs] at hu; subst hu; simp [Addr.add]) hla (by simp; omega) ?_) | fail)
        intro v3 w3 ho3 hg3
        have HO3 : Hid (OwnL 100 4 Pn.cs w.heap.size w3 v3 (acc ++ [x])) := ho3
        have HR3 : Hid (RdS R w3 sx) := HO2.out.rd HR2.out hg3 hR
        have HG4 : Hid (w.grownBy w3 (some R)) := HO2.out.grownBy HG3.out hg3 (Nat.le_refl _)
        clear ho3 hg3 r1 rf
        go_wp2
        go_roundw
        case rel =>
          refine ⟨k + 1, sx, acc ++ [x], by omega, by go_num, ?_, HR3, HO3, HG4, ?_⟩
          · show _ = _; rw [List.length_append, HL.out]; rfl
          · show rl = _
            rw [HE.out, show n - k = (n - (k + 1)) + 1 from by omega]
            simp [rL, HX.out]
        case measure => simp [intOf]; omega
      · go_wp2
        go_ret
        refine ⟨_, rfl, ?_, ?_, HG.out⟩
        · rw [HE.out, rL_bad]; simpa using HO.out
        · rw [HE.out, rL_bad]; exact HRk.out
    · go_wp2
      go_ret
      refine ⟨_, rfl, ?_, ?_, HG.out⟩
      · rw [HE.out, show n - k = 0 from by omega]; simpa [rL] using HO.out
      · rw [HE.out, show n - k = 0 from by omega]; exact HRk.out
end Go.Proofs.YtaajjejgjnlbgaaDoor
