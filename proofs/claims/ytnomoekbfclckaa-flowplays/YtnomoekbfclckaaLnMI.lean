/-
  Walks over package net: lines of numbered whole numbers: put.
-/
import Derived.Test.YtnomoekbfclckaaNLine
import Derived.Test.YtnomoekbfclckaaNTakeMI
namespace Go.Proofs.Ytnomoekbfclckaa
open Go.RowKit

def RMI (w : World) (k b : Nat) (q : List (Int × Int)) : Prop := R2 104 58 (Value.int .i64) w k b 512 q
theorem rlMI : RL RMI := ⟨fun h h1 h2 => R2.back h h1 h2, fun h => ⟨R2.lt h, R2.blkMI h⟩⟩
theorem Try.info95' : (Try.prog.info? 95).map (fun i => (i.zero, i.size, i.bytes)) = some (some (.pointer none), 1, 8) := by kernel_rfl
theorem Put1MI {w : World} {k b : Nat} {q : List (Int × Int)} (H : RMI w k b q) (hl : q.length < 512) (x : (Int × Int)) :
    Calls Try.prog 74 #[.pointer (some ⟨k, 0, none⟩), .agg #[.int .u64 x.1, Value.int .i64 x.2]] w fun e w' => e = .returned (.bool true) ∧ ∃ b', RMI w' k b' (q ++ [x]) ∧ Turned k b w w' ∧ (b' = b ∨ w.heap.size ≤ b') := PutMI H (by omega) x hl
set_option maxHeartbeats 1000000 in
set_option maxRecDepth 100000 in
theorem putMI {w : World} {fp : List Nat} {K o t : Nat} {cs : Array Value} {q : List (Int × Int)} {v : Value} {ks : List Nat} (H : Ln 95 RMI w fp K o t cs q v ks) (hl : q.length < 512) (x : (Int × Int)) :
    Calls Try.prog 58 #[.pointer (some ⟨K, o, none⟩), .agg #[.int .u64 x.1, Value.int .i64 x.2]] w fun e w' => e = .returned (.tuple #[]) ∧ ∃ fp' cs' v' ks', Ln 95 RMI w' fp' K o t cs' (q ++ [x]) v' ks' ∧ Like o cs cs' ∧ TurnedL fp w w' ∧ Grew fp fp' w := by
  obtain ⟨x1, x2⟩ := x
  have ba : Below w.heap.size w (w.alloc (.cells #[.int .u64 x1, Value.int .i64 x2] 58)) := (Below.refl _ _).alloc (Nat.le_refl _) _
  have g1 : BoxT 58 (w.alloc (.cells #[.int .u64 x1, Value.int .i64 x2] 58)) w.heap.size #[.int .u64 x1, Value.int .i64 x2] := BoxT.new _ _ _
  have hK0 := H.box.lt
  have hX : w.heap.size ∉ fp := fun h => Nat.lt_irrefl _ (H.lt _ h)
  replace H := H.below rlMI ba
  have BA := hide ba
  have GX := hide g1
  have hsa := ba.size
  clear ba g1
  obtain ⟨a, c, rfl⟩ := H.row.shape
  obtain ⟨c0, c1⟩ := H.cells
  have cf := H.box.free
  have HB := hide H
  have hK := H.box.lt
  rcases H.rings with ⟨rfl, rfl⟩ | ⟨k, b, rfl, hq, hr, hkf, hbf, hkK, hbK, hg⟩
  · simp only [List.length_nil] at c0 c1
    clear H hl
    go_enter Try.func58, Try.ntmps58
    go_wp2_with fail
    generalize w.alloc (.cells #[.int .u64 x1, Value.int .i64 x2] 58) = w0 at *
    have hgl := GX.out.lt
    go_region_law (first
      | (refine step_row Try.info95' Try.underlying78 rfl (by decide) (by decide) pc1 pcc rfl _ _ rfl 0 (.slice a 0 c) [] rfl (HB1.out.row.below ((Below.refl _ _).alloc (Nat.le_refl _) (.cells #[.pointer (some ⟨w0.heap.size, 0, none⟩)] 95))) ⟨w1.heap.size, 0, none⟩ 1 w0.heap.size rfl (fun j u hu => by match j, hu with | 0, hu => simp [pc] at hu; subst hu; simp [Addr.add]) (by simp) (Nat.zero_le _) ?_; intro v3 w3 r3 g3 at3; obtain ⟨a3, c3, hv3⟩ := r3.shape; subst hv3; simp only [List.nil_append, List.length_singleton] at r3 at3; have B3 := hide ((HB1.out.box.alloc (.cells #[.pointer (some ⟨w0.heap.size, 0, none⟩)] 95)).grownO g3 (fun e => (HB1.out.own K e).2 rfl)); have GX3 := hide (((show BoxT 58 w1 w.heap.size #[.int .u64 x1, Value.int .i64 x2] from (by have h := GX.out; unfold BoxT at *; rw [B1.out.block _ hgl]; exact h)).alloc (.cells #[.pointer (some ⟨w0.heap.size, 0, none⟩)] 95)).grownO g3 (fun e => hX (HB1.out.own _ e).1)); have z0 : w3.cell? ⟨K, o, none⟩ = some (.slice a 0 c) := (B3.out.cellAt o).trans HB1.out.c0; have zf := B3.out.free; have G3 := hide (And.intro r3 (And.intro g3 at3)); clear r3 g3 at3)
      | (go_simp; go_at_call 73; refine (NewMI _ 512).mono ?_; rintro e w1 ⟨rfl, hr1, b1⟩; have HR1 := hide hr1; have B1 := hide (((Below.refl w0.heap.size w0).drew).trans b1); have HB1 := hide (HB.out.below rlMI B1.out); have y0 := HB1.out.cells.1; have yK := HB1.out.box.lt; clear hr1 b1))
    all_goals
      obtain ⟨fp4, H4, T4, G4⟩ := HB.out.made rlMI HR1.out B1.out G3.out.1 G3.out.2.1 G3.out.2.2
      obtain ⟨d0, d1⟩ := (show (w3.setCell ⟨K, o, none⟩ (.slice a3 1 c3)).cell? ⟨K, o, none⟩ = some (.slice a3 1 c3) ∧ (w3.setCell ⟨K, o, none⟩ (.slice a3 1 c3)).cell? ⟨K, o + 1, none⟩ = some (.int .i64 0) from ⟨(H4.box.cellAt _).trans H4.c0, (H4.box.cellAt _).trans H4.c1⟩)
      obtain ⟨g, off, cap, hv, hcell⟩ := H4.row.read pc1 (i := 0) rfl
      cases hv
      have d2 := hcell 0 _ rfl
      simp only [Nat.zero_mul, Nat.add_zero] at d2
      obtain ⟨x5, x6⟩ := (GX3.out.other o (.slice (some ⟨g, off, none⟩) 1 c3) (k' := K) (by omega)).cells2
      have HD := hide (H4.below rlMI (Below.drew (Below.refl _ _)))
      have HCP := hide (Put1MI HD.out.ring (by simp) (x1, x2))
      have HH := hide (And.intro (T4.trans (TurnedL.of_below (Below.drew (Below.refl _ _))) (Grew.refl _ _)) G4)
      generalize w3.setCell ⟨K, o, none⟩ (.slice (some ⟨g, off, none⟩) 1 c3) = w4 at *
      clear H4 T4 G4 z0 zf B3 y0 hcell
      go_wp2_with fail
      go_region_law (go_simp; go_at_call 74; refine HCP.out.mono ?_; rintro e w5 ⟨rfl, b5, hr5, t5, hb5⟩; have L5 := hide (HD.out.turn rlMI hr5 t5 hb5); have f0 := (L5.out.1.box.cellAt _).trans L5.out.1.c0; have f1 := (L5.out.1.box.cellAt _).trans L5.out.1.c1; have ff := L5.out.1.box.free; clear hr5 t5)
      all_goals
       go_wp2
       go_end0
       have L6 := L5.out.1.count rlMI 1
       exact ⟨rfl, _, _, _, _, (show LnR _ _ _ _ _ _ _ _ (([(x1, x2)] : List (Int × Int)).length) _ _ _ _ from L6).ln (by simp), ((Like.refl _ _).set0 _).set1 _, (TurnedL.of_below BA.out).trans ((HH.out.1.trans L5.out.2.1 HH.out.2).trans (TurnedL.set L5.out.1.inK _ _ _) (HH.out.2.trans L5.out.2.2 HH.out.1.size)) (Grew.refl _ _), (Grew.refl fp w).trans (HH.out.2.trans L5.out.2.2 HH.out.1.size) hsa⟩
  · obtain ⟨k', b', e1, HR⟩ := H.lnR hq
    cases e1
    simp only [List.length_singleton] at c0 HR
    obtain ⟨g, off, cap, hv, hcell⟩ := HR.row.read pc1 (i := 0) rfl
    simp only [List.length_singleton] at hv
    cases hv
    have d2 := hcell 0 _ rfl
    simp only [Nat.zero_mul, Nat.add_zero] at d2
    have hroom := hide (RoomMI HR.ring (by omega))
    have HH := hide HR
    have hr0 : ¬ (((512 - q.length : Nat) : Int) = 0) := by omega
    clear HR hr HB H hg hcell
    go_enter Try.func58, Try.ntmps58
    go_wp2_with (first
      | (generalize w.alloc (.cells #[.int .u64 x1, Value.int .i64 x2] 58) = w0 at *; go_at_call 72; refine hroom.out.mono ?_; rintro e w1 ⟨rfl, b1⟩; have H1 := hide (HH.out.below rlMI b1); have B1 := hide b1; have y0 := (H1.out.box.cellAt _).trans H1.out.c0; have y1 := (H1.out.box.cellAt _).trans H1.out.c1; obtain ⟨_, _, _, hv, hcell⟩ := H1.out.row.read pc1 (i := 0) rfl; simp only [List.length_singleton] at hv; cases hv; have y2 := hcell 0 _ rfl; simp only [Nat.zero_mul, Nat.add_zero] at y2; have HD := hide (H1.out.below rlMI (Below.drew (Below.refl _ _))); have HCP := hide (Put1MI HD.out.ring hl (x1, x2)); have GX1 : BoxT 58 w1 w.heap.size #[.int .u64 x1, Value.int .i64 x2] := (by have h := GX.out; have hgl := h.lt; unfold BoxT at *; rw [b1.block _ hgl]; exact h); obtain ⟨x5, x6⟩ := GX1.cells2; clear b1 hcell hroom)
      | fail)
    go_region_law (go_simp; go_at_call 74; refine HCP.out.mono ?_; rintro e w5 ⟨rfl, b5, hr5, t5, hb5⟩; have L5 := hide (HD.out.turn rlMI hr5 t5 hb5); have f0 := (L5.out.1.box.cellAt _).trans L5.out.1.c0; have f1 := (L5.out.1.box.cellAt _).trans L5.out.1.c1; have ff := L5.out.1.box.free; clear hr5 t5)
    all_goals
     go_wp2
     go_end0
     have L6 := L5.out.1.count rlMI ((q.length : Int) + 1)
     rw [show ((q.length : Int) + 1) = ((q ++ [(x1, x2)]).length : Nat) from by simp] at L6
     have hs1 := B1.out.size
     have hG : Grew fp (b5 :: fp) w0 := fun i hi => by
       rcases L5.out.2.2 i hi with h | h
       · exact .inl h
       · exact .inr (by have h2 : w1.heap.size ≤ i := h; omega)
     exact ⟨rfl, _, _, _, _, by simpa using L6.ln (by simp), (Like.refl _ _).set1 _, by simpa using (TurnedL.of_below BA.out).trans (((TurnedL.of_below (B1.out.trans (Below.drew (Below.refl _ _)))).trans L5.out.2.1 (Grew.refl _ _)).trans (TurnedL.set L5.out.1.inK _ (o + 1) (.int .i64 ((q ++ [(x1, x2)]).length : Nat))) hG) (Grew.refl _ _), (Grew.refl fp w).trans hG hsa⟩
end Go.Proofs.Ytnomoekbfclckaa
