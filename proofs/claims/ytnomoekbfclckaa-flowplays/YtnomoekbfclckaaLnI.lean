/-
  Walks over package net: lines of whole numbers: put.
-/
import Derived.Test.YtnomoekbfclckaaNLine
import Derived.Test.YtnomoekbfclckaaNTakeI
namespace Go.Proofs.Ytnomoekbfclckaa
open Go.RowKit

def RI (w : World) (k b : Nat) (q : List Int) : Prop := Rg 85 3 (Value.int .i64) w k b 512 q
theorem rlI : RL RI := ⟨fun h h1 h2 => Rg.back h h1 h2, fun h => ⟨Rg.lt h, Rg.blkI h⟩⟩
theorem Try.info59' : (Try.prog.info? 59).map (fun i => (i.zero, i.size, i.bytes)) = some (some (.pointer none), 1, 8) := by kernel_rfl
theorem Put1I {w : World} {k b : Nat} {q : List Int} (H : RI w k b q) (hl : q.length < 512) (x : Int) :
    Calls Try.prog 52 #[.pointer (some ⟨k, 0, none⟩), Value.int .i64 x] w fun e w' => e = .returned (.bool true) ∧ ∃ b', RI w' k b' (q ++ [x]) ∧ Turned k b w w' ∧ (b' = b ∨ w.heap.size ≤ b') := by
  have h := PutI H (by omega) x
  simp only [hl, if_true, decide_true] at h
  exact h
set_option maxHeartbeats 1000000 in
set_option maxRecDepth 100000 in
theorem putI {w : World} {fp : List Nat} {K o t : Nat} {cs : Array Value} {q : List Int} {v : Value} {ks : List Nat} (H : Ln 59 RI w fp K o t cs q v ks) (hl : q.length < 512) (x : Int) :
    Calls Try.prog 56 #[.pointer (some ⟨K, o, none⟩), Value.int .i64 x] w fun e w' => e = .returned (.tuple #[]) ∧ ∃ fp' cs' v' ks', Ln 59 RI w' fp' K o t cs' (q ++ [x]) v' ks' ∧ Like o cs cs' ∧ TurnedL fp w w' ∧ Grew fp fp' w := by
  obtain ⟨a, c, rfl⟩ := H.row.shape
  obtain ⟨c0, c1⟩ := H.cells
  have cf := H.box.free
  have HB := hide H
  have hK := H.box.lt
  rcases H.rings with ⟨rfl, rfl⟩ | ⟨k, b, rfl, hq, hr, hkf, hbf, hkK, hbK, hg⟩
  · simp only [List.length_nil] at c0 c1
    clear H hl
    go_enter Try.func56, Try.ntmps56
    go_wp2_with fail
    go_region_law (first
      | (refine step_row Try.info59' Try.underlying73 rfl (by decide) (by decide) pc1 pcc rfl _ _ rfl 0 (.slice a 0 c) [] rfl (HB1.out.row.below ((Below.refl _ _).alloc (Nat.le_refl _) (.cells #[.pointer (some ⟨w.heap.size, 0, none⟩)] 59))) ⟨w1.heap.size, 0, none⟩ 1 w.heap.size rfl (fun j u hu => by match j, hu with | 0, hu => simp [pc] at hu; subst hu; simp [Addr.add]) (by simp) (Nat.zero_le _) ?_; intro v3 w3 r3 g3 at3; obtain ⟨a3, c3, hv3⟩ := r3.shape; subst hv3; simp only [List.nil_append, List.length_singleton] at r3 at3; have B3 := hide ((HB1.out.box.alloc (.cells #[.pointer (some ⟨w.heap.size, 0, none⟩)] 59)).grownO g3 (fun e => (HB1.out.own K e).2 rfl)); have z0 : w3.cell? ⟨K, o, none⟩ = some (.slice a 0 c) := (B3.out.cellAt o).trans HB1.out.c0; have zf := B3.out.free; have G3 := hide (And.intro r3 (And.intro g3 at3)); clear r3 g3 at3)
      | (go_simp; go_at_call 37; refine (NewI _ 512).mono ?_; rintro e w1 ⟨rfl, hr1, b1⟩; have HR1 := hide hr1; have B1 := hide (((Below.refl w.heap.size w).drew).trans b1); have HB1 := hide (HB.out.below rlI B1.out); have y0 := HB1.out.cells.1; have yK := HB1.out.box.lt; clear hr1 b1))
    all_goals
      obtain ⟨fp4, H4, T4, G4⟩ := HB.out.made rlI HR1.out B1.out G3.out.1 G3.out.2.1 G3.out.2.2
      obtain ⟨d0, d1⟩ := (show (w3.setCell ⟨K, o, none⟩ (.slice a3 1 c3)).cell? ⟨K, o, none⟩ = some (.slice a3 1 c3) ∧ (w3.setCell ⟨K, o, none⟩ (.slice a3 1 c3)).cell? ⟨K, o + 1, none⟩ = some (.int .i64 0) from ⟨(H4.box.cellAt _).trans H4.c0, (H4.box.cellAt _).trans H4.c1⟩)
      obtain ⟨g, off, cap, hv, hcell⟩ := H4.row.read pc1 (i := 0) rfl
      cases hv
      have d2 := hcell 0 _ rfl
      simp only [Nat.zero_mul, Nat.add_zero] at d2
      have HCP := hide (Put1I H4.ring (by simp) x)
      have HH := hide (And.intro H4 (And.intro T4 G4))
      generalize w3.setCell ⟨K, o, none⟩ (.slice (some ⟨g, off, none⟩) 1 c3) = w4 at *
      clear H4 T4 G4 z0 zf B3 y0 hcell
      go_wp2_with (first | (go_at_call 52; refine HCP.out.mono ?_; rintro e w5 ⟨rfl, b5, hr5, t5, hb5⟩; have L5 := hide (HH.out.1.turn rlI hr5 t5 hb5); have f0 := (L5.out.1.box.cellAt _).trans L5.out.1.c0; have f1 := (L5.out.1.box.cellAt _).trans L5.out.1.c1; have ff := L5.out.1.box.free; clear hr5 t5) | fail)
      go_end0
      have L6 := L5.out.1.count rlI 1
      exact ⟨rfl, _, _, _, _, (show LnR _ _ _ _ _ _ _ _ (([x] : List Int).length) _ _ _ _ from L6).ln (by simp), ((Like.refl _ _).set0 _).set1 _, (HH.out.2.1.trans L5.out.2.1 HH.out.2.2).trans (TurnedL.set L5.out.1.inK _ _ _) (HH.out.2.2.trans L5.out.2.2 HH.out.2.1.size), HH.out.2.2.trans L5.out.2.2 HH.out.2.1.size⟩
  · obtain ⟨k', b', e1, HR⟩ := H.lnR hq
    cases e1
    simp only [List.length_singleton] at c0 HR
    obtain ⟨g, off, cap, hv, hcell⟩ := HR.row.read pc1 (i := 0) rfl
    simp only [List.length_singleton] at hv
    cases hv
    have d2 := hcell 0 _ rfl
    simp only [Nat.zero_mul, Nat.add_zero] at d2
    have hroom := hide (RoomI HR.ring (by omega))
    have HH := hide HR
    have hr0 : ¬ (((512 - q.length : Nat) : Int) = 0) := by omega
    clear HR hr HB H hg hcell
    go_enter Try.func56, Try.ntmps56
    go_wp2_with (first
      | (go_at_call 53; refine hroom.out.mono ?_; rintro e w1 ⟨rfl, b1⟩; have H1 := hide (HH.out.below rlI b1); have B1 := hide b1; have y0 := (H1.out.box.cellAt _).trans H1.out.c0; have y1 := (H1.out.box.cellAt _).trans H1.out.c1; obtain ⟨_, _, _, hv, hcell⟩ := H1.out.row.read pc1 (i := 0) rfl; simp only [List.length_singleton] at hv; cases hv; have y2 := hcell 0 _ rfl; simp only [Nat.zero_mul, Nat.add_zero] at y2; have HCP := hide (Put1I H1.out.ring hl x); clear b1 hcell hroom)
      | (go_at_call 52; refine HCP.out.mono ?_; rintro e w5 ⟨rfl, b5, hr5, t5, hb5⟩; have L5 := hide (H1.out.turn rlI hr5 t5 hb5); have f0 := (L5.out.1.box.cellAt _).trans L5.out.1.c0; have f1 := (L5.out.1.box.cellAt _).trans L5.out.1.c1; have ff := L5.out.1.box.free; clear hr5 t5) | fail)
    go_end0
    have L6 := L5.out.1.count rlI ((q.length : Int) + 1)
    rw [show ((q.length : Int) + 1) = ((q ++ [x]).length : Nat) from by simp] at L6
    have hs1 := B1.out.size
    have hG : Grew fp (b5 :: fp) w := fun i hi => by
      rcases L5.out.2.2 i hi with h | h
      · exact .inl h
      · exact .inr (by omega)
    exact ⟨rfl, _, _, _, _, by simpa using L6.ln (by simp), (Like.refl _ _).set1 _, by simpa using ((TurnedL.of_below B1.out).trans L5.out.2.1 (Grew.refl _ _)).trans (TurnedL.set L5.out.1.inK _ (o + 1) (.int .i64 ((q ++ [x]).length : Nat))) hG, hG⟩
end Go.Proofs.Ytnomoekbfclckaa
