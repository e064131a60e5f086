import Derived.Test.YtaajjejgjnlbgaaDoorCtl
import Derived.Test.YtaajjejgjnlbgaaDoorSeg
namespace Go.Proofs.YtaajjejgjnlbgaaDoor
open Go.RowKit

/-- v is a slice of just the bytes l, which lie below block B. -/
def SegB (B : Nat) (w : World) (v : Value) (l : List Nat) : Prop :=
  ∃ ao cap, v = .slice ao l.length cap ∧ l.length ≤ cap ∧ cap ≤ 9223372036854775807 ∧ l.length ≤ 140737488355328 ∧ (l = [] ∨ ∃ b off, ao = some ⟨b, off, none⟩ ∧ b < B ∧ ∀ (i x : Nat), l[i]? = some x → w.cell? ⟨b, off + i, none⟩ = some (.int .u8 (x : Int)))
/-- Block R is a reader that has the bytes l left. -/
def Rd (R : Nat) (w : World) (l : List Nat) (bad : Bool) : Prop := ∃ v, BoxT 117 w R #[v, .bool bad] ∧ SegB R w v l
theorem BoxT.cells2 {t : TypeId} {w : World} {k : Nat} {c0 c1 : Value} (h : BoxT t w k #[c0, c1]) : w.cell? ⟨k, 0, none⟩ = some c0 ∧ w.cell? ⟨k, 1, none⟩ = some c1 := by
  unfold BoxT at h
  simp [World.cell?, h]
theorem BoxT.free {t : TypeId} {w : World} {k : Nat} {cs : Array Value} (h : BoxT t w k cs) (j : Nat) : w.frozen? ⟨k, j, none⟩ = false := by
  unfold BoxT at h
  exact frozen_of_row w k j cs t h
theorem BoxT.set {t : TypeId} {w : World} {k : Nat} {cs : Array Value} (h : BoxT t w k cs) (j : Nat) (u : Value) : BoxT t (w.setCell ⟨k, j, none⟩ u) k (cs.setIfInBounds j u) :=
  heap_setCell_same w k j cs t u h
theorem grownBy_set (w : World) (R j : Nat) (u : Value) : w.grownBy (w.setCell ⟨R, j, none⟩ u) (some R) :=
  ⟨rfl, rfl, rfl, by simp, fun k _ hk => Below.heap_setCell w ⟨R, j, none⟩ u k (fun e => hk (by simp [e]))⟩
theorem grownBy_refl (w : World) (r : Option Nat) : w.grownBy w r := ⟨rfl, rfl, rfl, Nat.le_refl _, fun _ _ _ => rfl⟩
theorem grownBy_trans {a b c : World} {r : Option Nat} (h : a.grownBy b r) (k : b.grownBy c r) : a.grownBy c r :=
  ⟨k.os.trans h.os, k.tape.trans h.tape, k.output.trans h.output, Nat.le_trans h.size k.size, fun i hi hne => (k.block i (Nat.lt_of_lt_of_le hi h.size) hne).trans (h.block i hi hne)⟩
theorem grownBy_alloc' (w : World) (o : Obj) (r : Option Nat) : w.grownBy (w.alloc o) r := ⟨rfl, rfl, rfl, by simp, fun k hk _ => Below.heap_alloc w o k hk⟩
theorem grownBy_drew {a w : World} {r : Option Nat} (h : a.grownBy w r) : a.grownBy w.drew r := ⟨h.os, h.tape, h.output, h.size, h.block⟩
theorem SegB.grown {R : Nat} {w w' : World} {v : Value} {l : List Nat} (h : SegB R w v l) (hg : w.grownBy w' (some R)) (hR : R ≤ w.heap.size) : SegB R w' v l := by
  obtain ⟨ao, cap, h1, h2, h3, h3', h4⟩ := h
  refine ⟨ao, cap, h1, h2, h3, h3', ?_⟩
  rcases h4 with h4 | ⟨b, off, h5, h6, h7⟩
  · exact .inl h4
  · exact .inr ⟨b, off, h5, h6, fun i x hi => (World.cell?_of_block (hg.block b (by omega) (by simp; omega))).trans (h7 i x hi)⟩
theorem Rd.lt {R : Nat} {w : World} {l : List Nat} {bad : Bool} (h : Rd R w l bad) : R < w.heap.size := by obtain ⟨v, h, _⟩ := h; exact h.lt

set_option maxHeartbeats 400000 in
set_option maxRecDepth 100000 in
theorem take_no (R : Nat) (w : World) (l : List Nat) (bad : Bool) (size : Nat) (h : Rd R w l bad) (hs : l.length < size) :
    Calls Tryd.prog 66 #[.pointer (some ⟨R, 0, none⟩), .int .i64 size] w fun e w' => e = .returned (.slice none 0 0) ∧ Rd R w' l true ∧ w.grownBy w' (some R) := by
  obtain ⟨v, hbx, hsg⟩ := h
  have hbx' := hbx.set 1 (.bool true)
  have hg := grownBy_set w R 1 (.bool true)
  have hsg' := hsg.grown hg (by have := hbx.lt; omega)
  obtain ⟨ao, cap, rfl, hlc, hcm, hlm, hseg⟩ := hsg
  have HR : Hid (Rd R (w.setCell ⟨R, 1, none⟩ (.bool true)) l true) := ⟨_, hbx', hsg'⟩
  obtain ⟨c0, c1⟩ := hbx.cells2
  have f0 := hbx.free 0
  have f1 := hbx.free 1
  clear hseg hsg' hbx'
  go_enter Tryd.func66, Tryd.ntmps66
  go_wp2
  go_ret
  exact ⟨rfl, HR.out, hg⟩

set_option maxHeartbeats 400000 in
set_option maxRecDepth 100000 in
theorem take_yes (R : Nat) (w : World) (l : List Nat) (bad : Bool) (size : Nat) (h : Rd R w l bad) (hs : size ≤ l.length) :
    Calls Tryd.prog 66 #[.pointer (some ⟨R, 0, none⟩), .int .i64 size] w fun e w' => ∃ v', e = .returned v' ∧ SegB R w' v' (l.take size) ∧ Rd R w' (l.drop size) bad ∧ w.grownBy w' (some R) := by
  obtain ⟨v, hbx, hsg⟩ := h
  have key : ∀ u : Value, (∃ ao' cap', u = .slice ao' (l.drop size).length cap' ∧ (l.drop size).length ≤ cap' ∧ cap' ≤ 9223372036854775807 ∧ (l.length = size ∨ ∃ b off cap, v = .slice (some ⟨b, off, none⟩) l.length cap ∧ ao' = some ⟨b, off + size, none⟩)) → Rd R (w.setCell ⟨R, 0, none⟩ u) (l.drop size) bad ∧ w.grownBy (w.setCell ⟨R, 0, none⟩ u) (some R) := by
    rintro u ⟨ao', cap', rfl, h1, h2, h3⟩
    have hg := grownBy_set w R 0 (.slice ao' (l.drop size).length cap')
    refine ⟨⟨_, hbx.set 0 _, ?_⟩, hg⟩
    refine SegB.grown ?_ hg (by have := hbx.lt; omega)
    obtain ⟨ao, cap, hv, hlc, hcm, hlm, hseg⟩ := hsg
    refine ⟨ao', cap', rfl, h1, h2, by simp; omega, ?_⟩
    rcases h3 with h3 | ⟨b, off, cap2, h4, h5⟩
    · exact .inl (by apply List.drop_eq_nil_of_le; omega)
    · rcases hseg with rfl | ⟨b', off', h6, h7, h8⟩
      · exact .inl (by simp)
      · rw [hv] at h4
        simp only [Value.slice.injEq, h6, Option.some.injEq, Addr.mk.injEq] at h4
        obtain ⟨⟨rfl, rfl, _⟩, _⟩ := h4
        refine .inr ⟨b', off' + size, h5, h7, fun i x hx => ?_⟩
        rw [List.getElem?_drop] at hx
        rw [Nat.add_assoc]
        exact h8 _ x hx
  have HK : Hid (∀ u : Value, (∃ ao' cap', u = .slice ao' (l.drop size).length cap' ∧ (l.drop size).length ≤ cap' ∧ cap' ≤ 9223372036854775807 ∧ (l.length = size ∨ ∃ b off cap, v = .slice (some ⟨b, off, none⟩) l.length cap ∧ ao' = some ⟨b, off + size, none⟩)) → Rd R (w.setCell ⟨R, 0, none⟩ u) (l.drop size) bad ∧ w.grownBy (w.setCell ⟨R, 0, none⟩ u) (some R)) := key
  clear key
  obtain ⟨ao, cap, rfl, hlc, hcm, hlm, hseg⟩ := hsg
  have HSG : Hid (l = [] ∨ ∃ b off, ao = some ⟨b, off, none⟩ ∧ b < R ∧ ∀ (i x : Nat), l[i]? = some x → w.cell? ⟨b, off + i, none⟩ = some (.int .u8 (x : Int))) := hseg
  have hR := hbx.lt
  obtain ⟨c0, c1⟩ := hbx.cells2
  have f0 := hbx.free 0
  have f1 := hbx.free 1
  have hao : l = [] ∨ ∃ b off, ao = some ⟨b, off, none⟩ := hseg.imp id fun ⟨b, off, h, _⟩ => ⟨b, off, h⟩
  clear hseg hbx
  rcases hao with rfl | ⟨b, off, rfl⟩
  · have : size = 0 := by simpa using hs
    subst this
    simp only [List.length_nil, List.drop_nil, List.take_nil] at *
    have hk := HK.out (.slice ao 0 cap) ⟨ao, cap, rfl, by simp, hcm, .inl (by simp)⟩
    have hsg : SegB R (w.setCell ⟨R, 0, none⟩ (.slice ao 0 cap)) (.slice ao 0 cap) [] := ⟨ao, cap, rfl, by simp, hcm, by simp, .inl rfl⟩
    have HF : Hid (SegB R (w.setCell ⟨R, 0, none⟩ (.slice ao 0 cap)) (.slice ao 0 cap) [] ∧ Rd R (w.setCell ⟨R, 0, none⟩ (.slice ao 0 cap)) [] bad ∧ w.grownBy (w.setCell ⟨R, 0, none⟩ (.slice ao 0 cap)) (some R)) := ⟨hsg, hk⟩
    clear hk hsg HK HSG
    rcases ao with _ | ad
    · go_enter Tryd.func66, Tryd.ntmps66
      go_wp2
      go_ret
      exact ⟨_, rfl, HF.out⟩
    · go_enter Tryd.func66, Tryd.ntmps66
      go_wp2
      go_ret
      exact ⟨_, rfl, HF.out⟩
  · have hseg0 : ∀ cp, size ≤ cp → cp ≤ 9223372036854775807 → SegB R w (.slice (some ⟨b, off, none⟩) size cp) (l.take size) := fun cp h1 h2 =>
      ⟨some ⟨b, off, none⟩, cp, by simp [List.length_take, Nat.min_eq_left hs], by simp; omega, h2, by simp; omega, (HSG.out).imp (fun h => by simp [h]) fun ⟨b', off', h3, h4, h5⟩ => ⟨b', off', h3, h4, fun i x hx => h5 i x (by
        rw [List.getElem?_take] at hx
        split at hx
        · exact hx
        · cases hx)⟩⟩
    have HS0 : Hid (∀ cp, size ≤ cp → cp ≤ 9223372036854775807 → SegB R w (.slice (some ⟨b, off, none⟩) size cp) (l.take size)) := hseg0
    clear hseg0 HSG
    go_enter Tryd.func66, Tryd.ntmps66
    go_wp2
    · go_ret
      have hk := HK.out (.slice (some ⟨b, off, none⟩) (l.length - size) 0) ⟨_, _, by rw [List.length_drop], by simp; omega, by omega, .inl (by omega)⟩
      exact ⟨_, rfl, (HS0.out _ (Nat.le_refl _) (by omega)).grown hk.2 (by omega), hk⟩
    · go_ret
      have hk := HK.out (.slice (some ⟨b, off + size, none⟩) (l.length - size) (cap - size)) ⟨_, _, by rw [List.length_drop], by simp; omega, by omega, .inr ⟨b, off, _, rfl, rfl⟩⟩
      exact ⟨_, rfl, (HS0.out _ (by omega) (by omega)).grown hk.2 (by omega), hk⟩
end Go.Proofs.YtaajjejgjnlbgaaDoor
