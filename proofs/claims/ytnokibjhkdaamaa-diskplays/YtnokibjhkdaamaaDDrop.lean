/-
  Walks over the document's disk: drop.
-/
import Derived.Test.YtnokibjhkdaamaaDPut
namespace Go.Proofs.Ytnokibjhkdaamaa
open Go.RowKit Go.Maps

theorem drop_list {rs : List Rf} {p : Pd} (he : rs.map Rf.f = p.l) (i : Nat) : (rs.take i ++ rs.drop (i + 1)).map Rf.f = p.l.take i ++ p.l.drop (i + 1) := by
  rw [← he]
  simp [List.map_take, List.map_drop]
set_option maxHeartbeats 4000000 in
set_option maxRecDepth 100000 in
theorem rDrop {w : World} {R : Nat} {p : Pd} {rs : List Rf} {vl : Value} (h : RAt w R p rs vl) (hl : rs.length ≤ 1000000) (hr : Rise p.l) (s : ByteArray) :
    Calls Try.prog 52 #[.pointer (some ⟨R, 0, none⟩), .string s] w fun e w' => e = .returned (.tuple #[]) ∧ (∃ rs' vl', RAt w' R { p with l := fDel (nm s) p.l } rs' vl' ∧ (vl' = vl ∨ NewSl w.heap.size vl')) ∧ TurnedR R w w' := by
  obtain ⟨ao, cap, rfl, hc1, hc2⟩ := h.cap
  have hat := rAt h hl s
  have HP := hide (fDel_pos (s := nm s) hr)
  have HH := hide h
  have hple := pos_le (nm s) p.l
  rw [← h.len] at hple
  have hisl : isAt (nm s) p.l = true → pos (nm s) p.l < rs.length := fun e => by
    obtain ⟨f, hf, _⟩ := isAt_get e
    rw [h.len]
    exact (List.getElem?_eq_some_iff.1 hf).1
  clear h
  generalize pos (nm s) p.l = i at *
  generalize isAt (nm s) p.l = is at *
  go_enter Try.func52, Try.ntmps52
  go_wp2_with fail
  refine hat.mono ?_
  rintro e w1 ⟨rfl, q, rfl⟩
  clear hat
  have hbq : Below w.heap.size w (w.drewN q) := below_drewN' (Below.refl _ _) q
  have h2 : RAt (w.drewN q) R p rs (.slice ao rs.length cap) := HH.out.below hbq
  generalize w.drewN q = W1 at *
  have H2 := hide (And.intro h2 hbq)
  clear hbq
  cases is
  · have HPL : Hid (fDel (nm s) p.l = p.l) := HP.out
    clear h2 HP hisl
    go_wp2
    go_end0
    obtain ⟨h2, hbq⟩ := H2.out
    exact ⟨rfl, ⟨rs, _, by rw [HPL.out]; exact h2, .inl rfl⟩, Turned.below hbq⟩
  · have HPL : Hid (fDel (nm s) p.l = p.l.take i ++ p.l.drop (i + 1)) := HP.out
    have hil := hisl rfl
    obtain ⟨vs, hsl0, hrw⟩ := slice_row (ao := ao) (cap := cap) rs (i + 1) hil hc1
    have hsl : ∀ W, (Instr.sliceAt 69 (.slice ao rs.length cap) (some (.int .i64 ((i : Int) + 1))) none none).run Try.prog W = .ok vs W := fun W => by have := hsl0 W; rw [Int.natCast_add] at this; exact this
    have hw1 : wrap64 ((i : Int) + 1) = (i : Int) + 1 := by unfold wrap64; omega
    have hw2 : IntKind.i64.wrap ((i : Int) + 1) = (i : Int) + 1 := by rw [IntKind.wrap_i64]; omega
    obtain ⟨c0, c1, c2⟩ := h2.box.cells3
    have HROW : Hid (RowR W1.drew (.slice ao i cap) (rs.take i)) := RowR.first h2.row i hple cap
    have HRW : Hid (∀ W, Below W1.heap.size W1 W → RowR W vs (rs.drop (i + 1))) := fun W hW => hrw W (RowR.below h2.row hW)
    have hic : i ≤ cap := by omega
    have HBX : Hid (∀ W, Below W1.heap.size W1 W → BoxT 71 W R #[.slice ao rs.length cap, .int .i64 p.room, .int .i64 p.left]) := fun W hW => h2.box.keeps hW
    clear h2 HP hisl hsl0 hrw
    go_wp2_with fail
    go_region_law (first
      | (refine stepR rfl _ _ rfl rfl rfl (OwnR.nil W1.heap.size _) HROW.out (by simp; omega) (Nat.le_refl _) ?_; intro v3 w3 o3 g3; have B3 : Hid (Below W1.heap.size W1 w3) := own_b ((Below.refl _ _).drew) (OwnR.nil _ _) g3 (Nat.le_refl _); obtain ⟨x0, x1, x2⟩ := (HBX.out w3 B3.out).cells3)
      | (refine stepR rfl _ _ rfl rfl rfl o3 (HRW.out w3 B3.out) (by simp; omega) B3.out.size ?_; intro v4 w4 o4 g4; have B4 : Hid (Below W1.heap.size W1 w4) := own_b B3.out o3 g4 B3.out.size; obtain ⟨y0, y1, y2⟩ := (HBX.out w4 B4.out).cells3; have fy := (HBX.out w4 B4.out).free 0; obtain ⟨a5, n5, c5, hn5, rfl⟩ := o4.form))
    all_goals
      rw [List.nil_append] at o4
      have O4 := hide o4
      clear o3 g3 g4 o4 B3 HROW HRW HBX
      go_wp2
      go_end0
      obtain ⟨h2, hbq⟩ := H2.out
      have hd5 : ∀ z ∈ rs.take i ++ rs.drop (i + 1), Seg w4 (.slice z.a z.f.x.length z.c) z.f.x := fun z hz => by
        rcases List.mem_append.1 hz with hz | hz
        · exact (h2.data z (List.mem_of_mem_take hz)).below B4.out
        · exact (h2.data z (List.mem_of_mem_drop hz)).below B4.out
      obtain ⟨g1, g2⟩ := h2.newList B4.out O4.out (by simp; omega) hd5 (fDel (nm s) p.l) ((drop_list h2.eq i).trans HPL.out.symm)
      exact ⟨rfl, ⟨_, _, g1, .inr (NewSl.of_row (ownsRow_base_a O4.out hbq.size))⟩, (Turned.below hbq).trans g2⟩
end Go.Proofs.Ytnokibjhkdaamaa
