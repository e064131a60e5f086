import Derived.Test.YtaajjejgjnlbgaaDoorRefSeal
namespace Go.Proofs.YtaajjejgjnlbgaaDoor
open Go.RowKit

/-- In the midst of a law: what was there is as it was. -/
structure LW (w W : World) : Prop where
  bel : Below w.heap.size w W
  gl : Glob W
theorem LW.step {w W W' : World} (h : LW w W) (hb : Below W.heap.size W W') : LW w W' := ⟨h.bel.trans (hb.mono h.bel.size), h.gl.below hb h.gl.1⟩
theorem Seg.lw {w W : World} {v : Value} {l : List Nat} (h : Seg w v l) (q : LW w W) : Seg W v l := h.below q.bel

theorem LW.kept {w W W' : World} {B : Nat} (h : LW w W) (hk : Kept B W W') (hB : w.heap.size ≤ B) (hB2 : B ≤ W.heap.size) (h0 : 0 < w.heap.size) : LW w W' :=
  ⟨h.bel.trans ((hk.below hB2).mono hB), h.gl.kept hk (by omega)⟩
theorem bit_turn (x bit : Nat) (hx : x < 256) : ∃ y : Nat, bits .xor .u8 (x : Int) (2 ^ (bit % 8) % 256) = (y : Int) ∧ y < 256 ∧ y ≠ x := by
  have hp : 2 ^ (bit % 8) < 256 := by
    have : bit % 8 < 8 := Nat.mod_lt _ (by omega)
    exact Nat.lt_of_lt_of_le (Nat.pow_lt_pow_right (by omega) this) (show 2 ^ 8 ≤ 256 by decide)
  have hpos : 0 < 2 ^ (bit % 8) := Nat.pow_pos (by omega)
  refine ⟨x ^^^ 2 ^ (bit % 8), ?_, Nat.xor_lt_two_pow (n := 8) hx hp, fun h => ?_⟩
  · have e : ((2 : Int) ^ (bit % 8) % 256) = ((2 ^ (bit % 8) : Nat) : Int) := by
      have : ((2 ^ (bit % 8) : Nat) : Int) = (2 : Int) ^ (bit % 8) := by simp
      rw [← this]; omega
    rw [e]; exact u8_xor_nat x _ hx hp
  · have h2 : x ^^^ 2 ^ (bit % 8) = x ^^^ 0 := by rw [h, Nat.xor_zero]
    have := xor_cancel' h2
    omega
theorem Own.keep {base B g n cap : Nat} {w w' : World} {l : List Nat} (h : Own base w (.slice (some ⟨g, 0, none⟩) n cap) l) (hk : Kept B w w') (hg : g < B) : Own base w' (.slice (some ⟨g, 0, none⟩) n cap) l := by
  refine ⟨h.1, ?_⟩
  rcases h.2 with h | ⟨g', cap', cur, h1, h2, h3, h4⟩
  · exact .inl h
  · simp only [Value.slice.injEq, Option.some.injEq, Addr.mk.injEq, and_true] at h1
    obtain ⟨rfl, rfl, rfl⟩ := h1
    exact .inr ⟨g, cap, cur, rfl, h2, by rw [hk.block g (Array.getElem?_eq_some_iff.1 h3).1 (.inl hg)]; exact h3, h4⟩

set_option maxHeartbeats 4000000 in
set_option maxRecDepth 100000 in
theorem CodecSeals_walk (vb vm : Value) (lb lm : List Nat) (at_ : Int) (bit : Nat) (w : World) (hb : Seg w vb lb) (hm : Seg w vm lm) (hbb : Byts lb) (hbm : Byts lm) (hat : I64 at_) (hbit : bit < 256) (hg : Glob w) :
    Calls Tryd.prog 7 #[vb, vm, .int .i64 at_, .int .u8 bit] w fun e w' => e = .returned (.bool true) ∧ Below w.heap.size w w' := by
  have HB : Hid (Seg w vb lb) := hb
  have HM : Hid (Seg w vm lm) := hm
  obtain ⟨ab, cb, rfl, b1, b2, b3, _⟩ := hb
  obtain ⟨am, cm, rfl, m1, m2, m3, _⟩ := hm
  have q : LW w w := ⟨Below.refl _ _, hg⟩
  have hw0 := hg.1
  clear hg
  go_enter Tryd.func7, Tryd.ntmps7
  go_wp2_with fail
  refine (known_any _ q.gl).mono ?_
  rintro e w1 ⟨rfl, hb⟩
  have q := q.step hb
  have hw1 := q.bel.size
  clear hb
  by_cases h5 : 5000 < lb.length
  · have hfin := q.bel
    go_wp2
    go_ret
    exact ⟨rfl, hfin⟩
  by_cases h2 : 2000 < lm.length
  · have hfin := q.bel
    go_wp2
    go_ret
    exact ⟨rfl, hfin⟩
  go_wp2_with fail
  refine (Seal_any _ lb w1 (HB.out.lw q) hbb q.gl (by omega)).mono ?_
  rintro e w2 ⟨vs, rfl, hos, hb⟩
  have q := q.step hb
  have HS : Hid (Own w1.heap.size w2 vs (sealed lb)) := hos
  have hz1 := hb.size
  clear hb hos
  go_wp2_with fail
  refine (refSeal_any _ lb w2 (HB.out.lw q) hbb (by omega)).mono ?_
  rintro e w3 ⟨vt, rfl, hot, hb⟩
  have q := q.step hb
  have HS : Hid (Own w1.heap.size w3 vs (sealed lb)) := HS.out.below hb (Nat.le_refl _)
  have hsl := sealed_len lb
  have HL : Hid ((sealed lb).length = lb.length + 8) := hsl
  have hst := hot.seg (by omega)
  have hz2 := hb.size
  clear hb hot hsl
  go_wp2_with fail
  refine (Bytes_any vs vt _ _ w3 (HS.out.seg (by have := HL.out; omega)) hst).mono ?_
  rw [decide_eq_true rfl]
  rintro e w4 ⟨rfl, hb⟩
  have q := q.step hb
  have HS : Hid (Own w1.heap.size w4 vs (sealed lb)) := HS.out.below hb (Nat.le_refl _)
  have hz3 := hb.size
  clear hb hst
  go_wp2_with fail
  refine (Sum_any _ lb w4 (HB.out.lw q) hbb q.gl).mono ?_
  rintro e w5 ⟨rfl, rfl⟩
  go_wp2_with fail
  refine (refSum_any _ lb w5 (HB.out.lw q) hbb).mono ?_
  rintro e w6 ⟨rfl, rfl⟩
  have ec : ((crc lb : Int) != (crc lb : Int)) = false := by simp
  have hne : sealed lb ≠ [] := by intro h; have := HL.out; rw [h] at this; simp at this
  obtain ⟨g, cap, hv, g1, g2, g3, g4⟩ := HS.out.shape hne
  rw [HL.out] at hv g3
  clear hne
  rw [hv] at HS ⊢
  go_wp2_with fail
  refine (Copy_any _ (sealed lb) w6 (HS.out.seg (by have := HL.out; omega)) (by have := HL.out; omega)).mono ?_
  rintro e w7 ⟨vc, rfl, hoc, hb⟩
  have q := q.step hb
  have HS : Hid (Own w1.heap.size w7 _ (sealed lb)) := HS.out.below hb (Nat.le_refl _)
  have hz6 := hb.size
  clear hb
  go_wp2_with (first | (at_builtin; refine app_seg rfl _ _ rfl w6.heap.size _ _ rfl hoc _ lm rfl (HM.out.lw q) (by have := HL.out; omega) (by omega) ?_) | fail)
  intro v8 w8 ho8 hk8
  have hw6 : w.heap.size ≤ w6.heap.size := by omega
  have q := q.kept hk8 hw6 hz6 hw0
  have HS : Hid (Own w1.heap.size w8 _ (sealed lb)) := HS.out.keep hk8 g2
  have hs8 := ho8.seg (by rw [List.length_append]; have := HL.out; omega)
  have hz7 := hk8.size
  clear hk8 hoc ho8
  go_wp2_with fail
  refine (Open_any v8 _ w8 hs8 ((sealed_byts' lb hbb).app hbm) q.gl).mono ?_
  rw [rOpen_sealed lb lm hbb (by omega)]
  rintro e w9 (⟨l9, v9, h9, rfl, ho9, hb⟩ | ⟨h9, _⟩)
  rotate_left
  · cases h9
  obtain rfl : lb = l9 := Option.some.inj h9
  have q := q.step hb
  have HS : Hid (Own w1.heap.size w9 _ (sealed lb)) := HS.out.below hb (Nat.le_refl _)
  have hs9 := ho9.seg (by omega)
  have hz8 := hb.size
  clear hb ho9 h9 hs8
  have e8 : (8 + (lb.length : Int) != ((lb.length + 8 : Nat) : Int)) = false := by simp; omega
  go_wp2_with fail
  refine (Bytes_any v9 _ _ _ w9 hs9 (HB.out.lw q)).mono ?_
  rw [decide_eq_true rfl]
  rintro e w10 ⟨rfl, hb⟩
  have q := q.step hb
  have HS : Hid (Own w1.heap.size w10 _ (sealed lb)) := HS.out.below hb (Nat.le_refl _)
  have hz9 := hb.size
  clear hb hs9
  go_wp2_with fail
  refine (Place_any at_ _ w10 hat (by omega) (by omega)).mono ?_
  rintro e w11 ⟨p, rfl, hp, rfl⟩
  go_wp2_with fail
  have hsp := Seg.cut (k := p) (HS.out.seg (by have := HL.out; omega)) (by have := HL.out; omega)
  refine (Open_any _ _ w11 hsp ((sealed_byts' lb hbb).take _) q.gl).mono ?_
  rw [rOpen_cut lb p hbb (by omega) (by have := HL.out; omega)]
  rintro e w12 (⟨l12, v12, h12, _⟩ | ⟨_, rfl, hb⟩)
  · cases h12
  have q := q.step hb
  have HS : Hid (Own w1.heap.size w12 _ (sealed lb)) := HS.out.below hb (Nat.le_refl _)
  have hz11 := hb.size
  clear hb hsp
  go_wp2_with fail
  refine (Place_any at_ _ w12 hat (by omega) (by omega)).mono ?_
  rintro e w13 ⟨p2, rfl, hp2, rfl⟩
  obtain ⟨x, hx⟩ : ∃ x : Nat, (sealed lb)[4 + p2]? = some x := ⟨_, List.getElem?_eq_getElem (by have := HL.out; omega)⟩
  have hx256 : x < 256 := sealed_byts' lb hbb _ x hx
  have HO : Hid (Own w1.heap.size w13 (.slice (some ⟨g, 0, none⟩) (sealed lb).length cap) (sealed lb)) := by
    show Own _ _ _ _
    rw [HL.out]; exact HS.out
  have hcx : w13.cell? ⟨g, 4 + p2, none⟩ = some (.int .u8 (x : Int)) := by
    have := HO.out.cellAt (4 + p2) (by have := HL.out; omega)
    rw [this, (List.getElem?_eq_some_iff.1 hx).2]
  have hfx := HO.out.free (4 + p2)
  have HX : Hid ((sealed lb)[4 + p2]? = some x) := hx
  clear hx
  obtain ⟨y, hy, hy256, hyx⟩ := bit_turn x bit hx256
  obtain ⟨hst, hks⟩ := HO.out.stored (4 + p2) y
  have hs14 := hst.seg (by rw [List.length_set]; have := HL.out; omega)
  rw [HL.out] at hs14
  have HS14 : Hid (Seg (w13.setCell ⟨g, 4 + p2, none⟩ (.int .u8 (y : Int))) (.slice (some ⟨g, 0, none⟩) (lb.length + 8) cap) ((sealed lb).set (4 + p2) y)) := hs14
  have q14 := q.kept hks (by omega) (by omega) hw0
  have hbs : Byts ((sealed lb).set (4 + p2) y) := by
    intro i z hz
    rw [List.getElem?_set] at hz
    split at hz
    · split at hz
      · simp at hz; omega
      · cases hz
    · exact sealed_byts' lb hbb i z hz
  have HO14 := Open_any _ _ _ HS14.out hbs q14.gl
  rw [rOpen_turned lb (4 + p2) y x hbb (by omega) (by omega) HX.out hy256 hyx] at HO14
  have Q14 : Hid (LW w (w13.setCell ⟨g, 4 + p2, none⟩ (.int .u8 (y : Int)))) := q14
  have HH : Hid (Calls Tryd.prog 31 #[.slice (some ⟨g, 0, none⟩) (lb.length + 8) cap] (w13.setCell ⟨g, 4 + p2, none⟩ (.int .u8 (y : Int))) (OpenPost (w13.setCell ⟨g, 4 + p2, none⟩ (.int .u8 (y : Int))) none)) := HO14
  clear hst hks hs14 q14 hbs HO14 q
  go_wp2_with fail
  refine HH.out.mono ?_
  rintro e w15 (⟨l15, v15, h15, _⟩ | ⟨_, rfl, hb⟩)
  · cases h15
  have hfin := (Q14.out.step hb).bel
  go_wp2
  go_ret
  exact ⟨rfl, hfin⟩
end Go.Proofs.YtaajjejgjnlbgaaDoor
