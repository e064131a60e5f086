import Derived.Test.YtaajjejgjnlbgaaDoorOpens
import Derived.Test.YtaajjejgjnlbgaaDoorCtl2
import Derived.Lib.SlBytesConst
namespace Go.Proofs.YtaajjejgjnlbgaaDoor
open Go.RowKit

/-- A new row of constant bytes. -/
theorem Seg.lit {w : World} {C : Array Value} {m : Nat × Nat} (l : List Nat) (hC : C = (bs l).toArray) (hl : l.length ≤ 1000) : Seg (w.alloc (.cells C 5 m)) (.slice (some ⟨w.heap.size, 0, none⟩) l.length l.length) l := by
  refine ⟨_, l.length, rfl, Nat.le_refl _, by omega, by omega, .inr ⟨w.heap.size, 0, rfl, by simp, fun i x hx => ?_⟩⟩
  rw [World.cell?_alloc_mark, Nat.zero_add, hC]
  simp [bs, List.getElem?_map, hx]
theorem Byts.of (l : List Nat) (h : l.all (· < 256) = true) : Byts l := fun i x hx => by
  have := List.all_eq_true.1 h x (List.mem_of_getElem? hx)
  simpa using this
theorem known_1 : fits 2 0 0 0 5 0 false = true := by decide
theorem known_2 : done (rFrame (frb 2 0 0 0 5 0 false, false)).2 = true := by decide +kernel
theorem known_3 : (rFrame (frb 2 0 0 0 5 0 false, false)).1 = ⟨2, 0, 0, 0, 5, 0, false⟩ := by
  have : ∀ f : Frm, f.kd = 2 ∧ f.ke = 0 ∧ f.ti = 0 ∧ f.va = 0 ∧ f.ma = 5 ∧ f.n = 0 ∧ f.ov = false → f = ⟨2, 0, 0, 0, 5, 0, false⟩ := by
    rintro ⟨a, b, c, d, e, f, g⟩ ⟨rfl, rfl, rfl, rfl, rfl, rfl, rfl⟩; rfl
  exact this _ (by decide +kernel)
theorem known_4 : rOpen (sealed [97, 98, 99] ++ [9]) = some [97, 98, 99] := by decide +kernel
theorem known_5 : rOpen ((sealed [97, 98, 99]).take 10) = none := by decide +kernel
theorem known_6 : crc [49, 50, 51, 52, 53, 54, 55, 56, 57] = 3421780262 := by decide +kernel
theorem known_7 : fits 0 0 0 0 0 0 false = false := by decide
theorem known_8 : frb 2 0 0 0 5 0 false = [2, 0, 0, 0, 0, 0, 0, 0, 5] := by decide +kernel
theorem known_9 : (sealed [97, 98, 99]).length = 11 := by decide +kernel
theorem sealed_byts : Byts (sealed [97, 98, 99]) := Byts.of _ (by decide +kernel)

theorem SegB.below {B : Nat} {w w' : World} {v : Value} {l : List Nat} (h : SegB B w v l) (hb : Below B w w') : SegB B w' v l := by
  obtain ⟨ao, cap, h1, h2, h3, h3', h4⟩ := h
  refine ⟨ao, cap, h1, h2, h3, h3', ?_⟩
  rcases h4 with h4 | ⟨b, off, h5, h6, h7⟩
  · exact .inl h4
  · exact .inr ⟨b, off, h5, h6, fun i x hi => (hb.cell (p := ⟨b, off + i, none⟩) h6).trans (h7 i x hi)⟩
theorem Seg.cut {w : World} {g off n cap k : Nat} {l : List Nat} (h : Seg w (.slice (some ⟨g, off, none⟩) n cap) l) (hk : k ≤ l.length) : Seg w (.slice (some ⟨g, off, none⟩) k cap) (l.take k) := by
  obtain ⟨ao, cap', h1, h2, h3, h3', h4⟩ := h
  simp only [Value.slice.injEq] at h1
  obtain ⟨rfl, rfl, rfl⟩ := h1
  refine ⟨some ⟨g, off, none⟩, cap, by simp [List.length_take, Nat.min_eq_left hk], by simp; omega, h3, by simp; omega, ?_⟩
  rcases h4 with h4 | ⟨b, o, h5, h6, h7⟩
  · exact .inl (by simp [h4])
  · refine .inr ⟨b, o, h5, h6, fun i x hx => h7 i x ?_⟩
    rw [List.getElem?_take] at hx
    split at hx
    · exact hx
    · cases hx

set_option maxHeartbeats 2000000 in
set_option maxRecDepth 100000 in
theorem known_any (w : World) (hg : Glob w) : Calls Tryd.prog 9 #[] w fun e w' => e = .returned (.bool true) ∧ Below w.heap.size w w' := by
  have kc := fun (w : World) (C : Array Value) (n c : Nat) => Lib.run_convert_bytes_const (P := Tryd.prog) w 30 5 C n c Tryd.underlying30 Tryd.underlying5
  have hg0 := hg.1
  have HG : Hid (Glob w) := hg
  clear hg
  go_enter Tryd.func9, Tryd.ntmps9
  go_wp2_with fail
  refine (Frame_any 2 0 0 0 5 0 false w (by omega)).mono ?_
  rintro e w1 (⟨_, v1, rfl, ho1, hb1⟩ | ⟨h, _⟩)
  · have hz1 := hb1.size
    have HO1 : Hid (Own w.heap.size w1 v1 (frb 2 0 0 0 5 0 false)) := ho1
    have hs1 := ho1.seg (by rw [known_8]; simp)
    clear ho1
    go_wp2_with fail
    refine (OpenFrame_any v1 _ w1 hs1 (by rw [known_8]; exact Byts.of _ (by decide))).mono ?_
    rw [known_2, known_3, if_pos rfl]
    rintro e w2 ⟨rfl, hb2⟩
    simp only [Frm.val, Frm.cs]
    have hbel2 := hb1.trans (hb2.mono hz1)
    have hs2 := hs1.below hb2
    have HS1 : Hid (Seg w2 v1 (frb 2 0 0 0 5 0 false)) := hs2
    clear hs1 hs2 HO1 hb1 hb2
    have hz2 := hbel2.size
    clear hz1
    have kc1 := kc (w2.alloc (.cells #[.int .i64 2, .int .i64 0, .int .i64 0, .int .i64 0, .int .i64 5, .int .u64 0, .bool false] 26)) #[.int .u8 97, .int .u8 98, .int .u8 99] 3 3
    rw [World.size_alloc] at kc1
    have hs3 := Seg.lit (w := w2.alloc (.cells #[.int .i64 2, .int .i64 0, .int .i64 0, .int .i64 0, .int .i64 5, .int .u64 0, .bool false] 26)) (C := #[.int .u8 97, .int .u8 98, .int .u8 99]) (m := (3, 4)) [97, 98, 99] rfl (by simp)
    rw [World.size_alloc] at hs3
    have bF := BoxT.new 26 w2 #[.int .i64 2, .int .i64 0, .int .i64 0, .int .i64 0, .int .i64 5, .int .u64 0, .bool false] |>.alloc (.cells #[.int .u8 97, .int .u8 98, .int .u8 99] 5 (3, 4))
    have hbel3 := (hbel2.alloc (by omega) (.cells #[.int .i64 2, .int .i64 0, .int .i64 0, .int .i64 0, .int .i64 5, .int .u64 0, .bool false] 26)).alloc (by simp; omega) (.cells #[.int .u8 97, .int .u8 98, .int .u8 99] 5 (3, 4))
    have hg3 := HG.out.below hbel3 hg0
    have hs1 := (HS1.out.alloc (.cells #[.int .i64 2, .int .i64 0, .int .i64 0, .int .i64 0, .int .i64 5, .int .u64 0, .bool false] 26)).alloc (.cells #[.int .u8 97, .int .u8 98, .int .u8 99] 5 (3, 4))
    go_wp2_with fail
    refine (Seal_any _ [97, 98, 99] _ hs3 (Byts.of _ (by decide)) hg3 (by simp)).mono ?_
    rintro e w4 ⟨v4, rfl, ho4, hb4⟩
    clear kc1 hs3 HS1
    have bF := bF.kept (base := 0) (Kept.of_below hb4) (by decide)
    have hs1 := hs1.below hb4
    have hz4 := hbel3.size
    have hbel := hbel3.trans (hb4.mono hz4)
    have hbd := bF.lt
    clear hbel2 hbel3 hb4 hz4 hg3
    obtain ⟨g4, cap4, hv4, q1, q2, q3, q4⟩ := ho4.shape (by intro h; have := known_9; rw [h] at this; cases this)
    rw [known_9] at hv4 q3
    have hs4 := ho4.seg (by rw [known_9]; omega)
    have HS4 : Hid (SegB w4.heap.size w4 v4 (sealed [97, 98, 99])) := hs4
    have HS1 : Hid (SegB w4.heap.size w4 v1 (frb 2 0 0 0 5 0 false)) := hs1
    have HB : Hid (BoxT 26 w4 w2.heap.size #[.int .i64 2, .int .i64 0, .int .i64 0, .int .i64 0, .int .i64 5, .int .u64 0, .bool false]) := bF
    clear hs4 hs1 bF
    rw [hv4]
    rw [hv4] at HS4 ho4
    go_wp2_with fail
    refine (Copy_any _ _ w4 HS4.out (by rw [known_9]; omega)).mono ?_
    rintro e w5 ⟨v5, rfl, ho5, hb5⟩
    have hz4 := hbel.size
    have hbel := hbel.trans (hb5.mono hz4)
    have HS1 : Hid (SegB w4.heap.size w5 v1 (frb 2 0 0 0 5 0 false)) := HS1.out.below hb5
    have HS4 : Hid (SegB w4.heap.size w5 _ (sealed [97, 98, 99])) := HS4.out.below hb5
    have HB : Hid (BoxT 26 w5 w2.heap.size _) := HB.out.kept (base := 0) (Kept.of_below hb5) (by decide)
    have hz5 := hb5.size
    clear hb5
    go_wp2_with (first | (at_builtin; refine app_own rfl _ _ rfl w4.heap.size _ _ rfl (ho5.alloc _) ⟨w5.heap.size, 0, none⟩ 1 [9] rfl (one_cell w5 9) ?c1 ?c2 ?_) | fail)
    case c1 => rw [known_9]; simp
    case c2 => simp; omega
    intro v6 w6 ho6 hk6
    have hk56 := ((Kept.refl w4.heap.size w5).alloc _).trans hk6
    have hbel := hbel.trans ((hk56.below hz5).mono hz4)
    have HS1 : Hid (SegB w4.heap.size w6 v1 (frb 2 0 0 0 5 0 false)) := Seg.kept HS1.out hk56 hz5
    have HS4 : Hid (SegB w4.heap.size w6 _ (sealed [97, 98, 99])) := Seg.kept HS4.out hk56 hz5
    have HB : Hid (BoxT 26 w6 w2.heap.size _) := HB.out.kept hk56 (by decide)
    have hz6 := hk56.size
    have hg6 := HG.out.below hbel hg0
    have hs6 := ho6.seg (by rw [List.length_append, known_9]; simp)
    clear hk6 ho5 hk56
    go_wp2_with fail
    refine (Open_any v6 _ w6 hs6 ?_ hg6).mono ?_
    · intro i x hx
      by_cases hi : i < (sealed [97, 98, 99]).length
      · rw [List.getElem?_append_left hi] at hx; exact sealed_byts i x hx
      · rw [List.getElem?_append_right (by omega)] at hx
        have := List.mem_of_getElem? hx
        simp at this; omega
    rw [known_4]
    rintro e w7 (⟨l7, v7, h7, rfl, ho7, hb7⟩ | ⟨h7, _⟩)
    rotate_left
    · cases h7
    obtain rfl : [97, 98, 99] = l7 := Option.some.inj h7
    have hbel := hbel.trans (hb7.mono (by omega))
    have HS1 : Hid (SegB w4.heap.size w7 v1 (frb 2 0 0 0 5 0 false)) := HS1.out.below (hb7.mono (by omega))
    have HS4 : Hid (SegB w4.heap.size w7 _ (sealed [97, 98, 99])) := HS4.out.below (hb7.mono (by omega))
    have HB : Hid (BoxT 26 w7 w2.heap.size _) := HB.out.kept (base := 0) (Kept.of_below hb7) (by decide)
    obtain ⟨g7, cap7, hv7, r1, r2, r3, r4⟩ := ho7.shape (by simp)
    simp only [List.length_cons, List.length_nil, Nat.reduceAdd] at hv7
    have hz7 := hb7.size
    have hg7 := HG.out.below hbel hg0
    have hs7 := Seg.cut (k := 10) (HS4.out.seg (by omega)) (by rw [known_9]; omega)
    clear hb7 ho7 ho6 hs6 hg6 h7
    rw [hv7]
    go_wp2_with fail
    refine (Open_any _ _ w7 hs7 (sealed_byts.take _) hg7).mono ?_
    rw [known_5]
    rintro e w8 (⟨l8, v8, h8, _⟩ | ⟨_, rfl, hb8⟩)
    · cases h8
    have hbel := hbel.trans (hb8.mono (by omega))
    have HS1 : Hid (SegB w4.heap.size w8 v1 (frb 2 0 0 0 5 0 false)) := HS1.out.below (hb8.mono (by omega))
    have HB : Hid (BoxT 26 w8 w2.heap.size _) := HB.out.kept (base := 0) (Kept.of_below hb8) (by decide)
    have hz8 := hb8.size
    clear hb8 hs7 hg7 HS4
    go_wp2_with fail
    refine (Frame_any 0 0 0 0 0 0 false w8 (by omega)).mono ?_
    rintro e w9 (⟨h9, _⟩ | ⟨_, rfl, hb9⟩)
    · rw [known_7] at h9; cases h9
    have hbel := hbel.trans (hb9.mono (by omega))
    have HS1 : Hid (SegB w4.heap.size w9 v1 (frb 2 0 0 0 5 0 false)) := HS1.out.below (hb9.mono (by omega))
    have HB : Hid (BoxT 26 w9 w2.heap.size _) := HB.out.kept (base := 0) (Kept.of_below hb9) (by decide)
    have hz9 := hb9.size
    clear hb9
    go_wp2_with fail
    have hs9 := (HS1.out.seg (show w4.heap.size ≤ w9.heap.size by omega)).alloc (.cells #[.int .u8 2, .int .u8 0, .int .u8 0, .int .u8 0, .int .u8 0, .int .u8 0, .int .u8 0, .int .u8 0, .int .u8 5] 5)
    have ht9 := Seg.lit (w := w9) (C := #[.int .u8 2, .int .u8 0, .int .u8 0, .int .u8 0, .int .u8 0, .int .u8 0, .int .u8 0, .int .u8 0, .int .u8 5]) (m := (0, 0)) [2, 0, 0, 0, 0, 0, 0, 0, 5] rfl (by simp)
    refine (Bytes_any _ _ _ _ _ hs9 ht9).mono ?_
    rw [known_8, decide_eq_true rfl]
    rintro e w10 ⟨rfl, hb10⟩
    have hbel := hbel.trans ((((Below.refl w9.heap.size w9).alloc (Nat.le_refl _) _).trans (hb10.mono (by simp))).mono (by omega))
    have bF := ((HB.out.alloc (.cells #[.int .u8 2, .int .u8 0, .int .u8 0, .int .u8 0, .int .u8 0, .int .u8 0, .int .u8 0, .int .u8 0, .int .u8 5] 5)).kept (base := 0) (Kept.of_below hb10) (by decide))
    obtain ⟨c0, c1, c2, c3, c4, c5, c6⟩ := bF.cells7
    have kc2 := kc w10 #[.int .u8 49, .int .u8 50, .int .u8 51, .int .u8 52, .int .u8 53, .int .u8 54, .int .u8 55, .int .u8 56, .int .u8 57] 9 9
    have hs10 := Seg.lit (w := w10) (C := #[.int .u8 49, .int .u8 50, .int .u8 51, .int .u8 52, .int .u8 53, .int .u8 54, .int .u8 55, .int .u8 56, .int .u8 57]) (m := (9, 10)) [49, 50, 51, 52, 53, 54, 55, 56, 57] rfl (by simp)
    have hz10 := hb10.size
    simp only [World.size_alloc] at hz10
    have hbel10 := hbel.alloc (show w.heap.size ≤ w10.heap.size by omega) (.cells #[.int .u8 49, .int .u8 50, .int .u8 51, .int .u8 52, .int .u8 53, .int .u8 54, .int .u8 55, .int .u8 56, .int .u8 57] 5 (9, 10))
    have hg10 := HG.out.below hbel10 hg0
    have HB10 : Hid (Below w.heap.size w (w10.alloc (.cells #[.int .u8 49, .int .u8 50, .int .u8 51, .int .u8 52, .int .u8 53, .int .u8 54, .int .u8 55, .int .u8 56, .int .u8 57] 5 (9, 10)))) := hbel10
    clear hs9 ht9 hb10 hbel10 HS1 HB
    go_wp2_with fail
    refine (Sum_any _ _ _ hs10 (Byts.of _ (by decide)) hg10).mono ?_
    rw [known_6]
    rintro e w11 ⟨rfl, rfl⟩
    go_wp2
    go_ret
    exact ⟨rfl, HB10.out⟩
  · rw [known_1] at h; cases h
end Go.Proofs.YtaajjejgjnlbgaaDoor
