import Derived.Test.YtaajjejgjnlbgaaDoorMath
namespace Go.Proofs.YtaajjejgjnlbgaaDoor
open Go.RowKit

/-- In the midst of the law: its two boxes, and that what was there is as it was. -/
structure LS (w W : World) (fc cc : Array Value) : Prop where
  bf : BoxT 26 W w.heap.size fc
  bc : BoxT 28 W (w.heap.size + 1) cc
  bel : Below w.heap.size w W
  gl : Glob W
theorem LS.step {w W W' : World} {fc cc : Array Value} (h : LS w W fc cc) (hb : Below W.heap.size W W') : LS w W' fc cc :=
  ⟨h.bf.kept (base := 0) (Kept.of_below hb) (by decide), h.bc.kept (base := 0) (Kept.of_below hb) (by decide), h.bel.trans (hb.mono h.bel.size), h.gl.below hb h.gl.1⟩
theorem LS.start (w : World) (fc cc : Array Value) (hg : Glob w) : LS w ((w.alloc (.cells fc 26)).alloc (.cells cc 28)) fc cc := by
  have hb : Below w.heap.size w ((w.alloc (.cells fc 26)).alloc (.cells cc 28)) := ((Below.refl _ _).alloc (Nat.le_refl _) _).alloc (by simp) _
  exact ⟨(BoxT.new 26 w fc).alloc _, BoxT.new_at (by simp), hb, hg.below hb hg.1⟩
def erc (b : Bool) : Int := if b then 0 else 10
def outb (b : Bool) (l : List Nat) : List Nat := if b then l else []
theorem RefPost.merge {w w' : World} {b : Bool} {l : List Nat} {e : Ending} (hl : l.length ≤ 1000) (h : RefPost w b l e w') : ∃ v', e = .returned (.tuple #[v', .int .i64 (erc b)]) ∧ Seg w' v' (outb b l) ∧ Below w.heap.size w w' := by
  rcases h with ⟨rfl, v', rfl, ho, hb⟩ | ⟨rfl, rfl, hb⟩
  · exact ⟨v', rfl, ho.seg (by omega), hb⟩
  · exact ⟨_, rfl, Seg.nil _, hb⟩

set_option maxHeartbeats 2000000 in
set_option maxRecDepth 100000 in
theorem CodecFrame_walk (kd ke ti va ma n : Int) (ov : Bool) (ck ce cn ct : Int) (w : World) (h1 : I64 ke) (h2 : I64 ti) (h3 : I64 va) (h4 : I64 ma) (h5 : U64 n) (h6 : U64 ce) (h7 : U64 cn) (hg : Glob w) :
    Calls Tryd.prog 3 #[.agg #[.int .i64 kd, .int .i64 ke, .int .i64 ti, .int .i64 va, .int .i64 ma, .int .u64 n, .bool ov], .agg #[.int .i64 ck, .int .u64 ce, .int .u64 cn, .int .i64 ct]] w fun e w' => e = .returned (.bool true) ∧ Below w.heap.size w w' := by
  have q := LS.start w #[.int .i64 kd, .int .i64 ke, .int .i64 ti, .int .i64 va, .int .i64 ma, .int .u64 n, .bool ov] #[.int .i64 ck, .int .u64 ce, .int .u64 cn, .int .i64 ct] hg
  clear hg
  go_enter Tryd.func3, Tryd.ntmps3
  go_wp2_with fail
  refine (known_any _ q.gl).mono ?_
  rintro e w1 ⟨rfl, hb⟩
  have q := q.step hb
  obtain ⟨c0, c1, c2, c3, c4, c5, c6⟩ := q.bf.cells7
  clear hb
  go_wp2_with fail
  refine (Frame_any kd ke ti va ma n ov w1 h5.1).mono ?_
  intro e w2 hp
  obtain ⟨va1, rfl, hsa, hb⟩ := hp.merge (by have := frb_len kd ke ti va ma n ov; omega)
  have q := q.step hb
  clear hb hp c0 c1 c2 c3 c4 c5 c6
  obtain ⟨c0, c1, c2, c3, c4, c5, c6⟩ := q.bf.cells7
  have HA : Hid (Seg w2 va1 (outb (fits kd ke ti va ma n ov) (frb kd ke ti va ma n ov))) := hsa
  clear hsa
  go_wp2_with fail
  refine (refFrame_any kd ke ti va ma n ov w2 h5.1).mono ?_
  intro e w3 hp
  obtain ⟨vb1, rfl, hsb, hb⟩ := hp.merge (by have := frb_len kd ke ti va ma n ov; omega)
  have q := q.step hb
  have HA : Hid (Seg w3 va1 (outb (fits kd ke ti va ma n ov) (frb kd ke ti va ma n ov))) := HA.out.below hb
  have HB : Hid (Seg w3 vb1 (outb (fits kd ke ti va ma n ov) (frb kd ke ti va ma n ov))) := hsb
  clear hb hp hsb c0 c1 c2 c3 c4 c5 c6
  obtain ⟨c0, c1, c2, c3⟩ := q.bc.cells4
  go_wp2_with fail
  refine (Control_any ck ce cn ct w3 h6.1 h7.1).mono ?_
  intro e w4 hp
  obtain ⟨vc1, rfl, hsc, hb⟩ := hp.merge (by rw [ctb_len]; omega)
  have q := q.step hb
  have HA : Hid (Seg w4 va1 (outb (fits kd ke ti va ma n ov) (frb kd ke ti va ma n ov))) := HA.out.below hb
  have HB : Hid (Seg w4 vb1 (outb (fits kd ke ti va ma n ov) (frb kd ke ti va ma n ov))) := HB.out.below hb
  have HC : Hid (Seg w4 vc1 (outb (cfits ck ct) (ctb ck ce cn ct))) := hsc
  clear hb hp hsc c0 c1 c2 c3
  obtain ⟨c0, c1, c2, c3⟩ := q.bc.cells4
  go_wp2_with fail
  refine (refControl_any ck ce cn ct w4 h6.1 h7.1).mono ?_
  intro e w5 hp
  obtain ⟨vd1, rfl, hsd, hb⟩ := hp.merge (by rw [ctb_len]; omega)
  have q := q.step hb
  have HA : Hid (Seg w5 va1 (outb (fits kd ke ti va ma n ov) (frb kd ke ti va ma n ov))) := HA.out.below hb
  have HB : Hid (Seg w5 vb1 (outb (fits kd ke ti va ma n ov) (frb kd ke ti va ma n ov))) := HB.out.below hb
  have HC : Hid (Seg w5 vc1 (outb (cfits ck ct) (ctb ck ce cn ct))) := HC.out.below hb
  have HD : Hid (Seg w5 vd1 (outb (cfits ck ct) (ctb ck ce cn ct))) := hsd
  clear hb hp hsd c0 c1 c2 c3
  go_wp2_with fail
  refine (Bytes_any va1 vb1 _ _ w5 HA.out HB.out).mono ?_
  rw [decide_eq_true rfl]
  rintro e w6 ⟨rfl, hb⟩
  have q := q.step hb
  have HA : Hid (Seg w6 va1 (outb (fits kd ke ti va ma n ov) (frb kd ke ti va ma n ov))) := HA.out.below hb
  have HC : Hid (Seg w6 vc1 (outb (cfits ck ct) (ctb ck ce cn ct))) := HC.out.below hb
  have HD : Hid (Seg w6 vd1 (outb (cfits ck ct) (ctb ck ce cn ct))) := HD.out.below hb
  clear hb HB
  have eb1 : (erc (fits kd ke ti va ma n ov) != erc (fits kd ke ti va ma n ov)) = false := by simp
  have eb2 : (erc (cfits ck ct) != erc (cfits ck ct)) = false := by simp
  go_wp2_with fail
  refine (Bytes_any vc1 vd1 _ _ w6 HC.out HD.out).mono ?_
  rw [decide_eq_true rfl]
  rintro e w7 ⟨rfl, hb⟩
  have q := q.step hb
  have HA : Hid (Seg w7 va1 (outb (fits kd ke ti va ma n ov) (frb kd ke ti va ma n ov))) := HA.out.below hb
  have HC : Hid (Seg w7 vc1 (outb (cfits ck ct) (ctb ck ce cn ct))) := HC.out.below hb
  clear hb HD
  rcases Bool.eq_false_or_eq_true (cfits ck ct) with hcf | hcf
  · rw [hcf] at HC
    have e2 : (erc (cfits ck ct) == 0) = true := by rw [hcf]; rfl
    have hct := rControl_ctb ck ce cn ct [] hcf h6 h7
    rw [List.append_nil] at hct
    have HC : Hid (Seg w7 vc1 (ctb ck ce cn ct)) := HC
    have HCF : Hid (cfits ck ct = true) := hcf
    have HCR : Hid (rControl (ctb ck ce cn ct, false) = (⟨ck, ce, cn, ct⟩, ([], false))) := hct
    clear hcf hct
    rcases Bool.eq_false_or_eq_true (fits kd ke ti va ma n ov) with hf | hf
    · rw [hf] at HA
      have e1 : (erc (fits kd ke ti va ma n ov) == 0) = true := by rw [hf]; rfl
      have hrt := rFrame_frb kd ke ti va ma n ov [] hf h1 h2 h3 h4 h5
      rw [List.append_nil] at hrt
      have HA : Hid (Seg w7 va1 (frb kd ke ti va ma n ov)) := HA
      have HRT : Hid (rFrame (frb kd ke ti va ma n ov, false) = (⟨kd, ke, ti, va, ma, n, ov⟩, ([], false))) := hrt
      clear hf hrt
      go_wp2_with fail
      refine (OpenFrame_any va1 _ w7 HA.out (frb_byts _ _ _ _ _ _ _)).mono ?_
      rw [HRT.out, show done ([], false) = true from rfl, if_pos rfl]
      rintro e w8 ⟨rfl, hb⟩
      simp only [Frm.val, Frm.cs]
      have q := (q.step hb).step ((Below.refl w8.heap.size w8).alloc (Nat.le_refl _) (.cells #[.int .i64 kd, .int .i64 ke, .int .i64 ti, .int .i64 va, .int .i64 ma, .int .u64 n, .bool ov] 26))
      have HC : Hid (Seg (w8.alloc (.cells #[.int .i64 kd, .int .i64 ke, .int .i64 ti, .int .i64 va, .int .i64 ma, .int .u64 n, .bool ov] 26)) vc1 (ctb ck ce cn ct)) := (HC.out.below hb).alloc _
      clear hb HA HRT
      obtain ⟨c0, c1, c2, c3, c4, c5, c6⟩ := q.bf.cells7
      go_wp2_with fail
      refine (OpenControl_any vc1 _ _ HC.out (ctb_byts _ _ _ _ HCF.out)).mono ?_
      rw [HCR.out, show done ([], false) = true from rfl, if_pos rfl]
      rintro e w9 ⟨rfl, hb⟩
      simp only [Ctl.val, Ctl.cs]
      have q := (q.step hb).step ((Below.refl w9.heap.size w9).alloc (Nat.le_refl _) (.cells #[.int .i64 ck, .int .u64 ce, .int .u64 cn, .int .i64 ct] 28))
      obtain ⟨x0, x1, x2, x3⟩ := q.bc.cells4
      have hfin := q.bel
      clear hb HC HCR
      go_wp2
      go_ret
      exact ⟨rfl, hfin⟩
    · have e1 : (erc (fits kd ke ti va ma n ov) == 0) = false := by rw [hf]; rfl
      clear hf HA
      go_wp2_with fail
      refine (OpenControl_any vc1 _ _ HC.out (ctb_byts _ _ _ _ HCF.out)).mono ?_
      rw [HCR.out, show done ([], false) = true from rfl, if_pos rfl]
      rintro e w9 ⟨rfl, hb⟩
      simp only [Ctl.val, Ctl.cs]
      have q := (q.step hb).step ((Below.refl w9.heap.size w9).alloc (Nat.le_refl _) (.cells #[.int .i64 ck, .int .u64 ce, .int .u64 cn, .int .i64 ct] 28))
      obtain ⟨x0, x1, x2, x3⟩ := q.bc.cells4
      have hfin := q.bel
      clear hb HC HCR
      go_wp2
      go_ret
      exact ⟨rfl, hfin⟩
  · have e2 : (erc (cfits ck ct) == 0) = false := by rw [hcf]; rfl
    clear hcf HC
    rcases Bool.eq_false_or_eq_true (fits kd ke ti va ma n ov) with hf | hf
    · rw [hf] at HA
      have e1 : (erc (fits kd ke ti va ma n ov) == 0) = true := by rw [hf]; rfl
      have hrt := rFrame_frb kd ke ti va ma n ov [] hf h1 h2 h3 h4 h5
      rw [List.append_nil] at hrt
      have HA : Hid (Seg w7 va1 (frb kd ke ti va ma n ov)) := HA
      have HRT : Hid (rFrame (frb kd ke ti va ma n ov, false) = (⟨kd, ke, ti, va, ma, n, ov⟩, ([], false))) := hrt
      clear hf hrt
      go_wp2_with fail
      refine (OpenFrame_any va1 _ w7 HA.out (frb_byts _ _ _ _ _ _ _)).mono ?_
      rw [HRT.out, show done ([], false) = true from rfl, if_pos rfl]
      rintro e w8 ⟨rfl, hb⟩
      simp only [Frm.val, Frm.cs]
      have q := (q.step hb).step ((Below.refl w8.heap.size w8).alloc (Nat.le_refl _) (.cells #[.int .i64 kd, .int .i64 ke, .int .i64 ti, .int .i64 va, .int .i64 ma, .int .u64 n, .bool ov] 26))
      clear hb HA HRT
      obtain ⟨c0, c1, c2, c3, c4, c5, c6⟩ := q.bf.cells7
      have hfin := q.bel
      go_wp2
      go_ret
      exact ⟨rfl, hfin⟩
    · have e1 : (erc (fits kd ke ti va ma n ov) == 0) = false := by rw [hf]; rfl
      have hfin := q.bel
      clear hf HA
      go_wp2
      go_ret
      exact ⟨rfl, hfin⟩
end Go.Proofs.YtaajjejgjnlbgaaDoor
