/-
  The document's readers: whole frames, whole control messages.
-/
import Derived.Test.YtaajjejgjnlbgaaDoorDFrame
import Derived.Test.YtaajjejgjnlbgaaDoorCtl2
namespace Go.Proofs.YtaajjejgjnlbgaaDoor
open Go.RowKit

set_option maxHeartbeats 1600000 in
set_option maxRecDepth 100000 in
theorem OpenFrameD_any (v : Value) (l : List Nat) (w : World) (h : Seg w v l) (hb : Byts l) :
    Calls Tryd.prog 27 #[v] w fun e w' => e = .returned (.tuple (if done (rFrameD (l, false)).2 then #[(rFrameD (l, false)).1.val, .int .i64 0] else #[Frm.zero.val, .int .i64 10])) ∧ Below w.heap.size w w' := by
  have hrf := fun o => frameD_any (RdSD.start_at (k := w.heap.size + 1) (by simp) (h.alloc o) hb)
  obtain ⟨ao, cap, rfl, h2, h3, h3', h4⟩ := h
  generalize rFrameD (l, false) = p at *
  obtain ⟨⟨kd, ke, ti, va, ma, n, ov⟩, s1, bad⟩ := p
  simp only [Frm.val, Frm.cs, Frm.zero] at *
  have HR := hrf
  clear h4 hrf
  cases bad
  · rcases s1 with _ | ⟨x, s1⟩
    · rw [show done ([], false) = true from rfl, if_pos rfl]
      go_enter Tryd.func27, Tryd.ntmps27
      go_wp2_with fail
      refine (HR _).mono ?_
      rintro e w1 ⟨rfl, hr, hg⟩
      clear HR
      obtain ⟨ao', cap', r0, r1, rf⟩ := hr.cells
      have bA := ((BoxT.new 26 w _).alloc (.cells #[.slice ao l.length cap, .bool false] 113) |>.grown hg (by omega)).alloc (.cells #[.int .i64 kd, .int .i64 ke, .int .i64 ti, .int .i64 va, .int .i64 ma, .int .u64 n, .bool ov] 26)
      have hbel := Below.trans (((Below.refl w.heap.size w).alloc (Nat.le_refl _) _).alloc (by simp) _) (Below.of_grown hg (B := w.heap.size) (by omega) (by simp; omega))
      obtain ⟨d0, d1, d2, d3, d4, d5, d6⟩ := bA.cells7
      have fa := bA.free
      have hz := hbel.size
      have hR := hr.lt
      clear hg
      go_wp2
      obtain ⟨hW, hx⟩ := fin7 bA (.int .i64 kd) (.int .i64 ke) (.int .i64 ti) (.int .i64 va) (.int .i64 ma) (.int .u64 n) (.bool ov) _ rfl
      obtain ⟨x0, x1, x2, x3, x4, x5, x6⟩ := hx.cells7
      exact bodyPost_ret (v := .tuple #[.agg #[.int .i64 kd, .int .i64 ke, .int .i64 ti, .int .i64 va, .int .i64 ma, .int .u64 n, .bool ov], .int .i64 0]) (by simp [results, Tryd.results27, go_sem, x0, x1, x2, x3, x4, x5, x6]) rfl ⟨rfl, (hbel.alloc (by omega) _).trans hW⟩
    · rw [show done (x :: s1, false) = false from rfl, if_neg (by decide)]
      go_enter Tryd.func27, Tryd.ntmps27
      go_wp2_with fail
      refine (HR _).mono ?_
      rintro e w1 ⟨rfl, hr, hg⟩
      clear HR
      obtain ⟨ao', cap', r0, r1, rf⟩ := hr.cells
      have bA := ((BoxT.new 26 w _).alloc (.cells #[.slice ao l.length cap, .bool false] 113) |>.grown hg (by omega)).alloc (.cells #[.int .i64 kd, .int .i64 ke, .int .i64 ti, .int .i64 va, .int .i64 ma, .int .u64 n, .bool ov] 26)
      have hbel := Below.trans (((Below.refl w.heap.size w).alloc (Nat.le_refl _) _).alloc (by simp) _) (Below.of_grown hg (B := w.heap.size) (by omega) (by simp; omega))
      obtain ⟨d0, d1, d2, d3, d4, d5, d6⟩ := bA.cells7
      have fa := bA.free
      have hz := hbel.size
      have hR := hr.lt
      have hpos : (0 : Int) < (s1.length : Int) + 1 := by omega
      clear hg
      go_wp2
      obtain ⟨hW, hx⟩ := fin7 bA (.int .i64 0) (.int .i64 0) (.int .i64 0) (.int .i64 0) (.int .i64 0) (.int .u64 0) (.bool false) _ rfl
      obtain ⟨x0, x1, x2, x3, x4, x5, x6⟩ := hx.cells7
      exact bodyPost_ret (v := .tuple #[.agg #[.int .i64 0, .int .i64 0, .int .i64 0, .int .i64 0, .int .i64 0, .int .u64 0, .bool false], .int .i64 10]) (by simp [results, Tryd.results27, go_sem, x0, x1, x2, x3, x4, x5, x6]) rfl ⟨rfl, (hbel.alloc (by omega) _).trans hW⟩
  · rw [show done (s1, true) = false from rfl, if_neg (by decide)]
    go_enter Tryd.func27, Tryd.ntmps27
    go_wp2_with fail
    refine (HR _).mono ?_
    rintro e w1 ⟨rfl, hr, hg⟩
    clear HR
    obtain ⟨ao', cap', r0, r1, rf⟩ := hr.cells
    have bA := ((BoxT.new 26 w _).alloc (.cells #[.slice ao l.length cap, .bool false] 113) |>.grown hg (by omega)).alloc (.cells #[.int .i64 kd, .int .i64 ke, .int .i64 ti, .int .i64 va, .int .i64 ma, .int .u64 n, .bool ov] 26)
    have hbel := Below.trans (((Below.refl w.heap.size w).alloc (Nat.le_refl _) _).alloc (by simp) _) (Below.of_grown hg (B := w.heap.size) (by omega) (by simp; omega))
    obtain ⟨d0, d1, d2, d3, d4, d5, d6⟩ := bA.cells7
    have fa := bA.free
    have hz := hbel.size
    have hR := hr.lt
    clear hg
    go_wp2
    obtain ⟨hW, hx⟩ := fin7 bA (.int .i64 0) (.int .i64 0) (.int .i64 0) (.int .i64 0) (.int .i64 0) (.int .u64 0) (.bool false) _ rfl
    obtain ⟨x0, x1, x2, x3, x4, x5, x6⟩ := hx.cells7
    exact bodyPost_ret (v := .tuple #[.agg #[.int .i64 0, .int .i64 0, .int .i64 0, .int .i64 0, .int .i64 0, .int .u64 0, .bool false], .int .i64 10]) (by simp [results, Tryd.results27, go_sem, x0, x1, x2, x3, x4, x5, x6]) rfl ⟨rfl, (hbel.alloc (by omega) _).trans hW⟩

/-- What the document reads of a control message, ahead of its look at the whole. -/
def rControlD (s : List Nat × Bool) : Ctl × (List Nat × Bool) :=
  (⟨(numD 1 s).1, (numD 8 (numD 1 s).2).1, (numD 8 (numD 8 (numD 1 s).2).2).1, (numD 2 (numD 8 (numD 8 (numD 1 s).2).2).2).1⟩, (numD 2 (numD 8 (numD 8 (numD 1 s).2).2).2).2)
theorem RefPost.two {w w' : World} {b : Bool} {l : List Nat} {e : Ending} (h : RefPost w b l e w') : ∃ v' er, e = .returned (.tuple #[v', .int .i64 er]) ∧ Hid (er = if b then 0 else 10) ∧ Below w.heap.size w w' := by
  rcases h with ⟨rfl, v', rfl, ho, hb⟩ | ⟨rfl, rfl, hb⟩
  · exact ⟨v', 0, rfl, rfl, hb⟩
  · exact ⟨_, 10, rfl, rfl, hb⟩

set_option maxHeartbeats 1600000 in
set_option maxRecDepth 100000 in
theorem OpenControlD_any (v : Value) (l : List Nat) (w : World) (h : Seg w v l) (hb : Byts l) :
    Calls Tryd.prog 28 #[v] w fun e w' => e = .returned (.tuple (if (done (rControlD (l, false)).2 && cfits (rControlD (l, false)).1.kd (rControlD (l, false)).1.tk) = true then #[(rControlD (l, false)).1.val, .int .i64 0] else #[Ctl.zero.val, .int .i64 10])) ∧ Below w.heap.size w w' := by
  have hr0 := fun o => RdSD.start_at (k := w.heap.size + 1) (by simp) (h.alloc o) hb
  obtain ⟨ao, cap, rfl, h2, h3, h3', h4⟩ := h
  unfold rControlD
  have hb0 := numD_lt (k := 1) (s := (l, false)) hb
  generalize hp0 : numD 1 (l, false) = p0 at hb0 ⊢
  obtain ⟨kd, s0⟩ := p0
  have HP0 := hide hp0
  clear hp0
  dsimp only at hb0 ⊢
  generalize hp1 : numD 8 s0 = p1
  obtain ⟨ep, s1⟩ := p1
  have HP1 := hide hp1
  clear hp1
  dsimp only
  generalize hp2 : numD 8 s1 = p2
  obtain ⟨n, s2⟩ := p2
  have HP2 := hide hp2
  clear hp2
  dsimp only
  generalize hp3 : numD 2 s2 = p3
  obtain ⟨tk, l3, bad⟩ := p3
  have HP3 := hide hp3
  clear hp3
  dsimp only
  have hw : wrap64 (kd : Int) = kd := by unfold wrap64; omega
  simp only [Ctl.val, Ctl.cs, Ctl.zero] at *
  have HR := hr0
  clear h4 hr0
  generalize hcf : cfits (kd : Int) (tk : Int) = cf
  have HCF := hide hcf
  clear hcf
  cases bad
  · rcases l3 with _ | ⟨x, l3⟩
    · rw [show done ([], false) = true from rfl, Bool.true_and]
      cases cf
      · rw [if_neg (by decide)]
        go_enter Tryd.func28, Tryd.ntmps28
        have q := HR (.cells #[.int .i64 0, .int .u64 0, .int .u64 0, .int .i64 0] 28)
        have N0 := numD_any (sz := 1) q (by omega) (by omega)
        rw [show (1 : Int).toNat = 1 from rfl, HP0.out] at N0
        have bA := (BoxT.new 28 w #[.int .i64 0, .int .u64 0, .int .u64 0, .int .i64 0]).alloc (.cells #[.slice ao l.length cap, .bool false] 113)
        have hbel := ((Below.refl w.heap.size w).alloc (Nat.le_refl _) (.cells #[.int .i64 0, .int .u64 0, .int .u64 0, .int .i64 0] 28)).alloc (by simp) (.cells #[.slice ao l.length cap, .bool false] 113)
        go_wp2_with fail
        refine N0.mono ?_
        rintro e w1 ⟨rfl, hr, hg⟩
        have bA := bA.grown hg (by omega)
        have hbel := hbel.trans (Below.of_grown hg (B := w.heap.size) (by omega) (by simp; omega))
        clear hg N0 HR q
        have N1 := numD_any (sz := 8) hr (by omega) (by omega)
        rw [show (8 : Int).toNat = 8 from rfl, HP1.out] at N1
        go_wp2_with fail
        refine N1.mono ?_
        rintro e w2 ⟨rfl, hr, hg⟩
        have bA := bA.grown hg (by omega)
        have hbel := hbel.trans (Below.of_grown hg (B := w.heap.size) (by omega) hbel.size)
        clear hg N1
        have N2 := numD_any (sz := 8) hr (by omega) (by omega)
        rw [show (8 : Int).toNat = 8 from rfl, HP2.out] at N2
        go_wp2_with fail
        refine N2.mono ?_
        rintro e w3 ⟨rfl, hr, hg⟩
        have bA := bA.grown hg (by omega)
        have hbel := hbel.trans (Below.of_grown hg (B := w.heap.size) (by omega) hbel.size)
        clear hg N2
        have N3 := numD_any (sz := 2) hr (by omega) (by omega)
        have hb3 := numD_lt (k := 2) hr.2
        rw [HP3.out] at hb3
        rw [show (2 : Int).toNat = 2 from rfl, HP3.out] at N3
        have hw3 : wrap64 (tk : Int) = tk := by unfold wrap64; dsimp only at hb3; omega
        go_wp2_with fail
        refine N3.mono ?_
        rintro e w4 ⟨rfl, hr, hg⟩
        have bA := (bA.grown hg (by omega)).alloc (.cells #[.int .i64 kd, .int .u64 ep, .int .u64 n, .int .i64 tk] 28)
        have hbel := (hbel.trans (Below.of_grown hg (B := w.heap.size) (by omega) hbel.size))
        have hz := hbel.size
        have hbel := hbel.alloc hz (.cells #[.int .i64 kd, .int .u64 ep, .int .u64 n, .int .i64 tk] 28)
        have hrr := hr.lt
        have hr := hr.alloc (.cells #[.int .i64 kd, .int .u64 ep, .int .u64 n, .int .i64 tk] 28)
        have bC := BoxT.new 28 w4 #[.int .i64 kd, .int .u64 ep, .int .u64 n, .int .i64 tk]
        clear hg N3 hb3
        have hcall := refControl_any (kd : Int) (ep : Int) (n : Int) (tk : Int) (w4.alloc (.cells #[.int .i64 kd, .int .u64 ep, .int .u64 n, .int .i64 tk] 28)) (by omega) (by omega)
        rw [HCF.out] at hcall
        go_wp2_with fail
        refine hcall.mono ?_
        intro e w5 hp
        obtain ⟨v5, er, rfl, HER, hb5⟩ := hp.two
        have bA := bA.kept (base := 0) (Kept.of_below hb5) (by decide)
        have bC := bC.kept (base := 0) (Kept.of_below hb5) (by decide)
        have hbel := hbel.trans (hb5.mono (by simp; omega))
        have hr : RdSD (w.heap.size + 1) w5 ([], false) := hr.keep fun i hi => hb5.block i (by simp; omega)
        obtain ⟨ao', cap', r0, r1, rf⟩ := hr.cells
        obtain ⟨c0, c1, c2, c3⟩ := bC.cells4
        obtain ⟨d0, d1, d2, d3⟩ := bA.cells4
        have fa := bA.free
        simp only at r0 r1
        clear hcall hp hb5 hr bC
        obtain rfl : er = 10 := HER.out
        go_wp2
        obtain ⟨hW, hx⟩ := fin4 bA (.int .i64 0) (.int .u64 0) (.int .u64 0) (.int .i64 0) _ rfl
        obtain ⟨x0, x1, x2, x3⟩ := hx.cells4
        exact bodyPost_ret (v := .tuple #[.agg #[.int .i64 0, .int .u64 0, .int .u64 0, .int .i64 0], .int .i64 10]) (by simp [results, Tryd.results28, go_sem, x0, x1, x2, x3]) rfl ⟨rfl, hbel.trans hW⟩
      · rw [if_pos rfl]
        go_enter Tryd.func28, Tryd.ntmps28
        have q := HR (.cells #[.int .i64 0, .int .u64 0, .int .u64 0, .int .i64 0] 28)
        have N0 := numD_any (sz := 1) q (by omega) (by omega)
        rw [show (1 : Int).toNat = 1 from rfl, HP0.out] at N0
        have bA := (BoxT.new 28 w #[.int .i64 0, .int .u64 0, .int .u64 0, .int .i64 0]).alloc (.cells #[.slice ao l.length cap, .bool false] 113)
        have hbel := ((Below.refl w.heap.size w).alloc (Nat.le_refl _) (.cells #[.int .i64 0, .int .u64 0, .int .u64 0, .int .i64 0] 28)).alloc (by simp) (.cells #[.slice ao l.length cap, .bool false] 113)
        go_wp2_with fail
        refine N0.mono ?_
        rintro e w1 ⟨rfl, hr, hg⟩
        have bA := bA.grown hg (by omega)
        have hbel := hbel.trans (Below.of_grown hg (B := w.heap.size) (by omega) (by simp; omega))
        clear hg N0 HR q
        have N1 := numD_any (sz := 8) hr (by omega) (by omega)
        rw [show (8 : Int).toNat = 8 from rfl, HP1.out] at N1
        go_wp2_with fail
        refine N1.mono ?_
        rintro e w2 ⟨rfl, hr, hg⟩
        have bA := bA.grown hg (by omega)
        have hbel := hbel.trans (Below.of_grown hg (B := w.heap.size) (by omega) hbel.size)
        clear hg N1
        have N2 := numD_any (sz := 8) hr (by omega) (by omega)
        rw [show (8 : Int).toNat = 8 from rfl, HP2.out] at N2
        go_wp2_with fail
        refine N2.mono ?_
        rintro e w3 ⟨rfl, hr, hg⟩
        have bA := bA.grown hg (by omega)
        have hbel := hbel.trans (Below.of_grown hg (B := w.heap.size) (by omega) hbel.size)
        clear hg N2
        have N3 := numD_any (sz := 2) hr (by omega) (by omega)
        have hb3 := numD_lt (k := 2) hr.2
        rw [HP3.out] at hb3
        rw [show (2 : Int).toNat = 2 from rfl, HP3.out] at N3
        have hw3 : wrap64 (tk : Int) = tk := by unfold wrap64; dsimp only at hb3; omega
        go_wp2_with fail
        refine N3.mono ?_
        rintro e w4 ⟨rfl, hr, hg⟩
        have bA := (bA.grown hg (by omega)).alloc (.cells #[.int .i64 kd, .int .u64 ep, .int .u64 n, .int .i64 tk] 28)
        have hbel := (hbel.trans (Below.of_grown hg (B := w.heap.size) (by omega) hbel.size))
        have hz := hbel.size
        have hbel := hbel.alloc hz (.cells #[.int .i64 kd, .int .u64 ep, .int .u64 n, .int .i64 tk] 28)
        have hrr := hr.lt
        have hr := hr.alloc (.cells #[.int .i64 kd, .int .u64 ep, .int .u64 n, .int .i64 tk] 28)
        have bC := BoxT.new 28 w4 #[.int .i64 kd, .int .u64 ep, .int .u64 n, .int .i64 tk]
        clear hg N3 hb3
        have hcall := refControl_any (kd : Int) (ep : Int) (n : Int) (tk : Int) (w4.alloc (.cells #[.int .i64 kd, .int .u64 ep, .int .u64 n, .int .i64 tk] 28)) (by omega) (by omega)
        rw [HCF.out] at hcall
        go_wp2_with fail
        refine hcall.mono ?_
        intro e w5 hp
        obtain ⟨v5, er, rfl, HER, hb5⟩ := hp.two
        have bA := bA.kept (base := 0) (Kept.of_below hb5) (by decide)
        have bC := bC.kept (base := 0) (Kept.of_below hb5) (by decide)
        have hbel := hbel.trans (hb5.mono (by simp; omega))
        have hr : RdSD (w.heap.size + 1) w5 ([], false) := hr.keep fun i hi => hb5.block i (by simp; omega)
        obtain ⟨ao', cap', r0, r1, rf⟩ := hr.cells
        obtain ⟨c0, c1, c2, c3⟩ := bC.cells4
        obtain ⟨d0, d1, d2, d3⟩ := bA.cells4
        have fa := bA.free
        simp only at r0 r1
        clear hcall hp hb5 hr bC
        obtain rfl : er = 0 := HER.out
        go_wp2
        obtain ⟨hW, hx⟩ := fin4 bA (.int .i64 kd) (.int .u64 ep) (.int .u64 n) (.int .i64 tk) _ rfl
        obtain ⟨x0, x1, x2, x3⟩ := hx.cells4
        exact bodyPost_ret (v := .tuple #[.agg #[.int .i64 kd, .int .u64 ep, .int .u64 n, .int .i64 tk], .int .i64 0]) (by simp [results, Tryd.results28, go_sem, x0, x1, x2, x3]) rfl ⟨rfl, hbel.trans hW⟩
    · rw [show done (x :: l3, false) = false from rfl, Bool.false_and, if_neg (by decide)]
      have hpos : (0 : Int) < (l3.length : Int) + 1 := by omega
      go_enter Tryd.func28, Tryd.ntmps28
      have q := HR (.cells #[.int .i64 0, .int .u64 0, .int .u64 0, .int .i64 0] 28)
      have N0 := numD_any (sz := 1) q (by omega) (by omega)
      rw [show (1 : Int).toNat = 1 from rfl, HP0.out] at N0
      have bA := (BoxT.new 28 w #[.int .i64 0, .int .u64 0, .int .u64 0, .int .i64 0]).alloc (.cells #[.slice ao l.length cap, .bool false] 113)
      have hbel := ((Below.refl w.heap.size w).alloc (Nat.le_refl _) (.cells #[.int .i64 0, .int .u64 0, .int .u64 0, .int .i64 0] 28)).alloc (by simp) (.cells #[.slice ao l.length cap, .bool false] 113)
      go_wp2_with fail
      refine N0.mono ?_
      rintro e w1 ⟨rfl, hr, hg⟩
      have bA := bA.grown hg (by omega)
      have hbel := hbel.trans (Below.of_grown hg (B := w.heap.size) (by omega) (by simp; omega))
      clear hg N0 HR q
      have N1 := numD_any (sz := 8) hr (by omega) (by omega)
      rw [show (8 : Int).toNat = 8 from rfl, HP1.out] at N1
      go_wp2_with fail
      refine N1.mono ?_
      rintro e w2 ⟨rfl, hr, hg⟩
      have bA := bA.grown hg (by omega)
      have hbel := hbel.trans (Below.of_grown hg (B := w.heap.size) (by omega) hbel.size)
      clear hg N1
      have N2 := numD_any (sz := 8) hr (by omega) (by omega)
      rw [show (8 : Int).toNat = 8 from rfl, HP2.out] at N2
      go_wp2_with fail
      refine N2.mono ?_
      rintro e w3 ⟨rfl, hr, hg⟩
      have bA := bA.grown hg (by omega)
      have hbel := hbel.trans (Below.of_grown hg (B := w.heap.size) (by omega) hbel.size)
      clear hg N2
      have N3 := numD_any (sz := 2) hr (by omega) (by omega)
      have hb3 := numD_lt (k := 2) hr.2
      rw [HP3.out] at hb3
      rw [show (2 : Int).toNat = 2 from rfl, HP3.out] at N3
      have hw3 : wrap64 (tk : Int) = tk := by unfold wrap64; dsimp only at hb3; omega
      go_wp2_with fail
      refine N3.mono ?_
      rintro e w4 ⟨rfl, hr, hg⟩
      have bA := (bA.grown hg (by omega)).alloc (.cells #[.int .i64 kd, .int .u64 ep, .int .u64 n, .int .i64 tk] 28)
      have hbel := (hbel.trans (Below.of_grown hg (B := w.heap.size) (by omega) hbel.size))
      have hz := hbel.size
      have hbel := hbel.alloc hz (.cells #[.int .i64 kd, .int .u64 ep, .int .u64 n, .int .i64 tk] 28)
      have hrr := hr.lt
      have hr := hr.alloc (.cells #[.int .i64 kd, .int .u64 ep, .int .u64 n, .int .i64 tk] 28)
      have bC := BoxT.new 28 w4 #[.int .i64 kd, .int .u64 ep, .int .u64 n, .int .i64 tk]
      clear hg N3 hb3
      have hcall := refControl_any (kd : Int) (ep : Int) (n : Int) (tk : Int) (w4.alloc (.cells #[.int .i64 kd, .int .u64 ep, .int .u64 n, .int .i64 tk] 28)) (by omega) (by omega)
      rw [HCF.out] at hcall
      go_wp2_with fail
      refine hcall.mono ?_
      intro e w5 hp
      obtain ⟨v5, er, rfl, HER, hb5⟩ := hp.two
      have bA := bA.kept (base := 0) (Kept.of_below hb5) (by decide)
      have bC := bC.kept (base := 0) (Kept.of_below hb5) (by decide)
      have hbel := hbel.trans (hb5.mono (by simp; omega))
      have hr : RdSD (w.heap.size + 1) w5 (x :: l3, false) := hr.keep fun i hi => hb5.block i (by simp; omega)
      obtain ⟨ao', cap', r0, r1, rf⟩ := hr.cells
      obtain ⟨c0, c1, c2, c3⟩ := bC.cells4
      obtain ⟨d0, d1, d2, d3⟩ := bA.cells4
      have fa := bA.free
      simp only at r0 r1
      clear hcall hp hb5 hr bC
      go_wp2
      obtain ⟨hW, hx⟩ := fin4 bA (.int .i64 0) (.int .u64 0) (.int .u64 0) (.int .i64 0) _ rfl
      obtain ⟨x0, x1, x2, x3⟩ := hx.cells4
      exact bodyPost_ret (v := .tuple #[.agg #[.int .i64 0, .int .u64 0, .int .u64 0, .int .i64 0], .int .i64 10]) (by simp [results, Tryd.results28, go_sem, x0, x1, x2, x3]) rfl ⟨rfl, hbel.trans hW⟩
  · rw [show done (l3, true) = false from rfl, Bool.false_and, if_neg (by decide)]
    go_enter Tryd.func28, Tryd.ntmps28
    have q := HR (.cells #[.int .i64 0, .int .u64 0, .int .u64 0, .int .i64 0] 28)
    have N0 := numD_any (sz := 1) q (by omega) (by omega)
    rw [show (1 : Int).toNat = 1 from rfl, HP0.out] at N0
    have bA := (BoxT.new 28 w #[.int .i64 0, .int .u64 0, .int .u64 0, .int .i64 0]).alloc (.cells #[.slice ao l.length cap, .bool false] 113)
    have hbel := ((Below.refl w.heap.size w).alloc (Nat.le_refl _) (.cells #[.int .i64 0, .int .u64 0, .int .u64 0, .int .i64 0] 28)).alloc (by simp) (.cells #[.slice ao l.length cap, .bool false] 113)
    go_wp2_with fail
    refine N0.mono ?_
    rintro e w1 ⟨rfl, hr, hg⟩
    have bA := bA.grown hg (by omega)
    have hbel := hbel.trans (Below.of_grown hg (B := w.heap.size) (by omega) (by simp; omega))
    clear hg N0 HR q
    have N1 := numD_any (sz := 8) hr (by omega) (by omega)
    rw [show (8 : Int).toNat = 8 from rfl, HP1.out] at N1
    go_wp2_with fail
    refine N1.mono ?_
    rintro e w2 ⟨rfl, hr, hg⟩
    have bA := bA.grown hg (by omega)
    have hbel := hbel.trans (Below.of_grown hg (B := w.heap.size) (by omega) hbel.size)
    clear hg N1
    have N2 := numD_any (sz := 8) hr (by omega) (by omega)
    rw [show (8 : Int).toNat = 8 from rfl, HP2.out] at N2
    go_wp2_with fail
    refine N2.mono ?_
    rintro e w3 ⟨rfl, hr, hg⟩
    have bA := bA.grown hg (by omega)
    have hbel := hbel.trans (Below.of_grown hg (B := w.heap.size) (by omega) hbel.size)
    clear hg N2
    have N3 := numD_any (sz := 2) hr (by omega) (by omega)
    have hb3 := numD_lt (k := 2) hr.2
    rw [HP3.out] at hb3
    rw [show (2 : Int).toNat = 2 from rfl, HP3.out] at N3
    have hw3 : wrap64 (tk : Int) = tk := by unfold wrap64; dsimp only at hb3; omega
    go_wp2_with fail
    refine N3.mono ?_
    rintro e w4 ⟨rfl, hr, hg⟩
    have bA := (bA.grown hg (by omega)).alloc (.cells #[.int .i64 kd, .int .u64 ep, .int .u64 n, .int .i64 tk] 28)
    have hbel := (hbel.trans (Below.of_grown hg (B := w.heap.size) (by omega) hbel.size))
    have hz := hbel.size
    have hbel := hbel.alloc hz (.cells #[.int .i64 kd, .int .u64 ep, .int .u64 n, .int .i64 tk] 28)
    have hrr := hr.lt
    have hr := hr.alloc (.cells #[.int .i64 kd, .int .u64 ep, .int .u64 n, .int .i64 tk] 28)
    have bC := BoxT.new 28 w4 #[.int .i64 kd, .int .u64 ep, .int .u64 n, .int .i64 tk]
    clear hg N3 hb3
    have hcall := refControl_any (kd : Int) (ep : Int) (n : Int) (tk : Int) (w4.alloc (.cells #[.int .i64 kd, .int .u64 ep, .int .u64 n, .int .i64 tk] 28)) (by omega) (by omega)
    rw [HCF.out] at hcall
    go_wp2_with fail
    refine hcall.mono ?_
    intro e w5 hp
    obtain ⟨v5, er, rfl, HER, hb5⟩ := hp.two
    have bA := bA.kept (base := 0) (Kept.of_below hb5) (by decide)
    have bC := bC.kept (base := 0) (Kept.of_below hb5) (by decide)
    have hbel := hbel.trans (hb5.mono (by simp; omega))
    have hr : RdSD (w.heap.size + 1) w5 (l3, true) := hr.keep fun i hi => hb5.block i (by simp; omega)
    obtain ⟨ao', cap', r0, r1, rf⟩ := hr.cells
    obtain ⟨c0, c1, c2, c3⟩ := bC.cells4
    obtain ⟨d0, d1, d2, d3⟩ := bA.cells4
    have fa := bA.free
    simp only at r0 r1
    clear hcall hp hb5 hr bC
    go_wp2
    obtain ⟨hW, hx⟩ := fin4 bA (.int .i64 0) (.int .u64 0) (.int .u64 0) (.int .i64 0) _ rfl
    obtain ⟨x0, x1, x2, x3⟩ := hx.cells4
    exact bodyPost_ret (v := .tuple #[.agg #[.int .i64 0, .int .u64 0, .int .u64 0, .int .i64 0], .int .i64 10]) (by simp [results, Tryd.results28, go_sem, x0, x1, x2, x3]) rfl ⟨rfl, hbel.trans hW⟩
end Go.Proofs.YtaajjejgjnlbgaaDoor
