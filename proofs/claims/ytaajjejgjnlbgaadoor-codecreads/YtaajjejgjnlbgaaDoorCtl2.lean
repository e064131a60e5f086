import Derived.Test.YtaajjejgjnlbgaaDoorCtl
namespace Go.Proofs.YtaajjejgjnlbgaaDoor
open Go.RowKit

theorem Frame_any (kd ke ti va ma n : Int) (ov : Bool) (w : World) (hn : 0 ≤ n) :
    Calls Tryd.prog 10 #[.agg #[.int .i64 kd, .int .i64 ke, .int .i64 ti, .int .i64 va, .int .i64 ma, .int .u64 n, .bool ov]] w (RefPost w (fits kd ke ti va ma n ov) (frb kd ke ti va ma n ov)) := by
  cases hf : fits kd ke ti va ma n ov
  · refine (Frame_no kd ke ti va ma n ov w hf).mono ?_
    rintro e w' ⟨rfl, h⟩
    exact RefPost.no rfl h
  · refine (Frame_yes kd ke ti va ma n ov w hn hf).mono ?_
    rintro e w' ⟨v', rfl, ho, h⟩
    exact RefPost.yes rfl ho h

set_option maxHeartbeats 1000000 in
set_option maxRecDepth 100000 in
theorem Control_any (kd ep n tk : Int) (w : World) (h1 : 0 ≤ ep) (h2 : 0 ≤ n) :
    Calls Tryd.prog 12 #[.agg #[.int .i64 kd, .int .u64 ep, .int .u64 n, .int .i64 tk]] w (RefPost w (cfits kd tk) (ctb kd ep n tk)) := by
  generalize hfb : cfits kd tk = fb
  have HF : Hid (cfits kd tk = fb) := hfb
  clear hfb
  by_cases hk : 1 ≤ kd ∧ kd ≤ 6
  · have ek : decide (1 ≤ kd ∧ kd ≤ 6) = true := decide_eq_true hk
    obtain ⟨k1, k2⟩ := hk
    by_cases ht : 0 ≤ tk ∧ tk ≤ 65535
    · have et : decide (0 ≤ tk ∧ tk ≤ 65535) = true := decide_eq_true ht
      obtain ⟨t1, t2⟩ := ht
      go_enter Tryd.func12, Tryd.ntmps12
      go_wp2_with fail
      refine (controlKind_any kd _).mono ?_
      rw [ek]
      rintro e w1 ⟨rfl, rfl⟩
      go_wp2_with fail
      refine (short_any tk _).mono ?_
      rw [et]
      rintro e w1 ⟨rfl, rfl⟩
      go_wp2_with fail
      refine (writeControl_any w.heap.size _ [] kd ep n tk _ k1 k2 h1 h2 t1 t2 (by simp) (by simp) (Own.nil _ _)).mono ?_
      rintro e w2 ⟨v2, rfl, ho2, hk2⟩
      go_wp2
      go_ret2
      refine RefPost.yes ?_ (by simpa using ho2) (((Kept.refl _ _).alloc _).trans hk2 |>.below (Nat.le_refl _))
      rw [← HF.out]; exact decide_eq_true ⟨k1, k2, t1, t2⟩
    · have et : decide (0 ≤ tk ∧ tk ≤ 65535) = false := decide_eq_false ht
      have HT : Hid (¬ (0 ≤ tk ∧ tk ≤ 65535)) := ht
      clear ht
      go_enter Tryd.func12, Tryd.ntmps12
      go_wp2_with fail
      refine (controlKind_any kd _).mono ?_
      rw [ek]
      rintro e w1 ⟨rfl, rfl⟩
      go_wp2_with fail
      refine (short_any tk _).mono ?_
      rw [et]
      rintro e w1 ⟨rfl, rfl⟩
      go_wp2
      go_ret2
      refine RefPost.no ?_ ((Below.refl _ _).alloc (Nat.le_refl _) _)
      rw [← HF.out]; exact decide_eq_false fun h => HT.out ⟨h.2.2.1, h.2.2.2⟩
  · have ek : decide (1 ≤ kd ∧ kd ≤ 6) = false := decide_eq_false hk
    have HK : Hid (¬ (1 ≤ kd ∧ kd ≤ 6)) := hk
    clear hk
    go_enter Tryd.func12, Tryd.ntmps12
    go_wp2_with fail
    refine (controlKind_any kd _).mono ?_
    rw [ek]
    rintro e w1 ⟨rfl, rfl⟩
    go_wp2
    go_ret2
    refine RefPost.no ?_ ((Below.refl _ _).alloc (Nat.le_refl _) _)
    rw [← HF.out]; exact decide_eq_false fun h => HK.out ⟨h.1, h.2.1⟩

/-- The one box of Control, and that nothing else has turned. -/
def Boxc (w0 w : World) (c : Array Value) : Prop := BoxT 28 w w0.heap.size c ∧ Kept w0.heap.size w0 w
theorem Boxc.kept {w0 w w' : World} {c : Array Value} (h : Boxc w0 w c) (hk : Kept w0.heap.size w w') : Boxc w0 w' c := ⟨h.1.kept hk (by decide), h.2.trans hk⟩
theorem Boxc.alloc {w0 w : World} {c : Array Value} (h : Boxc w0 w c) (o : Obj) : Boxc w0 (w.alloc o) c := ⟨h.1.alloc _, h.2.alloc _⟩
theorem Boxc.drew {w0 w : World} {c : Array Value} (h : Boxc w0 w c) : Boxc w0 w.drew c := ⟨h.1, h.2.drew⟩
theorem Boxc.new (w : World) (c : Array Value) : Boxc w (w.alloc (.cells c 28)) c := ⟨BoxT.new _ _ _, (Kept.refl _ _).alloc _⟩
theorem Boxc.size {w0 w : World} {c : Array Value} (h : Boxc w0 w c) : w0.heap.size ≤ w.heap.size := by have := h.1.lt; omega
theorem Boxc.reads {w0 w : World} {c0 c1 c2 c3 : Value} (h : Boxc w0 w #[c0, c1, c2, c3]) :
    (w.cell? ⟨w0.heap.size, 0, none⟩ = some c0 ∧ w.cell? ⟨w0.heap.size, 1, none⟩ = some c1 ∧ w.cell? ⟨w0.heap.size, 2, none⟩ = some c2 ∧ w.cell? ⟨w0.heap.size, 3, none⟩ = some c3) ∧ Boxc w0 w #[c0, c1, c2, c3] := ⟨h.1.cells4, h⟩

set_option maxHeartbeats 1000000 in
set_option maxRecDepth 100000 in
theorem refControl_yes (kd ep n tk : Int) (w : World) (h1 : 0 ≤ ep) (h2 : 0 ≤ n) (k1 : 1 ≤ kd) (k2 : kd ≤ 6) (t1 : 0 ≤ tk) (t2 : tk ≤ 65535) :
    Calls Tryd.prog 13 #[.agg #[.int .i64 kd, .int .u64 ep, .int .u64 n, .int .i64 tk]] w (RefPost w true (ctb kd ep n tk)) := by
  obtain ⟨kd, rfl⟩ := Int.eq_ofNat_of_zero_le (show 0 ≤ kd by omega)
  have hw : IntKind.u64.wrap tk = tk := by rw [IntKind.wrap_u64]; omega
  have hw8 : IntKind.u8.wrap (kd : Int) = kd := by rw [IntKind.wrap_u8]; omega
  go_enter Tryd.func13, Tryd.ntmps13
  go_wp2_with fail
  go_region_held3 (fun w' => (w'.cell? ⟨w.heap.size, 0, none⟩ = some (.int .i64 kd) ∧ w'.cell? ⟨w.heap.size, 1, none⟩ = some (.int .u64 ep) ∧ w'.cell? ⟨w.heap.size, 2, none⟩ = some (.int .u64 n) ∧ w'.cell? ⟨w.heap.size, 3, none⟩ = some (.int .i64 tk)) ∧ Boxc w w' #[.int .i64 kd, .int .u64 ep, .int .u64 n, .int .i64 tk])
    ((first | exact Boxc.reads (by assumption) | exact Boxc.reads (Boxc.drew (Boxc.new _ _)) | exact Boxc.reads (Boxc.alloc (And.right (by assumption)) _) | exact Boxc.reads (Boxc.drew (Boxc.alloc (Boxc.new _ _) _))))
    (first | (go_at_call 41; refine (put_of (base := w.heap.size) (by first | assumption | exact (Own.lit_at kd (by simp) (by simp)) | exact (Own.lit_at kd (by simp) (by simp)).drew) (by first | exact Boxc.size (by assumption) | (simp; omega) | simp) (by simp [be_length]) (by omega) (by omega) (by omega)).mono ?_; rintro e w1 ⟨v1, rfl, ho1, hk1⟩; have bx := Boxc.kept (And.right (by assumption)) hk1))
  have hbel := bx.2.below (Nat.le_refl _)
  have ho : Own w.heap.size w1 v1 (ctb kd ep n tk) := by simpa [ctb, hw] using ho1
  clear hk1 ho1 bx
  go_wp2
  go_ret2
  exact RefPost.yes rfl ho hbel

set_option maxHeartbeats 1000000 in
set_option maxRecDepth 100000 in
theorem refControl_no (kd ep n tk : Int) (w : World) (h : kd < 1 ∨ 6 < kd ∨ tk < 0 ∨ 65535 < tk) :
    Calls Tryd.prog 13 #[.agg #[.int .i64 kd, .int .u64 ep, .int .u64 n, .int .i64 tk]] w (RefPost w false (ctb kd ep n tk)) := by
  by_cases h1 : kd < 1
  · go_enter Tryd.func13, Tryd.ntmps13
    go_wp2
    go_ret2
    exact RefPost.no rfl ((Below.refl _ _).alloc (Nat.le_refl _) _)
  by_cases h2 : 6 < kd
  · go_enter Tryd.func13, Tryd.ntmps13
    go_wp2
    go_ret2
    exact RefPost.no rfl ((Below.refl _ _).alloc (Nat.le_refl _) _)
  by_cases h3 : tk < 0
  · go_enter Tryd.func13, Tryd.ntmps13
    go_wp2
    go_ret2
    exact RefPost.no rfl ((Below.refl _ _).alloc (Nat.le_refl _) _)
  · have h4 : 65535 < tk := by omega
    clear h
    go_enter Tryd.func13, Tryd.ntmps13
    go_wp2
    go_ret2
    exact RefPost.no rfl ((Below.refl _ _).alloc (Nat.le_refl _) _)

theorem refControl_any (kd ep n tk : Int) (w : World) (h1 : 0 ≤ ep) (h2 : 0 ≤ n) :
    Calls Tryd.prog 13 #[.agg #[.int .i64 kd, .int .u64 ep, .int .u64 n, .int .i64 tk]] w (RefPost w (cfits kd tk) (ctb kd ep n tk)) := by
  cases hf : cfits kd tk
  · refine refControl_no kd ep n tk w ?_
    have := of_decide_eq_false hf
    omega
  · obtain ⟨a, b, c, d⟩ := of_decide_eq_true hf
    exact refControl_yes kd ep n tk w h1 h2 a b c d
end Go.Proofs.YtaajjejgjnlbgaaDoor
