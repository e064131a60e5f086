/-
  rise, begin, arrived, barrier.
-/
import Derived.Test.YtmipgfobggbndaaGTurn
namespace Go.Proofs.Ytmipgfobggbndaa
open Go.RowKit

def zeroSn : Array Value := #[.int .i64 0, .int .i64 0, .int .i64 0, .int .i64 0, .int .i64 0, .int .u64 0, .int .u64 0]
/-- Seven stores into a block. -/
abbrev ch7 (W : World) (R : Nat) (c0 c1 c2 c3 c4 c5 c6 : Value) : World := ((((((W.setCell ⟨R, 0, none⟩ c0).setCell ⟨R, 1, none⟩ c1).setCell ⟨R, 2, none⟩ c2).setCell ⟨R, 3, none⟩ c3).setCell ⟨R, 4, none⟩ c4).setCell ⟨R, 5, none⟩ c5).setCell ⟨R, 6, none⟩ c6
theorem BoxT.ch7 {t : TypeId} {W : World} {R : Nat} {a0 a1 a2 a3 a4 a5 a6 : Value} (h : BoxT t W R #[a0, a1, a2, a3, a4, a5, a6]) (c0 c1 c2 c3 c4 c5 c6 : Value) : BoxT t (ch7 W R c0 c1 c2 c3 c4 c5 c6) R #[c0, c1, c2, c3, c4, c5, c6] := by
  simpa using ((((((h.set 0 c0).set 1 c1).set 2 c2).set 3 c3).set 4 c4).set 5 c5).set 6 c6
theorem BoxT.all7 {t : TypeId} {W : World} {R : Nat} {a0 a1 a2 a3 a4 a5 a6 : Value} (h : BoxT t W R #[a0, a1, a2, a3, a4, a5, a6]) : W.cell? ⟨R, 0, none⟩ = some a0 ∧ W.cell? ⟨R, 1, none⟩ = some a1 ∧ W.cell? ⟨R, 2, none⟩ = some a2 ∧ W.cell? ⟨R, 3, none⟩ = some a3 ∧ W.cell? ⟨R, 4, none⟩ = some a4 ∧ W.cell? ⟨R, 5, none⟩ = some a5 ∧ W.cell? ⟨R, 6, none⟩ = some a6 :=
  ⟨h.cellAt 0, h.cellAt 1, h.cellAt 2, h.cellAt 3, h.cellAt 4, h.cellAt 5, h.cellAt 6⟩
theorem FT.off {fp fp' : Nat → Prop} {a b : World} (h : FT fp fp' a b) {R : Nat} (hR : a.heap.size ≤ R) (j : Nat) (u : Value) : FT fp fp' a (b.setCell ⟨R, j, none⟩ u) :=
  ⟨h.os, h.tape, h.output, by simpa using h.size, fun i hi hn => (Below.heap_setCell b ⟨R, j, none⟩ u i (fun e => by simp at e; omega)).trans (h.block i hi hn), h.sub⟩
theorem FT.ch7 {fp fp' : Nat → Prop} {a b : World} (h : FT fp fp' a b) {R : Nat} (hR : a.heap.size ≤ R) (c0 c1 c2 c3 c4 c5 c6 : Value) : FT fp fp' a (ch7 b R c0 c1 c2 c3 c4 c5 c6) := ((((((h.off hR 0 c0).off hR 1 c1).off hR 2 c2).off hR 3 c3).off hR 4 c4).off hR 5 c5).off hR 6 c6
theorem GA.off {w : World} {k : Nat} {fp : Nat → Prop} {s : Gs} (h : GA w k fp s) {R : Nat} (hR : ¬ fp R) (j : Nat) (u : Value) : GA (w.setCell ⟨R, j, none⟩ u) k fp s := h.back (fun i hi => Below.heap_setCell w ⟨R, j, none⟩ u i (fun e => hR (by simp at e; rw [← e]; exact hi)))
theorem GA.ch7 {w : World} {k : Nat} {fp : Nat → Prop} {s : Gs} (h : GA w k fp s) {R : Nat} (hR : ¬ fp R) (c0 c1 c2 c3 c4 c5 c6 : Value) : GA (ch7 w R c0 c1 c2 c3 c4 c5 c6) k fp s := ((((((h.off hR 0 c0).off hR 1 c1).off hR 2 c2).off hR 3 c3).off hR 4 c4).off hR 5 c5).off hR 6 c6
/-- A channel's watermark rises. -/
def Gs.rise (s : Gs) (c : Nat) (m : Int) : Gs := if m ≤ s.M.getD c 0 then s else { s with M := s.M.set c m }
def Gs.riseS (s : Gs) (c : Nat) (m : Int) : Sn := if least s.M < least (s.rise c m).M then ⟨2, 0, 0, 0, least (s.rise c m).M, 0, 0⟩ else Sn.none
theorem GX.setMark {w : World} {k mb cb : Nat} {mi : Int} {cv : Value} {s : Gs} (h : GX w k mb cb mi cv s) (c : Nat) (m : Int) : GX (w.setCell ⟨mb, c, none⟩ (.int .i64 m)) k mb cb mi cv { s with M := s.M.set c m } :=
  { box := by simpa using h.box.other c _ h.nkm
    mx := by have := h.mx.set c (.int .i64 m); rw [i64s_set] at this; exact this
    cm := h.cm.other c _ h.nmc.symm
    cp := h.cp.otherBox h.mx (by decide) _ _
    len := by simpa using h.len
    pos := by simpa using h.pos
    le := by simpa using h.le
    mis := h.mis }
set_option maxHeartbeats 1000000 in
set_option maxRecDepth 100000 in
theorem rise_any {w : World} {k : Nat} {fp : Nat → Prop} {s : Gs} (h : GA w k fp s) {c : Nat} (hc : c < s.M.length) (m : Int) : Calls Try.prog 31 #[.pointer (some ⟨k, 0, none⟩), .int .i64 (c : Int), .int .i64 m] w fun e w' => e = .returned (s.riseS c m).val ∧ ∃ fp', GA w' k fp' (s.rise c m) ∧ FT fp fp' w w' := by
  have B1 := hide (below_box w (.cells zeroSn 43))
  have h1 := h.below B1.out
  have hR : ¬ fp w.heap.size := fun e => by have := h.flt _ e; omega
  obtain ⟨mb, cb, mi, cv, h1, hf⟩ := h1
  obtain ⟨x, hx⟩ := get_of_lt hc
  obtain ⟨c0, -, -, -, -, -, -⟩ := h1.cells
  have e5 := h1.mark hx
  have hd : s.M.getD c 0 = x := by simp [hx]
  have hi : (c : Int) < (s.M.length : Int) := by omega
  have hle := h1.le
  unfold Gs.riseS Gs.rise
  rw [hd]
  unfold zeroSn at *
  by_cases hm : m ≤ x
  · rw [if_pos hm, if_neg (by omega)]
    unfold Sn.none Sn.val
    have g1 : GA _ k fp s := ⟨mb, cb, mi, cv, h1, hf⟩
    have H1 := hide g1
    clear g1
    clear h1 hf h hd
    generalize s.M.length = n at *
    go_enter Try.func31, Try.ntmps31
    go_wp2_with fail
    exact bodyPost_ret (v := .agg #[.int .i64 0, .int .i64 0, .int .i64 0, .int .i64 0, .int .i64 0, .int .u64 0, .int .u64 0]) (by simp [results, Try.results31, go_sem]; try rfl) rfl ⟨rfl, fp, H1.out, FT.of_below B1.out⟩
  · rw [if_neg hm]
    have hmb : fp mb := (hf mb).2 (.inr (.inl rfl))
    have g1 : GA _ k fp s := ⟨mb, cb, mi, cv, h1, hf⟩
    have H1 := hide g1
    clear g1
    have g2 : GA _ k fp { s with M := s.M.set c m } := ⟨mb, cb, mi, cv, h1.setMark c m, hf⟩
    have H2 := hide g2
    clear g2
    have T2 := hide ((FT.of_below B1.out).trans (FT.set _ hmb c (.int .i64 m)))
    have fr := h1.mx.free
    have R2 : BoxT 43 ((w.alloc (.cells #[.int .i64 0, .int .i64 0, .int .i64 0, .int .i64 0, .int .i64 0, .int .u64 0, .int .u64 0] 43)).setCell ⟨mb, c, none⟩ (.int .i64 m)) w.heap.size #[.int .i64 0, .int .i64 0, .int .i64 0, .int .i64 0, .int .i64 0, .int .u64 0, .int .u64 0] := (BoxT.new _ _ _).other c _ ((BoxT.new 43 w _).ne h1.mx (by decide))
    have r0 := R2.cellAt 0
    have r1 := R2.cellAt 1
    have r2 := R2.cellAt 2
    have r3 := R2.cellAt 3
    have r4 := R2.cellAt 4
    have r5 := R2.cellAt 5
    have r6 := R2.cellAt 6
    have rf := R2.free
    simp only
    generalize hs2 : ({ s with M := s.M.set c m } : Gs) = s2 at *
    have hsM : s.M.set c m = s2.M := by rw [← hs2]
    rw [hsM]
    have HM1 := hide (Mark_any H1.out)
    have HM2 := hide (Mark_any H2.out)
    generalize least s.M = l1 at *
    generalize least s2.M = l2 at *
    clear h1 hf h hd hs2 hsM
    generalize s.M.length = n at *
    by_cases hl : l1 < l2
    · rw [if_pos hl]
      unfold Sn.val
      have HR := hide R2
      clear R2
      go_enter Try.func31, Try.ntmps31
      go_wp2_with (go_at_call 15; first | (refine HM1.out.mono ?_; rintro e w1 ⟨rfl, rfl⟩; clear HM1) | (refine HM2.out.mono ?_; rintro e w1 ⟨rfl, rfl⟩; clear HM2))
      have q := (HR.out.ch7 (.int .i64 2) (.int .i64 0) (.int .i64 0) (.int .i64 0) (.int .i64 l2) (.int .u64 0) (.int .u64 0)).all7
      exact bodyPost_ret (v := .agg #[.int .i64 2, .int .i64 0, .int .i64 0, .int .i64 0, .int .i64 l2, .int .u64 0, .int .u64 0]) (by simp [results, Try.results31, go_sem, q.1, q.2.1, q.2.2.1, q.2.2.2.1, q.2.2.2.2.1, q.2.2.2.2.2.1, q.2.2.2.2.2.2]; try rfl) rfl ⟨rfl, fp, H2.out.ch7 hR (.int .i64 2) (.int .i64 0) (.int .i64 0) (.int .i64 0) (.int .i64 l2) (.int .u64 0) (.int .u64 0), T2.out.ch7 (Nat.le_refl _) (.int .i64 2) (.int .i64 0) (.int .i64 0) (.int .i64 0) (.int .i64 l2) (.int .u64 0) (.int .u64 0)⟩
    · rw [if_neg hl]
      unfold Sn.none Sn.val
      have HR := hide R2
      clear R2
      go_enter Try.func31, Try.ntmps31
      go_wp2_with (go_at_call 15; first | (refine HM1.out.mono ?_; rintro e w1 ⟨rfl, rfl⟩; clear HM1) | (refine HM2.out.mono ?_; rintro e w1 ⟨rfl, rfl⟩; clear HM2))
      have q := (HR.out.ch7 (.int .i64 0) (.int .i64 0) (.int .i64 0) (.int .i64 0) (.int .i64 0) (.int .u64 0) (.int .u64 0)).all7
      exact bodyPost_ret (v := .agg #[.int .i64 0, .int .i64 0, .int .i64 0, .int .i64 0, .int .i64 0, .int .u64 0, .int .u64 0]) (by simp [results, Try.results31, go_sem, q.1, q.2.1, q.2.2.1, q.2.2.2.1, q.2.2.2.2.1, q.2.2.2.2.2.1, q.2.2.2.2.2.2]; try rfl) rfl ⟨rfl, fp, H2.out.ch7 hR (.int .i64 0) (.int .i64 0) (.int .i64 0) (.int .i64 0) (.int .i64 0) (.int .u64 0) (.int .u64 0), T2.out.ch7 (Nat.le_refl _) (.int .i64 0) (.int .i64 0) (.int .i64 0) (.int .i64 0) (.int .i64 0) (.int .u64 0) (.int .u64 0)⟩
end Go.Proofs.Ytmipgfobggbndaa
