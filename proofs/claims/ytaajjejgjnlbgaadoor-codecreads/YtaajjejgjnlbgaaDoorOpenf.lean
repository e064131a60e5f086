import Derived.Test.YtaajjejgjnlbgaaDoorRdf
namespace Go.Proofs.YtaajjejgjnlbgaaDoor
open Go.RowKit
def Frm.zero : Frm := ⟨0, 0, 0, 0, 0, 0, false⟩
def done (s : List Nat × Bool) : Bool := !s.2 && s.1.isEmpty

theorem RdS.start {w : World} {v : Value} {l : List Nat} (h : Seg w v l) (hb : Byts l) : RdS w.heap.size (w.alloc (.cells #[v, .bool false] 117)) (l, false) := by
  refine ⟨⟨v, BoxT.new _ _ _, ?_⟩, hb⟩
  obtain ⟨ao, cap, h1, h2, h3, h3', h4⟩ := h
  refine ⟨ao, cap, h1, h2, h3, h3', ?_⟩
  rcases h4 with h4 | ⟨b, off, h5, h6, h7⟩
  · exact .inl h4
  · exact .inr ⟨b, off, h5, h6, fun i x hi => by rw [← h7 i x hi]; exact World.cell?_of_block (Below.heap_alloc w _ b h6)⟩

theorem RdS.start_at {w : World} {v : Value} {l : List Nat} {k : Nat} (hk : k = w.heap.size) (h : Seg w v l) (hb : Byts l) : RdS k (w.alloc (.cells #[v, .bool false] 117)) (l, false) := by subst hk; exact RdS.start h hb
theorem Seg.alloc {w : World} {v : Value} {l : List Nat} (h : Seg w v l) (o : Obj) : Seg (w.alloc o) v l := h.below ((Below.refl _ _).alloc (Nat.le_refl _) o)
theorem Below.of_grown {w w' : World} {R B : Nat} (hg : w.grownBy w' (some R)) (hR : B ≤ R) (hB : B ≤ w.heap.size) : Below B w w' :=
  ⟨hg.os, hg.tape, hg.output, hg.size, fun k hk => hg.block k (by omega) (by simp; omega)⟩

/-- A frame is stored into a box. -/
theorem fin7 {w : World} {k : Nat} {a0 a1 a2 a3 a4 a5 a6 : Value} (hA : BoxT 26 w k #[a0, a1, a2, a3, a4, a5, a6]) (v0 v1 v2 v3 v4 v5 v6 : Value) (W : World)
    (hW : W = (((((((w.setCell ⟨k, 0, none⟩ v0).setCell ⟨k, 1, none⟩ v1).setCell ⟨k, 2, none⟩ v2).setCell ⟨k, 3, none⟩ v3).setCell ⟨k, 4, none⟩ v4).setCell ⟨k, 5, none⟩ v5).setCell ⟨k, 6, none⟩ v6)) :
    Below k w W ∧ BoxT 26 W k #[v0, v1, v2, v3, v4, v5, v6] := by
  subst hW
  refine ⟨?_, ?_⟩
  · exact (((((((Below.refl k w).setCell (Nat.le_refl _) _).setCell (Nat.le_refl _) _).setCell (Nat.le_refl _) _).setCell (Nat.le_refl _) _).setCell (Nat.le_refl _) _).setCell (Nat.le_refl _) _).setCell (Nat.le_refl _) _
  · have h0 : BoxT 26 _ _ #[v0, a1, a2, a3, a4, a5, a6] := hA.set 0 v0
    have h1 : BoxT 26 _ _ #[v0, v1, a2, a3, a4, a5, a6] := h0.set 1 v1
    have h2 : BoxT 26 _ _ #[v0, v1, v2, a3, a4, a5, a6] := h1.set 2 v2
    have h3 : BoxT 26 _ _ #[v0, v1, v2, v3, a4, a5, a6] := h2.set 3 v3
    have h4 : BoxT 26 _ _ #[v0, v1, v2, v3, v4, a5, a6] := h3.set 4 v4
    have h5 : BoxT 26 _ _ #[v0, v1, v2, v3, v4, v5, a6] := h4.set 5 v5
    exact h5.set 6 v6

set_option maxHeartbeats 1600000 in
set_option maxRecDepth 100000 in
theorem readAllF_any (v : Value) (l : List Nat) (w : World) (h : Seg w v l) (hb : Byts l) :
    Calls Tryd.prog 45 #[v, .func (.func 46) #[] #[]] w fun e w' => e = .returned (.tuple (if done (rFrame (l, false)).2 then #[(rFrame (l, false)).1.val, .int .i64 0] else #[Frm.zero.val, .int .i64 10])) ∧ Below w.heap.size w w' := by
  have hrf := fun o => readFrame_any (RdS.start_at (k := w.heap.size + 1) (by simp) (h.alloc o) hb)
  obtain ⟨ao, cap, rfl, h2, h3, h3', h4⟩ := h
  generalize rFrame (l, false) = p at *
  obtain ⟨⟨kd, ke, ti, va, ma, n, ov⟩, s1, bad⟩ := p
  simp only [Frm.val, Frm.cs, Frm.zero] at *
  have HR := hrf
  clear h4 hrf
  cases bad
  · rcases s1 with _ | ⟨x, s1⟩
    · rw [show done ([], false) = true from rfl, if_pos rfl]
      go_enter Tryd.func45, Tryd.ntmps45
      go_wp2_with fail
      refine (HR _).mono ?_
      rintro e w1 ⟨rfl, hr, hg⟩
      clear HR
      obtain ⟨ao', cap', r0, r1, rf⟩ := hr.cells
      have bA := ((BoxT.new 26 w _).alloc (.cells #[.slice ao l.length cap, .bool false] 117) |>.grown hg (by omega)).alloc (.cells #[.int .i64 kd, .int .i64 ke, .int .i64 ti, .int .i64 va, .int .i64 ma, .int .u64 n, .bool ov] 26)
      have hbel := Below.trans (((Below.refl w.heap.size w).alloc (Nat.le_refl _) _).alloc (by simp) _) (Below.of_grown hg (B := w.heap.size) (by omega) (by simp; omega))
      obtain ⟨d0, d1, d2, d3, d4, d5, d6⟩ := bA.cells7
      have fa := bA.free
      have hz := hbel.size
      have hR := hr.lt
      clear hg
      go_wp2
      obtain ⟨hW, hx⟩ := fin7 bA (.int .i64 kd) (.int .i64 ke) (.int .i64 ti) (.int .i64 va) (.int .i64 ma) (.int .u64 n) (.bool ov) _ rfl
      obtain ⟨x0, x1, x2, x3, x4, x5, x6⟩ := hx.cells7
      exact bodyPost_ret (v := .tuple #[.agg #[.int .i64 kd, .int .i64 ke, .int .i64 ti, .int .i64 va, .int .i64 ma, .int .u64 n, .bool ov], .int .i64 0]) (by simp [results, Tryd.results45, go_sem, x0, x1, x2, x3, x4, x5, x6]) rfl ⟨rfl, (hbel.alloc (by omega) _).trans hW⟩
    · rw [show done (x :: s1, false) = false from rfl, if_neg (by decide)]
      go_enter Tryd.func45, Tryd.ntmps45
      go_wp2_with fail
      refine (HR _).mono ?_
      rintro e w1 ⟨rfl, hr, hg⟩
      clear HR
      obtain ⟨ao', cap', r0, r1, rf⟩ := hr.cells
      have bA := (((BoxT.new 26 w _).alloc (.cells #[.slice ao l.length cap, .bool false] 117) |>.grown hg (by omega)).alloc (.cells #[.int .i64 kd, .int .i64 ke, .int .i64 ti, .int .i64 va, .int .i64 ma, .int .u64 n, .bool ov] 26)).alloc (.cells #[.int .i64 0, .int .i64 0, .int .i64 0, .int .i64 0, .int .i64 0, .int .u64 0, .bool false] 26)
      have hbel := Below.trans (((Below.refl w.heap.size w).alloc (Nat.le_refl _) _).alloc (by simp) _) (Below.of_grown hg (B := w.heap.size) (by omega) (by simp; omega))
      obtain ⟨d0, d1, d2, d3, d4, d5, d6⟩ := bA.cells7
      have fa := bA.free
      have hz := hbel.size
      have hR := hr.lt
      have hpos : (0 : Int) < (s1.length : Int) + 1 := by omega
      clear hg
      go_wp2
      obtain ⟨hW, hx⟩ := fin7 bA (.int .i64 0) (.int .i64 0) (.int .i64 0) (.int .i64 0) (.int .i64 0) (.int .u64 0) (.bool false) _ rfl
      obtain ⟨x0, x1, x2, x3, x4, x5, x6⟩ := hx.cells7
      exact bodyPost_ret (v := .tuple #[.agg #[.int .i64 0, .int .i64 0, .int .i64 0, .int .i64 0, .int .i64 0, .int .u64 0, .bool false], .int .i64 10]) (by simp [results, Tryd.results45, go_sem, x0, x1, x2, x3, x4, x5, x6]) rfl ⟨rfl, ((hbel.alloc (by omega) _).alloc (by simp; omega) _).trans hW⟩
  · rw [show done (s1, true) = false from rfl, if_neg (by decide)]
    go_enter Tryd.func45, Tryd.ntmps45
    go_wp2_with fail
    refine (HR _).mono ?_
    rintro e w1 ⟨rfl, hr, hg⟩
    clear HR
    obtain ⟨ao', cap', r0, r1, rf⟩ := hr.cells
    have bA := (((BoxT.new 26 w _).alloc (.cells #[.slice ao l.length cap, .bool false] 117) |>.grown hg (by omega)).alloc (.cells #[.int .i64 kd, .int .i64 ke, .int .i64 ti, .int .i64 va, .int .i64 ma, .int .u64 n, .bool ov] 26)).alloc (.cells #[.int .i64 0, .int .i64 0, .int .i64 0, .int .i64 0, .int .i64 0, .int .u64 0, .bool false] 26)
    have hbel := Below.trans (((Below.refl w.heap.size w).alloc (Nat.le_refl _) _).alloc (by simp) _) (Below.of_grown hg (B := w.heap.size) (by omega) (by simp; omega))
    obtain ⟨d0, d1, d2, d3, d4, d5, d6⟩ := bA.cells7
    have fa := bA.free
    have hz := hbel.size
    have hR := hr.lt
    clear hg
    go_wp2
    obtain ⟨hW, hx⟩ := fin7 bA (.int .i64 0) (.int .i64 0) (.int .i64 0) (.int .i64 0) (.int .i64 0) (.int .u64 0) (.bool false) _ rfl
    obtain ⟨x0, x1, x2, x3, x4, x5, x6⟩ := hx.cells7
    exact bodyPost_ret (v := .tuple #[.agg #[.int .i64 0, .int .i64 0, .int .i64 0, .int .i64 0, .int .i64 0, .int .u64 0, .bool false], .int .i64 10]) (by simp [results, Tryd.results45, go_sem, x0, x1, x2, x3, x4, x5, x6]) rfl ⟨rfl, ((hbel.alloc (by omega) _).alloc (by simp; omega) _).trans hW⟩

set_option maxHeartbeats 1600000 in
set_option maxRecDepth 100000 in
theorem OpenFrame_any (v : Value) (l : List Nat) (w : World) (h : Seg w v l) (hb : Byts l) :
    Calls Tryd.prog 15 #[v] w fun e w' => e = .returned (.tuple (if done (rFrame (l, false)).2 then #[(rFrame (l, false)).1.val, .int .i64 0] else #[Frm.zero.val, .int .i64 10])) ∧ Below w.heap.size w w' := by
  have hra := fun o => readAllF_any v l (w.alloc o) (h.alloc o) hb
  obtain ⟨f, er, hf⟩ : ∃ (f : Frm) (er : Int), (if done (rFrame (l, false)).2 then #[(rFrame (l, false)).1.val, .int .i64 0] else #[Frm.zero.val, .int .i64 10]) = #[f.val, Value.int .i64 er] := by
    split
    · exact ⟨_, _, rfl⟩
    · exact ⟨_, _, rfl⟩
  simp only [hf] at *
  have HR := hra
  clear hf hra
  obtain ⟨kd, ke, ti, va, ma, n, ov⟩ := f
  simp only [Frm.val, Frm.cs] at *
  go_enter Tryd.func15, Tryd.ntmps15
  go_wp2_with fail
  refine (HR _).mono ?_
  rintro e w1 ⟨rfl, hb1⟩
  clear HR
  have bA := (BoxT.new 26 w _).kept (base := 0) (Kept.of_below hb1) (by decide)
  obtain ⟨d0, d1, d2, d3, d4, d5, d6⟩ := bA.cells7
  have fa := bA.free
  go_wp2
  obtain ⟨hW, hx⟩ := fin7 bA (.int .i64 kd) (.int .i64 ke) (.int .i64 ti) (.int .i64 va) (.int .i64 ma) (.int .u64 n) (.bool ov) _ rfl
  obtain ⟨x0, x1, x2, x3, x4, x5, x6⟩ := hx.cells7
  exact bodyPost_ret (v := .tuple #[.agg #[.int .i64 kd, .int .i64 ke, .int .i64 ti, .int .i64 va, .int .i64 ma, .int .u64 n, .bool ov], .int .i64 er]) (by simp [results, Tryd.results15, go_sem, x0, x1, x2, x3, x4, x5, x6]) rfl ⟨rfl, (((Below.refl _ _).alloc (Nat.le_refl _) _).trans (hb1.mono (by simp))).trans hW⟩
end Go.Proofs.YtaajjejgjnlbgaaDoor
