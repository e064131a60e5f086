/-
  Walks over package disk: the small ones, New, Read.
-/
import Derived.Test.YtnokibjhkdaamaaDMap
namespace Go.Proofs.Ytnokibjhkdaamaa
open Go.RowKit Go.Maps

theorem DiskAt.left' {w : World} {k b n : Nat} {d : Dk} (h : DiskAt w k b n d) (x : Int) (hx : (Lit.int .i64 x).wf = true) : DiskAt (w.setCell ⟨k, 3, none⟩ (.int .i64 x)) k b n { d with left := x } :=
  ⟨h.box.set 3 _, h.map.setCell (by show b ≠ k; exact fun e => h.ne e.symm) _, h.used, h.room, hx⟩
theorem DiskAt.room' {w : World} {k b n : Nat} {d : Dk} (h : DiskAt w k b n d) (x : Int) (hx : (Lit.int .i64 x).wf = true) : DiskAt (w.setCell ⟨k, 2, none⟩ (.int .i64 x)) k b n { d with room := x } :=
  ⟨h.box.set 2 _, h.map.setCell (by show b ≠ k; exact fun e => h.ne e.symm) _, h.used, hx, h.left⟩
theorem DiskAt.used' {w : World} {k b n : Nat} {d : Dk} (h : DiskAt w k b n d) (x : Int) (hx : (Lit.int .i64 x).wf = true) : DiskAt (w.setCell ⟨k, 1, none⟩ (.int .i64 x)) k b n { d with used := x } :=
  ⟨h.box.set 1 _, h.map.setCell (by show b ≠ k; exact fun e => h.ne e.symm) _, hx, h.room, h.left⟩
theorem wf_in {x : Int} (h : -9223372036854775808 ≤ x ∧ x ≤ 9223372036854775807) : (Lit.int .i64 x).wf = true := by
  have h1 : IntKind.i64.min = -9223372036854775808 := rfl
  have h2 : IntKind.i64.max = 9223372036854775807 := rfl
  simp only [Lit.wf, Bool.and_eq_true, decide_eq_true_eq]
  omega
theorem wf_out {x : Int} (h : (Lit.int .i64 x).wf = true) : -9223372036854775808 ≤ x ∧ x ≤ 9223372036854775807 := by
  have h1 : IntKind.i64.min = -9223372036854775808 := rfl
  have h2 : IntKind.i64.max = 9223372036854775807 := rfl
  simp only [Lit.wf, Bool.and_eq_true, decide_eq_true_eq] at h
  omega
/-- One call more is done. -/
def Dk.done (d : Dk) : Dk := { d with left := if 0 < d.left then d.left - 1 else d.left }

set_option maxHeartbeats 400000 in
set_option maxRecDepth 100000 in
theorem done_any {w : World} {k b n : Nat} {d : Dk} (h : DiskAt w k b n d) :
    Calls Try.prog 44 #[.pointer (some ⟨k, 0, none⟩)] w fun e w' => e = .returned (.tuple #[]) ∧ DiskAt w' k b n d.done ∧ Turned k b w w' := by
  obtain ⟨c0, c1, c2, c3⟩ := h.box.cells4
  have f3 := h.box.free 3
  have hl := wf_out h.left
  unfold Dk.done
  by_cases h0 : 0 < d.left
  · rw [if_pos h0]
    have h2 := h.left' (d.left - 1) (wf_in (by omega))
    have HT := Turned.set k b w 3 (.int .i64 (d.left - 1))
    have hw : wrap64 (d.left - 1) = d.left - 1 := by unfold wrap64; omega
    go_enter Try.func44, Try.ntmps44
    go_wp2
    go_end0
    exact ⟨rfl, h2, HT⟩
  · rw [if_neg h0]
    go_enter Try.func44, Try.ntmps44
    go_wp2
    go_end0
    exact ⟨rfl, h, Turned.refl _ _ _⟩

set_option maxHeartbeats 400000 in
set_option maxRecDepth 100000 in
theorem Room_any {w : World} {k b n : Nat} {d : Dk} (h : DiskAt w k b n d) (x : Int) (hx : (Lit.int .i64 x).wf = true) :
    Calls Try.prog 30 #[.pointer (some ⟨k, 0, none⟩), .int .i64 x] w fun e w' => e = .returned (.tuple #[]) ∧ DiskAt w' k b n { d with room := max x 0 } ∧ Turned k b w w' := by
  obtain ⟨c0, c1, c2, c3⟩ := h.box.cells4
  have f3 := h.box.free 2
  have hl := wf_out hx
  have h2 := h.room' (max x 0) (wf_in (by omega))
  have HT := Turned.set k b w 2 (.int .i64 (max x 0))
  go_enter Try.func30, Try.ntmps30
  go_wp2
  all_goals
    go_end0
    first
      | (have em : max x 0 = x := by omega
         rw [em] at h2 HT ⊢
         exact ⟨rfl, h2, HT⟩)
      | (have em : max x 0 = 0 := by omega
         rw [em] at h2 HT ⊢
         exact ⟨rfl, h2, HT⟩)

set_option maxHeartbeats 400000 in
set_option maxRecDepth 100000 in
theorem Cut_any {w : World} {k b n : Nat} {d : Dk} (h : DiskAt w k b n d) (x : Int) (hx : (Lit.int .i64 x).wf = true) :
    Calls Try.prog 32 #[.pointer (some ⟨k, 0, none⟩), .int .i64 x] w fun e w' => e = .returned (.tuple #[]) ∧ DiskAt w' k b n { d with left := if d.left = 0 then 0 else max x (-1) } ∧ Turned k b w w' := by
  have hd := Dead_any h
  obtain ⟨c0, c1, c2, c3⟩ := h.box.cells4
  have f3 := h.box.free 3
  have hl := wf_out hx
  by_cases h0 : d.left = 0
  · rw [if_pos h0]
    have e2 : (d.left == 0) = true := by simp [h0]
    rw [e2] at hd
    go_enter Try.func32, Try.ntmps32
    go_wp2_with fail
    refine hd.mono ?_
    rintro e w1 ⟨rfl, rfl⟩
    go_wp2
    go_end0
    exact ⟨rfl, by rw [← h0]; exact h, Turned.refl _ _ _⟩
  · rw [if_neg h0]
    have e2 : (d.left == 0) = false := by simp [h0]
    rw [e2] at hd
    have h2 := h.left' (max x (-1)) (wf_in (by omega))
    have HT := Turned.set k b w 3 (.int .i64 (max x (-1)))
    go_enter Try.func32, Try.ntmps32
    go_wp2_with fail
    refine hd.mono ?_
    rintro e w1 ⟨rfl, rfl⟩
    go_wp2
    all_goals
      go_end0
      first
        | (have em : max x (-1) = x := by omega
           rw [em] at h2 HT ⊢
           exact ⟨rfl, h2, HT⟩)
        | (have em : max x (-1) = -1 := by omega
           rw [em] at h2 HT ⊢
           exact ⟨rfl, h2, HT⟩)

theorem New_made (w : World) (r : Int) (hr : -9223372036854775808 ≤ r ∧ r ≤ 9223372036854775807) : DiskAt ((w.alloc (.map #[] 0)).alloc (.cells #[.map (some w.heap.size), .int .i64 0, .int .i64 r, .int .i64 (-1)] 64)) (w.heap.size + 1) w.heap.size 0 ⟨.map [], 0, r, -1⟩ ∧ Below w.heap.size w ((w.alloc (.map #[] 0)).alloc (.cells #[.map (some w.heap.size), .int .i64 0, .int .i64 r, .int .i64 (-1)] 64)) := by
  refine ⟨⟨BoxT.new_at (by simp), (World.ownsMap_made w Try.prog 9 fileR).alloc _, wf_in (by dsimp only; omega), wf_in hr, wf_in (by dsimp only; omega)⟩, ?_⟩
  exact ((Below.refl w.heap.size w).alloc (Nat.le_refl _) (.map #[] 0)).alloc (by simp) _

set_option maxHeartbeats 400000 in
set_option maxRecDepth 100000 in
theorem New_any (w : World) (x : Int) (hx : (Lit.int .i64 x).wf = true) :
    Calls Try.prog 10 #[.int .i64 x] w fun e w' => e = .returned (.pointer (some ⟨w.heap.size + 1, 0, none⟩)) ∧ DiskAt w' (w.heap.size + 1) w.heap.size 0 ⟨.map [], 0, max x 0, -1⟩ ∧ Below w.heap.size w w' := by
  have hl := wf_out hx
  have hmk : (Instr.makeMap 62 none).run Try.prog w = .ok (.map (some w.heap.size)) (w.alloc (.map #[] 0)) := run_makeMap 62 w
  by_cases h0 : 0 ≤ x
  · have em : max x 0 = x := by omega
    rw [em]
    have HD : Hid _ := New_made w x hl
    go_enter Try.func10, Try.ntmps10
    go_wp2
    go_ret
    exact ⟨rfl, HD.out⟩
  · have em : max x 0 = 0 := by omega
    rw [em]
    have HD : Hid _ := New_made w 0 (by omega)
    have h1 : x ≤ 0 := by omega
    go_enter Try.func10, Try.ntmps10
    go_wp2
    go_ret
    exact ⟨rfl, HD.out⟩
end Go.Proofs.Ytnokibjhkdaamaa
