/-
  slices.Delete of the one ring there is (numbered whole numbers); place.
-/
import Derived.Test.YtnomoekbfclckaaLnMI
namespace Go.Proofs.Ytnomoekbfclckaa
open Go.RowKit

/-- append of nothing. -/
theorem step_noneMI {w : World} {ops : Array Oper} {o : Oper} {a : Act} {K : Act → World → Prop} {Q : Exit → Act → World → Prop} {E : Prop} (hgd : o.guard = none) (s x : Operand)
    (ho : o.op = .call { callee := .builtin .append, args := #[s, x], argTypes := #[78, 78] }) (g off cap : Nat) (hs : a.eval s = .slice (some ⟨g, off, none⟩) 0 cap) (ad : Addr) (c : Nat) (hx : a.eval x = .slice (some ad) 0 c)
    (h : K (a.put o.dst (.slice (some ⟨g, off, none⟩) 0 cap)) w) : if Region.wanted o (yielded ops a.tmps) = true then Oper.wp Try.prog o a w K Q else E := by
  have hw : Region.wanted o (yielded ops a.tmps) = true := by simp [Region.wanted, hgd]
  rw [if_pos hw]
  obtain ⟨i0, hi, hz0, hz1, hz2⟩ := info_parts Try.info95'
  have hr := run_append_room_cells (P := Try.prog) w 78 o.type 95 i0 Try.underlying78 hi g off 0 cap ad 0 c [] (by simp) (fun j u hu => by simp at hu) (fun u hu => by simp at hu) (Nat.zero_le _) (fun j hj => by simp at hj) (fun j hj => by simp at hj)
  unfold Oper.wp execOp
  simp only [ho, resolve, invoke, builtin, Sem.run_bind, Sem.run_pure, Result.andThen_ok, List.map_toArray, List.map_cons, List.map_nil, hs, hx, hr]
  exact h
theorem zero95 (w : World) : (zeroValue 95).run Try.prog w = .ok (.pointer none) w := by kernel_rfl
set_option maxHeartbeats 1000000 in
set_option maxRecDepth 100000 in
theorem DeleteMI {w : World} {g off cap k : Nat} (H : Row 95 1 pc 0 w (.slice (some ⟨g, off, none⟩) 1 cap) [k]) :
    Calls Try.prog 78 #[.slice (some ⟨g, off, none⟩) 1 cap, .int .i64 0, .int .i64 1] w fun e w' => e = .returned (.slice (some ⟨g, off, none⟩) 0 cap) ∧ w' = (w.drew.setCell ⟨g, off, none⟩ (.pointer none)) := by
  have hc : 1 ≤ cap ∧ cap ≤ maxLen := by
    rcases H with ⟨h, _⟩ | ⟨g', off', cap', cur, e, h2, h3, h4, h5, h6, h7⟩
    · cases h
    · cases e; exact ⟨h4, h5⟩
  obtain ⟨_, _, _, hv, hcell⟩ := H.read pc1 (i := 0) rfl
  simp only [List.length_singleton] at hv
  cases hv
  have d2 := hcell 0 _ rfl
  simp only [Nat.zero_mul, Nat.add_zero] at d2
  have df : ∀ j, w.frozen? ⟨g, j, none⟩ = false := by
    rcases H with ⟨h, _⟩ | ⟨g', off', cap', cur, e, h2, h3, h4, h5, h6, h7⟩
    · cases h
    · cases e; exact h3.free
  clear H hcell
  obtain ⟨hc1, hc2⟩ := hc
  unfold maxLen at hc2
  have hc3 : ¬ (cap < 1) := by omega
  have hc4 : (1 : Int) ≤ cap := by omega
  have hcl : ∀ ty, (Builtin.clear_ #[78] ty #[.slice (some ⟨g, off, none⟩) 1 cap]).run Try.prog w.drew = .ok (.tuple #[]) (w.drew.setCell ⟨g, off, none⟩ (.pointer none)) :=
    fun ty => Lib.run_clear_slice w.drew 78 95 ty (.pointer none) Try.underlying78 zero95 rfl rfl g off 1 cap (by omega) (fun a ha => by
      obtain rfl : a = 0 := by omega
      rw [Nat.add_zero]; exact (congrArg Option.isSome d2)) (fun a _ => df _)
  by_cases h1 : cap = 1
  · subst h1
    go_enter Try.func78, Try.ntmps78
    go_wp2_with fail
    go_region_held3 (fun _ => True) (first | go_keep | exact trivial) (refine step_noneMI rfl _ _ rfl g off 1 rfl _ _ rfl ?_)
    go_wp2
    go_ret
    exact ⟨rfl, rfl⟩
  · go_enter Try.func78, Try.ntmps78
    go_wp2_with fail
    go_region_held3 (fun _ => True) (first | go_keep | exact trivial) (refine step_noneMI rfl _ _ rfl g off cap rfl _ _ rfl ?_)
    go_wp2
    go_ret
    exact ⟨rfl, rfl⟩
set_option maxHeartbeats 1000000 in
set_option maxRecDepth 100000 in
theorem placeMI {w : World} {fp : List Nat} {K o t : Nat} {cs : Array Value} {n : Int} {q : List (Int × Int)} {v : Value} {k b : Nat} (H : LnR 95 RMI w fp K o t cs n q v k b) {i : Nat} (hi : i < q.length) {vi : Int} (hvi : vi = (i : Int)) :
    Calls Try.prog 75 #[.pointer (some ⟨K, o, none⟩), .int .i64 vi] w fun e w' => e = .returned (.tuple #[.int .i64 0, .int .i64 (i : Int)]) ∧ w' = w := by
  subst hvi
  obtain ⟨g, off, cap, hv, hcell⟩ := H.row.read pc1 (i := 0) rfl
  simp only [List.length_singleton] at hv
  subst hv
  have d2 := hcell 0 _ rfl
  simp only [Nat.zero_mul, Nat.add_zero] at d2
  have c0 := (H.box.cellAt _).trans H.c0
  have hlen := hide (LenMI H.ring)
  clear H hcell
  generalize q.length = m at *
  have hge : ¬ ((m : Int) ≤ i) := by omega
  go_enter Try.func75, Try.ntmps75
  go_wp2_with fail
  go_loopw [1, 6] (fun a b wr => a = .int .i64 (i : Int) ∧ b = .int .i64 0 ∧ wr = w) (fun _ _ _ => 0)
  case atStart => exact ⟨rfl, rfl, rfl⟩
  case round =>
    obtain ⟨rfl, rfl, rfl⟩ := hrel
    go_wp2_with (first | (go_at_call 77; refine hlen.out.mono ?_; rintro e w1 ⟨rfl, rfl⟩) | fail)
    go_ret2
    exact ⟨rfl, rfl⟩
end Go.Proofs.Ytnomoekbfclckaa
