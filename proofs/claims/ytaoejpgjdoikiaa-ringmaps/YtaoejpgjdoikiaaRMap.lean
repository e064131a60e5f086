/-
  Walks over package ring: Map, and rings of pairs.
-/
import Derived.Test.YtaoejpgjdoikiaaRLawR
import Derived.Recover
namespace Go.Proofs.Ytaoejpgjdoikiaa
open Go.RowKit

/-- -x, as the machine has it. -/
def ng (x : Int) : Int := wrap64 (-x)
set_option maxRecDepth 100000 in
theorem Neg_any (w : World) (x : Int) : Calls Try.prog 19 #[.int .i64 x] w fun e w' => e = .returned (.agg #[.int .i64 x, .int .i64 (ng x)]) ∧ Below w.heap.size w w' := by
  go_enter Try.func19, Try.ntmps19
  go_wp2
  exact bodyPost_ret (v := .agg #[.int .i64 x, .int .i64 (ng x)]) (by simp [results, Try.results19, go_sem, ng]) rfl ⟨rfl, (Below.refl _ _).alloc (Nat.le_refl _) _⟩
set_option maxRecDepth 100000 in
theorem Rec_any (w : World) : CallsD Try.prog 50 #[] .returning w fun e u' w' => u' = .returning ∧ (e = .returned (.tuple #[]) ∧ w' = w) := by
  refine callsD_of_wpS Try.func50 rfl fun c₀ cs hu => ?_
  apply wpS_region
  simp [wpOpsS, go_sem, recoverD, hu, Try.ntmps50]
  cases c₀
  simp_all [bodyPostS, results, Try.results50]
set_option maxRecDepth 100000 in
theorem Of_any (w : World) (x : Int) : Calls Try.prog 42 #[.func (.func 19) #[] #[], .int .i64 x] w fun e w' => e = .returned (.agg #[.int .i64 x, .int .i64 (ng x)]) ∧ Below w.heap.size w w' := by
  have ba : Below w.heap.size w (w.alloc (.cells #[.int .i64 0, .int .i64 0] 39)) := (Below.refl _ _).alloc (Nat.le_refl _) _
  have hb : BoxT 39 (w.alloc (.cells #[.int .i64 0, .int .i64 0] 39)) w.heap.size #[.int .i64 0, .int .i64 0] := BoxT.new _ _ _
  go_enter_defers Try.func42, Try.ntmps42
  go_wp2_with fail
  generalize w.alloc (.cells #[.int .i64 0, .int .i64 0] 39) = w1 at *
  refine (Neg_any w1 x).mono ?_
  rintro e w2 ⟨rfl, b2⟩
  have hb2 : BoxT 39 w2 w.heap.size #[.int .i64 0, .int .i64 0] := by have h := hb.lt; unfold BoxT at *; rw [b2.block _ h]; exact hb
  have hsz := ba.size
  have B2 := hide (ba.trans (b2.mono hsz))
  have HB3 := hide ((hb2.set 0 (.int .i64 x)).set 1 (.int .i64 (ng x)))
  obtain ⟨c0, c1⟩ := hb2.cells2
  have cf := hb2.free
  clear hb ba b2
  go_wp2
  have HB4 := hide ((B2.out.setCell (p := ⟨w.heap.size, 0, none⟩) (Nat.le_refl _) (.int .i64 x)).setCell (p := ⟨w.heap.size, 1, none⟩) (Nat.le_refl _) (.int .i64 (ng x)))
  obtain ⟨d0, d1⟩ := BoxT.cells2 (c0 := .int .i64 x) (c1 := .int .i64 (ng x)) (by simpa using HB3.out)
  generalize (w2.setCell ⟨w.heap.size, 0, none⟩ (.int .i64 x)).setCell ⟨w.heap.size, 1, none⟩ (.int .i64 (ng x)) = w3 at *
  refine leaves_cons (f := 50) (args := #[]) (by simp) (by simp [go_sem]) ?_
  refine (Rec_any _).mono ?_
  rintro e u' w4 ⟨rfl, rfl, rfl⟩
  exact ⟨.agg #[.int .i64 x, .int .i64 (ng x)], by simp [results, Try.results42, go_sem, d0, d1], rfl, HB4.out⟩
theorem Try.info39 : (Try.prog.info? 39).map (fun i => (i.zero, i.size, i.bytes)) = some (some (.agg #[.int .i64 0, .int .i64 0]), 2, 16) := by kernel_rfl
theorem makeP (w : World) (n : Nat) (hn : n ≤ 1000000) : ∃ cs : Array Value, (cs.size = n * 2 ∧ ∀ i : Nat, i < n * 2 → ∃ x : Int, cs[i]? = some (.int .i64 x)) ∧ (Instr.makeSlice 66 (.int .i64 (n : Int)) (.int .i64 (n : Int))).run Try.prog w = .ok (.slice (some ⟨w.heap.size, 0, none⟩) n n) (w.alloc (.cells cs 39)) := by
  obtain ⟨i0, hi, hz0, hz1, hz2⟩ := info_parts Try.info39
  have := run_make (P := Try.prog) w 66 39 i0 (.agg #[.int .i64 0, .int .i64 0]) Try.underlying66 hi hz0 .i64 .i64 (n : Int) (n : Int) (by omega) (Int.le_refl _) (by rw [hz2]; omega) (by omega)
  rw [hz1, Int.toNat_natCast] at this
  refine ⟨_, ⟨by simp [size_madeCells], fun i hi => ⟨0, ?_⟩⟩, this⟩
  have h2 : i % 2 = 0 ∨ i % 2 = 1 := by omega
  rcases h2 with h2 | h2 <;> simp [madeCells, Value.cells, hi, h2]
set_option maxRecDepth 100000 in
theorem slotP {w : World} {k L h i : Nat} {so : Option Addr} {vm vn : Value} (hb : BoxT 68 w k #[vm, .slice so L L, .int .i64 h, vn]) (hL : 0 < L) (hL2 : L ≤ 1000000) (hh : h + i ≤ 1000000) {s : Nat} (hs : (h + i) % L = s) {vi : Int} (hvi : vi = (i : Int)) :
    Calls Try.prog 43 #[.pointer (some ⟨k, 0, none⟩), .int .i64 vi] w fun e w' => e = .returned (.int .i64 (s : Int)) ∧ Below w.heap.size w w' := by
  subst hvi
  obtain ⟨c0, c1, c2, c3⟩ := hb.cells4
  have hw : wrap64 ((h : Int) + i) = ((h + i : Nat) : Int) := by unfold wrap64; omega
  have hm := tmod_nat (h + i) L
  have hlt : (h + i) % L < L := Nat.mod_lt _ hL
  have hL0 : ((L : Int) == 0) = false := by simp; omega
  go_enter Try.func43, Try.ntmps43
  go_wp2
  go_region
  all_goals
    go_wp2
    go_ret
    refine ⟨?_, (Below.refl _ _).drew⟩
    rw [← hs, Int.natCast_emod, Int.natCast_add]
    rfl
end Go.Proofs.Ytaoejpgjdoikiaa
