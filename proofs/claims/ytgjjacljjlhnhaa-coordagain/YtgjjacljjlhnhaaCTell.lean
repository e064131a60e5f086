/-
  newRoll, inBounds, tell.
-/
import Derived.Test.YtgjjacljjlhnhaaCAns
namespace Go.Proofs.Ytgjjacljjlhnhaa
open Go.RowKit

set_option maxHeartbeats 4000000 in
set_option maxRecDepth 100000 in
theorem newRoll_any {w : World} {B : Nat} {v : Value} {l : List Int} (hl : LSeg 1 i64cs B w v l) (hB : B ≤ w.heap.size) (hn : l.length ≤ 1000000) (h64 : ∀ x ∈ l, In64 x) (hnd : l.Nodup) :
    Calls Try.prog 27 #[v] w fun e w' => ∃ o a, e = .returned (.agg #[v, .map (some o), .map (some a)]) ∧ SetAt w' o l.reverse ∧ SetAt w' a [] ∧ w.heap.size ≤ o ∧ w.heap.size ≤ a ∧ a ≠ o ∧ Below w.heap.size w w' := by
  obtain ⟨ao, cap, rfl⟩ := hl.shapeOf
  have hmm := @run_makeMap Try.prog
  obtain ⟨w0, hw0⟩ : ∃ w0, w0 = w.alloc (.cells #[.slice none 0 0, .map none, .map none] 56) := ⟨_, rfl⟩
  have hb0 : Below w.heap.size w w0 := hw0 ▸ below_box w _
  have hx0 : BoxT 56 w0 w.heap.size #[.slice none 0 0, .map none, .map none] := hw0 ▸ BoxT.new _ _ _
  have HS := hide (newSet_any ((hl.mono hB).below hb0) hb0.size hn h64 hnd)
  have HB0 := hide hb0
  have HX0 := hide hx0
  have HSZ : Hid (w0.heap.size = w.heap.size + 1) := hide (by rw [hw0]; simp)
  clear hl hB hn h64 hnd hb0 hx0
  generalize l.length = L at *
  go_enter Try.func27, Try.ntmps27
  go_wp2_with (first | ((try rw [← hw0]); go_at_call 25; refine HS.out.mono ?_; rintro e w1 ⟨rfl, s1, k1⟩; have S1 := hide s1; have B1 := hide k1; clear s1 k1 HS; obtain ⟨c0, c1, c2⟩ := (((HX0.out.below B1.out).alloc (.map #[] 0))).cells3; have F0 := ((HX0.out.below B1.out).alloc (.map #[] 0)).free) | fail)
  have k3 := ((((HX0.out.below B1.out).alloc (.map #[] 0)).set 0 (.slice ao L cap)).set 1 (.map (some (w.heap.size + 1)))).set 2 (.map (some w1.heap.size))
  obtain ⟨r0, r1, r2⟩ := BoxT.cells3 (c0 := .slice ao L cap) (c1 := .map (some (w.heap.size + 1))) (c2 := .map (some w1.heap.size)) k3
  have HW1 : Hid (w.heap.size + 1 ≤ w1.heap.size) := hide (by have := B1.out.size; rw [HSZ.out] at this; exact this)
  have HBA : Hid (Below w.heap.size w (w1.alloc (.map #[] 0))) := hide ((HB0.out.trans (B1.out.mono HB0.out.size)).trans ((below_box w1 _).mono (by have := HW1.out; omega)))
  have HGA : Hid (∀ i, i ≠ w.heap.size → ((((w1.alloc (.map #[] 0)).setCell ⟨w.heap.size, 0, none⟩ (.slice ao L cap)).setCell ⟨w.heap.size, 1, none⟩ (.map (some (w.heap.size + 1)))).setCell ⟨w.heap.size, 2, none⟩ (.map (some w1.heap.size))).heap[i]? = (w1.alloc (.map #[] 0)).heap[i]?) := hide (fun i hi => by
    rw [Below.heap_setCell _ _ _ i hi, Below.heap_setCell _ _ _ i hi, Below.heap_setCell _ _ _ i hi])
  refine bodyPost_ret (v := .agg #[.slice ao L cap, .map (some (w.heap.size + 1)), .map (some w1.heap.size)]) (by simp [results, Try.results27, go_sem, r0, r1, r2]) rfl ⟨w.heap.size + 1, w1.heap.size, rfl, ?_, ?_, Nat.le_succ _, Nat.le_of_succ_le HW1.out, by have h1 := S1.out.lt; rw [HSZ.out] at h1; omega, ?_⟩
  · have h1 := S1.out
    rw [HSZ.out] at h1
    exact (h1.alloc (.map #[] 0)).back (HGA.out _ (by omega))
  · exact (SetAt.made w1).back (HGA.out _ (by have := HW1.out; omega))
  · exact HBA.out.grown (grownBy_trans (grownBy_set _ _ 0 _) (grownBy_trans (grownBy_set _ _ 1 _) (grownBy_set _ _ 2 _))) HBA.out.size (fun g e => by cases e; exact Nat.le_refl _)
set_option maxHeartbeats 4000000 in
set_option maxRecDepth 100000 in
theorem inBounds_any (w : World) (x : Int) :
    Calls Try.prog 26 #[.int .i64 x] w fun e w' => e = .returned (.int .i64 (bnd x : Int)) ∧ w = w' := by
  go_enter Try.func26, Try.ntmps26
  go_wp2_with fail
  all_goals
    go_ret
    refine ⟨ret_int ?_, rfl⟩
    unfold bnd
    (try split at *) <;> omega
theorem tellL_take {l : List Int} {i : Nat} {x : Int} (h : l[i]? = some x) (k : Int) (e n : Nat) : tellL k e n (l.take (i + 1)) = tellL k e n (l.take i) ++ [⟨k, e, n, x⟩] := by
  unfold tellL
  rw [take_snoc h, List.map_append]; rfl
def Ct.cs (m : Ct) : List Value := [.int .i64 m.kind, .int .u64 (m.ep : Int), .int .u64 (m.n : Int), .int .i64 m.task]
theorem Ct.cs_len (m : Ct) : m.cs.length = 4 := rfl
theorem Ct.cs_one (m : Ct) : ∀ u ∈ m.cs, u.oneCell' = true := by
  intro u hu
  simp only [Ct.cs, List.mem_cons, List.not_mem_nil, or_false] at hu
  rcases hu with rfl | rfl | rfl | rfl <;> rfl
theorem newC (w : World) (m : Ct) : ∀ (j : Nat) (u : Value), m.cs[j]? = some u → (w.alloc (.cells #[.int .i64 m.kind, .int .u64 (m.ep : Int), .int .u64 (m.n : Int), .int .i64 m.task] 32)).cell? ((⟨w.heap.size, 0, none⟩ : Addr).add j) = some u := by
  intro j u hu
  have hb : BoxT 32 (w.alloc (.cells #[.int .i64 m.kind, .int .u64 (m.ep : Int), .int .u64 (m.n : Int), .int .i64 m.task] 32)) w.heap.size #[.int .i64 m.kind, .int .u64 (m.ep : Int), .int .u64 (m.n : Int), .int .i64 m.task] := BoxT.new _ _ _
  rw [add_plain2, hb.cellAt]
  match j, hu with
  | 0, hu => simpa [Ct.cs] using hu
  | 1, hu => simpa [Ct.cs] using hu
  | 2, hu => simpa [Ct.cs] using hu
  | 3, hu => simpa [Ct.cs] using hu
  | j + 4, hu => simp [Ct.cs] at hu
set_option maxHeartbeats 4000000 in
set_option maxRecDepth 100000 in
theorem tell_any {w : World} {k : Nat} {cs : Array Value} (hb : BoxT 59 w k cs) {ep : Nat} (hc : cs[3]? = some (.int .u64 (ep : Int))) (kd : Int) (n : Nat) {B : Nat} {v : Value} {l : List Int} (hl : LSeg 1 i64cs B w v l) (hB : B ≤ w.heap.size) (hn : l.length ≤ 1000000) :
    Calls Try.prog 38 #[.pointer (some ⟨k, 0, none⟩), .int .i64 kd, .int .u64 (n : Int), v] w fun e w' => ∃ u, e = .returned u ∧ OwnL 32 4 Ct.cs w.heap.size w' u (tellL kd ep n l) ∧ Below w.heap.size w w' := by
  obtain ⟨ao, cap, rfl⟩ := hl.shapeOf
  have HL := hide (hl.mono hB)
  have HBX := hide hb
  have HC := hide hc
  clear hl hB hb hc
  go_enter Try.func38, Try.ntmps38
  go_wp2_with fail
  go_loopg [9, 11, 14] (l.length + 1) (fun gh uv xv iv wr => ∃ i : Nat, iv = .int .i64 (i : Int) ∧ i ≤ l.length ∧ l.length + 1 ≤ gh + i ∧ Hid (OwnL 32 4 Ct.cs w.heap.size wr uv (tellL kd ep n (l.take i))) ∧ Hid (Below w.heap.size w wr))
  case atStart => exact ⟨0, rfl, by omega, by omega, (show OwnL _ _ _ _ _ _ _ by simpa [tellL] using OwnL.nil _ _ _ _ _), Below.refl _ _⟩
  case round =>
    obtain ⟨i, rfl, hi, hg, HO, HB⟩ := hrel
    obtain ⟨go, rfl⟩ : ∃ go, gk = go + 1 := ⟨gk - 1, by omega⟩
    by_cases hlt : i < l.length
    · obtain ⟨x, hxx⟩ := get_of_lt hlt
      have bt : (i : Int) < (l.length : Int) := by omega
      obtain ⟨nb, no, rfl, nlt, e0⟩ := seg_int (HL.out.below HB.out) hxx
      have HE := hide (tellL_take hxx kd ep n)
      have HLN : Hid ((tellL kd ep n (l.take i)).length ≤ 1000000) := hide (by unfold tellL; rw [List.length_map, List.length_take]; omega)
      have HBS : Hid (∀ o, w.heap.size ≤ (wr.alloc o).heap.size) := hide (fun o => by have := HB.out.size; simp; omega)
      have hk : BoxT 59 wr k cs := HBX.out.below HB.out
      have c3 := (hk.cellAt 3).trans HC.out
      have HNW := hide (newC wr ⟨kd, ep, n, x⟩)
      clear hxx hk
      go_wp2_with (first | (at_builtin; refine app_L Try.infoC Try.underlying29 rfl (by decide) (by decide) Ct.cs_len Ct.cs_one rfl _ _ rfl w.heap.size _ _ rfl (HO.out.alloc _) _ _ ⟨kd, ep, n, x⟩ rfl HNW.out HLN.out (HBS.out _) ?_; intro v4 w4 h4 g4 k4; have H4 := hide h4; have B4 := hide (HB.out.trans ((below_box wr _).mono HB.out.size) |>.grown g4 (HBS.out _) (fun g e => HO.out.at g e)); clear h4 g4 k4) | fail)
      go_roundg go
      case rel => exact ⟨i + 1, by go_num, by omega, by omega, (show OwnL _ _ _ _ _ _ _ by rw [HE.out]; exact H4.out), B4⟩
      case measure => omega
    · obtain rfl : i = l.length := by omega
      have bt : ¬ ((l.length : Nat) : Int) < (l.length : Int) := by omega
      go_wp2_with fail
      go_ret
      have := HO.out
      rw [List.take_of_length_le (Nat.le_refl _)] at this
      exact ⟨_, rfl, this, HB.out⟩

end Go.Proofs.Ytgjjacljjlhnhaa
