/-
  known: the chapter's examples.
-/
import Derived.Test.YtjdefmjcnpgjiaaDoorEFace
import Derived.Test.YtjdefmjcnpgjiaaDoorEHold
import Derived.Deep.CutBlock
import Derived.Deep.CutRange
namespace Go.Proofs.YtjdefmjcnpgjiaaDoor
open Go.RowKit

/-! ### The examples, worked out -/
def exA (g h : Nat) : Ex := mk2 5 h (mk2 7 g (leaf 2 0) (leaf 1 2)) (leaf 4 0)
def exB (g h : Nat) : Ex := mk3 14 h (mk2 12 g (leaf 4 0) (leaf 1 0)) (leaf 1 (-1)) (leaf 1 1)
theorem chkA (g h : Nat) : chk (exA g h) = 0 := by
  simp [chk, exA, mk2, leaf, formed_mk, size_mk, dep_mk, snd1, ari]
theorem cntA (g h : Nat) : (cnt (exA g h) 1 0).2 ≠ 71 := by
  rcases chk_of (exA g h) with ⟨h1, _⟩ | ⟨h1, _⟩ | ⟨_, h2⟩
  · rw [h1]; decide
  · rw [h1]; decide
  · rw [chkA] at h2; split at h2 <;> cases h2
theorem chkB (g h : Nat) : chk (exB g h) = 0 := by
  simp [chk, exB, mk2, mk3, leaf, formed_mk, size_mk, dep_mk, snd1, ari]
theorem cntB (g h : Nat) : (cnt (exB g h) 1 0).2 ≠ 71 := by
  rcases chk_of (exB g h) with ⟨h1, _⟩ | ⟨h1, _⟩ | ⟨_, h2⟩
  · rw [h1]; decide
  · rw [h1]; decide
  · rw [chkB] at h2; split at h2 <;> cases h2
theorem evlA (g h : Nat) : evl ⟨3, 0, 4⟩ (exA g h) = 10 := by
  simp [exA, mk2, leaf, evl_mk, evl1, bth, wrap64]
theorem evlB (g h : Nat) : evl ⟨0, 0, -9⟩ (exB g h) = -1 := by
  simp [exB, mk2, mk3, leaf, evl_mk, evl1, bth]
theorem txtA (g h : Nat) : txt (exA g h) = [97, 100, 100, 40, 109, 117, 108, 40, 107, 101, 121, 44, 32, 99, 50, 41, 44, 32, 118, 97, 108, 41] := by
  have e2 : Lib.itoa 2 = [50] := by unfold Lib.itoa; rw [if_neg (by decide)]; exact Lib.decDigits_one (i := 2) (by decide)
  simp [exA, mk2, leaf, txt_mk, txt1, wrd, e2, Lib.join_cons, Lib.joinTail]
theorem txtB (g h : Nat) : txt (exB g h) = [105, 102, 40, 108, 116, 40, 118, 97, 108, 44, 32, 99, 48, 41, 44, 32, 99, 45, 49, 44, 32, 99, 49, 41] := by
  have e0 : Lib.itoa 0 = [48] := by unfold Lib.itoa; rw [if_neg (by decide)]; exact Lib.decDigits_one (i := 0) (by decide)
  have e1 : Lib.itoa 1 = [49] := by unfold Lib.itoa; rw [if_neg (by decide)]; exact Lib.decDigits_one (i := 1) (by decide)
  have e3 : Lib.itoa (-1) = [45, 49] := by
    unfold Lib.itoa
    rw [if_pos (by decide)]
    exact congrArg (List.cons 45) (Lib.decDigits_one (i := 1) (by decide))
  simp [exB, mk2, mk3, leaf, txt_mk, txt1, wrd, e0, e1, e3, Lib.join_cons, Lib.joinTail]
theorem chk0 : chk (leaf 0 0) = 70 := by simp [chk, leaf, formed_mk, snd1, ari]
theorem cnt0 : (cnt (leaf 0 0) 1 0).2 ≠ 71 := by simp [leaf, cnt_mk, cnt1, snd1, ari]
theorem chkC (g h k : Nat) : chk (mk2 5 k (exA g h) (leaf 5 0)) = 70 := by
  simp [chk, exA, mk2, leaf, formed_mk, snd1, ari]
theorem cntC (g h k : Nat) : (cnt (mk2 5 k (exA g h) (leaf 5 0)) 1 0).2 ≠ 71 := by
  simp [exA, mk2, leaf, cnt_mk, cnt1, cntL, snd1, ari]

theorem Tryd.info24' : (Tryd.prog.info? 24).map (fun i => (i.zero, i.size)) = some (some (.agg #[.int .i64 0, .int .i64 0, .slice none 0 0]), 3) := by kernel_rfl
theorem set9 (A : Array Value) (h : A.size = 9) (a0 a1 a2 b0 b1 b2 c0 c1 c2 : Value) :
    ((((((((A.setIfInBounds 0 a0).setIfInBounds 1 a1).setIfInBounds 2 a2).setIfInBounds 3 b0).setIfInBounds 4 b1).setIfInBounds 5 b2).setIfInBounds 6 c0).setIfInBounds 7 c1).setIfInBounds 8 c2 = #[a0, a1, a2, b0, b1, b2, c0, c1, c2] := by
  obtain ⟨L⟩ := A
  have h' : L.length = 9 := h
  match L, h' with
  | [x0, x1, x2, x3, x4, x5, x6, x7, x8], _ => simp
theorem run_build3 (a0 a1 a2 b0 b1 b2 c0 c1 c2 : Value) (w : World) :
    (Instr.buildSlice 22 3 #[(0, .agg #[a0, a1, a2]), (1, .agg #[b0, b1, b2]), (2, .agg #[c0, c1, c2])]).run Tryd.prog w = .ok (.slice (some ⟨w.heap.size, 0, none⟩) 3 3) (w.alloc (.cells #[a0, a1, a2, b0, b1, b2, c0, c1, c2] 24)) := by
  obtain ⟨i, hi, hz⟩ := Option.map_eq_some_iff.1 Tryd.info24'
  simp only [Prod.mk.injEq] at hz
  obtain ⟨hz1, hz2⟩ := hz
  simp [Instr.buildSlice, run_underlying Tryd.underlying22, sizeOf, typeInfo, hi, hz2, zeroValue, hz1, Value.cells, Instr.fill, Array.range, newRow, go_sem]
  refine congrArg (fun q => w.alloc (Obj.cells q 24)) ?_
  exact set9 _ (by simp [hz2]) a0 a1 a2 b0 b1 b2 c0 c1 c2
theorem wp_build3 {o : Oper} {a : Act} {w : World} {K : Act → World → Prop} {Q : Exit → Act → World → Prop} {x y z : Operand} {a0 a1 a2 b0 b1 b2 c0 c1 c2 : Value}
    (hop : o.op = Op.buildSlice 22 3 #[(0, x), (1, y), (2, z)]) (hx : a.eval x = .agg #[a0, a1, a2]) (hy : a.eval y = .agg #[b0, b1, b2]) (hz : a.eval z = .agg #[c0, c1, c2])
    (h : K (a.put o.dst (.slice (some ⟨w.heap.size, 0, none⟩) 3 3)) (w.alloc (.cells #[a0, a1, a2, b0, b1, b2, c0, c1, c2] 24))) : Oper.wp Tryd.prog o a w K Q := by
  have hr := run_build3 a0 a1 a2 b0 b1 b2 c0 c1 c2 w
  unfold Oper.wp
  have hm : (#[(0, x), (1, y), (2, z)].map fun p : Nat × Operand => (p.1, a.eval p.2)) = #[(0, .agg #[a0, a1, a2]), (1, .agg #[b0, b1, b2]), (2, .agg #[c0, c1, c2])] := by simp [hx, hy, hz]
  simp only [execOp, hop, hm]
  simp [hr, Result.andThen, Oper.upon_value]
  exact h
/-- The two examples, as they lie in the law's variables. -/
structure KW (w : World) (gA hA TA gB hB TB : Nat) : Prop where
  a : Tri w TA (.int .i64 5) (.int .i64 0) (.slice (some ⟨hA, 0, none⟩) 2 2)
  b : Tri w TB (.int .i64 14) (.int .i64 0) (.slice (some ⟨hB, 0, none⟩) 3 3)
  ia : In w (exA gA hA)
  ib : In w (exB gB hB)
  g : Glob w
theorem KW.below {w w' : World} {gA hA TA gB hB TB : Nat} (h : KW w gA hA TA gB hB TB) (hb : Below w.heap.size w w') : KW w' gA hA TA gB hB TB :=
  ⟨h.a.below hb, h.b.below hb, h.ia.below hb, h.ib.below hb, h.g.below hb⟩
theorem kChkA {w : World} {gA hA TA gB hB TB : Nat} (h : KW w gA hA TA gB hB TB) : Calls Tryd.prog 11 #[.agg #[.int .i64 5, .int .i64 0, .slice (some ⟨hA, 0, none⟩) 2 2]] w fun r w' => r = .returned (.int .i64 0) ∧ Below w.heap.size w w' := by
  have := check_few _ h.ia (cntA gA hA)
  rw [chkA] at this
  exact this
theorem kEvlA {w : World} {gA hA TA gB hB TB : Nat} (h : KW w gA hA TA gB hB TB) : Calls Tryd.prog 12 #[.agg #[.int .i64 5, .int .i64 0, .slice (some ⟨hA, 0, none⟩) 2 2], .agg #[.int .i64 3, .int .i64 0, .int .i64 4]] w fun r w' => r = .returned (.int .i64 10) ∧ Below w.heap.size w w' := by
  have := eval_of _ ⟨3, 0, 4⟩ h.ia (fun w' h' => check_few _ h' (cntA gA hA))
  rw [chkA, if_pos rfl, evlA] at this
  exact this
theorem kEvlB {w : World} {gA hA TA gB hB TB : Nat} (h : KW w gA hA TA gB hB TB) : Calls Tryd.prog 12 #[.agg #[.int .i64 14, .int .i64 0, .slice (some ⟨hB, 0, none⟩) 3 3], .agg #[.int .i64 0, .int .i64 0, .int .i64 (-9)]] w fun r w' => r = .returned (.int .i64 (-1)) ∧ Below w.heap.size w w' := by
  have := eval_of _ ⟨0, 0, -9⟩ h.ib (fun w' h' => check_few _ h' (cntB gB hB))
  rw [chkB, if_pos rfl, evlB] at this
  exact this
theorem kTxtA {w : World} {gA hA TA gB hB TB : Nat} (h : KW w gA hA TA gB hB TB) : Calls Tryd.prog 13 #[.agg #[.int .i64 5, .int .i64 0, .slice (some ⟨hA, 0, none⟩) 2 2]] w fun r w' => r = .returned (.string ⟨#[97, 100, 100, 40, 109, 117, 108, 40, 107, 101, 121, 44, 32, 99, 50, 41, 44, 32, 118, 97, 108, 41]⟩) ∧ Below w.heap.size w w' := by
  have := ftext_of _ h.ia h.g (fun w' h' => check_few _ h' (cntA gA hA))
  rw [chkA, if_pos rfl, txtA] at this
  exact this
theorem kTxtB {w : World} {gA hA TA gB hB TB : Nat} (h : KW w gA hA TA gB hB TB) : Calls Tryd.prog 13 #[.agg #[.int .i64 14, .int .i64 0, .slice (some ⟨hB, 0, none⟩) 3 3]] w fun r w' => r = .returned (.string ⟨#[105, 102, 40, 108, 116, 40, 118, 97, 108, 44, 32, 99, 48, 41, 44, 32, 99, 45, 49, 44, 32, 99, 49, 41]⟩) ∧ Below w.heap.size w w' := by
  have := ftext_of _ h.ib h.g (fun w' h' => check_few _ h' (cntB gB hB))
  rw [chkB, if_pos rfl, txtB] at this
  exact this
theorem kChk0 (w : World) : Calls Tryd.prog 11 #[.agg #[.int .i64 0, .int .i64 0, .slice none 0 0]] w fun r w' => r = .returned (.int .i64 70) ∧ Below w.heap.size w w' := by
  have := check_few (w := w) (leaf 0 0) (leaf_in (by omega) (by omega) (by omega) (by omega)) cnt0
  rw [chk0] at this
  exact this
theorem kTwo {w : World} {gA hA TA gB hB TB : Nat} (h : KW w gA hA TA gB hB TB) : Calls Tryd.prog 17 #[.int .i64 5, .agg #[.int .i64 5, .int .i64 0, .slice (some ⟨hA, 0, none⟩) 2 2], .agg #[.int .i64 5, .int .i64 0, .slice none 0 0]] w fun r w' =>
    ∃ k, r = .returned (.agg #[.int .i64 5, .int .i64 0, .slice (some ⟨k, 0, none⟩) 2 2]) ∧ In w' (mk2 5 k (exA gA hA) (leaf 5 0)) ∧ Below w.heap.size w w' :=
  (two_any 5 (exA gA hA) (leaf 5 0) (by decide) (by decide) h.ia (leaf_in (by omega) (by omega) (by omega) (by omega))).mono fun _ _ ⟨k, h1, h2, _, _, h3⟩ => ⟨k, h1, h2, h3⟩
theorem kChkC {w : World} {gA hA k : Nat} (h : In w (mk2 5 k (exA gA hA) (leaf 5 0))) : Calls Tryd.prog 11 #[.agg #[.int .i64 5, .int .i64 0, .slice (some ⟨k, 0, none⟩) 2 2]] w fun r w' => r = .returned (.int .i64 70) ∧ Below w.heap.size w w' := by
  have := check_few _ h (cntC gA hA k)
  rw [chkC] at this
  exact this
theorem mk2_lt {w : World} {op : Int} {g : Nat} {a b : Ex} (h : In w (mk2 op g a b)) : g < w.heap.size := by
  obtain ⟨b', o, h1, h2, _⟩ := h.self.at_ 0 a rfl
  simp only [mk2, Option.some.injEq, Addr.mk.injEq] at h1
  obtain ⟨rfl, _, _⟩ := h1
  exact cell_lt h2
theorem mk3_lt {w : World} {op : Int} {g : Nat} {a b c : Ex} (h : In w (mk3 op g a b c)) : g < w.heap.size := by
  obtain ⟨b', o, h1, h2, _⟩ := h.self.at_ 0 a rfl
  simp only [mk3, Option.some.injEq, Addr.mk.injEq] at h1
  obtain ⟨rfl, _, _⟩ := h1
  exact cell_lt h2
theorem heap_far (V : World) (K i : Nat) (v : Value) (q : Nat) (h : q ≠ K) : (V.setCell ⟨K, i, none⟩ v).heap[q]? = V.heap[q]? := by
  simp only [World.setCell, Array.getElem?_modify]
  rw [if_neg (fun e => h e.symm)]
theorem fin_box {w1 W : World} {K : Nat} {e : Ex} {a b c x y z : Value} (hbx : Bx W K x y z) (hin : In W e) (hoff : offB K e) (hbl : Below w1.heap.size w1 W) (hK : w1.heap.size ≤ K) :
    Tri (((W.setCell ⟨K, 0, none⟩ a).setCell ⟨K, 1, none⟩ b).setCell ⟨K, 2, none⟩ c) K a b c ∧ In (((W.setCell ⟨K, 0, none⟩ a).setCell ⟨K, 1, none⟩ b).setCell ⟨K, 2, none⟩ c) e ∧
      Below w1.heap.size w1 (((W.setCell ⟨K, 0, none⟩ a).setCell ⟨K, 1, none⟩ b).setCell ⟨K, 2, none⟩ c) := by
  have h1 := heap_setCell_same W K 0 #[x, y, z] 24 a hbx
  have h2 := heap_setCell_same _ K 1 _ 24 b h1
  have h3 := heap_setCell_same _ K 2 _ 24 c h2
  refine ⟨⟨?_, ?_, ?_⟩, hin.off hoff fun q hq _ => ?_, ((hbl.setCell (p := ⟨K, 0, none⟩) hK a).setCell (p := ⟨K, 1, none⟩) hK b).setCell (p := ⟨K, 2, none⟩) hK c⟩
  · simp only [World.cell?, h3]; rfl
  · simp only [World.cell?, h3]; rfl
  · simp only [World.cell?, h3]; rfl
  · have f : ∀ (V : World) (i : Nat) (v : Value), (V.setCell ⟨K, i, none⟩ v).heap[q]? = V.heap[q]? := fun V i v => (heap_far V K i v q hq)
    rw [f, f, f]
theorem fin_new {w1 W : World} {e : Ex} {a b c : Value} (hin : In W e) (hbl : Below w1.heap.size w1 W) :
    Tri (W.alloc (.cells #[a, b, c] 24)) W.heap.size a b c ∧ In (W.alloc (.cells #[a, b, c] 24)) e ∧ Below w1.heap.size w1 (W.alloc (.cells #[a, b, c] 24)) :=
  ⟨Tri.new W a b c 24, hin.below (below1 _ _), hbl.alloc hbl.size _⟩

set_option maxHeartbeats 60000000 in
set_option maxRecDepth 100000 in
theorem known_any {w : World} (hg : Glob w) : Calls Tryd.prog 8 #[] w fun r w' => r = .returned (.bool true) ∧ Below w.heap.size w w' := by
  have hbb : Below w.heap.size w ((w.alloc (.cells #[.int .i64 4, .int .i64 0, .slice none 0 0] 24)).alloc (.cells #[.int .i64 2, .int .i64 0, .slice none 0 0] 24)) :=
    ((Below.refl _ _).alloc (Nat.le_refl _) _).alloc (by simp) _
  have t1 : Tri ((w.alloc (.cells #[.int .i64 4, .int .i64 0, .slice none 0 0] 24)).alloc (.cells #[.int .i64 2, .int .i64 0, .slice none 0 0] 24)) w.heap.size (.int .i64 4) (.int .i64 0) (.slice none 0 0) :=
    (Tri.new w _ _ _ 24).below ((Below.refl _ _).alloc (Nat.le_refl _) _)
  have t2 : Tri ((w.alloc (.cells #[.int .i64 4, .int .i64 0, .slice none 0 0] 24)).alloc (.cells #[.int .i64 2, .int .i64 0, .slice none 0 0] 24)) (w.heap.size + 1) (.int .i64 2) (.int .i64 0) (.slice none 0 0) := by
    have := Tri.new (w.alloc (.cells #[.int .i64 4, .int .i64 0, .slice none 0 0] 24)) (.int .i64 2) (.int .i64 0) (.slice none 0 0) 24
    simpa using this
  have hsz : ((w.alloc (.cells #[.int .i64 4, .int .i64 0, .slice none 0 0] 24)).alloc (.cells #[.int .i64 2, .int .i64 0, .slice none 0 0] 24)).heap.size = w.heap.size + 1 + 1 := by simp
  have HSZ := hide hsz
  have HB := hide hbb
  have T1 := hide t1
  have T2 := hide t2
  have HG := hide hg
  clear hbb t1 t2 hg hsz
  go_enter Tryd.func8, Tryd.ntmps8
  go_upto_region 2 with fail
  generalize (w.alloc (.cells #[.int .i64 4, .int .i64 0, .slice none 0 0] 24)).alloc (.cells #[.int .i64 2, .int .i64 0, .slice none 0 0] 24) = w1 at *
  go_cut [3] from 7 to 11 (fun p wx => ∃ g h T, p = .pointer (some ⟨T, 0, none⟩) ∧ Hid (Tri wx T (.int .i64 5) (.int .i64 0) (.slice (some ⟨h, 0, none⟩) 2 2)) ∧ Hid (In wx (exA g h)) ∧ Hid (Below w1.heap.size w1 wx))
  case first =>
    have L2 : Hid (∀ w, In w (leaf 2 (0))) := fun w => leaf_in (by omega) (by omega) (by omega) (by omega)
    have L12 : Hid (∀ w, In w (leaf 1 (2))) := fun w => leaf_in (by omega) (by omega) (by omega) (by omega)
    have L4 : Hid (∀ w, In w (leaf 4 (0))) := fun w => leaf_in (by omega) (by omega) (by omega) (by omega)
    have hHeld : w1.drew.cell? ⟨w.heap.size, 0, none⟩ = some (.int .i64 4) ∧ w1.drew.cell? ⟨w.heap.size, 1, none⟩ = some (.int .i64 0) ∧ w1.drew.cell? ⟨w.heap.size, 2, none⟩ = some (.slice none 0 0) ∧ w1.drew.cell? ⟨w.heap.size + 1, 0, none⟩ = some (.int .i64 2) ∧ w1.drew.cell? ⟨w.heap.size + 1, 1, none⟩ = some (.int .i64 0) ∧ w1.drew.cell? ⟨w.heap.size + 1, 2, none⟩ = some (.slice none 0 0) := ⟨(T1.out.below (Below.refl _ _)).c0, (T1.out.below (Below.refl _ _)).c1, (T1.out.below (Below.refl _ _)).c2, (T2.out.below (Below.refl _ _)).c0, (T2.out.below (Below.refl _ _)).c1, (T2.out.below (Below.refl _ _)).c2⟩
    have HB0 : Hid (Below w1.heap.size w1 w1.drew) := (Below.refl _ w1).drew
    refine wp_region_M (S := fun w' => w'.cell? ⟨w.heap.size, 0, none⟩ = some (.int .i64 4) ∧ w'.cell? ⟨w.heap.size, 1, none⟩ = some (.int .i64 0) ∧ w'.cell? ⟨w.heap.size, 2, none⟩ = some (.slice none 0 0) ∧ w'.cell? ⟨w.heap.size + 1, 0, none⟩ = some (.int .i64 2) ∧ w'.cell? ⟨w.heap.size + 1, 1, none⟩ = some (.int .i64 0) ∧ w'.cell? ⟨w.heap.size + 1, 2, none⟩ = some (.slice none 0 0)) (late := [6]) (by kernel_rfl) hHeld (fun hHeld => ?_)
    (try simp only [List.size_toArray, List.length_cons, List.length_nil, Nat.zero_add, Nat.reduceAdd, Array.replicate, List.replicate])
    refine wpAnyM_take (i := 0) (oi := ⟨_, _, _, _, _, _⟩) (v := ?_) rfl (by kernel_rfl) (by kernel_rfl) (by kernel_rfl) (by kernel_rfl) (fun _ _ _ h => h) (Or.inl ⟨by rfl, ?_⟩) hHeld ?_
    rotate_left
    · (intro w' hSw; (try dsimp only at hSw); go_simp; try (with_reducible rfl))
    (try simp only [Act.put, List.setIfInBounds_toArray, List.set_cons_zero, List.set_cons_succ])
    refine wpAnyM_take (i := 3) (oi := ⟨_, _, _, _, _, _⟩) (v := ?_) rfl (by kernel_rfl) (by kernel_rfl) (by kernel_rfl) (by kernel_rfl) (fun _ _ _ h => h) (Or.inl ⟨by rfl, ?_⟩) hHeld ?_
    rotate_left
    · (intro w' hSw; (try dsimp only at hSw); go_simp; try (with_reducible rfl))
    (try simp only [Act.put, List.setIfInBounds_toArray, List.set_cons_zero, List.set_cons_succ])
    clear hHeld
    refine wpAnyM_two (i := 1) (j := 5) (oi := ⟨_, _, _, _, _, _⟩) (oj := ⟨_, _, _, _, _, _⟩) (by kernel_rfl) rfl rfl (fun K hK => ?_) (fun K hK => ?_)
    · as_aux_lemma =>
      go_simp
      go_at_call 19
      refine (konst_any 2 _).mono ?_
      rintro e w2 ⟨rfl, hb⟩
      have hb1 : Below w1.heap.size w1 w2 := HB0.out.trans (hb.mono HB0.out.size)
      have HB1 := hide hb1
      refine hK.out _ _ ⟨(T1.out.below hb1).c0, (T1.out.below hb1).c1, (T1.out.below hb1).c2, (T2.out.below hb1).c0, (T2.out.below hb1).c1, (T2.out.below hb1).c2⟩ (fun hHeld => ?_)
      clear hK K hHeld
      (try simp only [List.setIfInBounds_toArray, List.set_cons_zero, List.set_cons_succ])
      clear hb hb1
      refine wpAnyM_two (i := 2) (j := 5) (oi := ⟨_, _, _, _, _, _⟩) (oj := ⟨_, _, _, _, _, _⟩) (by kernel_rfl) rfl rfl (fun K hK => ?_) (fun K hK => ?_)
      · as_aux_lemma =>
        go_simp
        go_at_call 17
        refine (two_any 7 (leaf 2 0) (leaf 1 2) (by decide) (by decide) (L2.out _) (L12.out _)).mono ?_
        rintro e w3 ⟨g, rfl, hin, _, hgs, hb⟩
        have hb1 : Below w1.heap.size w1 w3 := HB1.out.trans (hb.mono HB1.out.size)
        have HB2 := hide hb1
        have HI2 := hide hin
        refine hK.out _ _ ⟨(T1.out.below hb1).c0, (T1.out.below hb1).c1, (T1.out.below hb1).c2, (T2.out.below hb1).c0, (T2.out.below hb1).c1, (T2.out.below hb1).c2⟩ (fun hHeld => ?_)
        clear hK K hHeld
        (try simp only [List.setIfInBounds_toArray, List.set_cons_zero, List.set_cons_succ])
        clear hb hb1 hin hgs
        refine wpAnyM_two (i := 4) (j := 5) (oi := ⟨_, _, _, _, _, _⟩) (oj := ⟨_, _, _, _, _, _⟩) (by kernel_rfl) rfl rfl (fun K hK => ?_) (fun K hK => ?_)
        · as_aux_lemma =>
          go_simp
          go_at_call 17
          refine (two_any 5 (mk2 7 g (leaf 2 0) (leaf 1 2)) (leaf 4 0) (by decide) (by decide) (HI2.out) (L4.out _)).mono ?_
          rintro e w4 ⟨h, rfl, hin, _, hgs, hb⟩
          have hb1 : Below w1.heap.size w1 w4 := HB2.out.trans (hb.mono HB2.out.size)
          have HB3 := hide hb1
          have HI3 := hide hin
          refine hK.out _ _ ⟨(T1.out.below hb1).c0, (T1.out.below hb1).c1, (T1.out.below hb1).c2, (T2.out.below hb1).c0, (T2.out.below hb1).c1, (T2.out.below hb1).c2⟩ (fun hHeld => ?_)
          clear hK K hHeld
          (try simp only [List.setIfInBounds_toArray, List.set_cons_zero, List.set_cons_succ])
          clear hb hb1 hin hgs
          refine wpAnyM_one (i := 5) (o := ⟨_, _, _, _, _, _⟩) (by kernel_rfl) rfl (fun K hK => ?_)
          go_simp
          have hb1 : Below w1.heap.size w1 (w4.alloc (.cells #[.int .i64 0, .int .i64 0, .slice none 0 0] 24)) := HB3.out.alloc HB3.out.size _
          refine hK.out _ _ ⟨(T1.out.below hb1).c0, (T1.out.below hb1).c1, (T1.out.below hb1).c2, (T2.out.below hb1).c0, (T2.out.below hb1).c1, (T2.out.below hb1).c2⟩ (fun hHeld => ?_)
          clear hK K hHeld
          (try simp only [List.setIfInBounds_toArray, List.set_cons_zero, List.set_cons_succ])
          clear hb1
          refine wpAnyM_last (i := 6) (o := ⟨_, _, _, _, _, _⟩) (by kernel_rfl) (by rfl) rfl (fun K hK => ?_)
          go_simp
          refine hK.out _ _ ?_
          clear hK K
          (try simp only [List.setIfInBounds_toArray, List.set_cons_zero, List.set_cons_succ])
          refine wpAnyM_done (by kernel_rfl) ?_ _
          go_wp2_with fail
          go_meet
          obtain ⟨f1, f2, f3⟩ := fin_new (a := .int .i64 5) (b := .int .i64 0) (c := .slice (some ⟨h, 0, none⟩) 2 2) (HI3.out) HB3.out
          exact ⟨g, h, _, rfl, f1, f2, f3⟩
        · as_aux_lemma =>
          go_simp
          have hb1 : Below w1.heap.size w1 (w3.alloc (.cells #[.int .i64 0, .int .i64 0, .slice none 0 0] 24)) := HB2.out.alloc HB2.out.size _
          have HBAa2 := hide hb1
          have bxAa2 : Hid (Bx (w3.alloc (.cells #[.int .i64 0, .int .i64 0, .slice none 0 0] 24)) w3.heap.size (.int .i64 0) (.int .i64 0) (.slice none 0 0)) := Bx.new _ _ _ _
          have KLa2 : Hid (w1.heap.size ≤ w3.heap.size) := HB2.out.size
          have NEA0a2 := hide (show g ≠ w3.heap.size by have q := mk2_lt (HI2.out); omega)
          refine hK.out _ _ ⟨(T1.out.below hb1).c0, (T1.out.below hb1).c1, (T1.out.below hb1).c2, (T2.out.below hb1).c0, (T2.out.below hb1).c1, (T2.out.below hb1).c2⟩ (fun hHeld => ?_)
          clear hK K hHeld
          (try simp only [List.setIfInBounds_toArray, List.set_cons_zero, List.set_cons_succ])
          clear hb1
          refine wpAnyM_one (i := 4) (o := ⟨_, _, _, _, _, _⟩) (by kernel_rfl) rfl (fun K hK => ?_)
          go_simp
          go_at_call 17
          refine (two_any 5 (mk2 7 g (leaf 2 0) (leaf 1 2)) (leaf 4 0) (by decide) (by decide) ((HI2.out).below (below1 _ _)) (L4.out _)).mono ?_
          rintro e w4a2 ⟨ha2, rfl, hin, _, hgs, hb⟩
          have hb1 : Below w1.heap.size w1 w4a2 := HBAa2.out.trans (hb.mono HBAa2.out.size)
          have HB3a2 := hide hb1
          have HI3a2 := hide hin
          have NE3a2 := hide (show ha2 ≠ w3.heap.size by have q := bxAa2.out.lt; omega)
          have bx3a2 : Hid (Bx w4a2 w3.heap.size (.int .i64 0) (.int .i64 0) (.slice none 0 0)) := bxAa2.out.below hb
          refine hK.out _ _ ⟨(T1.out.below hb1).c0, (T1.out.below hb1).c1, (T1.out.below hb1).c2, (T2.out.below hb1).c0, (T2.out.below hb1).c1, (T2.out.below hb1).c2⟩ (fun hHeld => ?_)
          clear hK K hHeld
          (try simp only [List.setIfInBounds_toArray, List.set_cons_zero, List.set_cons_succ])
          clear hb hb1 hin hgs
          obtain ⟨x0, x1, x2⟩ := bx3a2.out.cells
          have y0 := bx3a2.out.free 0
          have y1 := bx3a2.out.free 1
          have y2 := bx3a2.out.free 2
          refine wpAnyM_last (i := 6) (o := ⟨_, _, _, _, _, _⟩) (by kernel_rfl) (by rfl) rfl (fun K hK => ?_)
          go_simp
          refine hK.out _ _ ?_
          clear hK K
          (try simp only [List.setIfInBounds_toArray, List.set_cons_zero, List.set_cons_succ])
          refine wpAnyM_done (by kernel_rfl) ?_ _
          go_wp2_with fail
          go_meet
          obtain ⟨f1, f2, f3⟩ := fin_box (a := .int .i64 5) (b := .int .i64 0) (c := .slice (some ⟨ha2, 0, none⟩) 2 2) bx3a2.out (HI3a2.out) (offB.mk2 (NE3a2.out) (offB.mk2 (NEA0a2.out) (offB.leaf _ _ _) (offB.leaf _ _ _)) (offB.leaf _ _ _)) HB3a2.out KLa2.out
          exact ⟨g, ha2, _, rfl, f1, f2, f3⟩
      · as_aux_lemma =>
        go_simp
        have hb1 : Below w1.heap.size w1 (w2.alloc (.cells #[.int .i64 0, .int .i64 0, .slice none 0 0] 24)) := HB1.out.alloc HB1.out.size _
        have HBAa1 := hide hb1
        have bxAa1 : Hid (Bx (w2.alloc (.cells #[.int .i64 0, .int .i64 0, .slice none 0 0] 24)) w2.heap.size (.int .i64 0) (.int .i64 0) (.slice none 0 0)) := Bx.new _ _ _ _
        have KLa1 : Hid (w1.heap.size ≤ w2.heap.size) := HB1.out.size
        refine hK.out _ _ ⟨(T1.out.below hb1).c0, (T1.out.below hb1).c1, (T1.out.below hb1).c2, (T2.out.below hb1).c0, (T2.out.below hb1).c1, (T2.out.below hb1).c2⟩ (fun hHeld => ?_)
        clear hK K hHeld
        (try simp only [List.setIfInBounds_toArray, List.set_cons_zero, List.set_cons_succ])
        clear hb1
        refine wpAnyM_one (i := 2) (o := ⟨_, _, _, _, _, _⟩) (by kernel_rfl) rfl (fun K hK => ?_)
        go_simp
        go_at_call 17
        refine (two_any 7 (leaf 2 0) (leaf 1 2) (by decide) (by decide) (L2.out _) (L12.out _)).mono ?_
        rintro e w3a1 ⟨ga1, rfl, hin, _, hgs, hb⟩
        have hb1 : Below w1.heap.size w1 w3a1 := HBAa1.out.trans (hb.mono HBAa1.out.size)
        have HB2a1 := hide hb1
        have HI2a1 := hide hin
        have NE2a1 := hide (show ga1 ≠ w2.heap.size by have q := bxAa1.out.lt; omega)
        have bx2a1 : Hid (Bx w3a1 w2.heap.size (.int .i64 0) (.int .i64 0) (.slice none 0 0)) := bxAa1.out.below hb
        refine hK.out _ _ ⟨(T1.out.below hb1).c0, (T1.out.below hb1).c1, (T1.out.below hb1).c2, (T2.out.below hb1).c0, (T2.out.below hb1).c1, (T2.out.below hb1).c2⟩ (fun hHeld => ?_)
        clear hK K hHeld
        (try simp only [List.setIfInBounds_toArray, List.set_cons_zero, List.set_cons_succ])
        clear hb hb1 hin hgs
        refine wpAnyM_one (i := 4) (o := ⟨_, _, _, _, _, _⟩) (by kernel_rfl) rfl (fun K hK => ?_)
        go_simp
        go_at_call 17
        refine (two_any 5 (mk2 7 ga1 (leaf 2 0) (leaf 1 2)) (leaf 4 0) (by decide) (by decide) (HI2a1.out) (L4.out _)).mono ?_
        rintro e w4a1 ⟨ha1, rfl, hin, _, hgs, hb⟩
        have hb1 : Below w1.heap.size w1 w4a1 := HB2a1.out.trans (hb.mono HB2a1.out.size)
        have HB3a1 := hide hb1
        have HI3a1 := hide hin
        have NE3a1 := hide (show ha1 ≠ w2.heap.size by have q := bx2a1.out.lt; omega)
        have bx3a1 : Hid (Bx w4a1 w2.heap.size (.int .i64 0) (.int .i64 0) (.slice none 0 0)) := bx2a1.out.below hb
        refine hK.out _ _ ⟨(T1.out.below hb1).c0, (T1.out.below hb1).c1, (T1.out.below hb1).c2, (T2.out.below hb1).c0, (T2.out.below hb1).c1, (T2.out.below hb1).c2⟩ (fun hHeld => ?_)
        clear hK K hHeld
        (try simp only [List.setIfInBounds_toArray, List.set_cons_zero, List.set_cons_succ])
        clear hb hb1 hin hgs
        obtain ⟨x0, x1, x2⟩ := bx3a1.out.cells
        have y0 := bx3a1.out.free 0
        have y1 := bx3a1.out.free 1
        have y2 := bx3a1.out.free 2
        refine wpAnyM_last (i := 6) (o := ⟨_, _, _, _, _, _⟩) (by kernel_rfl) (by rfl) rfl (fun K hK => ?_)
        go_simp
        refine hK.out _ _ ?_
        clear hK K
        (try simp only [List.setIfInBounds_toArray, List.set_cons_zero, List.set_cons_succ])
        refine wpAnyM_done (by kernel_rfl) ?_ _
        go_wp2_with fail
        go_meet
        obtain ⟨f1, f2, f3⟩ := fin_box (a := .int .i64 5) (b := .int .i64 0) (c := .slice (some ⟨ha1, 0, none⟩) 2 2) bx3a1.out (HI3a1.out) (offB.mk2 (NE3a1.out) (offB.mk2 (NE2a1.out) (offB.leaf _ _ _) (offB.leaf _ _ _)) (offB.leaf _ _ _)) HB3a1.out KLa1.out
        exact ⟨ga1, ha1, _, rfl, f1, f2, f3⟩
    · as_aux_lemma =>
      go_simp
      have hb1 : Below w1.heap.size w1 (w1.drew.alloc (.cells #[.int .i64 0, .int .i64 0, .slice none 0 0] 24)) := HB0.out.alloc HB0.out.size _
      have HBAa0 := hide hb1
      have bxAa0 : Hid (Bx (w1.drew.alloc (.cells #[.int .i64 0, .int .i64 0, .slice none 0 0] 24)) w1.heap.size (.int .i64 0) (.int .i64 0) (.slice none 0 0)) := Bx.new _ _ _ _
      have KLa0 : Hid (w1.heap.size ≤ w1.heap.size) := HB0.out.size
      refine hK.out _ _ ⟨(T1.out.below hb1).c0, (T1.out.below hb1).c1, (T1.out.below hb1).c2, (T2.out.below hb1).c0, (T2.out.below hb1).c1, (T2.out.below hb1).c2⟩ (fun hHeld => ?_)
      clear hK K hHeld
      (try simp only [List.setIfInBounds_toArray, List.set_cons_zero, List.set_cons_succ])
      clear hb1
      refine wpAnyM_one (i := 1) (o := ⟨_, _, _, _, _, _⟩) (by kernel_rfl) rfl (fun K hK => ?_)
      go_simp
      go_at_call 19
      refine (konst_any 2 _).mono ?_
      rintro e w2a0 ⟨rfl, hb⟩
      have hb1 : Below w1.heap.size w1 w2a0 := HBAa0.out.trans (hb.mono HBAa0.out.size)
      have HB1a0 := hide hb1
      have bx1a0 : Hid (Bx w2a0 w1.heap.size (.int .i64 0) (.int .i64 0) (.slice none 0 0)) := bxAa0.out.below hb
      refine hK.out _ _ ⟨(T1.out.below hb1).c0, (T1.out.below hb1).c1, (T1.out.below hb1).c2, (T2.out.below hb1).c0, (T2.out.below hb1).c1, (T2.out.below hb1).c2⟩ (fun hHeld => ?_)
      clear hK K hHeld
      (try simp only [List.setIfInBounds_toArray, List.set_cons_zero, List.set_cons_succ])
      clear hb hb1
      refine wpAnyM_one (i := 2) (o := ⟨_, _, _, _, _, _⟩) (by kernel_rfl) rfl (fun K hK => ?_)
      go_simp
      go_at_call 17
      refine (two_any 7 (leaf 2 0) (leaf 1 2) (by decide) (by decide) (L2.out _) (L12.out _)).mono ?_
      rintro e w3a0 ⟨ga0, rfl, hin, _, hgs, hb⟩
      have hb1 : Below w1.heap.size w1 w3a0 := HB1a0.out.trans (hb.mono HB1a0.out.size)
      have HB2a0 := hide hb1
      have HI2a0 := hide hin
      have NE2a0 := hide (show ga0 ≠ w1.heap.size by have q := bx1a0.out.lt; omega)
      have bx2a0 : Hid (Bx w3a0 w1.heap.size (.int .i64 0) (.int .i64 0) (.slice none 0 0)) := bx1a0.out.below hb
      refine hK.out _ _ ⟨(T1.out.below hb1).c0, (T1.out.below hb1).c1, (T1.out.below hb1).c2, (T2.out.below hb1).c0, (T2.out.below hb1).c1, (T2.out.below hb1).c2⟩ (fun hHeld => ?_)
      clear hK K hHeld
      (try simp only [List.setIfInBounds_toArray, List.set_cons_zero, List.set_cons_succ])
      clear hb hb1 hin hgs
      refine wpAnyM_one (i := 4) (o := ⟨_, _, _, _, _, _⟩) (by kernel_rfl) rfl (fun K hK => ?_)
      go_simp
      go_at_call 17
      refine (two_any 5 (mk2 7 ga0 (leaf 2 0) (leaf 1 2)) (leaf 4 0) (by decide) (by decide) (HI2a0.out) (L4.out _)).mono ?_
      rintro e w4a0 ⟨ha0, rfl, hin, _, hgs, hb⟩
      have hb1 : Below w1.heap.size w1 w4a0 := HB2a0.out.trans (hb.mono HB2a0.out.size)
      have HB3a0 := hide hb1
      have HI3a0 := hide hin
      have NE3a0 := hide (show ha0 ≠ w1.heap.size by have q := bx2a0.out.lt; omega)
      have bx3a0 : Hid (Bx w4a0 w1.heap.size (.int .i64 0) (.int .i64 0) (.slice none 0 0)) := bx2a0.out.below hb
      refine hK.out _ _ ⟨(T1.out.below hb1).c0, (T1.out.below hb1).c1, (T1.out.below hb1).c2, (T2.out.below hb1).c0, (T2.out.below hb1).c1, (T2.out.below hb1).c2⟩ (fun hHeld => ?_)
      clear hK K hHeld
      (try simp only [List.setIfInBounds_toArray, List.set_cons_zero, List.set_cons_succ])
      clear hb hb1 hin hgs
      obtain ⟨x0, x1, x2⟩ := bx3a0.out.cells
      have y0 := bx3a0.out.free 0
      have y1 := bx3a0.out.free 1
      have y2 := bx3a0.out.free 2
      refine wpAnyM_last (i := 6) (o := ⟨_, _, _, _, _, _⟩) (by kernel_rfl) (by rfl) rfl (fun K hK => ?_)
      go_simp
      refine hK.out _ _ ?_
      clear hK K
      (try simp only [List.setIfInBounds_toArray, List.set_cons_zero, List.set_cons_succ])
      refine wpAnyM_done (by kernel_rfl) ?_ _
      go_wp2_with fail
      go_meet
      obtain ⟨f1, f2, f3⟩ := fin_box (a := .int .i64 5) (b := .int .i64 0) (c := .slice (some ⟨ha0, 0, none⟩) 2 2) bx3a0.out (HI3a0.out) (offB.mk2 (NE3a0.out) (offB.mk2 (NE2a0.out) (offB.leaf _ _ _) (offB.leaf _ _ _)) (offB.leaf _ _ _)) HB3a0.out KLa0.out
      exact ⟨ga0, ha0, _, rfl, f1, f2, f3⟩
  case rest =>
    obtain ⟨gA, hA, TA, rfl, HTA, HIA, HBA⟩ := hcut
    generalize wc = w5 at *
    have T5 := hide (T1.out.below HBA.out)
    clear T1 T2
    have T1 := hide T5.out
    clear T5
    go_upto_region 3 with fail
    go_cut [4] from 12 to 18 (fun p wx => ∃ g h T, p = .pointer (some ⟨T, 0, none⟩) ∧ Hid (Tri wx T (.int .i64 14) (.int .i64 0) (.slice (some ⟨h, 0, none⟩) 3 3)) ∧ Hid (In wx (exB g h)) ∧ Hid (Below w5.heap.size w5 wx))
    case first =>
      have L4 : Hid (∀ w, In w (leaf 4 (0))) := fun w => leaf_in (by omega) (by omega) (by omega) (by omega)
      have L10 : Hid (∀ w, In w (leaf 1 (0))) := fun w => leaf_in (by omega) (by omega) (by omega) (by omega)
      have LM : Hid (∀ w, In w (leaf 1 (-1))) := fun w => leaf_in (by omega) (by omega) (by omega) (by omega)
      have L11 : Hid (∀ w, In w (leaf 1 (1))) := fun w => leaf_in (by omega) (by omega) (by omega) (by omega)
      have hHeld : w5.drew.cell? ⟨w.heap.size, 0, none⟩ = some (.int .i64 4) ∧ w5.drew.cell? ⟨w.heap.size, 1, none⟩ = some (.int .i64 0) ∧ w5.drew.cell? ⟨w.heap.size, 2, none⟩ = some (.slice none 0 0) := ⟨(T1.out.below (Below.refl _ _)).c0, (T1.out.below (Below.refl _ _)).c1, (T1.out.below (Below.refl _ _)).c2⟩
      have HB0 : Hid (Below w5.heap.size w5 w5.drew) := (Below.refl _ w5).drew
      refine wp_region_M (S := fun w' => w'.cell? ⟨w.heap.size, 0, none⟩ = some (.int .i64 4) ∧ w'.cell? ⟨w.heap.size, 1, none⟩ = some (.int .i64 0) ∧ w'.cell? ⟨w.heap.size, 2, none⟩ = some (.slice none 0 0)) (late := [8]) (by kernel_rfl) hHeld (fun hHeld => ?_)
      (try simp only [List.size_toArray, List.length_cons, List.length_nil, Nat.zero_add, Nat.reduceAdd, Array.replicate, List.replicate])
      refine wpAnyM_take (i := 0) (oi := ⟨_, _, _, _, _, _⟩) (v := ?_) rfl (by kernel_rfl) (by kernel_rfl) (by kernel_rfl) (by kernel_rfl) (fun _ _ _ h => h) (Or.inl ⟨by rfl, ?_⟩) hHeld ?_
      rotate_left
      · (intro w' hSw; (try dsimp only at hSw); go_simp; try (with_reducible rfl))
      (try simp only [Act.put, List.setIfInBounds_toArray, List.set_cons_zero, List.set_cons_succ])
      clear hHeld
      refine wpAnyM_two (i := 1) (j := 7) (oi := ⟨_, _, _, _, _, _⟩) (oj := ⟨_, _, _, _, _, _⟩) (by kernel_rfl) rfl rfl (fun K hK => ?_) (fun K hK => ?_)
      · as_aux_lemma =>
        go_simp
        go_at_call 19
        refine (konst_any 0 _).mono ?_
        rintro e w7 ⟨rfl, hb⟩
        have hb1 : Below w5.heap.size w5 w7 := HB0.out.trans (hb.mono HB0.out.size)
        have HB1 := hide hb1
        refine hK.out _ _ ⟨(T1.out.below hb1).c0, (T1.out.below hb1).c1, (T1.out.below hb1).c2⟩ (fun hHeld => ?_)
        clear hK K hHeld
        (try simp only [List.setIfInBounds_toArray, List.set_cons_zero, List.set_cons_succ])
        clear hb hb1
        refine wpAnyM_two (i := 2) (j := 7) (oi := ⟨_, _, _, _, _, _⟩) (oj := ⟨_, _, _, _, _, _⟩) (by kernel_rfl) rfl rfl (fun K hK => ?_) (fun K hK => ?_)
        · as_aux_lemma =>
          go_simp
          go_at_call 17
          refine (two_any 12 (leaf 4 0) (leaf 1 0) (by decide) (by decide) (L4.out _) (L10.out _)).mono ?_
          rintro e w8 ⟨g, rfl, hin, _, hgs, hb⟩
          have hb1 : Below w5.heap.size w5 w8 := HB1.out.trans (hb.mono HB1.out.size)
          have HB2 := hide hb1
          have HI2 := hide hin
          refine hK.out _ _ ⟨(T1.out.below hb1).c0, (T1.out.below hb1).c1, (T1.out.below hb1).c2⟩ (fun hHeld => ?_)
          clear hK K hHeld
          (try simp only [List.setIfInBounds_toArray, List.set_cons_zero, List.set_cons_succ])
          clear hb hb1 hin hgs
          refine wpAnyM_two (i := 3) (j := 7) (oi := ⟨_, _, _, _, _, _⟩) (oj := ⟨_, _, _, _, _, _⟩) (by kernel_rfl) rfl rfl (fun K hK => ?_) (fun K hK => ?_)
          · as_aux_lemma =>
            go_simp
            go_at_call 19
            refine (konst_any (-1) _).mono ?_
            rintro e w9 ⟨rfl, hb⟩
            have hb1 : Below w5.heap.size w5 w9 := HB2.out.trans (hb.mono HB2.out.size)
            have HB3 := hide hb1
            have HJ3 := hide ((HI2.out).below hb)
            refine hK.out _ _ ⟨(T1.out.below hb1).c0, (T1.out.below hb1).c1, (T1.out.below hb1).c2⟩ (fun hHeld => ?_)
            clear hK K hHeld
            (try simp only [List.setIfInBounds_toArray, List.set_cons_zero, List.set_cons_succ])
            clear hb hb1
            refine wpAnyM_two (i := 4) (j := 7) (oi := ⟨_, _, _, _, _, _⟩) (oj := ⟨_, _, _, _, _, _⟩) (by kernel_rfl) rfl rfl (fun K hK => ?_) (fun K hK => ?_)
            · as_aux_lemma =>
              go_simp
              go_at_call 19
              refine (konst_any 1 _).mono ?_
              rintro e w10 ⟨rfl, hb⟩
              have hb1 : Below w5.heap.size w5 w10 := HB3.out.trans (hb.mono HB3.out.size)
              have HB4 := hide hb1
              have HJ4 := hide ((HJ3.out).below hb)
              refine hK.out _ _ ⟨(T1.out.below hb1).c0, (T1.out.below hb1).c1, (T1.out.below hb1).c2⟩ (fun hHeld => ?_)
              clear hK K hHeld
              (try simp only [List.setIfInBounds_toArray, List.set_cons_zero, List.set_cons_succ])
              clear hb hb1
              refine wpAnyM_two (i := 5) (j := 7) (oi := ⟨_, _, _, _, _, _⟩) (oj := ⟨_, _, _, _, _, _⟩) (by kernel_rfl) rfl rfl (fun K hK => ?_) (fun K hK => ?_)
              · as_aux_lemma =>
                rw [if_pos (by rfl)]
                refine wp_build3 rfl (by rfl) (by rfl) (by rfl) ?_
                (try simp only [Act.put, List.setIfInBounds_toArray, List.set_cons_zero, List.set_cons_succ])
                have hb1 : Below w5.heap.size w5 (w10.alloc (.cells #[.int .i64 12, .int .i64 0, .slice (some ⟨g, 0, none⟩) 2 2, .int .i64 1, .int .i64 (-1), .slice none 0 0, .int .i64 1, .int .i64 1, .slice none 0 0] 24)) := HB4.out.alloc HB4.out.size _
                have HBS := hide hb1
                have HIS : Hid (In (w10.alloc (.cells #[.int .i64 12, .int .i64 0, .slice (some ⟨g, 0, none⟩) 2 2, .int .i64 1, .int .i64 (-1), .slice none 0 0, .int .i64 1, .int .i64 1, .slice none 0 0] 24)) (exB g (w10.heap.size))) := mk3_in (by decide) (by decide) ((HJ4.out).below (below1 _ _)) (LM.out _) (L11.out _) (heap_alloc_new _ _)
                refine hK.out _ _ ⟨(T1.out.below hb1).c0, (T1.out.below hb1).c1, (T1.out.below hb1).c2⟩ (fun hHeld => ?_)
                clear hK K
                (try simp only [List.setIfInBounds_toArray, List.set_cons_zero, List.set_cons_succ])
                clear hb1
                refine wpAnyM_take (i := 6) (oi := ⟨_, _, _, _, _, _⟩) (v := ?_) rfl (by kernel_rfl) (by kernel_rfl) (by kernel_rfl) (by kernel_rfl) (fun _ _ _ h => h) (Or.inl ⟨by rfl, ?_⟩) hHeld ?_
                rotate_left
                · (intro w' hSw; (try dsimp only at hSw); go_simp; try (with_reducible rfl))
                (try simp only [Act.put, List.setIfInBounds_toArray, List.set_cons_zero, List.set_cons_succ])
                clear hHeld
                refine wpAnyM_one (i := 7) (o := ⟨_, _, _, _, _, _⟩) (by kernel_rfl) rfl (fun K hK => ?_)
                go_simp
                have hb1 : Below w5.heap.size w5 ((w10.alloc (.cells #[.int .i64 12, .int .i64 0, .slice (some ⟨g, 0, none⟩) 2 2, .int .i64 1, .int .i64 (-1), .slice none 0 0, .int .i64 1, .int .i64 1, .slice none 0 0] 24)).alloc (.cells #[.int .i64 0, .int .i64 0, .slice none 0 0] 24)) := HBS.out.alloc HBS.out.size _
                refine hK.out _ _ ⟨(T1.out.below hb1).c0, (T1.out.below hb1).c1, (T1.out.below hb1).c2⟩ (fun hHeld => ?_)
                clear hK K hHeld
                (try simp only [List.setIfInBounds_toArray, List.set_cons_zero, List.set_cons_succ])
                clear hb1
                refine wpAnyM_last (i := 8) (o := ⟨_, _, _, _, _, _⟩) (by kernel_rfl) (by rfl) rfl (fun K hK => ?_)
                go_simp
                refine hK.out _ _ ?_
                clear hK K
                (try simp only [List.setIfInBounds_toArray, List.set_cons_zero, List.set_cons_succ])
                refine wpAnyM_done (by kernel_rfl) ?_ _
                go_wp2_with fail
                go_meet
                obtain ⟨f1, f2, f3⟩ := fin_new (a := .int .i64 14) (b := .int .i64 0) (c := .slice (some ⟨(w10.heap.size), 0, none⟩) 3 3) (HIS.out) HBS.out
                rw [show (w10.alloc (.cells #[.int .i64 12, .int .i64 0, .slice (some ⟨g, 0, none⟩) 2 2, .int .i64 1, .int .i64 (-1), .slice none 0 0, .int .i64 1, .int .i64 1, .slice none 0 0] 24)).heap.size = w10.heap.size + 1 from by simp] at f1
                exact ⟨g, (w10.heap.size), _, rfl, f1, f2, f3⟩
              · as_aux_lemma =>
                go_simp
                have hb1 : Below w5.heap.size w5 (w10.alloc (.cells #[.int .i64 0, .int .i64 0, .slice none 0 0] 24)) := HB4.out.alloc HB4.out.size _
                have HBAa4 := hide hb1
                have bxAa4 : Hid (Bx (w10.alloc (.cells #[.int .i64 0, .int .i64 0, .slice none 0 0] 24)) w10.heap.size (.int .i64 0) (.int .i64 0) (.slice none 0 0)) := Bx.new _ _ _ _
                have KLa4 : Hid (w5.heap.size ≤ w10.heap.size) := HB4.out.size
                have NEA0a4 := hide (show g ≠ w10.heap.size by have q := mk2_lt (HJ4.out); omega)
                refine hK.out _ _ ⟨(T1.out.below hb1).c0, (T1.out.below hb1).c1, (T1.out.below hb1).c2⟩ (fun hHeld => ?_)
                clear hK K hHeld
                (try simp only [List.setIfInBounds_toArray, List.set_cons_zero, List.set_cons_succ])
                clear hb1
                refine wpAnyM_one (i := 5) (o := ⟨_, _, _, _, _, _⟩) (by kernel_rfl) rfl (fun K hK => ?_)
                rw [if_pos (by rfl)]
                refine wp_build3 rfl (by rfl) (by rfl) (by rfl) ?_
                (try simp only [Act.put, List.setIfInBounds_toArray, List.set_cons_zero, List.set_cons_succ])
                have hb1 : Below w5.heap.size w5 ((w10.alloc (.cells #[.int .i64 0, .int .i64 0, .slice none 0 0] 24)).alloc (.cells #[.int .i64 12, .int .i64 0, .slice (some ⟨g, 0, none⟩) 2 2, .int .i64 1, .int .i64 (-1), .slice none 0 0, .int .i64 1, .int .i64 1, .slice none 0 0] 24)) := HBAa4.out.alloc HBAa4.out.size _
                have HBSa4 := hide hb1
                have HISa4 : Hid (In ((w10.alloc (.cells #[.int .i64 0, .int .i64 0, .slice none 0 0] 24)).alloc (.cells #[.int .i64 12, .int .i64 0, .slice (some ⟨g, 0, none⟩) 2 2, .int .i64 1, .int .i64 (-1), .slice none 0 0, .int .i64 1, .int .i64 1, .slice none 0 0] 24)) (exB g ((w10.alloc (.cells #[.int .i64 0, .int .i64 0, .slice none 0 0] 24)).heap.size))) := mk3_in (by decide) (by decide) (((HJ4.out).below (below1 _ _)).below (below1 _ _)) (LM.out _) (L11.out _) (heap_alloc_new _ _)
                have bxSa4 : Hid (Bx ((w10.alloc (.cells #[.int .i64 0, .int .i64 0, .slice none 0 0] 24)).alloc (.cells #[.int .i64 12, .int .i64 0, .slice (some ⟨g, 0, none⟩) 2 2, .int .i64 1, .int .i64 (-1), .slice none 0 0, .int .i64 1, .int .i64 1, .slice none 0 0] 24)) w10.heap.size (.int .i64 0) (.int .i64 0) (.slice none 0 0)) := bxAa4.out.below (below1 _ _)
                have NESa4 := hide (show (w10.alloc (.cells #[.int .i64 0, .int .i64 0, .slice none 0 0] 24)).heap.size ≠ w10.heap.size by have q := bxAa4.out.lt; omega)
                refine hK.out _ _ ⟨(T1.out.below hb1).c0, (T1.out.below hb1).c1, (T1.out.below hb1).c2⟩ (fun hHeld => ?_)
                clear hK K
                (try simp only [List.setIfInBounds_toArray, List.set_cons_zero, List.set_cons_succ])
                clear hb1
                refine wpAnyM_take (i := 6) (oi := ⟨_, _, _, _, _, _⟩) (v := ?_) rfl (by kernel_rfl) (by kernel_rfl) (by kernel_rfl) (by kernel_rfl) (fun _ _ _ h => h) (Or.inl ⟨by rfl, ?_⟩) hHeld ?_
                rotate_left
                · (intro w' hSw; (try dsimp only at hSw); go_simp; try (with_reducible rfl))
                (try simp only [Act.put, List.setIfInBounds_toArray, List.set_cons_zero, List.set_cons_succ])
                clear hHeld
                obtain ⟨x0, x1, x2⟩ := bxSa4.out.cells
                have y0 := bxSa4.out.free 0
                have y1 := bxSa4.out.free 1
                have y2 := bxSa4.out.free 2
                refine wpAnyM_last (i := 8) (o := ⟨_, _, _, _, _, _⟩) (by kernel_rfl) (by rfl) rfl (fun K hK => ?_)
                go_simp
                refine hK.out _ _ ?_
                clear hK K
                (try simp only [List.setIfInBounds_toArray, List.set_cons_zero, List.set_cons_succ])
                refine wpAnyM_done (by kernel_rfl) ?_ _
                go_wp2_with fail
                go_meet
                have hb2 : Below w10.heap.size w10 ((w10.alloc (.cells #[.int .i64 14, .int .i64 0, .slice (some ⟨w10.heap.size + 1, 0, none⟩) 3 3] 24)).alloc (.cells #[.int .i64 12, .int .i64 0, .slice (some ⟨g, 0, none⟩) 2 2, .int .i64 1, .int .i64 (-1), .slice none 0 0, .int .i64 1, .int .i64 1, .slice none 0 0] 24)) := ((Below.refl _ _).alloc (Nat.le_refl _) _).alloc (by simp) _
                have f1 : Tri ((w10.alloc (.cells #[.int .i64 14, .int .i64 0, .slice (some ⟨w10.heap.size + 1, 0, none⟩) 3 3] 24)).alloc (.cells #[.int .i64 12, .int .i64 0, .slice (some ⟨g, 0, none⟩) 2 2, .int .i64 1, .int .i64 (-1), .slice none 0 0, .int .i64 1, .int .i64 1, .slice none 0 0] 24)) w10.heap.size (.int .i64 14) (.int .i64 0) (.slice (some ⟨w10.heap.size + 1, 0, none⟩) 3 3) := (Tri.new w10 _ _ _ 24).below (below1 _ _)
                have hr := heap_alloc_new (w10.alloc (.cells #[.int .i64 14, .int .i64 0, .slice (some ⟨w10.heap.size + 1, 0, none⟩) 3 3] 24)) (.cells #[.int .i64 12, .int .i64 0, .slice (some ⟨g, 0, none⟩) 2 2, .int .i64 1, .int .i64 (-1), .slice none 0 0, .int .i64 1, .int .i64 1, .slice none 0 0] 24)
                rw [show (w10.alloc (.cells #[.int .i64 14, .int .i64 0, .slice (some ⟨w10.heap.size + 1, 0, none⟩) 3 3] 24)).heap.size = w10.heap.size + 1 from by simp] at hr
                have f2 : In ((w10.alloc (.cells #[.int .i64 14, .int .i64 0, .slice (some ⟨w10.heap.size + 1, 0, none⟩) 3 3] 24)).alloc (.cells #[.int .i64 12, .int .i64 0, .slice (some ⟨g, 0, none⟩) 2 2, .int .i64 1, .int .i64 (-1), .slice none 0 0, .int .i64 1, .int .i64 1, .slice none 0 0] 24)) (exB g (w10.heap.size + 1)) := mk3_in (by decide) (by decide) (HJ4.out.below hb2) (LM.out _) (L11.out _) hr
                exact ⟨g, w10.heap.size + 1, _, rfl, f1, f2, HB4.out.trans (hb2.mono HB4.out.size)⟩
            · as_aux_lemma =>
              go_simp
              have hb1 : Below w5.heap.size w5 (w9.alloc (.cells #[.int .i64 0, .int .i64 0, .slice none 0 0] 24)) := HB3.out.alloc HB3.out.size _
              have HBAa3 := hide hb1
              have bxAa3 : Hid (Bx (w9.alloc (.cells #[.int .i64 0, .int .i64 0, .slice none 0 0] 24)) w9.heap.size (.int .i64 0) (.int .i64 0) (.slice none 0 0)) := Bx.new _ _ _ _
              have KLa3 : Hid (w5.heap.size ≤ w9.heap.size) := HB3.out.size
              have NEA0a3 := hide (show g ≠ w9.heap.size by have q := mk2_lt (HJ3.out); omega)
              refine hK.out _ _ ⟨(T1.out.below hb1).c0, (T1.out.below hb1).c1, (T1.out.below hb1).c2⟩ (fun hHeld => ?_)
              clear hK K hHeld
              (try simp only [List.setIfInBounds_toArray, List.set_cons_zero, List.set_cons_succ])
              clear hb1
              refine wpAnyM_one (i := 4) (o := ⟨_, _, _, _, _, _⟩) (by kernel_rfl) rfl (fun K hK => ?_)
              go_simp
              go_at_call 19
              refine (konst_any 1 _).mono ?_
              rintro e w10a3 ⟨rfl, hb⟩
              have hb1 : Below w5.heap.size w5 w10a3 := HBAa3.out.trans (hb.mono HBAa3.out.size)
              have HB4a3 := hide hb1
              have HJ4a3 := hide (((HJ3.out).below (below1 _ _)).below hb)
              have bx4a3 : Hid (Bx w10a3 w9.heap.size (.int .i64 0) (.int .i64 0) (.slice none 0 0)) := bxAa3.out.below hb
              refine hK.out _ _ ⟨(T1.out.below hb1).c0, (T1.out.below hb1).c1, (T1.out.below hb1).c2⟩ (fun hHeld => ?_)
              clear hK K hHeld
              (try simp only [List.setIfInBounds_toArray, List.set_cons_zero, List.set_cons_succ])
              clear hb hb1
              refine wpAnyM_one (i := 5) (o := ⟨_, _, _, _, _, _⟩) (by kernel_rfl) rfl (fun K hK => ?_)
              rw [if_pos (by rfl)]
              refine wp_build3 rfl (by rfl) (by rfl) (by rfl) ?_
              (try simp only [Act.put, List.setIfInBounds_toArray, List.set_cons_zero, List.set_cons_succ])
              have hb1 : Below w5.heap.size w5 (w10a3.alloc (.cells #[.int .i64 12, .int .i64 0, .slice (some ⟨g, 0, none⟩) 2 2, .int .i64 1, .int .i64 (-1), .slice none 0 0, .int .i64 1, .int .i64 1, .slice none 0 0] 24)) := HB4a3.out.alloc HB4a3.out.size _
              have HBSa3 := hide hb1
              have HISa3 : Hid (In (w10a3.alloc (.cells #[.int .i64 12, .int .i64 0, .slice (some ⟨g, 0, none⟩) 2 2, .int .i64 1, .int .i64 (-1), .slice none 0 0, .int .i64 1, .int .i64 1, .slice none 0 0] 24)) (exB g (w10a3.heap.size))) := mk3_in (by decide) (by decide) ((HJ4a3.out).below (below1 _ _)) (LM.out _) (L11.out _) (heap_alloc_new _ _)
              have bxSa3 : Hid (Bx (w10a3.alloc (.cells #[.int .i64 12, .int .i64 0, .slice (some ⟨g, 0, none⟩) 2 2, .int .i64 1, .int .i64 (-1), .slice none 0 0, .int .i64 1, .int .i64 1, .slice none 0 0] 24)) w9.heap.size (.int .i64 0) (.int .i64 0) (.slice none 0 0)) := bx4a3.out.below (below1 _ _)
              have NESa3 := hide (show w10a3.heap.size ≠ w9.heap.size by have q := bx4a3.out.lt; omega)
              refine hK.out _ _ ⟨(T1.out.below hb1).c0, (T1.out.below hb1).c1, (T1.out.below hb1).c2⟩ (fun hHeld => ?_)
              clear hK K
              (try simp only [List.setIfInBounds_toArray, List.set_cons_zero, List.set_cons_succ])
              clear hb1
              refine wpAnyM_take (i := 6) (oi := ⟨_, _, _, _, _, _⟩) (v := ?_) rfl (by kernel_rfl) (by kernel_rfl) (by kernel_rfl) (by kernel_rfl) (fun _ _ _ h => h) (Or.inl ⟨by rfl, ?_⟩) hHeld ?_
              rotate_left
              · (intro w' hSw; (try dsimp only at hSw); go_simp; try (with_reducible rfl))
              (try simp only [Act.put, List.setIfInBounds_toArray, List.set_cons_zero, List.set_cons_succ])
              clear hHeld
              obtain ⟨x0, x1, x2⟩ := bxSa3.out.cells
              have y0 := bxSa3.out.free 0
              have y1 := bxSa3.out.free 1
              have y2 := bxSa3.out.free 2
              refine wpAnyM_last (i := 8) (o := ⟨_, _, _, _, _, _⟩) (by kernel_rfl) (by rfl) rfl (fun K hK => ?_)
              go_simp
              refine hK.out _ _ ?_
              clear hK K
              (try simp only [List.setIfInBounds_toArray, List.set_cons_zero, List.set_cons_succ])
              refine wpAnyM_done (by kernel_rfl) ?_ _
              go_wp2_with fail
              go_meet
              obtain ⟨f1, f2, f3⟩ := fin_box (a := .int .i64 14) (b := .int .i64 0) (c := .slice (some ⟨(w10a3.heap.size), 0, none⟩) 3 3) bxSa3.out (HISa3.out) (offB.mk3 (NESa3.out) (offB.mk2 (NEA0a3.out) (offB.leaf _ _ _) (offB.leaf _ _ _)) (offB.leaf _ _ _) (offB.leaf _ _ _)) HBSa3.out KLa3.out
              exact ⟨g, (w10a3.heap.size), _, rfl, f1, f2, f3⟩
          · as_aux_lemma =>
            go_simp
            have hb1 : Below w5.heap.size w5 (w8.alloc (.cells #[.int .i64 0, .int .i64 0, .slice none 0 0] 24)) := HB2.out.alloc HB2.out.size _
            have HBAa2 := hide hb1
            have bxAa2 : Hid (Bx (w8.alloc (.cells #[.int .i64 0, .int .i64 0, .slice none 0 0] 24)) w8.heap.size (.int .i64 0) (.int .i64 0) (.slice none 0 0)) := Bx.new _ _ _ _
            have KLa2 : Hid (w5.heap.size ≤ w8.heap.size) := HB2.out.size
            have NEA0a2 := hide (show g ≠ w8.heap.size by have q := mk2_lt (HI2.out); omega)
            refine hK.out _ _ ⟨(T1.out.below hb1).c0, (T1.out.below hb1).c1, (T1.out.below hb1).c2⟩ (fun hHeld => ?_)
            clear hK K hHeld
            (try simp only [List.setIfInBounds_toArray, List.set_cons_zero, List.set_cons_succ])
            clear hb1
            refine wpAnyM_one (i := 3) (o := ⟨_, _, _, _, _, _⟩) (by kernel_rfl) rfl (fun K hK => ?_)
            go_simp
            go_at_call 19
            refine (konst_any (-1) _).mono ?_
            rintro e w9a2 ⟨rfl, hb⟩
            have hb1 : Below w5.heap.size w5 w9a2 := HBAa2.out.trans (hb.mono HBAa2.out.size)
            have HB3a2 := hide hb1
            have HJ3a2 := hide (((HI2.out).below (below1 _ _)).below hb)
            have bx3a2 : Hid (Bx w9a2 w8.heap.size (.int .i64 0) (.int .i64 0) (.slice none 0 0)) := bxAa2.out.below hb
            refine hK.out _ _ ⟨(T1.out.below hb1).c0, (T1.out.below hb1).c1, (T1.out.below hb1).c2⟩ (fun hHeld => ?_)
            clear hK K hHeld
            (try simp only [List.setIfInBounds_toArray, List.set_cons_zero, List.set_cons_succ])
            clear hb hb1
            refine wpAnyM_one (i := 4) (o := ⟨_, _, _, _, _, _⟩) (by kernel_rfl) rfl (fun K hK => ?_)
            go_simp
            go_at_call 19
            refine (konst_any 1 _).mono ?_
            rintro e w10a2 ⟨rfl, hb⟩
            have hb1 : Below w5.heap.size w5 w10a2 := HB3a2.out.trans (hb.mono HB3a2.out.size)
            have HB4a2 := hide hb1
            have HJ4a2 := hide ((HJ3a2.out).below hb)
            have bx4a2 : Hid (Bx w10a2 w8.heap.size (.int .i64 0) (.int .i64 0) (.slice none 0 0)) := bx3a2.out.below hb
            refine hK.out _ _ ⟨(T1.out.below hb1).c0, (T1.out.below hb1).c1, (T1.out.below hb1).c2⟩ (fun hHeld => ?_)
            clear hK K hHeld
            (try simp only [List.setIfInBounds_toArray, List.set_cons_zero, List.set_cons_succ])
            clear hb hb1
            refine wpAnyM_one (i := 5) (o := ⟨_, _, _, _, _, _⟩) (by kernel_rfl) rfl (fun K hK => ?_)
            rw [if_pos (by rfl)]
            refine wp_build3 rfl (by rfl) (by rfl) (by rfl) ?_
            (try simp only [Act.put, List.setIfInBounds_toArray, List.set_cons_zero, List.set_cons_succ])
            have hb1 : Below w5.heap.size w5 (w10a2.alloc (.cells #[.int .i64 12, .int .i64 0, .slice (some ⟨g, 0, none⟩) 2 2, .int .i64 1, .int .i64 (-1), .slice none 0 0, .int .i64 1, .int .i64 1, .slice none 0 0] 24)) := HB4a2.out.alloc HB4a2.out.size _
            have HBSa2 := hide hb1
            have HISa2 : Hid (In (w10a2.alloc (.cells #[.int .i64 12, .int .i64 0, .slice (some ⟨g, 0, none⟩) 2 2, .int .i64 1, .int .i64 (-1), .slice none 0 0, .int .i64 1, .int .i64 1, .slice none 0 0] 24)) (exB g (w10a2.heap.size))) := mk3_in (by decide) (by decide) ((HJ4a2.out).below (below1 _ _)) (LM.out _) (L11.out _) (heap_alloc_new _ _)
            have bxSa2 : Hid (Bx (w10a2.alloc (.cells #[.int .i64 12, .int .i64 0, .slice (some ⟨g, 0, none⟩) 2 2, .int .i64 1, .int .i64 (-1), .slice none 0 0, .int .i64 1, .int .i64 1, .slice none 0 0] 24)) w8.heap.size (.int .i64 0) (.int .i64 0) (.slice none 0 0)) := bx4a2.out.below (below1 _ _)
            have NESa2 := hide (show w10a2.heap.size ≠ w8.heap.size by have q := bx4a2.out.lt; omega)
            refine hK.out _ _ ⟨(T1.out.below hb1).c0, (T1.out.below hb1).c1, (T1.out.below hb1).c2⟩ (fun hHeld => ?_)
            clear hK K
            (try simp only [List.setIfInBounds_toArray, List.set_cons_zero, List.set_cons_succ])
            clear hb1
            refine wpAnyM_take (i := 6) (oi := ⟨_, _, _, _, _, _⟩) (v := ?_) rfl (by kernel_rfl) (by kernel_rfl) (by kernel_rfl) (by kernel_rfl) (fun _ _ _ h => h) (Or.inl ⟨by rfl, ?_⟩) hHeld ?_
            rotate_left
            · (intro w' hSw; (try dsimp only at hSw); go_simp; try (with_reducible rfl))
            (try simp only [Act.put, List.setIfInBounds_toArray, List.set_cons_zero, List.set_cons_succ])
            clear hHeld
            obtain ⟨x0, x1, x2⟩ := bxSa2.out.cells
            have y0 := bxSa2.out.free 0
            have y1 := bxSa2.out.free 1
            have y2 := bxSa2.out.free 2
            refine wpAnyM_last (i := 8) (o := ⟨_, _, _, _, _, _⟩) (by kernel_rfl) (by rfl) rfl (fun K hK => ?_)
            go_simp
            refine hK.out _ _ ?_
            clear hK K
            (try simp only [List.setIfInBounds_toArray, List.set_cons_zero, List.set_cons_succ])
            refine wpAnyM_done (by kernel_rfl) ?_ _
            go_wp2_with fail
            go_meet
            obtain ⟨f1, f2, f3⟩ := fin_box (a := .int .i64 14) (b := .int .i64 0) (c := .slice (some ⟨(w10a2.heap.size), 0, none⟩) 3 3) bxSa2.out (HISa2.out) (offB.mk3 (NESa2.out) (offB.mk2 (NEA0a2.out) (offB.leaf _ _ _) (offB.leaf _ _ _)) (offB.leaf _ _ _) (offB.leaf _ _ _)) HBSa2.out KLa2.out
            exact ⟨g, (w10a2.heap.size), _, rfl, f1, f2, f3⟩
        · as_aux_lemma =>
          go_simp
          have hb1 : Below w5.heap.size w5 (w7.alloc (.cells #[.int .i64 0, .int .i64 0, .slice none 0 0] 24)) := HB1.out.alloc HB1.out.size _
          have HBAa1 := hide hb1
          have bxAa1 : Hid (Bx (w7.alloc (.cells #[.int .i64 0, .int .i64 0, .slice none 0 0] 24)) w7.heap.size (.int .i64 0) (.int .i64 0) (.slice none 0 0)) := Bx.new _ _ _ _
          have KLa1 : Hid (w5.heap.size ≤ w7.heap.size) := HB1.out.size
          refine hK.out _ _ ⟨(T1.out.below hb1).c0, (T1.out.below hb1).c1, (T1.out.below hb1).c2⟩ (fun hHeld => ?_)
          clear hK K hHeld
          (try simp only [List.setIfInBounds_toArray, List.set_cons_zero, List.set_cons_succ])
          clear hb1
          refine wpAnyM_one (i := 2) (o := ⟨_, _, _, _, _, _⟩) (by kernel_rfl) rfl (fun K hK => ?_)
          go_simp
          go_at_call 17
          refine (two_any 12 (leaf 4 0) (leaf 1 0) (by decide) (by decide) (L4.out _) (L10.out _)).mono ?_
          rintro e w8a1 ⟨ga1, rfl, hin, _, hgs, hb⟩
          have hb1 : Below w5.heap.size w5 w8a1 := HBAa1.out.trans (hb.mono HBAa1.out.size)
          have HB2a1 := hide hb1
          have HI2a1 := hide hin
          have NE2a1 := hide (show ga1 ≠ w7.heap.size by have q := bxAa1.out.lt; omega)
          have bx2a1 : Hid (Bx w8a1 w7.heap.size (.int .i64 0) (.int .i64 0) (.slice none 0 0)) := bxAa1.out.below hb
          refine hK.out _ _ ⟨(T1.out.below hb1).c0, (T1.out.below hb1).c1, (T1.out.below hb1).c2⟩ (fun hHeld => ?_)
          clear hK K hHeld
          (try simp only [List.setIfInBounds_toArray, List.set_cons_zero, List.set_cons_succ])
          clear hb hb1 hin hgs
          refine wpAnyM_one (i := 3) (o := ⟨_, _, _, _, _, _⟩) (by kernel_rfl) rfl (fun K hK => ?_)
          go_simp
          go_at_call 19
          refine (konst_any (-1) _).mono ?_
          rintro e w9a1 ⟨rfl, hb⟩
          have hb1 : Below w5.heap.size w5 w9a1 := HB2a1.out.trans (hb.mono HB2a1.out.size)
          have HB3a1 := hide hb1
          have HJ3a1 := hide ((HI2a1.out).below hb)
          have bx3a1 : Hid (Bx w9a1 w7.heap.size (.int .i64 0) (.int .i64 0) (.slice none 0 0)) := bx2a1.out.below hb
          refine hK.out _ _ ⟨(T1.out.below hb1).c0, (T1.out.below hb1).c1, (T1.out.below hb1).c2⟩ (fun hHeld => ?_)
          clear hK K hHeld
          (try simp only [List.setIfInBounds_toArray, List.set_cons_zero, List.set_cons_succ])
          clear hb hb1
          refine wpAnyM_one (i := 4) (o := ⟨_, _, _, _, _, _⟩) (by kernel_rfl) rfl (fun K hK => ?_)
          go_simp
          go_at_call 19
          refine (konst_any 1 _).mono ?_
          rintro e w10a1 ⟨rfl, hb⟩
          have hb1 : Below w5.heap.size w5 w10a1 := HB3a1.out.trans (hb.mono HB3a1.out.size)
          have HB4a1 := hide hb1
          have HJ4a1 := hide ((HJ3a1.out).below hb)
          have bx4a1 : Hid (Bx w10a1 w7.heap.size (.int .i64 0) (.int .i64 0) (.slice none 0 0)) := bx3a1.out.below hb
          refine hK.out _ _ ⟨(T1.out.below hb1).c0, (T1.out.below hb1).c1, (T1.out.below hb1).c2⟩ (fun hHeld => ?_)
          clear hK K hHeld
          (try simp only [List.setIfInBounds_toArray, List.set_cons_zero, List.set_cons_succ])
          clear hb hb1
          refine wpAnyM_one (i := 5) (o := ⟨_, _, _, _, _, _⟩) (by kernel_rfl) rfl (fun K hK => ?_)
          rw [if_pos (by rfl)]
          refine wp_build3 rfl (by rfl) (by rfl) (by rfl) ?_
          (try simp only [Act.put, List.setIfInBounds_toArray, List.set_cons_zero, List.set_cons_succ])
          have hb1 : Below w5.heap.size w5 (w10a1.alloc (.cells #[.int .i64 12, .int .i64 0, .slice (some ⟨ga1, 0, none⟩) 2 2, .int .i64 1, .int .i64 (-1), .slice none 0 0, .int .i64 1, .int .i64 1, .slice none 0 0] 24)) := HB4a1.out.alloc HB4a1.out.size _
          have HBSa1 := hide hb1
          have HISa1 : Hid (In (w10a1.alloc (.cells #[.int .i64 12, .int .i64 0, .slice (some ⟨ga1, 0, none⟩) 2 2, .int .i64 1, .int .i64 (-1), .slice none 0 0, .int .i64 1, .int .i64 1, .slice none 0 0] 24)) (exB ga1 (w10a1.heap.size))) := mk3_in (by decide) (by decide) ((HJ4a1.out).below (below1 _ _)) (LM.out _) (L11.out _) (heap_alloc_new _ _)
          have bxSa1 : Hid (Bx (w10a1.alloc (.cells #[.int .i64 12, .int .i64 0, .slice (some ⟨ga1, 0, none⟩) 2 2, .int .i64 1, .int .i64 (-1), .slice none 0 0, .int .i64 1, .int .i64 1, .slice none 0 0] 24)) w7.heap.size (.int .i64 0) (.int .i64 0) (.slice none 0 0)) := bx4a1.out.below (below1 _ _)
          have NESa1 := hide (show w10a1.heap.size ≠ w7.heap.size by have q := bx4a1.out.lt; omega)
          refine hK.out _ _ ⟨(T1.out.below hb1).c0, (T1.out.below hb1).c1, (T1.out.below hb1).c2⟩ (fun hHeld => ?_)
          clear hK K
          (try simp only [List.setIfInBounds_toArray, List.set_cons_zero, List.set_cons_succ])
          clear hb1
          refine wpAnyM_take (i := 6) (oi := ⟨_, _, _, _, _, _⟩) (v := ?_) rfl (by kernel_rfl) (by kernel_rfl) (by kernel_rfl) (by kernel_rfl) (fun _ _ _ h => h) (Or.inl ⟨by rfl, ?_⟩) hHeld ?_
          rotate_left
          · (intro w' hSw; (try dsimp only at hSw); go_simp; try (with_reducible rfl))
          (try simp only [Act.put, List.setIfInBounds_toArray, List.set_cons_zero, List.set_cons_succ])
          clear hHeld
          obtain ⟨x0, x1, x2⟩ := bxSa1.out.cells
          have y0 := bxSa1.out.free 0
          have y1 := bxSa1.out.free 1
          have y2 := bxSa1.out.free 2
          refine wpAnyM_last (i := 8) (o := ⟨_, _, _, _, _, _⟩) (by kernel_rfl) (by rfl) rfl (fun K hK => ?_)
          go_simp
          refine hK.out _ _ ?_
          clear hK K
          (try simp only [List.setIfInBounds_toArray, List.set_cons_zero, List.set_cons_succ])
          refine wpAnyM_done (by kernel_rfl) ?_ _
          go_wp2_with fail
          go_meet
          obtain ⟨f1, f2, f3⟩ := fin_box (a := .int .i64 14) (b := .int .i64 0) (c := .slice (some ⟨(w10a1.heap.size), 0, none⟩) 3 3) bxSa1.out (HISa1.out) (offB.mk3 (NESa1.out) (offB.mk2 (NE2a1.out) (offB.leaf _ _ _) (offB.leaf _ _ _)) (offB.leaf _ _ _) (offB.leaf _ _ _)) HBSa1.out KLa1.out
          exact ⟨ga1, (w10a1.heap.size), _, rfl, f1, f2, f3⟩
      · as_aux_lemma =>
        go_simp
        have hb1 : Below w5.heap.size w5 (w5.drew.alloc (.cells #[.int .i64 0, .int .i64 0, .slice none 0 0] 24)) := HB0.out.alloc HB0.out.size _
        have HBAa0 := hide hb1
        have bxAa0 : Hid (Bx (w5.drew.alloc (.cells #[.int .i64 0, .int .i64 0, .slice none 0 0] 24)) w5.heap.size (.int .i64 0) (.int .i64 0) (.slice none 0 0)) := Bx.new _ _ _ _
        have KLa0 : Hid (w5.heap.size ≤ w5.heap.size) := HB0.out.size
        refine hK.out _ _ ⟨(T1.out.below hb1).c0, (T1.out.below hb1).c1, (T1.out.below hb1).c2⟩ (fun hHeld => ?_)
        clear hK K hHeld
        (try simp only [List.setIfInBounds_toArray, List.set_cons_zero, List.set_cons_succ])
        clear hb1
        refine wpAnyM_one (i := 1) (o := ⟨_, _, _, _, _, _⟩) (by kernel_rfl) rfl (fun K hK => ?_)
        go_simp
        go_at_call 19
        refine (konst_any 0 _).mono ?_
        rintro e w7a0 ⟨rfl, hb⟩
        have hb1 : Below w5.heap.size w5 w7a0 := HBAa0.out.trans (hb.mono HBAa0.out.size)
        have HB1a0 := hide hb1
        have bx1a0 : Hid (Bx w7a0 w5.heap.size (.int .i64 0) (.int .i64 0) (.slice none 0 0)) := bxAa0.out.below hb
        refine hK.out _ _ ⟨(T1.out.below hb1).c0, (T1.out.below hb1).c1, (T1.out.below hb1).c2⟩ (fun hHeld => ?_)
        clear hK K hHeld
        (try simp only [List.setIfInBounds_toArray, List.set_cons_zero, List.set_cons_succ])
        clear hb hb1
        refine wpAnyM_one (i := 2) (o := ⟨_, _, _, _, _, _⟩) (by kernel_rfl) rfl (fun K hK => ?_)
        go_simp
        go_at_call 17
        refine (two_any 12 (leaf 4 0) (leaf 1 0) (by decide) (by decide) (L4.out _) (L10.out _)).mono ?_
        rintro e w8a0 ⟨ga0, rfl, hin, _, hgs, hb⟩
        have hb1 : Below w5.heap.size w5 w8a0 := HB1a0.out.trans (hb.mono HB1a0.out.size)
        have HB2a0 := hide hb1
        have HI2a0 := hide hin
        have NE2a0 := hide (show ga0 ≠ w5.heap.size by have q := bx1a0.out.lt; omega)
        have bx2a0 : Hid (Bx w8a0 w5.heap.size (.int .i64 0) (.int .i64 0) (.slice none 0 0)) := bx1a0.out.below hb
        refine hK.out _ _ ⟨(T1.out.below hb1).c0, (T1.out.below hb1).c1, (T1.out.below hb1).c2⟩ (fun hHeld => ?_)
        clear hK K hHeld
        (try simp only [List.setIfInBounds_toArray, List.set_cons_zero, List.set_cons_succ])
        clear hb hb1 hin hgs
        refine wpAnyM_one (i := 3) (o := ⟨_, _, _, _, _, _⟩) (by kernel_rfl) rfl (fun K hK => ?_)
        go_simp
        go_at_call 19
        refine (konst_any (-1) _).mono ?_
        rintro e w9a0 ⟨rfl, hb⟩
        have hb1 : Below w5.heap.size w5 w9a0 := HB2a0.out.trans (hb.mono HB2a0.out.size)
        have HB3a0 := hide hb1
        have HJ3a0 := hide ((HI2a0.out).below hb)
        have bx3a0 : Hid (Bx w9a0 w5.heap.size (.int .i64 0) (.int .i64 0) (.slice none 0 0)) := bx2a0.out.below hb
        refine hK.out _ _ ⟨(T1.out.below hb1).c0, (T1.out.below hb1).c1, (T1.out.below hb1).c2⟩ (fun hHeld => ?_)
        clear hK K hHeld
        (try simp only [List.setIfInBounds_toArray, List.set_cons_zero, List.set_cons_succ])
        clear hb hb1
        refine wpAnyM_one (i := 4) (o := ⟨_, _, _, _, _, _⟩) (by kernel_rfl) rfl (fun K hK => ?_)
        go_simp
        go_at_call 19
        refine (konst_any 1 _).mono ?_
        rintro e w10a0 ⟨rfl, hb⟩
        have hb1 : Below w5.heap.size w5 w10a0 := HB3a0.out.trans (hb.mono HB3a0.out.size)
        have HB4a0 := hide hb1
        have HJ4a0 := hide ((HJ3a0.out).below hb)
        have bx4a0 : Hid (Bx w10a0 w5.heap.size (.int .i64 0) (.int .i64 0) (.slice none 0 0)) := bx3a0.out.below hb
        refine hK.out _ _ ⟨(T1.out.below hb1).c0, (T1.out.below hb1).c1, (T1.out.below hb1).c2⟩ (fun hHeld => ?_)
        clear hK K hHeld
        (try simp only [List.setIfInBounds_toArray, List.set_cons_zero, List.set_cons_succ])
        clear hb hb1
        refine wpAnyM_one (i := 5) (o := ⟨_, _, _, _, _, _⟩) (by kernel_rfl) rfl (fun K hK => ?_)
        rw [if_pos (by rfl)]
        refine wp_build3 rfl (by rfl) (by rfl) (by rfl) ?_
        (try simp only [Act.put, List.setIfInBounds_toArray, List.set_cons_zero, List.set_cons_succ])
        have hb1 : Below w5.heap.size w5 (w10a0.alloc (.cells #[.int .i64 12, .int .i64 0, .slice (some ⟨ga0, 0, none⟩) 2 2, .int .i64 1, .int .i64 (-1), .slice none 0 0, .int .i64 1, .int .i64 1, .slice none 0 0] 24)) := HB4a0.out.alloc HB4a0.out.size _
        have HBSa0 := hide hb1
        have HISa0 : Hid (In (w10a0.alloc (.cells #[.int .i64 12, .int .i64 0, .slice (some ⟨ga0, 0, none⟩) 2 2, .int .i64 1, .int .i64 (-1), .slice none 0 0, .int .i64 1, .int .i64 1, .slice none 0 0] 24)) (exB ga0 (w10a0.heap.size))) := mk3_in (by decide) (by decide) ((HJ4a0.out).below (below1 _ _)) (LM.out _) (L11.out _) (heap_alloc_new _ _)
        have bxSa0 : Hid (Bx (w10a0.alloc (.cells #[.int .i64 12, .int .i64 0, .slice (some ⟨ga0, 0, none⟩) 2 2, .int .i64 1, .int .i64 (-1), .slice none 0 0, .int .i64 1, .int .i64 1, .slice none 0 0] 24)) w5.heap.size (.int .i64 0) (.int .i64 0) (.slice none 0 0)) := bx4a0.out.below (below1 _ _)
        have NESa0 := hide (show w10a0.heap.size ≠ w5.heap.size by have q := bx4a0.out.lt; omega)
        refine hK.out _ _ ⟨(T1.out.below hb1).c0, (T1.out.below hb1).c1, (T1.out.below hb1).c2⟩ (fun hHeld => ?_)
        clear hK K
        (try simp only [List.setIfInBounds_toArray, List.set_cons_zero, List.set_cons_succ])
        clear hb1
        refine wpAnyM_take (i := 6) (oi := ⟨_, _, _, _, _, _⟩) (v := ?_) rfl (by kernel_rfl) (by kernel_rfl) (by kernel_rfl) (by kernel_rfl) (fun _ _ _ h => h) (Or.inl ⟨by rfl, ?_⟩) hHeld ?_
        rotate_left
        · (intro w' hSw; (try dsimp only at hSw); go_simp; try (with_reducible rfl))
        (try simp only [Act.put, List.setIfInBounds_toArray, List.set_cons_zero, List.set_cons_succ])
        clear hHeld
        obtain ⟨x0, x1, x2⟩ := bxSa0.out.cells
        have y0 := bxSa0.out.free 0
        have y1 := bxSa0.out.free 1
        have y2 := bxSa0.out.free 2
        refine wpAnyM_last (i := 8) (o := ⟨_, _, _, _, _, _⟩) (by kernel_rfl) (by rfl) rfl (fun K hK => ?_)
        go_simp
        refine hK.out _ _ ?_
        clear hK K
        (try simp only [List.setIfInBounds_toArray, List.set_cons_zero, List.set_cons_succ])
        refine wpAnyM_done (by kernel_rfl) ?_ _
        go_wp2_with fail
        go_meet
        obtain ⟨f1, f2, f3⟩ := fin_box (a := .int .i64 14) (b := .int .i64 0) (c := .slice (some ⟨(w10a0.heap.size), 0, none⟩) 3 3) bxSa0.out (HISa0.out) (offB.mk3 (NESa0.out) (offB.mk2 (NE2a0.out) (offB.leaf _ _ _) (offB.leaf _ _ _)) (offB.leaf _ _ _) (offB.leaf _ _ _)) HBSa0.out KLa0.out
        exact ⟨ga0, (w10a0.heap.size), _, rfl, f1, f2, f3⟩
    case rest =>
      obtain ⟨gB, hB, TB, rfl, HTB, HIB, HBB⟩ := hcut
      generalize wc = w6 at *
      have HG5 := hide ((HG.out.below HB.out).below (HBA.out))
      have HG6 := hide (HG5.out.below HBB.out)
      have HTA6 := hide (HTA.out.below HBB.out)
      have HIA6 := hide (HIA.out.below HBB.out)
      have HB5 := hide (HB.out.trans (HBA.out.mono HB.out.size))
      have HB6 := hide (HB5.out.trans (HBB.out.mono HB5.out.size))
      clear T1 HTA HIA HBA HBB HG5 HB5 HB HSZ
      have k0 : Hid (KW w6 gA hA TA gB hB TB) := ⟨HTA6.out, HTB.out, HIA6.out, HIB.out, HG6.out⟩
      have B0 := hide HB6.out
      clear HTA6 HTB HIA6 HIB HG6 HB6 HG
      obtain ⟨p0, p1, p2⟩ := k0.out.a
      obtain ⟨q0, q1, q2⟩ := k0.out.b
      go_wp2_with (first
        | (have hk := k7; clear hk; go_at_call 11; refine (kChkC HIC.out).mono ?_; rintro e v8 ⟨rfl, hb⟩; have k8 := hide (k7.out.below hb); have B8 := hide (B7.out.trans (hb.mono B7.out.size)); clear p0 p1 p2 q0 q1 q2; obtain ⟨p0, p1, p2⟩ := k8.out.a; obtain ⟨q0, q1, q2⟩ := k8.out.b; clear hb)
        | (have hk := k6; clear hk; go_at_call 17; refine (kTwo k6.out).mono ?_; rintro e v7 ⟨k, rfl, hin, hb⟩; have k7 := hide (k6.out.below hb); have B7 := hide (B6.out.trans (hb.mono B6.out.size)); clear p0 p1 p2 q0 q1 q2; obtain ⟨p0, p1, p2⟩ := k7.out.a; obtain ⟨q0, q1, q2⟩ := k7.out.b; have HIC := hide hin; clear hb hin)
        | (have hk := k5; clear hk; go_at_call 11; refine (kChk0 _).mono ?_; rintro e v6 ⟨rfl, hb⟩; have k6 := hide (k5.out.below hb); have B6 := hide (B5.out.trans (hb.mono B5.out.size)); clear p0 p1 p2 q0 q1 q2; obtain ⟨p0, p1, p2⟩ := k6.out.a; obtain ⟨q0, q1, q2⟩ := k6.out.b; clear hb)
        | (have hk := k4; clear hk; go_at_call 12; refine (kEvlB k4.out).mono ?_; rintro e v5 ⟨rfl, hb⟩; have k5 := hide (k4.out.below hb); have B5 := hide (B4.out.trans (hb.mono B4.out.size)); clear p0 p1 p2 q0 q1 q2; obtain ⟨p0, p1, p2⟩ := k5.out.a; obtain ⟨q0, q1, q2⟩ := k5.out.b; clear hb)
        | (have hk := k3; clear hk; go_at_call 13; refine (kTxtB k3.out).mono ?_; rintro e v4 ⟨rfl, hb⟩; have k4 := hide (k3.out.below hb); have B4 := hide (B3.out.trans (hb.mono B3.out.size)); clear p0 p1 p2 q0 q1 q2; obtain ⟨p0, p1, p2⟩ := k4.out.a; obtain ⟨q0, q1, q2⟩ := k4.out.b; clear hb)
        | (have hk := k2; clear hk; go_at_call 13; refine (kTxtA k2.out).mono ?_; rintro e v3 ⟨rfl, hb⟩; have k3 := hide (k2.out.below hb); have B3 := hide (B2.out.trans (hb.mono B2.out.size)); clear p0 p1 p2 q0 q1 q2; obtain ⟨p0, p1, p2⟩ := k3.out.a; obtain ⟨q0, q1, q2⟩ := k3.out.b; clear hb)
        | (have hk := k1; clear hk; go_at_call 12; refine (kEvlA k1.out).mono ?_; rintro e v2 ⟨rfl, hb⟩; have k2 := hide (k1.out.below hb); have B2 := hide (B1.out.trans (hb.mono B1.out.size)); clear p0 p1 p2 q0 q1 q2; obtain ⟨p0, p1, p2⟩ := k2.out.a; obtain ⟨q0, q1, q2⟩ := k2.out.b; clear hb)
        | (have hk := k0; clear hk; go_at_call 11; refine (kChkA k0.out).mono ?_; rintro e v1 ⟨rfl, hb⟩; have k1 := hide (k0.out.below hb); have B1 := hide (B0.out.trans (hb.mono B0.out.size)); clear p0 p1 p2 q0 q1 q2; obtain ⟨p0, p1, p2⟩ := k1.out.a; obtain ⟨q0, q1, q2⟩ := k1.out.b; clear hb))
      go_ret
      exact ⟨rfl, B8.out⟩
end Go.Proofs.YtjdefmjcnpgjiaaDoor
