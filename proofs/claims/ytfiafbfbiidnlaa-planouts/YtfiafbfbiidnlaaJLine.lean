/-
  newLine, place and Order.
-/
import Derived.Test.YtfiafbfbiidnlaaJLook
namespace Go.Proofs.Ytfiafbfbiidnlaa
open Go.RowKit

theorem Try.info4' : (Try.prog.info? 4).map (fun i => (i.zero, i.size, i.bytes)) = some (some (.bool false), 1, 1) := by kernel_rfl
theorem Try.info34' : (Try.prog.info? 34).map (fun i => (i.zero, i.size, i.bytes)) = some (some (.slice none 0 0), 1, 24) := by kernel_rfl
theorem mkB (w : World) (n : Nat) (hn : n ≤ 1000000) : (Instr.makeSlice 47 (.int .i64 (n : Int)) (.int .i64 (n : Int))).run Try.prog w = .ok (.slice (some ⟨w.heap.size, 0, none⟩) n n) (w.alloc (.cells ((List.replicate n false).map Value.bool).toArray 4)) := by
  obtain ⟨i0, hi, hz0, hz1, hz2⟩ := info_parts Try.info4'
  have := run_make (P := Try.prog) w 47 4 i0 (.bool false) (by kernel_rfl) hi hz0 .i64 .i64 (n : Int) (n : Int) (by omega) (Int.le_refl _) (by rw [hz2]; omega) (by omega)
  rw [hz1, Nat.mul_one, Int.toNat_natCast] at this
  have e : madeCells (Value.bool false).cells n = ((List.replicate n false).map Value.bool).toArray := by
    apply Array.ext
    · simp [size_madeCells]
    · intro i h1 h2
      simp [madeCells, Value.cells, Nat.mod_one]
  rw [e] at this
  exact this
theorem mkN (w : World) (n : Nat) (hn : n ≤ 1000000) : (Instr.makeSlice 34 (.int .i64 (n : Int)) (.int .i64 (n : Int))).run Try.prog w = .ok (.slice (some ⟨w.heap.size, 0, none⟩) n n) (w.alloc (.cells ((List.replicate n 0).map fun x : Nat => Value.int .i64 (x : Int)).toArray 3)) := by
  obtain ⟨i0, hi, hz0, hz1, hz2⟩ := info_parts Try.info3'
  have := run_make (P := Try.prog) w 34 3 i0 (.int .i64 0) (by kernel_rfl) hi hz0 .i64 .i64 (n : Int) (n : Int) (by omega) (Int.le_refl _) (by rw [hz2]; omega) (by omega)
  rw [hz1, Nat.mul_one, Int.toNat_natCast] at this
  have e : madeCells (Value.int .i64 0).cells n = ((List.replicate n 0).map fun x : Nat => Value.int .i64 (x : Int)).toArray := by
    apply Array.ext
    · simp [size_madeCells]
    · intro i h1 h2
      simp [madeCells, Value.cells, Nat.mod_one]
  rw [e] at this
  exact this
theorem mkL (w : World) (n : Nat) (hn : n ≤ 1000000) : (Instr.makeSlice 87 (.int .i64 (n : Int)) (.int .i64 (n : Int))).run Try.prog w = .ok (.slice (some ⟨w.heap.size, 0, none⟩) n n) (w.alloc (.cells (List.replicate n (Value.slice none 0 0)).toArray 34)) := by
  obtain ⟨i0, hi, hz0, hz1, hz2⟩ := info_parts Try.info34'
  have := run_make (P := Try.prog) w 87 34 i0 (.slice none 0 0) (by kernel_rfl) hi hz0 .i64 .i64 (n : Int) (n : Int) (by omega) (Int.le_refl _) (by rw [hz2]; omega) (by omega)
  rw [hz1, Nat.mul_one, Int.toNat_natCast] at this
  have e : madeCells (Value.slice none 0 0).cells n = (List.replicate n (Value.slice none 0 0)).toArray := by
    apply Array.ext
    · simp [size_madeCells]
    · intro i h1 h2
      simp [madeCells, Value.cells, Nat.mod_one]
  rw [e] at this
  exact this
/-- A new line. -/
theorem Ln.new {base : Nat} {w : World} {K A P B n : Nat} {nv : Value} (hk : BoxT 90 w K #[nv, .slice (some ⟨A, 0, none⟩) n n, .slice (some ⟨P, 0, none⟩) n n, .slice (some ⟨B, 0, none⟩) n n, .slice none 0 0])
    (ha : BoxT 4 w A ((List.replicate n false).map Value.bool).toArray) (hp : BoxT 3 w P ((List.replicate n 0).map fun x : Nat => Value.int .i64 (x : Int)).toArray) (hb : BoxT 34 w B (List.replicate n (Value.slice none 0 0)).toArray)
    (kK : base ≤ K) (kA : base ≤ A) (kP : base ≤ P) (kB : base ≤ B) {wv : Value} {wt : List Nat} (ho : OwnN base w wv wt) (hw : wv.ownBlock ≠ some P) :
    Ln base w K A P B n nv (List.replicate n false) (List.replicate n 0) (List.replicate n (.slice none 0 0)) (List.replicate n []) (.slice none 0 0) [] [(wv, wt)] := by
  have hv : ∀ (i : Nat) (v : Value), (List.replicate n (Value.slice none 0 0))[i]? = some v → v = .slice none 0 0 := by
    intro i v h
    rw [List.getElem?_replicate] at h
    split at h
    · exact (Option.some.inj h).symm
    · cases h
  refine ⟨⟨hk, OwnL.nil _ _ _ _ _⟩, ha, hp, hb, by simp, by simp, by simp, by simp, fun i v b _ h1 h2 => ?_, fun i v g _ h1 h2 => ?_, fun e => (by cases e), fun c hc => (by simp at hc; subst hc; exact ho), fun c hc g e => (by simp at hc; subst hc; exact ⟨fun e' => hw (e' ▸ e), fun e' => (by cases e'), fun f v _ h1 e' => (by rw [hv f v h1] at e'; cases e')⟩), kK, kA, kP, kB⟩
  · rw [hv i v h1]
    rw [List.getElem?_replicate] at h2
    split at h2
    · cases h2; exact OwnL.nil _ _ _ _ _
    · cases h2
  · rw [hv i v h1] at h2; cases h2

theorem four (w : World) (o1 o2 o3 o4 : Obj) : ((((w.alloc o1).alloc o2).alloc o3).alloc o4).heap[w.heap.size]? = some o1 ∧ ((((w.alloc o1).alloc o2).alloc o3).alloc o4).heap[w.heap.size + 1]? = some o2 ∧
    ((((w.alloc o1).alloc o2).alloc o3).alloc o4).heap[w.heap.size + 1 + 1]? = some o3 ∧ ((((w.alloc o1).alloc o2).alloc o3).alloc o4).heap[w.heap.size + 1 + 1 + 1]? = some o4 := by
  have e : ((((w.alloc o1).alloc o2).alloc o3).alloc o4).heap = (((w.heap.push o1).push o2).push o3).push o4 := rfl
  rw [e]
  simp only [Array.getElem?_push, Array.size_push]
  refine ⟨?_, ?_, ?_, ?_⟩
  · rw [if_neg (by omega), if_neg (by omega), if_neg (by omega), if_pos trivial]
  · rw [if_neg (by omega), if_neg (by omega), if_pos trivial]
  · rw [if_neg (by omega), if_pos trivial]
  · rw [if_pos trivial]
theorem range_set {n k : Nat} (h : k < n) : (List.range k ++ List.replicate (n - k) 0).set k k = List.range (k + 1) ++ List.replicate (n - (k + 1)) 0 := by
  obtain ⟨m, rfl⟩ : ∃ m, n = k + 1 + m := ⟨n - (k + 1), by omega⟩
  rw [show k + 1 + m - k = m + 1 by omega, show k + 1 + m - (k + 1) = m by omega, List.set_append_right _ _ (by simp), List.length_range, Nat.sub_self, List.range_succ, List.replicate_succ]
  simp

set_option maxHeartbeats 4000000 in
set_option maxRecDepth 100000 in
theorem newLine_any {w : World} {nv : Value} {ns : List Nd} (hj : JobIn w.heap.size w nv ns) (hn : ns.length ≤ 400) :
    Calls Try.prog 62 #[nv] w fun e w' => ∃ K A P B vs rv, e = .returned (.pointer (some ⟨K, 0, none⟩)) ∧ Ln w.heap.size w' K A P B ns.length nv (List.replicate ns.length false) (start (ns.map Nd.ins)).1 vs (start (ns.map Nd.ins)).2.1 rv (start (ns.map Nd.ins)).2.2 [] ∧ Below w.heap.size w w' := by
  obtain ⟨na, ncp, rfl⟩ := hj.shape
  have m1 : ∀ W : World, (Instr.makeSlice 47 (.int .i64 (ns.length : Int)) (.int .i64 (ns.length : Int))).run Try.prog W = _ := fun W => mkB W ns.length (by omega)
  have m2 : ∀ W : World, (Instr.makeSlice 34 (.int .i64 (ns.length : Int)) (.int .i64 (ns.length : Int))).run Try.prog W = _ := fun W => mkN W ns.length (by omega)
  have m3 : ∀ W : World, (Instr.makeSlice 87 (.int .i64 (ns.length : Int)) (.int .i64 (ns.length : Int))).run Try.prog W = _ := fun W => mkL W ns.length (by omega)
  obtain ⟨cA, hcA⟩ : ∃ c, ((List.replicate ns.length false).map Value.bool).toArray = c := ⟨_, rfl⟩
  obtain ⟨cP, hcP⟩ : ∃ c, ((List.replicate ns.length 0).map fun x : Nat => Value.int .i64 (x : Int)).toArray = c := ⟨_, rfl⟩
  obtain ⟨cB, hcB⟩ : ∃ c, (List.replicate ns.length (Value.slice none 0 0)).toArray = c := ⟨_, rfl⟩
  rw [hcA] at m1
  rw [hcP] at m2
  rw [hcB] at m3
  have HA := hide hcA
  have HP := hide hcP
  have HB := hide hcB
  have HJ := hide hj
  clear hcA hcP hcB hj
  go_enter Try.func62, Try.ntmps62
  go_upto_region 2 with fail
  go_cut [4] from 9 to 17 (fun kv wx => ∃ K A P B : Nat, kv = .pointer (some ⟨K, 0, none⟩) ∧ w.heap.size ≤ K ∧ w.heap.size ≤ A ∧ w.heap.size ≤ P ∧ w.heap.size ≤ B ∧ Hid (BoxT 90 wx K #[.slice na ns.length ncp, .slice (some ⟨A, 0, none⟩) ns.length ns.length, .slice (some ⟨P, 0, none⟩) ns.length ns.length, .slice (some ⟨B, 0, none⟩) ns.length ns.length, .slice none 0 0]) ∧
    Hid (BoxT 4 wx A cA) ∧ Hid (BoxT 3 wx P cP) ∧ Hid (BoxT 34 wx B cB) ∧ Hid (Below w.heap.size w wx))
  case first =>
    go_region
    all_goals
      go_wp2_with fail
      go_meet
      refine ⟨_, _, _, _, rfl, ?_, ?_, ?_, ?_, (four _ _ _ _ _).2.2.2, ?_, ?_, ?_, ?_⟩
      · omega
      · omega
      · omega
      · omega
      · first
        | exact (four _ _ _ _ _).1
        | exact (four _ _ _ _ _).2.1
        | exact (four _ _ _ _ _).2.2.1
      · first
        | exact (four _ _ _ _ _).1
        | exact (four _ _ _ _ _).2.1
        | exact (four _ _ _ _ _).2.2.1
      · first
        | exact (four _ _ _ _ _).1
        | exact (four _ _ _ _ _).2.1
        | exact (four _ _ _ _ _).2.2.1
      · exact (((((Below.refl _ _).alloc (Nat.le_refl _) _).alloc (by simp) _).alloc (by simp; omega) _).alloc (by simp; omega) _).drew
  case rest =>
  obtain ⟨K, A, P, B, rfl, kK, kA, kP, kB, b1, b2, b3, b4, b5⟩ := hcut
  have hbs := b5.out.size
  obtain ⟨cF, hcF⟩ : ∃ f : Nat → Array Value, ∀ k, ((List.range k ++ List.replicate (ns.length - k) 0).map fun x : Nat => Value.int .i64 (x : Int)).toArray = f k := ⟨_, fun _ => rfl⟩
  have hc0 : Hid (cP = cF 0) := (show cP = cF 0 by rw [← HP.out, ← hcF 0]; simp)
  go_wp2_with fail
  go_loopw [22] (fun iv wr => ∃ k : Nat, k ≤ ns.length ∧ iv = .int .i64 (k : Int) ∧ Hid (BoxT 3 wr wc.heap.size (cF k)) ∧ Hid (Below wc.heap.size wc wr)) (fun iv _ => ns.length - (intOf iv).toNat)
  case atStart => exact ⟨0, Nat.zero_le _, rfl, by rw [← hc0.out]; exact BoxT.new 3 wc cP, (Below.refl _ _).alloc (Nat.le_refl _) _⟩
  case round =>
    obtain ⟨k, hk, rfl, q1, q2⟩ := hrel
    by_cases hlt : k < ns.length
    · have bk : (k : Int) < (ns.length : Int) := by omega
      have cc : ∃ v, wr.cell? ⟨wc.heap.size, k, none⟩ = some v := by
        rw [q1.out.cellAt, ← hcF k]
        exact ⟨_, Array.getElem?_eq_getElem (by simp; omega)⟩
      obtain ⟨v, cc⟩ := cc
      have ff := q1.out.free k
      go_wp2_with fail
      go_roundw
      case rel =>
        refine ⟨k + 1, by omega, by go_num, ?_, q2.out.setCell (Nat.le_refl _) _⟩
        have := q1.out.set k (.int .i64 (k : Int))
        rw [← hcF k, map_set (fun x : Nat => Value.int .i64 (x : Int)), range_set hlt, hcF] at this
        exact this
      case measure => simp [intOf]; omega
    · have hke : k = ns.length := by omega
      subst hke
      have bk : ¬ (ns.length : Int) < (ns.length : Int) := by omega
      have bx : ∀ {b : Nat} {ty : TypeId} {cs : Array Value}, BoxT ty wc b cs → BoxT ty wr b cs := by
        intro b ty cs hb
        have := q2.out.block b hb.lt
        unfold BoxT at *
        rw [this]; exact hb
      have hbel : Below w.heap.size w wr := b5.out.trans (q2.out.mono hbs)
      have ho : OwnN w.heap.size wr (.slice (some ⟨wc.heap.size, 0, none⟩) (List.range ns.length).length ns.length) (List.range ns.length) := by
        refine OwnN.mk hbs q1.out (by simp) (by unfold maxLen; omega) (by rw [← hcF]; simp) (fun i x hx => ?_)
        rw [← hcF]
        simp only [Nat.sub_self, List.replicate_zero, List.append_nil, List.getElem?_toArray, List.getElem?_map, hx]
        rfl
      rw [List.length_range] at ho
      have HLn := Ln.new (base := w.heap.size) (bx b1.out) (by rw [HA.out]; exact bx b2.out) (by rw [HP.out]; exact bx b3.out) (by rw [HB.out]; exact bx b4.out) kK kA kP kB ho (fun e => by have := b3.out.lt; simp [Value.ownBlock] at e; omega)
      have hlm : (ns.map Nd.ins).length = ns.length := by simp
      have hinv := Inv.init (ns.map Nd.ins)
      rw [hlm] at hinv
      have HLK := hide (look_any HLn (List.mem_singleton.2 rfl) (HJ.out.below hbel) hinv hn hbel.size)
      have HBL := hide hbel
      clear hbel ho HLn hinv bx
      go_wp2_with (go_at_call 69; refine HLK.out.mono ?_; rintro e w5 ⟨rfl, vs5, rv5, h5, b6⟩)
      go_ret
      have hst : start (ns.map Nd.ins) = lookP (ns.map Nd.ins) (List.replicate ns.length false) (List.replicate ns.length 0, List.replicate ns.length [], []) (List.range ns.length) := by
        unfold start; rw [hlm]
      rw [hst]
      exact ⟨K, A, P, B, vs5, rv5, rfl, h5.less (by simp), HBL.out.trans b6⟩
end Go.Proofs.Ytfiafbfbiidnlaa
