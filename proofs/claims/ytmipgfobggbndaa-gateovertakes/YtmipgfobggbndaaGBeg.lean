/-
  begin, arrived.
-/
import Derived.Test.YtmipgfobggbndaaGBar
namespace Go.Proofs.Ytmipgfobggbndaa
open Go.RowKit

/-- Checkpoint n begins. -/
def Gs.beg (s : Gs) (n : Int) (o : Bool) : Gs := { M := s.M, la := n, un := n, ov := o, co := List.replicate s.M.length false, cp := [] }
theorem bls_rep (n : Nat) (b : Bool) : bls (List.replicate n b) = (List.replicate n (Value.bool b)).toArray := by simp [bls]
theorem setL_all {ca : Array Value} {v : Value} {n : Nat} (h : ca.size = n) : setL ca 0 (List.replicate n v) = (List.replicate n v).toArray := by
  apply Array.ext_getElem?
  intro i
  by_cases hi : i < n
  · have hr : (List.replicate n v)[i]? = some v := by simp [hi]
    have := setL_in (List.replicate n v) ca 0 i v (by simp; omega) hr
    rw [Nat.zero_add] at this
    rw [this]
    simp [hi]
  · rw [Array.getElem?_eq_none (by rw [setL_size]; omega), Array.getElem?_eq_none (by simp; omega)]
theorem zeroBool (w : World) : (zeroValue 4).run Try.prog w = .ok (.bool false) w := by
  simp [zeroValue, typeInfo]
  rfl
set_option maxHeartbeats 1000000 in
set_option maxRecDepth 100000 in
theorem begin_any {w : World} {k : Nat} {fp : Nat → Prop} {s : Gs} (h : GA w k fp s) (n : Int) (o : Bool) : Calls Try.prog 37 #[.pointer (some ⟨k, 0, none⟩), .int .u64 n, .bool o] w fun e w' => e = .returned (.tuple #[]) ∧ ∃ fp', GA w' k fp' (s.beg n o) ∧ FT fp fp' w w' := by
  have HG := hide (giveUp_any h)
  have hsn : s.M.length ≤ 64 ∧ 1 ≤ s.M.length := by
    obtain ⟨mb, cb, mi, cv, h, hf⟩ := h
    exact ⟨h.le, h.pos⟩
  clear h
  go_enter Try.func37, Try.ntmps37
  go_upto_region 1 with (go_at_call 28; refine HG.out.mono ?_; rintro e w1 ⟨rfl, fp1, h1, t1⟩)
  obtain ⟨mb, cb, mi, cv, h1, hf⟩ := h1
  obtain ⟨c0, c1, c2, c3, c4, c5, c6⟩ := h1.cells
  have fr := h1.box.free
  have hk : fp1 k := (hf k).2 (.inl rfl)
  have hcb : fp1 cb := (hf cb).2 (.inr (.inr (.inl rfl)))
  have T1 := hide t1
  clear t1
  have X1 := hide h1
  have hF := hide hf
  simp only at c0 c1 c2 c3 c4 c5 c6
  have b1 := ((h1.box.set 1 (.int .u64 n)).set 2 (.int .u64 n)).set 3 (.bool o)
  have m1 := (((h1.mx.other 1 (.int .u64 n) h1.nkm.symm).other 2 (.int .u64 n) h1.nkm.symm)).other 3 (.bool o) h1.nkm.symm
  have k1 := (((h1.cm.other 1 (.int .u64 n) h1.nkc.symm).other 2 (.int .u64 n) h1.nkc.symm)).other 3 (.bool o) h1.nkc.symm
  have o1 := (((h1.cp.otherBox h1.box (by decide) 1 (.int .u64 n)).otherBox (h1.box.set 1 (.int .u64 n)) (by decide) 2 (.int .u64 n))).otherBox ((h1.box.set 1 (.int .u64 n)).set 2 (.int .u64 n)) (by decide) 3 (.bool o)
  have t3 := (((FT.set w1 hk 1 (.int .u64 n)).trans (FT.set _ hk 2 (.int .u64 n)))).trans (FT.set _ hk 3 (.bool o))
  have hclr : ∀ ty, (Builtin.clear_ #[30] ty #[.slice (some ⟨cb, 0, none⟩) s.M.length s.M.length]).run Try.prog (((w1.setCell ⟨k, 1, none⟩ (.int .u64 n)).setCell ⟨k, 2, none⟩ (.int .u64 n)).setCell ⟨k, 3, none⟩ (.bool o)) = .ok (.tuple #[]) ((((w1.setCell ⟨k, 1, none⟩ (.int .u64 n)).setCell ⟨k, 2, none⟩ (.int .u64 n)).setCell ⟨k, 3, none⟩ (.bool o)).setCells cb 0 (List.replicate s.M.length (.bool false))) :=
    fun ty => Lib.run_clear_slice _ 30 4 ty (.bool false) Try.underlying30 zeroBool rfl rfl cb 0 s.M.length s.M.length (by omega) (fun j hj => by
      rw [k1.cellAt, Array.getElem?_eq_getElem (show 0 + j < (bls s.co).size by have := h1.len; simp [bls] at this ⊢; omega)]; rfl) (fun j _ => k1.free _)
  obtain ⟨W3, hW3⟩ : ∃ W3, W3 = (((w1.setCell ⟨k, 1, none⟩ (.int .u64 n)).setCell ⟨k, 2, none⟩ (.int .u64 n)).setCell ⟨k, 3, none⟩ (.bool o)).setCells cb 0 (List.replicate s.M.length (.bool false)) := ⟨_, rfl⟩
  rw [← hW3] at hclr
  have k3 : BoxT 4 W3 cb (bls (List.replicate s.M.length false)) := by
    rw [hW3, bls_rep]
    have := k1.setCells (j := 0) (List.replicate s.M.length (.bool false))
    rw [setL_all (by have := h1.len; simp [bls] at this ⊢; omega)] at this
    exact this
  have g3 := grown_setCells cb (List.replicate s.M.length (Value.bool false)) (((w1.setCell ⟨k, 1, none⟩ (.int .u64 n)).setCell ⟨k, 2, none⟩ (.int .u64 n)).setCell ⟨k, 3, none⟩ (.bool o)) 0
  rw [← hW3] at g3
  have b3 := b1.grown g3 h1.nkc
  have o3 : OwnL 65 8 Ou.cs 0 W3 cv [] := o1.back (fun g e => g3.block g (o1.lt g e) (fun e2 => by obtain ⟨cur, hc⟩ := o1.has g e; exact BoxT.ne (t := 65) (t' := 4) hc k1 (by decide) (Option.some.inj e2)))
  have m3 := m1.grown g3 h1.nmc
  have T3 := hide (t3.trans (FT.of_grown g3 hcb))
  have d4 : W3.cell? ⟨k, 4, none⟩ = some (.slice (some ⟨cb, 0, none⟩) s.M.length s.M.length) := by rw [b3.cellAt]; simp
  have d5 : W3.cell? ⟨k, 5, none⟩ = some (.int .i64 mi) := by rw [b3.cellAt]; simp
  have fr3 := b3.free
  have HH := hide (And.intro b3 (And.intro m3 k3))
  have HO := hide o3
  clear o1 o3 b1 m1 k1 t3 hW3 k3 g3 b3 m3 h1 hf HG
  go_wp2_with fail
  go_end0
  have b4 := HH.out.1.set 5 (.int .i64 (s.M.length : Int))
  refine ⟨rfl, fp1, ⟨mb, cb, s.M.length, cv, { box := by simpa [Gs.beg] using b4, mx := HH.out.2.1.other 5 _ X1.out.nkm.symm, cm := HH.out.2.2.other 5 _ X1.out.nkc.symm, cp := HO.out.otherBox HH.out.1 (by decide) _ _, len := by simp [Gs.beg], pos := X1.out.pos, le := X1.out.le, mis := fun _ => by simp [Gs.beg] }, hF.out⟩, T1.out.trans (T3.out.trans (FT.set W3 hk 5 _))⟩
/-- How many barriers are missing. -/
def Gs.ms (s : Gs) : Nat := s.co.count false
/-- One more barrier has come. -/
def Gs.arr (s : Gs) : Gs := if s.ms = 0 then { s with un := 0 } else s
/-- The state is kept. -/
def Gs.keeps (s : Gs) : Bool := if s.ov then decide (s.ms + 1 = s.M.length) else decide (s.ms = 0)
def Gs.arrS (s : Gs) : Sn := ⟨if s.keeps then 3 else 0, 0, 0, 0, 0, if s.keeps then s.un else 0, if s.ms = 0 then s.un else 0⟩
end Go.Proofs.Ytmipgfobggbndaa
