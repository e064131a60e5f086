/-
  Texts of the vault, in build order: VTn3.
-/
import Derived.Test.YtbfhcbihgleddaaGreatDoorM43
import Derived.Test.YtbfhcbihgleddaaGreatDoorM42
import Derived.Test.YtbfhcbihgleddaaGreatDoorM45
import Derived.Test.YtbfhcbihgleddaaGreatDoorM46
import Derived.Deep.CutBlock
import Derived.Deep.CutRange
/-
  Helps of the law VaultTorn's walk.
-/
namespace Go.Proofs.YtbfhcbihgleddaaGreatDoor
open Go.RowKit

theorem TV.app {w0 w w1 w' : World} {k V b nf : Nat} {ls : List TnV} {va va' : Value} {t : TnV} (hv : TVv w0 w k V b nf (ls ++ [t])) (hok : ∀ u ∈ ls, TnOk w0.heap.size w0 u) (ht : TnOk w0.heap.size w0 t) (hb : Below w.heap.size w w1) (hrow : Row 30 1 TnV.cs w0.heap.size w1 va ls) (hr : Row 30 1 TnV.cs w0.heap.size w' va' (ls ++ [t])) (hg : w1.grownBy w' va.ownBlock) : TV w0 w' k V b nf (ls ++ [t]) va' := by
  obtain ⟨vt, vw, th, p, h1, h2, h3⟩ := hv.below hb
  refine ⟨⟨vt, vw, th, p, h1, ?_, h3⟩, hr, fun u hu => ?_⟩
  · cases ho : va.ownBlock with
    | none =>
      rw [ho] at hg
      exact h2.below ⟨hg.os, hg.tape, hg.output, hg.size, fun i hi => hg.block i hi (by simp)⟩
    | some g =>
      rw [ho] at hg
      obtain ⟨cur, hc⟩ := hrow.has g ho
      exact h2.law hc (hrow.at g ho) ⟨hg.os, hg.tape, hg.output, hg.size, fun i hi h1 _ => hg.block i hi (by simpa using h1)⟩ (by decide) (by decide) (by decide) (by decide) (by decide) (by decide)
  · rcases List.mem_append.1 hu with h | h
    · exact hok u h
    · rcases List.mem_singleton.1 h with rfl; exact ht
theorem SegB.nil0 (B : Nat) (w : World) : SegB B w (.slice none 0 0) [] := by
  exact ⟨none, 0, rfl, by simp, by simp, by simp, .inl rfl⟩
theorem Tryz.info30' : (Tryz.prog.info? 30).map (fun i => (i.zero, i.size, i.bytes)) = some (some (.slice none 0 0), 1, 24) := by kernel_rfl
theorem bits_xor8 {x y : Nat} (hx : x < 256) (hy : y < 256) : bits BinOp.xor IntKind.u8 (x : Int) (y : Int) = ((x ^^^ y : Nat) : Int) := by
  have h : x ^^^ y < 256 := Nat.xor_lt_two_pow (n := 8) hx hy
  show IntKind.u8.wrap (((BitVec.ofInt 8 (x : Int)) ^^^ (BitVec.ofInt 8 (y : Int))).toNat : Int) = _
  have e1 : (BitVec.ofInt 8 (x : Int)).toNat = x := by simp [BitVec.toNat_ofNat]; omega
  have e2 : (BitVec.ofInt 8 (y : Int)).toNat = y := by simp [BitVec.toNat_ofNat]; omega
  rw [BitVec.toNat_xor, e1, e2]
  unfold IntKind.wrap
  simp [IntKind.bits, IntKind.signed]
  omega
theorem OwnL.lsegG {α : Type} {t sz : Nat} {cs : α → List Value} {base : Nat} {w : World} {v : Value} {xs : List α} (h : OwnL t sz cs base w v xs) (hcs : ∀ x, (cs x).length = sz) (hl : xs.length ≤ 140737488355328) : LSeg sz cs w.heap.size w v xs := by
  rcases Row.of_own h with ⟨rfl, rfl⟩ | ⟨g, off, cap, cur, rfl, h2, h3, h4, h5, h6, h7⟩
  · exact ⟨none, 0, rfl, by simp, .inl rfl⟩
  · refine ⟨_, cap, rfl, hl, .inr ⟨g, off, rfl, h3.lt, fun i x hx j u hu => ?_⟩⟩
    rw [h3.cellAt, Nat.add_assoc]
    exact h7 _ u (flat_get hcs xs i j x u hx hu)
theorem OwnSn.segG {base : Nat} {w : World} {vm vp vc : Value} {s : Sn} (h : OwnSn base w vm vp vc s) (hl : s.marks.length ≤ 140737488355328 ∧ s.panes.length ≤ 140737488355328 ∧ s.outs.length ≤ 140737488355328) : SnSeg w.heap.size w vm vp vc s := ⟨h.m.lsegG (fun _ => rfl) hl.1, h.p.lsegG (fun _ => rfl) hl.2.1, h.c.lsegG (fun _ => rfl) hl.2.2⟩
theorem FX_zero {xs : List Sp} (h : FX xs = []) : xs = [] := by
  cases xs with
  | nil => rfl
  | cons x xs => simp [FX] at h
theorem len_w (l : List SnV) : l.length * 10 ≤ (l.map wSn).sum := by
  induction l with
  | nil => simp
  | cons x l ih => simp only [List.length_cons, List.map_cons, List.sum_cons, wSn]; omega
def stOf (t : TnV) : StV := ⟨0, 0, t.a, t.c, t.l, none, 0, [], none, 0, []⟩
/-- One step with just these parts, as light gets it. -/
theorem sts_one {w : World} {g : Nat} {t : TnV} (h : BoxT 33 w g #[.int .i64 0, .int .i64 0, .slice t.a t.l.length t.c, .slice none 0 0, .slice none 0 0]) (hs : SnsIn w.heap.size w (.slice t.a t.l.length t.c) t.l) : StsIn w.heap.size w (.slice (some ⟨g, 0, none⟩) [stOf t].length 1) [stOf t] := by
  refine ⟨⟨_, 1, rfl, by simp, .inr ⟨g, 0, rfl, h.lt, fun i z hz j u hu => ?_⟩⟩, fun z hz => ?_⟩
  · have hi : i = 0 := by have := (List.getElem?_eq_some_iff.1 hz).1; simp at this; omega
    subst hi
    simp at hz
    subst hz
    rw [h.cellAt, Nat.zero_mul, Nat.add_zero, Nat.zero_add]
    match j, hu with
    | 0, hu | 1, hu | 2, hu | 3, hu | 4, hu => simpa [StV.cs, stOf] using hu
  · rcases List.mem_singleton.1 hz with rfl
    exact ⟨hs, ⟨none, 0, rfl, by simp [stOf], .inl rfl⟩, SegB.nil0 _ _, fun i x hx => by simp [stOf] at hx, rfl⟩
end Go.Proofs.YtbfhcbihgleddaaGreatDoor
