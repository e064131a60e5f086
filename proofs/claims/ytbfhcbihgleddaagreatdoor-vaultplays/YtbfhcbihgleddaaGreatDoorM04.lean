/-
  Texts of the vault, in build order: Rd, Num, Rdf, Openf, Openc, Sum.
-/
import Derived.Test.YtbfhcbihgleddaaGreatDoorM02
import Derived.Test.YtbfhcbihgleddaaGreatDoorM03
namespace Go.Proofs.YtbfhcbihgleddaaGreatDoor
open Go.RowKit

/-- v is a slice of just the bytes l, which lie below block B. -/
def SegB (B : Nat) (w : World) (v : Value) (l : List Nat) : Prop :=
  ∃ ao cap, v = .slice ao l.length cap ∧ l.length ≤ cap ∧ cap ≤ 9223372036854775807 ∧ l.length ≤ 140737488355328 ∧ (l = [] ∨ ∃ b off, ao = some ⟨b, off, none⟩ ∧ b < B ∧ ∀ (i x : Nat), l[i]? = some x → w.cell? ⟨b, off + i, none⟩ = some (.int .u8 (x : Int)))
/-- Block R is a reader that has the bytes l left. -/
def Rd (R : Nat) (w : World) (l : List Nat) (bad : Bool) : Prop := ∃ v, BoxT 177 w R #[v, .bool bad] ∧ SegB R w v l
theorem BoxT.cells2 {t : TypeId} {w : World} {k : Nat} {c0 c1 : Value} (h : BoxT t w k #[c0, c1]) : w.cell? ⟨k, 0, none⟩ = some c0 ∧ w.cell? ⟨k, 1, none⟩ = some c1 := by
  unfold BoxT at h
  simp [World.cell?, h]
theorem BoxT.free {t : TypeId} {w : World} {k : Nat} {cs : Array Value} (h : BoxT t w k cs) (j : Nat) : w.frozen? ⟨k, j, none⟩ = false := by
  unfold BoxT at h
  exact frozen_of_row w k j cs t h
theorem BoxT.set {t : TypeId} {w : World} {k : Nat} {cs : Array Value} (h : BoxT t w k cs) (j : Nat) (u : Value) : BoxT t (w.setCell ⟨k, j, none⟩ u) k (cs.setIfInBounds j u) :=
  heap_setCell_same w k j cs t u h
theorem grownBy_set (w : World) (R j : Nat) (u : Value) : w.grownBy (w.setCell ⟨R, j, none⟩ u) (some R) :=
  ⟨rfl, rfl, rfl, by simp, fun k _ hk => Below.heap_setCell w ⟨R, j, none⟩ u k (fun e => hk (by simp [e]))⟩
theorem grownBy_refl (w : World) (r : Option Nat) : w.grownBy w r := ⟨rfl, rfl, rfl, Nat.le_refl _, fun _ _ _ => rfl⟩
theorem grownBy_trans {a b c : World} {r : Option Nat} (h : a.grownBy b r) (k : b.grownBy c r) : a.grownBy c r :=
  ⟨k.os.trans h.os, k.tape.trans h.tape, k.output.trans h.output, Nat.le_trans h.size k.size, fun i hi hne => (k.block i (Nat.lt_of_lt_of_le hi h.size) hne).trans (h.block i hi hne)⟩
theorem grownBy_alloc' (w : World) (o : Obj) (r : Option Nat) : w.grownBy (w.alloc o) r := ⟨rfl, rfl, rfl, by simp, fun k hk _ => Below.heap_alloc w o k hk⟩
theorem grownBy_drew {a w : World} {r : Option Nat} (h : a.grownBy w r) : a.grownBy w.drew r := ⟨h.os, h.tape, h.output, h.size, h.block⟩
theorem SegB.grown {R : Nat} {w w' : World} {v : Value} {l : List Nat} (h : SegB R w v l) (hg : w.grownBy w' (some R)) (hR : R ≤ w.heap.size) : SegB R w' v l := by
  obtain ⟨ao, cap, h1, h2, h3, h3', h4⟩ := h
  refine ⟨ao, cap, h1, h2, h3, h3', ?_⟩
  rcases h4 with h4 | ⟨b, off, h5, h6, h7⟩
  · exact .inl h4
  · exact .inr ⟨b, off, h5, h6, fun i x hi => (World.cell?_of_block (hg.block b (by omega) (by simp; omega))).trans (h7 i x hi)⟩
theorem Rd.lt {R : Nat} {w : World} {l : List Nat} {bad : Bool} (h : Rd R w l bad) : R < w.heap.size := by obtain ⟨v, h, _⟩ := h; exact h.lt

set_option maxHeartbeats 400000 in
set_option maxRecDepth 100000 in
theorem take_no (R : Nat) (w : World) (l : List Nat) (bad : Bool) (size : Nat) (h : Rd R w l bad) (hs : l.length < size) :
    Calls Tryz.prog 111 #[.pointer (some ⟨R, 0, none⟩), .int .i64 size] w fun e w' => e = .returned (.slice none 0 0) ∧ Rd R w' l true ∧ w.grownBy w' (some R) := by
  obtain ⟨v, hbx, hsg⟩ := h
  have hbx' := hbx.set 1 (.bool true)
  have hg := grownBy_set w R 1 (.bool true)
  have hsg' := hsg.grown hg (by have := hbx.lt; omega)
  obtain ⟨ao, cap, rfl, hlc, hcm, hlm, hseg⟩ := hsg
  have HR : Hid (Rd R (w.setCell ⟨R, 1, none⟩ (.bool true)) l true) := ⟨_, hbx', hsg'⟩
  obtain ⟨c0, c1⟩ := hbx.cells2
  have f0 := hbx.free 0
  have f1 := hbx.free 1
  clear hseg hsg' hbx'
  go_enter Tryz.func111, Tryz.ntmps111
  go_wp2
  go_ret
  exact ⟨rfl, HR.out, hg⟩

set_option maxHeartbeats 400000 in
set_option maxRecDepth 100000 in
theorem take_yes (R : Nat) (w : World) (l : List Nat) (bad : Bool) (size : Nat) (h : Rd R w l bad) (hs : size ≤ l.length) :
    Calls Tryz.prog 111 #[.pointer (some ⟨R, 0, none⟩), .int .i64 size] w fun e w' => ∃ v', e = .returned v' ∧ SegB R w' v' (l.take size) ∧ Rd R w' (l.drop size) bad ∧ w.grownBy w' (some R) := by
  obtain ⟨v, hbx, hsg⟩ := h
  have key : ∀ u : Value, (∃ ao' cap', u = .slice ao' (l.drop size).length cap' ∧ (l.drop size).length ≤ cap' ∧ cap' ≤ 9223372036854775807 ∧ (l.length = size ∨ ∃ b off cap, v = .slice (some ⟨b, off, none⟩) l.length cap ∧ ao' = some ⟨b, off + size, none⟩)) → Rd R (w.setCell ⟨R, 0, none⟩ u) (l.drop size) bad ∧ w.grownBy (w.setCell ⟨R, 0, none⟩ u) (some R) := by
    rintro u ⟨ao', cap', rfl, h1, h2, h3⟩
    have hg := grownBy_set w R 0 (.slice ao' (l.drop size).length cap')
    refine ⟨⟨_, hbx.set 0 _, ?_⟩, hg⟩
    refine SegB.grown ?_ hg (by have := hbx.lt; omega)
    obtain ⟨ao, cap, hv, hlc, hcm, hlm, hseg⟩ := hsg
    refine ⟨ao', cap', rfl, h1, h2, by simp; omega, ?_⟩
    rcases h3 with h3 | ⟨b, off, cap2, h4, h5⟩
    · exact .inl (by apply List.drop_eq_nil_of_le; omega)
    · rcases hseg with rfl | ⟨b', off', h6, h7, h8⟩
      · exact .inl (by simp)
      · rw [hv] at h4
        simp only [Value.slice.injEq, h6, Option.some.injEq, Addr.mk.injEq] at h4
        obtain ⟨⟨rfl, rfl, _⟩, _⟩ := h4
        refine .inr ⟨b', off' + size, h5, h7, fun i x hx => ?_⟩
        rw [List.getElem?_drop] at hx
        rw [Nat.add_assoc]
        exact h8 _ x hx
  have HK : Hid (∀ u : Value, (∃ ao' cap', u = .slice ao' (l.drop size).length cap' ∧ (l.drop size).length ≤ cap' ∧ cap' ≤ 9223372036854775807 ∧ (l.length = size ∨ ∃ b off cap, v = .slice (some ⟨b, off, none⟩) l.length cap ∧ ao' = some ⟨b, off + size, none⟩)) → Rd R (w.setCell ⟨R, 0, none⟩ u) (l.drop size) bad ∧ w.grownBy (w.setCell ⟨R, 0, none⟩ u) (some R)) := key
  clear key
  obtain ⟨ao, cap, rfl, hlc, hcm, hlm, hseg⟩ := hsg
  have HSG : Hid (l = [] ∨ ∃ b off, ao = some ⟨b, off, none⟩ ∧ b < R ∧ ∀ (i x : Nat), l[i]? = some x → w.cell? ⟨b, off + i, none⟩ = some (.int .u8 (x : Int))) := hseg
  have hR := hbx.lt
  obtain ⟨c0, c1⟩ := hbx.cells2
  have f0 := hbx.free 0
  have f1 := hbx.free 1
  have hao : l = [] ∨ ∃ b off, ao = some ⟨b, off, none⟩ := hseg.imp id fun ⟨b, off, h, _⟩ => ⟨b, off, h⟩
  clear hseg hbx
  rcases hao with rfl | ⟨b, off, rfl⟩
  · have : size = 0 := by simpa using hs
    subst this
    simp only [List.length_nil, List.drop_nil, List.take_nil] at *
    have hk := HK.out (.slice ao 0 cap) ⟨ao, cap, rfl, by simp, hcm, .inl (by simp)⟩
    have hsg : SegB R (w.setCell ⟨R, 0, none⟩ (.slice ao 0 cap)) (.slice ao 0 cap) [] := ⟨ao, cap, rfl, by simp, hcm, by simp, .inl rfl⟩
    have HF : Hid (SegB R (w.setCell ⟨R, 0, none⟩ (.slice ao 0 cap)) (.slice ao 0 cap) [] ∧ Rd R (w.setCell ⟨R, 0, none⟩ (.slice ao 0 cap)) [] bad ∧ w.grownBy (w.setCell ⟨R, 0, none⟩ (.slice ao 0 cap)) (some R)) := ⟨hsg, hk⟩
    clear hk hsg HK HSG
    rcases ao with _ | ad
    · go_enter Tryz.func111, Tryz.ntmps111
      go_wp2
      go_ret
      exact ⟨_, rfl, HF.out⟩
    · go_enter Tryz.func111, Tryz.ntmps111
      go_wp2
      go_ret
      exact ⟨_, rfl, HF.out⟩
  · have hseg0 : ∀ cp, size ≤ cp → cp ≤ 9223372036854775807 → SegB R w (.slice (some ⟨b, off, none⟩) size cp) (l.take size) := fun cp h1 h2 =>
      ⟨some ⟨b, off, none⟩, cp, by simp [List.length_take, Nat.min_eq_left hs], by simp; omega, h2, by simp; omega, (HSG.out).imp (fun h => by simp [h]) fun ⟨b', off', h3, h4, h5⟩ => ⟨b', off', h3, h4, fun i x hx => h5 i x (by
        rw [List.getElem?_take] at hx
        split at hx
        · exact hx
        · cases hx)⟩⟩
    have HS0 : Hid (∀ cp, size ≤ cp → cp ≤ 9223372036854775807 → SegB R w (.slice (some ⟨b, off, none⟩) size cp) (l.take size)) := hseg0
    clear hseg0 HSG
    go_enter Tryz.func111, Tryz.ntmps111
    go_wp2
    · go_ret
      have hk := HK.out (.slice (some ⟨b, off, none⟩) (l.length - size) 0) ⟨_, _, by rw [List.length_drop], by simp; omega, by omega, .inl (by omega)⟩
      exact ⟨_, rfl, (HS0.out _ (Nat.le_refl _) (by omega)).grown hk.2 (by omega), hk⟩
    · go_ret
      have hk := HK.out (.slice (some ⟨b, off + size, none⟩) (l.length - size) (cap - size)) ⟨_, _, by rw [List.length_drop], by simp; omega, by omega, .inr ⟨b, off, _, rfl, rfl⟩⟩
      exact ⟨_, rfl, (HS0.out _ (by omega) (by omega)).grown hk.2 (by omega), hk⟩
end Go.Proofs.YtbfhcbihgleddaaGreatDoor
namespace Go.Proofs.YtbfhcbihgleddaaGreatDoor
open Go.RowKit
def val (l : List Nat) : Nat := l.foldl (fun n c => n * 256 + c) 0
def Byts (l : List Nat) : Prop := ∀ (i x : Nat), l[i]? = some x → x < 256

set_option maxHeartbeats 400000 in
set_option maxRecDepth 100000 in
theorem number_no (R : Nat) (w : World) (l : List Nat) (bad : Bool) (size : Nat) (h : Rd R w l bad) (hs : l.length < size) :
    Calls Tryz.prog 110 #[.pointer (some ⟨R, 0, none⟩), .int .i64 size] w fun e w' => e = .returned (.int .u64 0) ∧ Rd R w' l true ∧ w.grownBy w' (some R) := by
  go_enter Tryz.func110, Tryz.ntmps110
  go_wp2_with fail
  refine (take_no R w l bad size h hs).mono ?_
  rintro e w1 ⟨rfl, hr, hg⟩
  go_wp2
  refine wp_loop_rounds 1 ?_
  rw [rounds_succ]
  go_wp2
  go_ret
  exact ⟨rfl, hr, hg⟩

theorem val_snoc (l : List Nat) (x : Nat) : val (l ++ [x]) = val l * 256 + x := by simp [val]
theorem val_take (l : List Nat) (k x : Nat) (h : l[k]? = some x) : val (l.take (k + 1)) = val (l.take k) * 256 + x := by
  rw [List.take_add_one, h]; exact val_snoc _ _
theorem val_lt (l : List Nat) (hb : Byts l) : ∀ k, k ≤ l.length → val (l.take k) < 256 ^ k := by
  intro k
  induction k with
  | zero => intro _; simp [val]
  | succ k ih =>
    intro hk
    obtain ⟨x, hx⟩ : ∃ x : Nat, l[k]? = some x := ⟨_, List.getElem?_eq_getElem (by omega)⟩
    have := hb k x hx
    have := ih (by omega)
    rw [val_take l k x hx, Nat.pow_succ]
    omega
theorem or_byte (n x : Nat) (hx : x < 256) : n * 256 ||| x = n * 256 + x := by
  have h := Nat.shiftLeft_add_eq_or_of_lt (b := x) (i := 8) (by omega) n
  rw [Nat.shiftLeft_eq] at h
  exact h.symm
theorem step_u64 (n x : Nat) (hn : n < 256 ^ 7) (hx : x < 256) : bits .or .u64 (IntKind.u64.wrap ((n : Int) * 256)) (x : Int) = ((n * 256 + x : Nat) : Int) := by
  have h7 : (256 : Nat) ^ 7 = 72057594037927936 := by decide
  rw [h7] at hn
  have e : IntKind.u64.wrap ((n : Int) * 256) = ((n * 256 : Nat) : Int) := by rw [IntKind.wrap_u64]; omega
  rw [e, u64_or_nat _ _ (by omega) (by omega), or_byte n x hx]

set_option maxHeartbeats 400000 in
set_option maxRecDepth 100000 in
theorem number_yes (R : Nat) (w : World) (l : List Nat) (bad : Bool) (size : Nat) (h : Rd R w l bad) (hs : size ≤ l.length) (h8 : size ≤ 8) (h0 : 0 < size) (hb : Byts l) :
    Calls Tryz.prog 110 #[.pointer (some ⟨R, 0, none⟩), .int .i64 size] w fun e w' => e = .returned (.int .u64 (val (l.take size))) ∧ Rd R w' (l.drop size) bad ∧ w.grownBy w' (some R) := by
  go_enter Tryz.func110, Tryz.ntmps110
  go_wp2_with fail
  refine (take_yes R w l bad size h hs).mono ?_
  rintro e w1 ⟨v', rfl, hsg, hr, hg⟩
  have hlen : (l.take size).length = size := by simp; omega
  obtain ⟨ao, cap, rfl, hlc, hcm, hlm, hseg⟩ := hsg
  rcases hseg with hseg | ⟨b, off, rfl, hb1, hcell⟩
  · rw [hseg] at hlen; simp at hlen; omega
  rw [hlen] at *
  have HC : Hid (∀ (i x : Nat), (l.take size)[i]? = some x → w1.cell? ⟨b, off + i, none⟩ = some (.int .u8 (x : Int))) := hcell
  have HB : Hid (Byts l) := hb
  clear hcell hb h hlen
  go_wp2
  go_loopw [5, 12] (fun n i wr => ∃ k : Nat, k ≤ size ∧ i = .int .i64 k ∧ n = .int .u64 (val (l.take k)) ∧ wr = w1) (fun _ i _ => size - (intOf i).toNat)
  case atStart => exact ⟨0, Nat.zero_le _, rfl, rfl, rfl⟩
  case round =>
    obtain ⟨k, hk, rfl, rfl, rfl⟩ := hrel
    by_cases hlt : k < size
    · obtain ⟨x, hx⟩ : ∃ x : Nat, l[k]? = some x := ⟨_, List.getElem?_eq_getElem (by omega)⟩
      have hx256 : x < 256 := HB.out k x hx
      have hc := HC.out k x (by rw [List.getElem?_take, if_pos hlt]; exact hx)
      have HX : Hid (l[k]? = some x) := hx
      clear hx
      go_wp2
      go_roundw
      case rel =>
        refine ⟨k + 1, by omega, by go_num, ?_, trivial⟩
        rw [val_take l k x HX.out, step_u64 _ _ ?_ hx256]
        exact Nat.lt_of_lt_of_le (val_lt l HB.out k (by omega)) (Nat.pow_le_pow_right (by omega) (by omega))
      case measure => simp [intOf]; omega
    · go_wp2
      go_ret
      obtain rfl : k = size := by omega
      exact ⟨rfl, hr, hg⟩

/-- A reader's state: what is left, and whether something was wrong. -/
def num (k : Nat) (s : List Nat × Bool) : Nat × (List Nat × Bool) := if k ≤ s.1.length then (val (s.1.take k), (s.1.drop k, s.2)) else (0, (s.1, true))
theorem num_yes {k : Nat} {s : List Nat × Bool} (h : k ≤ s.1.length) : num k s = (val (s.1.take k), (s.1.drop k, s.2)) := if_pos h
theorem num_no {k : Nat} {s : List Nat × Bool} (h : ¬ k ≤ s.1.length) : num k s = (0, (s.1, true)) := if_neg h
def RdS (R : Nat) (w : World) (s : List Nat × Bool) : Prop := Rd R w s.1 s.2 ∧ Byts s.1
theorem Byts.drop {l : List Nat} (h : Byts l) (k : Nat) : Byts (l.drop k) := fun i x hx => h (k + i) x (by rw [List.getElem?_drop] at hx; exact hx)
theorem RdS.lt {R : Nat} {w : World} {s : List Nat × Bool} (h : RdS R w s) : R < w.heap.size := h.1.lt

theorem number_any {R : Nat} {w : World} {s : List Nat × Bool} {sz : Int} (h : RdS R w s) (h1 : 0 < sz) (h8 : sz ≤ 8) :
    Calls Tryz.prog 110 #[.pointer (some ⟨R, 0, none⟩), .int .i64 sz] w fun e w' => e = .returned (.int .u64 ((num sz.toNat s).1 : Nat)) ∧ RdS R w' (num sz.toNat s).2 ∧ w.grownBy w' (some R) := by
  obtain ⟨k, rfl⟩ := Int.eq_ofNat_of_zero_le (show 0 ≤ sz by omega)
  show Calls Tryz.prog 110 _ w fun e w' => e = .returned (.int .u64 ((num k s).1 : Nat)) ∧ RdS R w' (num k s).2 ∧ w.grownBy w' (some R)
  by_cases hk : k ≤ s.1.length
  · rw [num_yes hk]
    refine (number_yes R w s.1 s.2 k h.1 hk (by omega) (by omega) h.2).mono ?_
    rintro e w' ⟨rfl, hr, hg⟩
    exact ⟨rfl, ⟨hr, h.2.drop _⟩, hg⟩
  · rw [num_no hk]
    refine (number_no R w s.1 s.2 k h.1 (by omega)).mono ?_
    rintro e w' ⟨rfl, hr, hg⟩
    exact ⟨rfl, ⟨hr, h.2⟩, hg⟩

theorem num_lt {k : Nat} {s : List Nat × Bool} (hb : Byts s.1) : (num k s).1 < 256 ^ k := by
  by_cases hk : k ≤ s.1.length
  · rw [num_yes hk]; exact val_lt _ hb k hk
  · rw [num_no hk]; exact Nat.pow_pos (by omega)

/-- A number of 8 bytes, as a signed one. -/
def i64of (n : Nat) : Int := wrap64 (n : Int)

set_option maxHeartbeats 400000 in
set_option maxRecDepth 100000 in
theorem readSigned_any {R : Nat} {w : World} {s : List Nat × Bool} (h : RdS R w s) :
    Calls Tryz.prog 137 #[.pointer (some ⟨R, 0, none⟩)] w fun e w' => e = .returned (.int .i64 (i64of (num 8 s).1)) ∧ RdS R w' (num 8 s).2 ∧ w.grownBy w' (some R) := by
  go_enter Tryz.func137, Tryz.ntmps137
  go_wp2_with fail
  refine (number_any h (by omega) (by omega)).mono ?_
  rintro e w' ⟨rfl, hr, hg⟩
  go_wp2
  go_ret
  exact ⟨rfl, hr, hg⟩

/-- A reader that is told that something is wrong. -/
theorem RdS.bad {R : Nat} {w : World} {s : List Nat × Bool} (h : RdS R w s) : RdS R (w.setCell ⟨R, 1, none⟩ (.bool true)) (s.1, true) := by
  obtain ⟨⟨v, hbx, hsg⟩, hb⟩ := h
  exact ⟨⟨v, hbx.set 1 (.bool true), hsg.grown (grownBy_set w R 1 _) (by have := hbx.lt; omega)⟩, hb⟩
theorem RdS.cells {R : Nat} {w : World} {s : List Nat × Bool} (h : RdS R w s) : ∃ ao cap, w.cell? ⟨R, 0, none⟩ = some (.slice ao s.1.length cap) ∧ w.cell? ⟨R, 1, none⟩ = some (.bool s.2) ∧ w.frozen? ⟨R, 1, none⟩ = false := by
  obtain ⟨⟨v, hbx, ao, cap, rfl, _⟩, hb⟩ := h
  exact ⟨ao, cap, hbx.cells2.1, hbx.cells2.2, hbx.free 1⟩

def rFlag (s : List Nat × Bool) : Bool × (List Nat × Bool) := (decide ((num 1 s).1 = 1), if 1 < (num 1 s).1 then ((num 1 s).2.1, true) else (num 1 s).2)

set_option maxHeartbeats 400000 in
set_option maxRecDepth 100000 in
theorem readFlag_any {R : Nat} {w : World} {s : List Nat × Bool} (h : RdS R w s) :
    Calls Tryz.prog 169 #[.pointer (some ⟨R, 0, none⟩)] w fun e w' => e = .returned (.bool (rFlag s).1) ∧ RdS R w' (rFlag s).2 ∧ w.grownBy w' (some R) := by
  unfold rFlag
  have hnum := number_any (sz := 1) h (by omega) (by omega)
  rw [show (1 : Int).toNat = 1 from rfl] at hnum
  generalize num 1 s = p at *
  obtain ⟨n, s'⟩ := p
  simp only at *
  have HN := hnum
  clear hnum
  by_cases hn : 1 < n
  · rw [if_pos hn]
    go_enter Tryz.func169, Tryz.ntmps169
    go_wp2_with fail
    refine HN.mono ?_
    rintro e w1 ⟨rfl, hr, hg⟩
    clear HN
    obtain ⟨ao, cap, c0, c1, f1⟩ := hr.cells
    have hrb := hr.bad
    have HR : Hid (RdS R (w1.setCell ⟨R, 1, none⟩ (.bool true)) (s'.1, true)) := hrb
    have hg' := grownBy_trans hg (grownBy_set w1 R 1 (.bool true))
    clear hr hrb
    go_wp2
    go_ret
    refine ⟨ret_bool ?_, HR.out, hg'⟩
    rw [decide_eq_false (by omega), beq_eq_false_iff_ne.2 (by omega)]
  · rw [if_neg hn]
    by_cases h1 : n = 1
    · subst h1
      go_enter Tryz.func169, Tryz.ntmps169
      go_wp2_with fail
      refine HN.mono ?_
      rintro e w1 ⟨rfl, hr, hg⟩
      clear HN
      go_wp2
      go_ret
      exact ⟨rfl, hr, hg⟩
    · obtain rfl : n = 0 := by omega
      go_enter Tryz.func169, Tryz.ntmps169
      go_wp2_with fail
      refine HN.mono ?_
      rintro e w1 ⟨rfl, hr, hg⟩
      clear HN
      go_wp2
      go_ret
      exact ⟨rfl, hr, hg⟩
end Go.Proofs.YtbfhcbihgleddaaGreatDoor
namespace Go.Proofs.YtbfhcbihgleddaaGreatDoor
open Go.RowKit
/-- A frame. -/
structure Frm where
  kd : Int
  ke : Int
  ti : Int
  va : Int
  ma : Int
  n : Int
  ov : Bool
def Frm.cs (f : Frm) : Array Value := #[.int .i64 f.kd, .int .i64 f.ke, .int .i64 f.ti, .int .i64 f.va, .int .i64 f.ma, .int .u64 f.n, .bool f.ov]
def Frm.val (f : Frm) : Value := .agg f.cs
def rFrame (s : List Nat × Bool) : Frm × (List Nat × Bool) :=
  if (num 1 s).1 = 1 then (⟨1, i64of (num 8 (num 1 s).2).1, i64of (num 8 (num 8 (num 1 s).2).2).1, i64of (num 8 (num 8 (num 8 (num 1 s).2).2).2).1, 0, 0, false⟩, (num 8 (num 8 (num 8 (num 1 s).2).2).2).2)
  else if (num 1 s).1 = 2 then (⟨2, 0, 0, 0, i64of (num 8 (num 1 s).2).1, 0, false⟩, (num 8 (num 1 s).2).2)
  else if (num 1 s).1 = 3 then (⟨3, 0, 0, 0, 0, (num 8 (num 1 s).2).1, (rFlag (num 8 (num 1 s).2).2).1⟩, (rFlag (num 8 (num 1 s).2).2).2)
  else (⟨(num 1 s).1, 0, 0, 0, 0, 0, false⟩, ((num 1 s).2.1, true))

theorem BoxT.grown {t : TypeId} {w w' : World} {k R : Nat} {cs : Array Value} (h : BoxT t w k cs) (hg : w.grownBy w' (some R)) (hne : k ≠ R) : BoxT t w' k cs := by
  unfold BoxT at *
  rw [hg.block k (Array.getElem?_eq_some_iff.1 h).1 (by simpa using hne)]; exact h
theorem RdS.keep {R : Nat} {w w' : World} {s : List Nat × Bool} (h : RdS R w s) (hb : ∀ i, i ≤ R → w'.heap[i]? = w.heap[i]?) : RdS R w' s := by
  obtain ⟨⟨v, hbx, ao, cap, rfl, h1, h2, h3, h4⟩, hbs⟩ := h
  refine ⟨⟨_, ?_, ao, cap, rfl, h1, h2, h3, ?_⟩, hbs⟩
  · unfold BoxT at *; rw [hb R (Nat.le_refl _)]; exact hbx
  · rcases h4 with h4 | ⟨b, off, h5, h6, h7⟩
    · exact .inl h4
    · exact .inr ⟨b, off, h5, h6, fun i x hi => (World.cell?_of_block (hb b (by omega))).trans (h7 i x hi)⟩
theorem RdS.alloc {R : Nat} {w : World} {s : List Nat × Bool} (h : RdS R w s) (o : Obj) : RdS R (w.alloc o) s := h.keep fun i hi => Below.heap_alloc w o i (by have := h.lt; omega)
theorem RdS.set {R : Nat} {w : World} {s : List Nat × Bool} (h : RdS R w s) (k j : Nat) (u : Value) (hk : R < k) : RdS R (w.setCell ⟨k, j, none⟩ u) s := h.keep fun i hi => Below.heap_setCell w ⟨k, j, none⟩ u i (by show i ≠ k; omega)
theorem grown_set {a w : World} {r : Option Nat} (h : a.grownBy w r) (k j : Nat) (u : Value) (hk : a.heap.size ≤ k) : a.grownBy (w.setCell ⟨k, j, none⟩ u) r :=
  ⟨h.os, h.tape, h.output, by have := h.size; simpa using this, fun i hi hne => (Below.heap_setCell w ⟨k, j, none⟩ u i (by show i ≠ k; omega)).trans (h.block i hi hne)⟩
theorem grown_alloc {a w : World} {r : Option Nat} (h : a.grownBy w r) (o : Obj) : a.grownBy (w.alloc o) r := grownBy_trans h (grownBy_alloc' w o r)
theorem BoxT.cells7 {t : TypeId} {w : World} {k : Nat} {c0 c1 c2 c3 c4 c5 c6 : Value} (h : BoxT t w k #[c0, c1, c2, c3, c4, c5, c6]) :
    w.cell? ⟨k, 0, none⟩ = some c0 ∧ w.cell? ⟨k, 1, none⟩ = some c1 ∧ w.cell? ⟨k, 2, none⟩ = some c2 ∧ w.cell? ⟨k, 3, none⟩ = some c3 ∧ w.cell? ⟨k, 4, none⟩ = some c4 ∧ w.cell? ⟨k, 5, none⟩ = some c5 ∧ w.cell? ⟨k, 6, none⟩ = some c6 := by
  unfold BoxT at h
  simp [World.cell?, h]

/-- In the midst of readFrame: the reader, the frame's box kF, the result's box. -/
structure RF (R : Nat) (w0 w : World) (kF : Nat) (cs : Array Value) (s : List Nat × Bool) : Prop where
  rd : RdS R w s
  bF : BoxT 149 w kF cs
  bA : ∃ a0 a1 a2 a3 a4 a5 a6, BoxT 149 w w0.heap.size #[a0, a1, a2, a3, a4, a5, a6]
  gr : w0.grownBy w (some R)
  kl : w0.heap.size < kF
  rl : R < w0.heap.size
theorem RF.call {R : Nat} {w0 w w' : World} {kF : Nat} {cs : Array Value} {s s' : List Nat × Bool} (h : RF R w0 w kF cs s) (hr : RdS R w' s') (hg : w.grownBy w' (some R)) : RF R w0 w' kF cs s' := by
  have := h.kl
  have := h.rl
  obtain ⟨a0, a1, a2, a3, a4, a5, a6, hA⟩ := h.bA
  exact ⟨hr, h.bF.grown hg (by omega), ⟨a0, a1, a2, a3, a4, a5, a6, hA.grown hg (by omega)⟩, grownBy_trans h.gr hg, h.kl, h.rl⟩
theorem BoxT.other {t : TypeId} {w : World} {k k' : Nat} {cs : Array Value} (h : BoxT t w k cs) (j : Nat) (u : Value) (hk : k ≠ k') : BoxT t (w.setCell ⟨k', j, none⟩ u) k cs := by
  unfold BoxT at *
  rw [Below.heap_setCell w ⟨k', j, none⟩ u k hk]; exact h
theorem RF.set {R : Nat} {w0 w : World} {kF : Nat} {cs : Array Value} {s : List Nat × Bool} (h : RF R w0 w kF cs s) (j : Nat) (u : Value) : RF R w0 (w.setCell ⟨kF, j, none⟩ u) kF (cs.setIfInBounds j u) s := by
  have := h.kl
  have := h.rl
  obtain ⟨a0, a1, a2, a3, a4, a5, a6, hA⟩ := h.bA
  exact ⟨h.rd.set _ _ _ (by omega), h.bF.set _ _, ⟨a0, a1, a2, a3, a4, a5, a6, hA.other _ _ (by omega)⟩, grown_set h.gr _ _ _ (by omega), h.kl, h.rl⟩
theorem RF.bad {R : Nat} {w0 w : World} {kF : Nat} {cs : Array Value} {s : List Nat × Bool} (h : RF R w0 w kF cs s) : RF R w0 (w.setCell ⟨R, 1, none⟩ (.bool true)) kF cs (s.1, true) :=
  h.call h.rd.bad (grownBy_set _ _ _ _)
theorem RF.cells {R : Nat} {w0 w : World} {kF : Nat} {c0 c1 c2 c3 c4 c5 c6 : Value} {s : List Nat × Bool} (h : RF R w0 w kF #[c0, c1, c2, c3, c4, c5, c6] s) :
    (w.cell? ⟨kF, 0, none⟩ = some c0 ∧ w.cell? ⟨kF, 1, none⟩ = some c1 ∧ w.cell? ⟨kF, 2, none⟩ = some c2 ∧ w.cell? ⟨kF, 3, none⟩ = some c3 ∧ w.cell? ⟨kF, 4, none⟩ = some c4 ∧ w.cell? ⟨kF, 5, none⟩ = some c5 ∧ w.cell? ⟨kF, 6, none⟩ = some c6) ∧
      ∀ j, w.frozen? ⟨kF, j, none⟩ = false := ⟨h.bF.cells7, fun j => h.bF.free j⟩
theorem RF.start {R : Nat} {w0 w1 : World} {ca cs : Array Value} {s : List Nat × Bool} (hca : ∃ a0 a1 a2 a3 a4 a5 a6, ca = #[a0, a1, a2, a3, a4, a5, a6]) (hR : R < w0.heap.size) (hr : RdS R w1 s) (hg : (w0.alloc (.cells ca 149)).grownBy w1 (some R)) :
    RF R w0 (w1.alloc (.cells cs 149)) w1.heap.size cs s := by
  obtain ⟨a0, a1, a2, a3, a4, a5, a6, rfl⟩ := hca
  have hz := hg.size
  simp only [World.size_alloc] at hz
  exact ⟨hr.alloc _, BoxT.new _ _ _, ⟨a0, a1, a2, a3, a4, a5, a6, ((BoxT.new 149 w0 _).grown hg (by omega)).alloc _⟩, grown_alloc (grownBy_trans (grownBy_alloc' _ _ _) hg) _, by omega, hR⟩

/-- The frame is stored into the result's box. -/
theorem RF.fin {R : Nat} {w0 w : World} {kF : Nat} {cs : Array Value} {s : List Nat × Bool} (h : RF R w0 w kF cs s) (v0 v1 v2 v3 v4 v5 v6 : Value) (W : World)
    (hW : W = (((((((w.setCell ⟨w0.heap.size, 0, none⟩ v0).setCell ⟨w0.heap.size, 1, none⟩ v1).setCell ⟨w0.heap.size, 2, none⟩ v2).setCell ⟨w0.heap.size, 3, none⟩ v3).setCell ⟨w0.heap.size, 4, none⟩ v4).setCell ⟨w0.heap.size, 5, none⟩ v5).setCell ⟨w0.heap.size, 6, none⟩ v6)) :
    RdS R W s ∧ w0.grownBy W (some R) ∧ BoxT 149 W w0.heap.size #[v0, v1, v2, v3, v4, v5, v6] := by
  subst hW
  have hR := h.rl
  obtain ⟨a0, a1, a2, a3, a4, a5, a6, hA⟩ := h.bA
  refine ⟨((((((h.rd.set _ _ _ hR).set _ _ _ hR).set _ _ _ hR).set _ _ _ hR).set _ _ _ hR).set _ _ _ hR).set _ _ _ hR, ?_, ?_⟩
  · exact grown_set (grown_set (grown_set (grown_set (grown_set (grown_set (grown_set h.gr _ _ _ (Nat.le_refl _)) _ _ _ (Nat.le_refl _)) _ _ _ (Nat.le_refl _)) _ _ _ (Nat.le_refl _)) _ _ _ (Nat.le_refl _)) _ _ _ (Nat.le_refl _)) _ _ _ (Nat.le_refl _)
  · have h0 : BoxT 149 _ _ #[v0, a1, a2, a3, a4, a5, a6] := hA.set 0 v0
    have h1 : BoxT 149 _ _ #[v0, v1, a2, a3, a4, a5, a6] := h0.set 1 v1
    have h2 : BoxT 149 _ _ #[v0, v1, v2, a3, a4, a5, a6] := h1.set 2 v2
    have h3 : BoxT 149 _ _ #[v0, v1, v2, v3, a4, a5, a6] := h2.set 3 v3
    have h4 : BoxT 149 _ _ #[v0, v1, v2, v3, v4, a5, a6] := h3.set 4 v4
    have h5 : BoxT 149 _ _ #[v0, v1, v2, v3, v4, v5, a6] := h4.set 5 v5
    exact h5.set 6 v6

set_option maxHeartbeats 1600000 in
set_option maxRecDepth 100000 in
theorem readFrame_any {R : Nat} {w : World} {s : List Nat × Bool} (h : RdS R w s) :
    Calls Tryz.prog 159 #[.pointer (some ⟨R, 0, none⟩)] w fun e w' => e = .returned (rFrame s).1.val ∧ RdS R w' (rFrame s).2 ∧ w.grownBy w' (some R) := by
  have hR := h.lt
  have n0 := fun o => number_any (sz := 1) (h.alloc o) (by omega) (by omega)
  rw [show (1 : Int).toNat = 1 from rfl] at n0
  unfold rFrame
  have hb0 := num_lt (k := 1) h.2
  generalize num 1 s = p0 at *
  obtain ⟨kd, s0⟩ := p0
  simp only at *
  have N0 := n0
  clear n0
  by_cases h1 : kd = 1
  · subst h1
    simp only [if_true]
    go_enter Tryz.func159, Tryz.ntmps159
    go_wp2_with fail
    refine (N0 _).mono ?_
    rintro e w1 ⟨rfl, hr1, hg1⟩
    have q := RF.start (cs := #[.int .i64 1, .int .i64 0, .int .i64 0, .int .i64 0, .int .i64 0, .int .u64 0, .bool false]) ⟨_, _, _, _, _, _, _, rfl⟩ hR hr1 hg1
    clear N0 hg1 hr1
    go_wp2_with fail
    refine (readSigned_any q.rd).mono ?_
    rintro e w2 ⟨rfl, hr, hg⟩
    have q := q.call hr hg
    obtain ⟨⟨c0, c1, c2, c3, c4, c5, c6⟩, fr⟩ := q.cells
    have q := q.set 1 (.int .i64 (i64of (num 8 s0).1))
    clear hg hr
    go_wp2_with fail
    refine (readSigned_any q.rd).mono ?_
    rintro e w3 ⟨rfl, hr, hg⟩
    have q := q.call hr hg
    clear c0 c1 c2 c3 c4 c5 c6 fr
    obtain ⟨⟨c0, c1, c2, c3, c4, c5, c6⟩, fr⟩ := q.cells
    have q := q.set 2 (.int .i64 (i64of (num 8 (num 8 s0).2).1))
    clear hg hr
    go_wp2_with fail
    refine (readSigned_any q.rd).mono ?_
    rintro e w4 ⟨rfl, hr, hg⟩
    have q := q.call hr hg
    clear c0 c1 c2 c3 c4 c5 c6 fr
    obtain ⟨⟨c0, c1, c2, c3, c4, c5, c6⟩, fr⟩ := q.cells
    have q := q.set 3 (.int .i64 (i64of (num 8 (num 8 (num 8 s0).2).2).1))
    clear c0 c1 c2 c4 c5 c6
    obtain ⟨⟨e0, e1, e2, e3, e4, e5, e6⟩, fr'⟩ := q.cells
    obtain ⟨a0, a1, a2, a3, a4, a5, a6, bA⟩ := q.bA
    obtain ⟨d0, d1, d2, d3, d4, d5, d6⟩ := bA.cells7
    have fa := bA.free
    clear hg hr
    go_wp2
    obtain ⟨hrd, hgr, bx⟩ := q.fin (.int .i64 1) (.int .i64 (i64of (num 8 s0).1)) (.int .i64 (i64of (num 8 (num 8 s0).2).1)) (.int .i64 (i64of (num 8 (num 8 (num 8 s0).2).2).1)) (.int .i64 0) (.int .u64 0) (.bool false) _ rfl
    obtain ⟨x0, x1, x2, x3, x4, x5, x6⟩ := bx.cells7
    exact bodyPost_ret (v := Frm.val ⟨1, i64of (num 8 s0).1, i64of (num 8 (num 8 s0).2).1, i64of (num 8 (num 8 (num 8 s0).2).2).1, 0, 0, false⟩) (by simp [results, Tryz.results159, go_sem, x0, x1, x2, x3, x4, x5, x6, Frm.val, Frm.cs]) rfl ⟨rfl, hrd, hgr⟩
  by_cases h2 : kd = 2
  · subst h2
    simp only [if_true, show ¬ (2 : Nat) = 1 from by decide, if_false]
    go_enter Tryz.func159, Tryz.ntmps159
    go_wp2_with fail
    refine (N0 _).mono ?_
    rintro e w1 ⟨rfl, hr1, hg1⟩
    have q := RF.start (cs := #[.int .i64 2, .int .i64 0, .int .i64 0, .int .i64 0, .int .i64 0, .int .u64 0, .bool false]) ⟨_, _, _, _, _, _, _, rfl⟩ hR hr1 hg1
    clear N0 hg1 hr1
    go_wp2_with fail
    refine (readSigned_any q.rd).mono ?_
    rintro e w2 ⟨rfl, hr, hg⟩
    have q := q.call hr hg
    obtain ⟨⟨c0, c1, c2, c3, c4, c5, c6⟩, fr⟩ := q.cells
    have q := q.set 4 (.int .i64 (i64of (num 8 s0).1))
    clear c0 c1 c2 c3 c5 c6
    obtain ⟨⟨e0, e1, e2, e3, e4, e5, e6⟩, fr'⟩ := q.cells
    obtain ⟨a0, a1, a2, a3, a4, a5, a6, bA⟩ := q.bA
    obtain ⟨d0, d1, d2, d3, d4, d5, d6⟩ := bA.cells7
    have fa := bA.free
    clear hg hr
    go_wp2
    obtain ⟨hrd, hgr, bx⟩ := q.fin (.int .i64 2) (.int .i64 0) (.int .i64 0) (.int .i64 0) (.int .i64 (i64of (num 8 s0).1)) (.int .u64 0) (.bool false) _ rfl
    obtain ⟨x0, x1, x2, x3, x4, x5, x6⟩ := bx.cells7
    exact bodyPost_ret (v := Frm.val ⟨2, 0, 0, 0, i64of (num 8 s0).1, 0, false⟩) (by simp [results, Tryz.results159, go_sem, x0, x1, x2, x3, x4, x5, x6, Frm.val, Frm.cs]) rfl ⟨rfl, hrd, hgr⟩
  by_cases h3 : kd = 3
  · subst h3
    simp only [if_true, show ¬ (3 : Nat) = 1 from by decide, show ¬ (3 : Nat) = 2 from by decide, if_false]
    go_enter Tryz.func159, Tryz.ntmps159
    go_wp2_with fail
    refine (N0 _).mono ?_
    rintro e w1 ⟨rfl, hr1, hg1⟩
    have q := RF.start (cs := #[.int .i64 3, .int .i64 0, .int .i64 0, .int .i64 0, .int .i64 0, .int .u64 0, .bool false]) ⟨_, _, _, _, _, _, _, rfl⟩ hR hr1 hg1
    clear N0 hg1 hr1
    go_wp2_with fail
    refine (number_any (sz := 8) q.rd (by omega) (by omega)).mono ?_
    rintro e w2 ⟨rfl, hr, hg⟩
    rw [show (8 : Int).toNat = 8 from rfl] at *
    have q := q.call hr hg
    obtain ⟨⟨c0, c1, c2, c3, c4, c5, c6⟩, fr⟩ := q.cells
    have q := q.set 5 (.int .u64 ((num 8 s0).1 : Nat))
    clear hg hr
    go_wp2_with fail
    refine (readFlag_any q.rd).mono ?_
    rintro e w3 ⟨rfl, hr, hg⟩
    have q := q.call hr hg
    clear c0 c1 c2 c3 c4 c5 c6 fr
    obtain ⟨⟨c0, c1, c2, c3, c4, c5, c6⟩, fr⟩ := q.cells
    have q := q.set 6 (.bool (rFlag (num 8 s0).2).1)
    clear c0 c1 c2 c3 c4 c5
    obtain ⟨⟨e0, e1, e2, e3, e4, e5, e6⟩, fr'⟩ := q.cells
    obtain ⟨a0, a1, a2, a3, a4, a5, a6, bA⟩ := q.bA
    obtain ⟨d0, d1, d2, d3, d4, d5, d6⟩ := bA.cells7
    have fa := bA.free
    clear hg hr
    go_wp2
    obtain ⟨hrd, hgr, bx⟩ := q.fin (.int .i64 3) (.int .i64 0) (.int .i64 0) (.int .i64 0) (.int .i64 0) (.int .u64 ((num 8 s0).1 : Nat)) (.bool (rFlag (num 8 s0).2).1) _ rfl
    obtain ⟨x0, x1, x2, x3, x4, x5, x6⟩ := bx.cells7
    exact bodyPost_ret (v := Frm.val ⟨3, 0, 0, 0, 0, (num 8 s0).1, (rFlag (num 8 s0).2).1⟩) (by simp [results, Tryz.results159, go_sem, x0, x1, x2, x3, x4, x5, x6, Frm.val, Frm.cs]) rfl ⟨rfl, hrd, hgr⟩
  · have e1 : ((kd : Int) == 1) = false := beq_eq_false_iff_ne.2 (by omega)
    have e2 : ((kd : Int) == 2) = false := beq_eq_false_iff_ne.2 (by omega)
    have e3 : ((kd : Int) == 3) = false := beq_eq_false_iff_ne.2 (by omega)
    simp only [h1, h2, h3, if_false]
    have hw : wrap64 (kd : Int) = kd := by unfold wrap64; omega
    go_enter Tryz.func159, Tryz.ntmps159
    go_wp2_with fail
    refine (N0 _).mono ?_
    rintro e w1 ⟨rfl, hr1, hg1⟩
    have q := RF.start (cs := #[.int .i64 kd, .int .i64 0, .int .i64 0, .int .i64 0, .int .i64 0, .int .u64 0, .bool false]) ⟨_, _, _, _, _, _, _, rfl⟩ hR hr1 hg1
    clear N0 hg1 hr1
    obtain ⟨ao, cap, r0, r1, rf⟩ := q.rd.cells
    have q := q.bad
    obtain ⟨⟨e0, e1, e2, e3, e4, e5, e6⟩, fr'⟩ := q.cells
    obtain ⟨a0, a1, a2, a3, a4, a5, a6, bA⟩ := q.bA
    obtain ⟨d0, d1, d2, d3, d4, d5, d6⟩ := bA.cells7
    have fa := bA.free
    go_wp2
    obtain ⟨hrd, hgr, bx⟩ := q.fin (.int .i64 kd) (.int .i64 0) (.int .i64 0) (.int .i64 0) (.int .i64 0) (.int .u64 0) (.bool false) _ rfl
    obtain ⟨x0, x1, x2, x3, x4, x5, x6⟩ := bx.cells7
    exact bodyPost_ret (v := Frm.val ⟨kd, 0, 0, 0, 0, 0, false⟩) (by simp [results, Tryz.results159, go_sem, x0, x1, x2, x3, x4, x5, x6, Frm.val, Frm.cs]) rfl ⟨rfl, hrd, hgr⟩
end Go.Proofs.YtbfhcbihgleddaaGreatDoor
namespace Go.Proofs.YtbfhcbihgleddaaGreatDoor
open Go.RowKit
def Frm.zero : Frm := ⟨0, 0, 0, 0, 0, 0, false⟩
def done (s : List Nat × Bool) : Bool := !s.2 && s.1.isEmpty

theorem RdS.start {w : World} {v : Value} {l : List Nat} (h : Seg w v l) (hb : Byts l) : RdS w.heap.size (w.alloc (.cells #[v, .bool false] 177)) (l, false) := by
  refine ⟨⟨v, BoxT.new _ _ _, ?_⟩, hb⟩
  obtain ⟨ao, cap, h1, h2, h3, h3', h4⟩ := h
  refine ⟨ao, cap, h1, h2, h3, h3', ?_⟩
  rcases h4 with h4 | ⟨b, off, h5, h6, h7⟩
  · exact .inl h4
  · exact .inr ⟨b, off, h5, h6, fun i x hi => by rw [← h7 i x hi]; exact World.cell?_of_block (Below.heap_alloc w _ b h6)⟩

theorem RdS.start_at {w : World} {v : Value} {l : List Nat} {k : Nat} (hk : k = w.heap.size) (h : Seg w v l) (hb : Byts l) : RdS k (w.alloc (.cells #[v, .bool false] 177)) (l, false) := by subst hk; exact RdS.start h hb
theorem Seg.alloc {w : World} {v : Value} {l : List Nat} (h : Seg w v l) (o : Obj) : Seg (w.alloc o) v l := h.below ((Below.refl _ _).alloc (Nat.le_refl _) o)
theorem Below.of_grown {w w' : World} {R B : Nat} (hg : w.grownBy w' (some R)) (hR : B ≤ R) (hB : B ≤ w.heap.size) : Below B w w' :=
  ⟨hg.os, hg.tape, hg.output, hg.size, fun k hk => hg.block k (by omega) (by simp; omega)⟩

/-- A frame is stored into a box. -/
theorem fin7 {w : World} {k : Nat} {a0 a1 a2 a3 a4 a5 a6 : Value} (hA : BoxT 149 w k #[a0, a1, a2, a3, a4, a5, a6]) (v0 v1 v2 v3 v4 v5 v6 : Value) (W : World)
    (hW : W = (((((((w.setCell ⟨k, 0, none⟩ v0).setCell ⟨k, 1, none⟩ v1).setCell ⟨k, 2, none⟩ v2).setCell ⟨k, 3, none⟩ v3).setCell ⟨k, 4, none⟩ v4).setCell ⟨k, 5, none⟩ v5).setCell ⟨k, 6, none⟩ v6)) :
    Below k w W ∧ BoxT 149 W k #[v0, v1, v2, v3, v4, v5, v6] := by
  subst hW
  refine ⟨?_, ?_⟩
  · exact (((((((Below.refl k w).setCell (Nat.le_refl _) _).setCell (Nat.le_refl _) _).setCell (Nat.le_refl _) _).setCell (Nat.le_refl _) _).setCell (Nat.le_refl _) _).setCell (Nat.le_refl _) _).setCell (Nat.le_refl _) _
  · have h0 : BoxT 149 _ _ #[v0, a1, a2, a3, a4, a5, a6] := hA.set 0 v0
    have h1 : BoxT 149 _ _ #[v0, v1, a2, a3, a4, a5, a6] := h0.set 1 v1
    have h2 : BoxT 149 _ _ #[v0, v1, v2, a3, a4, a5, a6] := h1.set 2 v2
    have h3 : BoxT 149 _ _ #[v0, v1, v2, v3, a4, a5, a6] := h2.set 3 v3
    have h4 : BoxT 149 _ _ #[v0, v1, v2, v3, v4, a5, a6] := h3.set 4 v4
    have h5 : BoxT 149 _ _ #[v0, v1, v2, v3, v4, v5, a6] := h4.set 5 v5
    exact h5.set 6 v6

end Go.Proofs.YtbfhcbihgleddaaGreatDoor
namespace Go.Proofs.YtbfhcbihgleddaaGreatDoor
open Go.RowKit

/-- A control message. -/
structure Ctl where
  kd : Int
  ep : Int
  n : Int
  tk : Int
def Ctl.cs (c : Ctl) : Array Value := #[.int .i64 c.kd, .int .u64 c.ep, .int .u64 c.n, .int .i64 c.tk]
def Ctl.val (c : Ctl) : Value := .agg c.cs
def Ctl.zero : Ctl := ⟨0, 0, 0, 0⟩
def rControl (s : List Nat × Bool) : Ctl × (List Nat × Bool) :=
  (⟨(num 1 s).1, (num 8 (num 1 s).2).1, (num 8 (num 8 (num 1 s).2).2).1, (num 2 (num 8 (num 8 (num 1 s).2).2).2).1⟩,
    if 1 ≤ (num 1 s).1 ∧ (num 1 s).1 ≤ 6 then (num 2 (num 8 (num 8 (num 1 s).2).2).2).2 else ((num 2 (num 8 (num 8 (num 1 s).2).2).2).2.1, true))

end Go.Proofs.YtbfhcbihgleddaaGreatDoor
namespace Go.Proofs.YtbfhcbihgleddaaGreatDoor
open Go.RowKit
def nib (j : Nat) : Nat := [0, 498536548, 997073096, 651767980, 1994146192, 1802195444, 1303535960, 1342533948, 3988292384, 4027552580, 3604390888, 3412177804, 2607071920, 2262029012, 2685067896, 3183342108].getD j 0
/-- The table lies where it was laid. -/
def Glob (w : World) : Prop := 0 < w.heap.size ∧ ∀ j : Nat, j < 16 → w.cell? ⟨0, j, none⟩ = some (.int .u32 (nib j : Nat))
def nstep (c : Nat) : Nat := c / 16 ^^^ nib (c % 16)
def cstep (c x : Nat) : Nat := nstep (nstep (c ^^^ x))
def crc (l : List Nat) : Nat := 4294967295 ^^^ l.foldl cstep 4294967295

theorem xor_lt32 {a b : Nat} (ha : a < 4294967296) (hb : b < 4294967296) : a ^^^ b < 4294967296 := Nat.xor_lt_two_pow (n := 32) ha hb
theorem nib_lt (j : Nat) : nib j < 4294967296 := by
  unfold nib
  match j with
  | 0 | 1 | 2 | 3 | 4 | 5 | 6 | 7 | 8 | 9 | 10 | 11 | 12 | 13 | 14 | 15 => decide
  | _ + 16 => simp
theorem and15 (z : Nat) (hz : z < 4294967296) : bits .and .u32 (z : Int) 15 = ((z % 16 : Nat) : Int) := by
  have h := u32_and_nat z 15 hz (by omega)
  have e : z &&& 15 = z % 16 := Nat.and_two_pow_sub_one_eq_mod z 4
  rw [e] at h
  exact h
set_option maxHeartbeats 1000000 in
set_option maxRecDepth 100000 in
theorem Sum_core (n b off cap : Nat) (l : List Nat) (w : World) (hl : Hid (l.length = n)) (hn : n ≤ 140737488355328) (hb : Hid (Byts l)) (hg : Hid (Glob w)) (hc : Hid (∀ (i x : Nat), l[i]? = some x → w.cell? ⟨b, off + i, none⟩ = some (.int .u8 (x : Int)))) :
    Calls Tryz.prog 84 #[.slice (some ⟨b, off, none⟩) n cap] w fun e w' => e = .returned (.int .u32 (crc l : Nat)) ∧ w' = w := by
  go_enter Tryz.func84, Tryz.ntmps84
  go_wp2
  go_loop [3, 8] (fun c i => ∃ k : Nat, k ≤ n ∧ i = .int .i64 k ∧ ∃ y : Nat, Hid ((l.take k).foldl cstep 4294967295 = y) ∧ y < 4294967296 ∧ c = .int .u32 y) (fun _ i => n - (intOf i).toNat)
  case atStart => exact ⟨0, Nat.zero_le _, rfl, 4294967295, rfl, by omega, rfl⟩
  case round =>
    obtain ⟨k, hk, rfl, y, HY, hy, rfl⟩ := hrel
    by_cases hlt : k < n
    · obtain ⟨x, hx⟩ : ∃ x : Nat, l[k]? = some x := ⟨_, List.getElem?_eq_getElem (by have := hl.out; omega)⟩
      have hx256 : x < 256 := hb.out k x hx
      have c1 := hc.out k x hx
      have HX : Hid (l[k]? = some x) := hx
      clear hx
      obtain ⟨z, hzd, hz⟩ : ∃ z : Nat, z = y ^^^ x ∧ z < 4294967296 := ⟨_, rfl, xor_lt32 hy (by omega)⟩
      have e1 : bits .xor .u32 (y : Int) (x : Int) = (z : Int) := by rw [u32_xor_nat _ _ hy (by omega), hzd]
      obtain ⟨m, hmd, hm⟩ : ∃ m : Nat, m = z % 16 ∧ m < 16 := ⟨_, rfl, by omega⟩
      have e2 : bits .and .u32 (z : Int) 15 = (m : Int) := by rw [hmd]; exact and15 z hz
      obtain ⟨t, htd, ht⟩ : ∃ t : Nat, t = nib m ∧ t < 4294967296 := ⟨_, rfl, nib_lt m⟩
      have e3 : w.cell? ⟨0, m, none⟩ = some (.int .u32 (t : Int)) := by rw [htd]; exact hg.out.2 m hm
      obtain ⟨z2, hz2d, hz2⟩ : ∃ z2 : Nat, z2 = z / 16 ^^^ t ∧ z2 < 4294967296 := ⟨_, rfl, xor_lt32 (by omega) ht⟩
      have e4 : bits .xor .u32 ((z : Int) / 16) (t : Int) = (z2 : Int) := by rw [hz2d]; exact u32_xor_nat (z / 16) t (by omega) ht
      obtain ⟨m2, hm2d, hm2⟩ : ∃ m : Nat, m = z2 % 16 ∧ m < 16 := ⟨_, rfl, by omega⟩
      have e5 : bits .and .u32 (z2 : Int) 15 = (m2 : Int) := by rw [hm2d]; exact and15 z2 hz2
      obtain ⟨t2, ht2d, ht2⟩ : ∃ t : Nat, t = nib m2 ∧ t < 4294967296 := ⟨_, rfl, nib_lt m2⟩
      have e6 : w.cell? ⟨0, m2, none⟩ = some (.int .u32 (t2 : Int)) := by rw [ht2d]; exact hg.out.2 m2 hm2
      obtain ⟨z3, hz3d, hz3⟩ : ∃ z3 : Nat, z3 = z2 / 16 ^^^ t2 ∧ z3 < 4294967296 := ⟨_, rfl, xor_lt32 (by omega) ht2⟩
      have e7 : bits .xor .u32 ((z2 : Int) / 16) (t2 : Int) = (z3 : Int) := by rw [hz3d]; exact u32_xor_nat (z2 / 16) t2 (by omega) ht2
      have HZ : Hid (z3 = cstep y x) := by
        show z3 = cstep y x
        rw [hz3d, ht2d, hm2d, hz2d, htd, hmd, hzd]; rfl
      clear hzd hmd htd hz2d hm2d ht2d hz3d
      go_wp2
      go_round
      case rel =>
        refine ⟨k + 1, by omega, by go_num, z3, ?_, hz3, rfl⟩
        show (l.take (k + 1)).foldl cstep 4294967295 = z3
        rw [List.take_add_one, HX.out, HZ.out, List.foldl_append, HY.out]; rfl
      case measure => simp [intOf]; omega
    · have em : bits .xor .u32 IntKind.u32.max (y : Int) = ((4294967295 ^^^ y : Nat) : Int) := u32_xor_nat 4294967295 y (by omega) hy
      have HM : Hid (bits .xor .u32 IntKind.u32.max (y : Int) = ((4294967295 ^^^ y : Nat) : Int)) := em
      clear em
      go_wp2
      go_ret
      refine ⟨?_, rfl⟩
      have : crc l = 4294967295 ^^^ y := by
        unfold crc
        rw [← HY.out, List.take_of_length_le (by have := hl.out; omega)]
      rw [this]
      exact congrArg (fun q => Ending.returned (Value.int .u32 q)) HM.out

set_option maxHeartbeats 1000000 in
set_option maxRecDepth 100000 in
theorem Sum_any (v : Value) (l : List Nat) (w : World) (h : Seg w v l) (hb : Byts l) (hg : Glob w) :
    Calls Tryz.prog 84 #[v] w fun e w' => e = .returned (.int .u32 (crc l : Nat)) ∧ w' = w := by
  obtain ⟨ao, cap, rfl, h1, h2, h3, h4⟩ := h
  by_cases hl : l = []
  · subst hl
    clear h4 hg
    have em : bits .xor .u32 IntKind.u32.max 4294967295 = ((4294967295 ^^^ 4294967295 : Nat) : Int) := u32_xor_nat 4294967295 4294967295 (by omega) (by omega)
    rw [Nat.xor_self] at em
    simp only [List.length_nil]
    go_enter Tryz.func84, Tryz.ntmps84
    go_wp2
    refine wp_loop_rounds 1 ?_
    rw [rounds_succ]
    go_wp2
    go_ret
    exact ⟨rfl, rfl⟩
  · rcases h4 with h4 | ⟨b, off, rfl, _, hc⟩
    · exact absurd h4 hl
    · exact Sum_core l.length b off cap l w rfl h3 hb hg hc
end Go.Proofs.YtbfhcbihgleddaaGreatDoor
