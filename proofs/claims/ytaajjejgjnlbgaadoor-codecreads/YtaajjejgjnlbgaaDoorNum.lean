import Derived.Test.YtaajjejgjnlbgaaDoorRd
namespace Go.Proofs.YtaajjejgjnlbgaaDoor
open Go.RowKit
def val (l : List Nat) : Nat := l.foldl (fun n c => n * 256 + c) 0
def Byts (l : List Nat) : Prop := ∀ (i x : Nat), l[i]? = some x → x < 256

set_option maxHeartbeats 400000 in
set_option maxRecDepth 100000 in
theorem number_no (R : Nat) (w : World) (l : List Nat) (bad : Bool) (size : Nat) (h : Rd R w l bad) (hs : l.length < size) :
    Calls Tryd.prog 65 #[.pointer (some ⟨R, 0, none⟩), .int .i64 size] w fun e w' => e = .returned (.int .u64 0) ∧ Rd R w' l true ∧ w.grownBy w' (some R) := by
  go_enter Tryd.func65, Tryd.ntmps65
  go_wp2_with fail
  refine (take_no R w l bad size h hs).mono ?_
  rintro e w1 ⟨rfl, hr, hg⟩
  go_wp2
  refine wp_loop_rounds 1 ?_
  rw [rounds_succ]
  go_wp2
  go_ret
  exact ⟨rfl, hr, hg⟩

theorem val_snoc (l : List Nat) (x : Nat) : val (l ++ [x]) = val l * 256 + x := by simp [val]
theorem val_take (l : List Nat) (k x : Nat) (h : l[k]? = some x) : val (l.take (k + 1)) = val (l.take k) * 256 + x := by
  rw [List.take_add_one, h]; exact val_snoc _ _
theorem val_lt (l : List Nat) (hb : Byts l) : ∀ k, k ≤ l.length → val (l.take k) < 256 ^ k := by
  intro k
  induction k with
  | zero => intro _; simp [val]
  | succ k ih =>
    intro hk
    obtain ⟨x, hx⟩ : ∃ x : Nat, l[k]? = some x := ⟨_, List.getElem?_eq_getElem (by omega)⟩
    have := hb k x hx
    have := ih (by omega)
    rw [val_take l k x hx, Nat.pow_succ]
    omega
theorem or_byte (n x : Nat) (hx : x < 256) : n * 256 ||| x = n * 256 + x := by
  have h := Nat.shiftLeft_add_eq_or_of_lt (b := x) (i := 8) (by omega) n
  rw [Nat.shiftLeft_eq] at h
  exact h.symm
theorem step_u64 (n x : Nat) (hn : n < 256 ^ 7) (hx : x < 256) : bits .or .u64 (IntKind.u64.wrap ((n : Int) * 256)) (x : Int) = ((n * 256 + x : Nat) : Int) := by
  have h7 : (256 : Nat) ^ 7 = 72057594037927936 := by decide
  rw [h7] at hn
  have e : IntKind.u64.wrap ((n : Int) * 256) = ((n * 256 : Nat) : Int) := by rw [IntKind.wrap_u64]; omega
  rw [e, u64_or_nat _ _ (by omega) (by omega), or_byte n x hx]

set_option maxHeartbeats 400000 in
set_option maxRecDepth 100000 in
theorem number_yes (R : Nat) (w : World) (l : List Nat) (bad : Bool) (size : Nat) (h : Rd R w l bad) (hs : size ≤ l.length) (h8 : size ≤ 8) (h0 : 0 < size) (hb : Byts l) :
    Calls Tryd.prog 65 #[.pointer (some ⟨R, 0, none⟩), .int .i64 size] w fun e w' => e = .returned (.int .u64 (val (l.take size))) ∧ Rd R w' (l.drop size) bad ∧ w.grownBy w' (some R) := by
  go_enter Tryd.func65, Tryd.ntmps65
  go_wp2_with fail
  refine (take_yes R w l bad size h hs).mono ?_
  rintro e w1 ⟨v', rfl, hsg, hr, hg⟩
  have hlen : (l.take size).length = size := by simp; omega
  obtain ⟨ao, cap, rfl, hlc, hcm, hlm, hseg⟩ := hsg
  rcases hseg with hseg | ⟨b, off, rfl, hb1, hcell⟩
  · rw [hseg] at hlen; simp at hlen; omega
  rw [hlen] at *
  have HC : Hid (∀ (i x : Nat), (l.take size)[i]? = some x → w1.cell? ⟨b, off + i, none⟩ = some (.int .u8 (x : Int))) := hcell
  have HB : Hid (Byts l) := hb
  clear hcell hb h hlen
  go_wp2
  go_loopw [5, 12] (fun n i wr => ∃ k : Nat, k ≤ size ∧ i = .int .i64 k ∧ n = .int .u64 (val (l.take k)) ∧ wr = w1) (fun _ i _ => size - (intOf i).toNat)
  case atStart => exact ⟨0, Nat.zero_le _, rfl, rfl, rfl⟩
  case round =>
    obtain ⟨k, hk, rfl, rfl, rfl⟩ := hrel
    by_cases hlt : k < size
    · obtain ⟨x, hx⟩ : ∃ x : Nat, l[k]? = some x := ⟨_, List.getElem?_eq_getElem (by omega)⟩
      have hx256 : x < 256 := HB.out k x hx
      have hc := HC.out k x (by rw [List.getElem?_take, if_pos hlt]; exact hx)
      have HX : Hid (l[k]? = some x) := hx
      clear hx
      go_wp2
      go_roundw
      case rel =>
        refine ⟨k + 1, by omega, by go_num, ?_, trivial⟩
        rw [val_take l k x HX.out, step_u64 _ _ ?_ hx256]
        exact Nat.lt_of_lt_of_le (val_lt l HB.out k (by omega)) (Nat.pow_le_pow_right (by omega) (by omega))
      case measure => simp [intOf]; omega
    · go_wp2
      go_ret
      obtain rfl : k = size := by omega
      exact ⟨rfl, hr, hg⟩

/-- A reader's state: what is left, and whether something was wrong. -/
def num (k : Nat) (s : List Nat × Bool) : Nat × (List Nat × Bool) := if k ≤ s.1.length then (val (s.1.take k), (s.1.drop k, s.2)) else (0, (s.1, true))
theorem num_yes {k : Nat} {s : List Nat × Bool} (h : k ≤ s.1.length) : num k s = (val (s.1.take k), (s.1.drop k, s.2)) := if_pos h
theorem num_no {k : Nat} {s : List Nat × Bool} (h : ¬ k ≤ s.1.length) : num k s = (0, (s.1, true)) := if_neg h
def RdS (R : Nat) (w : World) (s : List Nat × Bool) : Prop := Rd R w s.1 s.2 ∧ Byts s.1
theorem Byts.drop {l : List Nat} (h : Byts l) (k : Nat) : Byts (l.drop k) := fun i x hx => h (k + i) x (by rw [List.getElem?_drop] at hx; exact hx)
theorem RdS.lt {R : Nat} {w : World} {s : List Nat × Bool} (h : RdS R w s) : R < w.heap.size := h.1.lt

theorem number_any {R : Nat} {w : World} {s : List Nat × Bool} {sz : Int} (h : RdS R w s) (h1 : 0 < sz) (h8 : sz ≤ 8) :
    Calls Tryd.prog 65 #[.pointer (some ⟨R, 0, none⟩), .int .i64 sz] w fun e w' => e = .returned (.int .u64 ((num sz.toNat s).1 : Nat)) ∧ RdS R w' (num sz.toNat s).2 ∧ w.grownBy w' (some R) := by
  obtain ⟨k, rfl⟩ := Int.eq_ofNat_of_zero_le (show 0 ≤ sz by omega)
  show Calls Tryd.prog 65 _ w fun e w' => e = .returned (.int .u64 ((num k s).1 : Nat)) ∧ RdS R w' (num k s).2 ∧ w.grownBy w' (some R)
  by_cases hk : k ≤ s.1.length
  · rw [num_yes hk]
    refine (number_yes R w s.1 s.2 k h.1 hk (by omega) (by omega) h.2).mono ?_
    rintro e w' ⟨rfl, hr, hg⟩
    exact ⟨rfl, ⟨hr, h.2.drop _⟩, hg⟩
  · rw [num_no hk]
    refine (number_no R w s.1 s.2 k h.1 (by omega)).mono ?_
    rintro e w' ⟨rfl, hr, hg⟩
    exact ⟨rfl, ⟨hr, h.2⟩, hg⟩

theorem num_lt {k : Nat} {s : List Nat × Bool} (hb : Byts s.1) : (num k s).1 < 256 ^ k := by
  by_cases hk : k ≤ s.1.length
  · rw [num_yes hk]; exact val_lt _ hb k hk
  · rw [num_no hk]; exact Nat.pow_pos (by omega)

/-- A number of 8 bytes, as a signed one. -/
def i64of (n : Nat) : Int := wrap64 (n : Int)

set_option maxHeartbeats 400000 in
set_option maxRecDepth 100000 in
theorem readSigned_any {R : Nat} {w : World} {s : List Nat × Bool} (h : RdS R w s) :
    Calls Tryd.prog 71 #[.pointer (some ⟨R, 0, none⟩)] w fun e w' => e = .returned (.int .i64 (i64of (num 8 s).1)) ∧ RdS R w' (num 8 s).2 ∧ w.grownBy w' (some R) := by
  go_enter Tryd.func71, Tryd.ntmps71
  go_wp2_with fail
  refine (number_any h (by omega) (by omega)).mono ?_
  rintro e w' ⟨rfl, hr, hg⟩
  go_wp2
  go_ret
  exact ⟨rfl, hr, hg⟩

/-- A reader that is told that something is wrong. -/
theorem RdS.bad {R : Nat} {w : World} {s : List Nat × Bool} (h : RdS R w s) : RdS R (w.setCell ⟨R, 1, none⟩ (.bool true)) (s.1, true) := by
  obtain ⟨⟨v, hbx, hsg⟩, hb⟩ := h
  exact ⟨⟨v, hbx.set 1 (.bool true), hsg.grown (grownBy_set w R 1 _) (by have := hbx.lt; omega)⟩, hb⟩
theorem RdS.cells {R : Nat} {w : World} {s : List Nat × Bool} (h : RdS R w s) : ∃ ao cap, w.cell? ⟨R, 0, none⟩ = some (.slice ao s.1.length cap) ∧ w.cell? ⟨R, 1, none⟩ = some (.bool s.2) ∧ w.frozen? ⟨R, 1, none⟩ = false := by
  obtain ⟨⟨v, hbx, ao, cap, rfl, _⟩, hb⟩ := h
  exact ⟨ao, cap, hbx.cells2.1, hbx.cells2.2, hbx.free 1⟩

def rFlag (s : List Nat × Bool) : Bool × (List Nat × Bool) := (decide ((num 1 s).1 = 1), if 1 < (num 1 s).1 then ((num 1 s).2.1, true) else (num 1 s).2)

set_option maxHeartbeats 400000 in
set_option maxRecDepth 100000 in
theorem readFlag_any {R : Nat} {w : World} {s : List Nat × Bool} (h : RdS R w s) :
    Calls Tryd.prog 72 #[.pointer (some ⟨R, 0, none⟩)] w fun e w' => e = .returned (.bool (rFlag s).1) ∧ RdS R w' (rFlag s).2 ∧ w.grownBy w' (some R) := by
  unfold rFlag
  have hnum := number_any (sz := 1) h (by omega) (by omega)
  rw [show (1 : Int).toNat = 1 from rfl] at hnum
  generalize num 1 s = p at *
  obtain ⟨n, s'⟩ := p
  simp only at *
  have HN := hnum
  clear hnum
  by_cases hn : 1 < n
  · rw [if_pos hn]
    go_enter Tryd.func72, Tryd.ntmps72
    go_wp2_with fail
    refine HN.mono ?_
    rintro e w1 ⟨rfl, hr, hg⟩
    clear HN
    obtain ⟨ao, cap, c0, c1, f1⟩ := hr.cells
    have hrb := hr.bad
    have HR : Hid (RdS R (w1.setCell ⟨R, 1, none⟩ (.bool true)) (s'.1, true)) := hrb
    have hg' := grownBy_trans hg (grownBy_set w1 R 1 (.bool true))
    clear hr hrb
    go_wp2
    go_ret
    refine ⟨ret_bool ?_, HR.out, hg'⟩
    rw [decide_eq_false (by omega), beq_eq_false_iff_ne.2 (by omega)]
  · rw [if_neg hn]
    by_cases h1 : n = 1
    · subst h1
      go_enter Tryd.func72, Tryd.ntmps72
      go_wp2_with fail
      refine HN.mono ?_
      rintro e w1 ⟨rfl, hr, hg⟩
      clear HN
      go_wp2
      go_ret
      exact ⟨rfl, hr, hg⟩
    · obtain rfl : n = 0 := by omega
      go_enter Tryd.func72, Tryd.ntmps72
      go_wp2_with fail
      refine HN.mono ?_
      rintro e w1 ⟨rfl, hr, hg⟩
      clear HN
      go_wp2
      go_ret
      exact ⟨rfl, hr, hg⟩
end Go.Proofs.YtaajjejgjnlbgaaDoor
