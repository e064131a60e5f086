import Derived.Test.YtaajjejgjnlbgaaDoorBase
namespace Go.Proofs.YtaajjejgjnlbgaaDoor
open Go.RowKit

theorem cast_byte (n k : Nat) : (n : Int) / 2 ^ k % 256 = ((n / 2 ^ k % 256 : Nat) : Int) := by
  simp [Int.natCast_ediv, Int.natCast_emod]

set_option maxHeartbeats 400000 in
set_option maxRecDepth 100000 in
theorem writeNumber_any (base : Nat) (v : Value) (l : List Nat) (size n : Nat) (w : World) (hs : size ≤ 8) (hl : l.length ≤ 10000000000) (hb : base ≤ w.heap.size) (hown : Own base w v l) :
    Calls Tryd.prog 68 #[v, .int .i64 size, .int .u64 n] w fun e w' => ∃ v', e = .returned v' ∧ Own base w' v' (l ++ be size n) ∧ Kept base w w' := by
  go_enter Tryd.func68, Tryd.ntmps68
  go_wp2
  go_loopw [0, 7] (fun v i wr => ∃ k : Nat, k ≤ size ∧ i = .int .i64 ((size : Int) - 1 - k) ∧ Own base wr v (l ++ (be size n).take k) ∧ Kept base w wr) (fun _ i _ => (intOf i + 1).toNat)
  case atStart => exact ⟨0, Nat.zero_le _, by simp, by simpa using hown, Kept.refl _ _⟩
  case round =>
    obtain ⟨k, hk, rfl, hown, hkept⟩ := hrel
    have hkl : ((be size n).take k).length ≤ 8 := by rw [List.length_take, be_length]; omega
    have hsz := hkept.size
    by_cases hlt : k < size
    · go_wp2_with (at_builtin; (rw [cast_byte]); refine app_own rfl _ _ rfl base _ _ rfl (hown.alloc _) ⟨wr.heap.size, 0, none⟩ 1 [n / 2 ^ (8 * (size - 1 - k)) % 256] rfl (one_cell _ _) ?c1 ?c2 ?_)
      case c1 => simp only [List.length_append, List.length_singleton]; omega
      case c2 => simp; omega
      intro v' w1 hown' hk1
      go_wp2
      go_roundw
      case rel => exact ⟨k + 1, by omega, by go_num, by rw [be_take size n k hlt]; exact hown', (hkept.alloc _).trans hk1⟩
      case measure => simp [intOf]; omega
    · go_wp2
      go_ret
      have : k = size := by omega
      subst this
      rw [List.take_of_length_le (by rw [be_length]; omega)] at hown
      exact ⟨_, rfl, hown, hkept⟩
set_option maxHeartbeats 400000 in
set_option maxRecDepth 100000 in
theorem put_any (base : Nat) (v : Value) (l : List Nat) (size n : Nat) (w : World) (hs : size ≤ 8) (hl : l.length ≤ 10000000000) (hb : base ≤ w.heap.size) (hown : Own base w v l) :
    Calls Tryd.prog 41 #[v, .int .i64 size, .int .u64 n] w fun e w' => ∃ v', e = .returned v' ∧ Own base w' v' (l ++ be size n) ∧ Kept base w w' := by
  go_enter Tryd.func41, Tryd.ntmps41
  go_wp2
  go_loopw [0, 7] (fun v i wr => ∃ k : Nat, k ≤ size ∧ i = .int .i64 ((size : Int) - 1 - k) ∧ Own base wr v (l ++ (be size n).take k) ∧ Kept base w wr) (fun _ i _ => (intOf i + 1).toNat)
  case atStart => exact ⟨0, Nat.zero_le _, by simp, by simpa using hown, Kept.refl _ _⟩
  case round =>
    obtain ⟨k, hk, rfl, hown, hkept⟩ := hrel
    have hkl : ((be size n).take k).length ≤ 8 := by rw [List.length_take, be_length]; omega
    have hsz := hkept.size
    by_cases hlt : k < size
    · go_wp2_with (at_builtin; (rw [cast_byte]); refine app_own rfl _ _ rfl base _ _ rfl (hown.alloc _) ⟨wr.heap.size, 0, none⟩ 1 [n / 2 ^ (8 * (size - 1 - k)) % 256] rfl (one_cell _ _) ?c1 ?c2 ?_)
      case c1 => simp only [List.length_append, List.length_singleton]; omega
      case c2 => simp; omega
      intro v' w1 hown' hk1
      go_wp2
      go_roundw
      case rel => exact ⟨k + 1, by omega, by go_num, by rw [be_take size n k hlt]; exact hown', (hkept.alloc _).trans hk1⟩
      case measure => simp [intOf]; omega
    · go_wp2
      go_ret
      have : k = size := by omega
      subst this
      rw [List.take_of_length_le (by rw [be_length]; omega)] at hown
      exact ⟨_, rfl, hown, hkept⟩

theorem writeNumber_at (base : Nat) (v : Value) (l : List Nat) (sz m : Int) (w : World) (h0 : 0 ≤ sz) (hs : sz ≤ 8) (hm : 0 ≤ m) (hl : l.length ≤ 10000000000) (hb : base ≤ w.heap.size) (hown : Own base w v l) :
    Calls Tryd.prog 68 #[v, .int .i64 sz, .int .u64 m] w fun e w' => ∃ v', e = .returned v' ∧ Own base w' v' (l ++ be sz.toNat m.toNat) ∧ Kept base w w' := by
  obtain ⟨a, rfl⟩ := Int.eq_ofNat_of_zero_le h0
  obtain ⟨b, rfl⟩ := Int.eq_ofNat_of_zero_le hm
  exact writeNumber_any base v l a b w (by omega) hl hb hown
theorem put_at (base : Nat) (v : Value) (l : List Nat) (sz m : Int) (w : World) (h0 : 0 ≤ sz) (hs : sz ≤ 8) (hm : 0 ≤ m) (hl : l.length ≤ 10000000000) (hb : base ≤ w.heap.size) (hown : Own base w v l) :
    Calls Tryd.prog 41 #[v, .int .i64 sz, .int .u64 m] w fun e w' => ∃ v', e = .returned v' ∧ Own base w' v' (l ++ be sz.toNat m.toNat) ∧ Kept base w w' := by
  obtain ⟨a, rfl⟩ := Int.eq_ofNat_of_zero_le h0
  obtain ⟨b, rfl⟩ := Int.eq_ofNat_of_zero_le hm
  exact put_any base v l a b w (by omega) hl hb hown

theorem wrap_u64_nonneg (n : Int) : 0 ≤ IntKind.u64.wrap n := by rw [IntKind.wrap_u64]; omega

/-- The bytes of a signed number. -/
def sbe (n : Int) : List Nat := be 8 (IntKind.u64.wrap n).toNat

set_option maxHeartbeats 400000 in
set_option maxRecDepth 100000 in
theorem writeSigned_any (base : Nat) (v : Value) (l : List Nat) (n : Int) (w : World) (hl : l.length ≤ 10000000000) (hb : base ≤ w.heap.size) (hown : Own base w v l) :
    Calls Tryd.prog 69 #[v, .int .i64 n] w fun e w' => ∃ v', e = .returned v' ∧ Own base w' v' (l ++ sbe n) ∧ Kept base w w' := by
  go_enter Tryd.func69, Tryd.ntmps69
  go_wp2_with fail
  refine (writeNumber_at base v l _ _ w (by omega) (by omega) (wrap_u64_nonneg n) hl hb hown).mono ?_
  rintro e w1 ⟨v', rfl, ho, hk⟩
  go_wp2
  go_ret
  exact ⟨_, rfl, ho, hk⟩

set_option maxHeartbeats 400000 in
set_option maxRecDepth 100000 in
theorem writeFlag_any (base : Nat) (v : Value) (l : List Nat) (f : Bool) (w : World) (hl : l.length ≤ 10000000000) (hb : base ≤ w.heap.size) (hown : Own base w v l) :
    Calls Tryd.prog 70 #[v, .bool f] w fun e w' => ∃ v', e = .returned v' ∧ Own base w' v' (l ++ [f.toNat]) ∧ Kept base w w' := by
  cases f
  · go_enter Tryd.func70, Tryd.ntmps70
    go_wp2_with (at_builtin; refine app_own rfl _ _ rfl base _ _ rfl (hown.alloc _) ⟨w.heap.size, 0, none⟩ 1 [0] rfl (one_cell w 0) ?c1 ?c2 ?_)
    case c1 => simp; omega
    case c2 => simp; omega
    intro v' w1 ho hk
    go_wp2
    go_ret
    exact ⟨_, rfl, ho, ((Kept.refl _ _).alloc _).trans hk⟩
  · go_enter Tryd.func70, Tryd.ntmps70
    go_wp2_with (at_builtin; refine app_own rfl _ _ rfl base _ _ rfl (hown.alloc _) ⟨w.heap.size, 0, none⟩ 1 [1] rfl (one_cell w 1) ?c1 ?c2 ?_)
    case c1 => simp; omega
    case c2 => simp; omega
    intro v' w1 ho hk
    go_wp2
    go_ret
    exact ⟨_, rfl, ho, ((Kept.refl _ _).alloc _).trans hk⟩
end Go.Proofs.YtaajjejgjnlbgaaDoor
