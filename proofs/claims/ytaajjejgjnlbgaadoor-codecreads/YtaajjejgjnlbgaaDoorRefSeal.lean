import Derived.Test.YtaajjejgjnlbgaaDoorCrc
namespace Go.Proofs.YtaajjejgjnlbgaaDoor
open Go.RowKit

def bstepN : Nat → Nat → Nat
  | 0, c => c
  | k + 1, c => bstep (bstepN k c)
theorem bstepN8 (c : Nat) : bstepN 8 c = nstep (nstep c) := by
  rw [← bstep4, ← bstep4]; rfl
theorem bstep_lt {c : Nat} (hc : c < 4294967296) : bstep c < 4294967296 := by
  unfold bstep
  split
  · exact xor_lt32 (by omega) (by omega)
  · omega
theorem bstepN_lt {c : Nat} (hc : c < 4294967296) (k : Nat) : bstepN k c < 4294967296 := by
  induction k with
  | zero => exact hc
  | succ k ih => exact bstep_lt ih
theorem and1 (z : Nat) (hz : z < 4294967296) : bits .and .u32 (z : Int) 1 = ((z % 2 : Nat) : Int) := by
  have h := u32_and_nat z 1 hz (by omega)
  have e : z &&& 1 = z % 2 := Nat.and_two_pow_sub_one_eq_mod z 1
  rw [e] at h
  exact h

set_option maxHeartbeats 1000000 in
set_option maxRecDepth 100000 in
theorem refSum_core (n b off cap : Nat) (l : List Nat) (w : World) (hl : Hid (l.length = n)) (hn : n ≤ 140737488355328) (hb : Hid (Byts l)) (hc : Hid (∀ (i x : Nat), l[i]? = some x → w.cell? ⟨b, off + i, none⟩ = some (.int .u8 (x : Int)))) :
    Calls Tryd.prog 36 #[.slice (some ⟨b, off, none⟩) n cap] w fun e w' => e = .returned (.int .u32 (crc l : Nat)) ∧ w' = w := by
  go_enter Tryd.func36, Tryd.ntmps36
  go_wp2
  go_loop [3, 4] (fun c i => ∃ k : Nat, k ≤ n ∧ i = .int .i64 k ∧ ∃ y : Nat, Hid ((l.take k).foldl cstep 4294967295 = y) ∧ y < 4294967296 ∧ c = .int .u32 y) (fun _ i => n - (intOf i).toNat)
  case atStart => exact ⟨0, Nat.zero_le _, rfl, 4294967295, rfl, by omega, rfl⟩
  case round =>
    obtain ⟨k, hk, rfl, y, HY, hy, rfl⟩ := hrel
    by_cases hlt : k < n
    · obtain ⟨x, hx⟩ : ∃ x : Nat, l[k]? = some x := ⟨_, List.getElem?_eq_getElem (by have := hl.out; omega)⟩
      have hx256 : x < 256 := hb.out k x hx
      have c1 := hc.out k x hx
      have HX : Hid (l[k]? = some x) := hx
      clear hx
      obtain ⟨z, hzd, hz⟩ : ∃ z : Nat, z = y ^^^ x ∧ z < 4294967296 := ⟨_, rfl, xor_lt32 hy (by omega)⟩
      have e1 : bits .xor .u32 (y : Int) (x : Int) = (z : Int) := by rw [u32_xor_nat _ _ hy (by omega), hzd]
      have HZ : Hid (z = y ^^^ x) := hzd
      clear hzd
      go_wp2
      go_loop [3, 5] (fun c i => ∃ j : Nat, j ≤ 8 ∧ i = .int .i64 j ∧ ∃ q : Nat, Hid (bstepN j z = q) ∧ q < 4294967296 ∧ c = .int .u32 q) (fun _ i => 8 - (intOf i).toNat)
      case atStart => exact ⟨0, by omega, rfl, z, rfl, hz, rfl⟩
      case round =>
        obtain ⟨j, hj, rfl, q, HQ, hq, rfl⟩ := hrel
        by_cases hj8 : j < 8
        · have ea := and1 q hq
          by_cases hodd : q % 2 = 1
          · rw [hodd] at ea
            obtain ⟨q2, hq2d, hq2⟩ : ∃ q2 : Nat, q2 = q / 2 ^^^ 3988292384 ∧ q2 < 4294967296 := ⟨_, rfl, xor_lt32 (by omega) (by omega)⟩
            have e4 : bits .xor .u32 ((q : Int) / 2) 3988292384 = (q2 : Int) := by rw [hq2d]; exact u32_xor_nat (q / 2) 3988292384 (by omega) (by omega)
            have H2 : Hid (bstepN (j + 1) z = q2) := by
              show bstep (bstepN j z) = q2
              rw [HQ.out, hq2d]; unfold bstep; rw [if_pos hodd]
            clear hq2d hodd
            go_wp2
            go_round
            case rel => exact ⟨j + 1, by omega, by go_num, q2, H2, hq2, rfl⟩
            case measure => simp [intOf]; omega
          · have h0 : q % 2 = 0 := by omega
            rw [h0] at ea
            have H2 : Hid (bstepN (j + 1) z = q / 2) := by
              show bstep (bstepN j z) = q / 2
              rw [HQ.out]; unfold bstep; rw [if_neg hodd]
            clear hodd h0
            go_wp2
            go_round
            case rel => exact ⟨j + 1, by omega, by go_num, q / 2, H2, by omega, by go_num⟩
            case measure => simp [intOf]; omega
        · go_wp2
          go_round
          case rel =>
            refine ⟨k + 1, by omega, by go_num, q, ?_, hq, rfl⟩
            show (l.take (k + 1)).foldl cstep 4294967295 = q
            obtain rfl : j = 8 := by omega
            rw [List.take_add_one, HX.out, List.foldl_append, HY.out, ← HQ.out, bstepN8, HZ.out]; rfl
          case measure => simp [intOf]; omega
    · have em : bits .xor .u32 IntKind.u32.max (y : Int) = ((4294967295 ^^^ y : Nat) : Int) := u32_xor_nat 4294967295 y (by omega) hy
      have HM : Hid (bits .xor .u32 IntKind.u32.max (y : Int) = ((4294967295 ^^^ y : Nat) : Int)) := em
      clear em
      go_wp2
      go_ret
      refine ⟨?_, rfl⟩
      have : crc l = 4294967295 ^^^ y := by
        unfold crc
        rw [← HY.out, List.take_of_length_le (by have := hl.out; omega)]
      rw [this]
      exact congrArg (fun q => Ending.returned (Value.int .u32 q)) HM.out

set_option maxHeartbeats 1000000 in
set_option maxRecDepth 100000 in
theorem refSum_any (v : Value) (l : List Nat) (w : World) (h : Seg w v l) (hb : Byts l) :
    Calls Tryd.prog 36 #[v] w fun e w' => e = .returned (.int .u32 (crc l : Nat)) ∧ w' = w := by
  obtain ⟨ao, cap, rfl, h1, h2, h3, h4⟩ := h
  by_cases hl : l = []
  · subst hl
    clear h4
    have em : bits .xor .u32 IntKind.u32.max 4294967295 = ((4294967295 ^^^ 4294967295 : Nat) : Int) := u32_xor_nat 4294967295 4294967295 (by omega) (by omega)
    rw [Nat.xor_self] at em
    simp only [List.length_nil]
    go_enter Tryd.func36, Tryd.ntmps36
    go_wp2
    refine wp_loop_rounds 1 ?_
    rw [rounds_succ]
    go_wp2
    go_ret
    exact ⟨rfl, rfl⟩
  · rcases h4 with h4 | ⟨b, off, rfl, _, hc⟩
    · exact absurd h4 hl
    · exact refSum_core l.length b off cap l w rfl h3 hb hc

set_option maxHeartbeats 1000000 in
set_option maxRecDepth 100000 in
theorem refSeal_any (v : Value) (l : List Nat) (w : World) (h : Seg w v l) (hb : Byts l) (hl : l.length ≤ 1000000000) :
    Calls Tryd.prog 34 #[v] w fun e w' => ∃ v', e = .returned v' ∧ Own w.heap.size w' v' (sealed l) ∧ Below w.heap.size w w' := by
  have hsb := h.segB
  have HS : Hid (SegB w.heap.size w v l) := hsb
  obtain ⟨ao, cap, rfl, h1, h2, h3, h4⟩ := h
  clear h4 hsb
  have hw : IntKind.u64.wrap (l.length : Int) = l.length := by rw [IntKind.wrap_u64]; omega
  have hc := crc_lt l hb
  have hwc : IntKind.u64.wrap (crc l : Int) = crc l := by rw [IntKind.wrap_u64]; omega
  go_enter Tryd.func34, Tryd.ntmps34
  go_wp2_with fail
  refine (put_at w.heap.size _ [] _ _ w (by omega) (by omega) (by omega) (by simp) (by omega) (Own.nil _ _)).mono ?_
  rintro e w2 ⟨v2, rfl, ho2, hk⟩
  have hz2' := hk.size
  go_wp2_with fail
  refine (refSum_any _ l w2 ((Seg.kept HS.out hk (Nat.le_refl _)).seg (by omega)) hb).mono ?_
  rintro e w3 ⟨rfl, rfl⟩
  go_wp2_with fail
  refine (put_at w.heap.size _ _ _ _ w3 (by omega) (by omega) (by omega) (by simp [be_length]) (by omega) ho2).mono ?_
  rintro e w4 ⟨v4, rfl, ho4, hk4⟩
  have hk := hk.trans hk4
  have hz4' := hk.size
  have hsg := (Seg.kept HS.out hk (Nat.le_refl _)).seg (by omega)
  have HS4 : Hid (Seg w4 (.slice ao l.length cap) l) := hsg
  clear ho2 hk4 hz2' hsg
  go_wp2_with (first | (at_builtin; refine app_seg rfl _ _ rfl w.heap.size _ _ rfl ho4 _ l rfl HS4.out (by simp [be_length]; omega) (by omega) ?_) | fail)
  intro v5 w5 ho5 hk5
  have hbel := (hk.trans hk5).below (Nat.le_refl _)
  go_wp2
  go_ret
  refine ⟨_, rfl, ?_, hbel⟩
  simpa [sealed] using ho5

/-- Place: a number from 0 to n - 1. -/
theorem Place_any (k n : Int) (w : World) (hk : I64 k) (h0 : 0 < n) (h1 : n ≤ 1000000000) :
    Calls Tryd.prog 37 #[.int .i64 k, .int .i64 n] w fun e w' => ∃ p : Nat, e = .returned (.int .i64 p) ∧ (p : Int) < n ∧ w' = w := by
  obtain ⟨k1, k2⟩ := hk
  have hb1 := Int.tmod_lt_of_pos k h0
  have hb2 := Int.lt_tmod_of_pos k h0
  have hne : (n == 0) = false := beq_eq_false_iff_ne.2 (by omega)
  have hne' : ¬ n = 0 := by omega
  by_cases hneg : k.tmod n < 0
  · go_enter Tryd.func37, Tryd.ntmps37
    go_wp2
    go_ret
    refine ⟨(k.tmod n + n).toNat, ?_, ?_, rfl⟩
    · exact congrArg (fun q => Ending.returned (Value.int .i64 q)) (by omega)
    · omega
  · go_enter Tryd.func37, Tryd.ntmps37
    go_wp2
    go_ret
    refine ⟨(k.tmod n).toNat, ?_, ?_, rfl⟩
    · exact congrArg (fun q => Ending.returned (Value.int .i64 q)) (by omega)
    · omega
end Go.Proofs.YtaajjejgjnlbgaaDoor
