import Derived.Test.YtaajjejgjnlbgaaDoorOpenc
namespace Go.Proofs.YtaajjejgjnlbgaaDoor
open Go.RowKit
def nib (j : Nat) : Nat := [0, 498536548, 997073096, 651767980, 1994146192, 1802195444, 1303535960, 1342533948, 3988292384, 4027552580, 3604390888, 3412177804, 2607071920, 2262029012, 2685067896, 3183342108].getD j 0
/-- The table lies where it was laid. -/
def Glob (w : World) : Prop := 0 < w.heap.size ∧ ∀ j : Nat, j < 16 → w.cell? ⟨0, j, none⟩ = some (.int .u32 (nib j : Nat))
def nstep (c : Nat) : Nat := c / 16 ^^^ nib (c % 16)
def cstep (c x : Nat) : Nat := nstep (nstep (c ^^^ x))
def crc (l : List Nat) : Nat := 4294967295 ^^^ l.foldl cstep 4294967295

theorem xor_lt32 {a b : Nat} (ha : a < 4294967296) (hb : b < 4294967296) : a ^^^ b < 4294967296 := Nat.xor_lt_two_pow (n := 32) ha hb
theorem nib_lt (j : Nat) : nib j < 4294967296 := by
  unfold nib
  match j with
  | 0 | 1 | 2 | 3 | 4 | 5 | 6 | 7 | 8 | 9 | 10 | 11 | 12 | 13 | 14 | 15 => decide
  | _ + 16 => simp
theorem and15 (z : Nat) (hz : z < 4294967296) : bits .and .u32 (z : Int) 15 = ((z % 16 : Nat) : Int) := by
  have h := u32_and_nat z 15 hz (by omega)
  have e : z &&& 15 = z % 16 := Nat.and_two_pow_sub_one_eq_mod z 4
  rw [e] at h
  exact h
set_option maxHeartbeats 1000000 in
set_option maxRecDepth 100000 in
theorem Sum_core (n b off cap : Nat) (l : List Nat) (w : World) (hl : Hid (l.length = n)) (hn : n ≤ 140737488355328) (hb : Hid (Byts l)) (hg : Hid (Glob w)) (hc : Hid (∀ (i x : Nat), l[i]? = some x → w.cell? ⟨b, off + i, none⟩ = some (.int .u8 (x : Int)))) :
    Calls Tryd.prog 35 #[.slice (some ⟨b, off, none⟩) n cap] w fun e w' => e = .returned (.int .u32 (crc l : Nat)) ∧ w' = w := by
  go_enter Tryd.func35, Tryd.ntmps35
  go_wp2
  go_loop [3, 8] (fun c i => ∃ k : Nat, k ≤ n ∧ i = .int .i64 k ∧ ∃ y : Nat, Hid ((l.take k).foldl cstep 4294967295 = y) ∧ y < 4294967296 ∧ c = .int .u32 y) (fun _ i => n - (intOf i).toNat)
  case atStart => exact ⟨0, Nat.zero_le _, rfl, 4294967295, rfl, by omega, rfl⟩
  case round =>
    obtain ⟨k, hk, rfl, y, HY, hy, rfl⟩ := hrel
    by_cases hlt : k < n
    · obtain ⟨x, hx⟩ : ∃ x : Nat, l[k]? = some x := ⟨_, List.getElem?_eq_getElem (by have := hl.out; omega)⟩
      have hx256 : x < 256 := hb.out k x hx
      have c1 := hc.out k x hx
      have HX : Hid (l[k]? = some x) := hx
      clear hx
      obtain ⟨z, hzd, hz⟩ : ∃ z : Nat, z = y ^^^ x ∧ z < 4294967296 := ⟨_, rfl, xor_lt32 hy (by omega)⟩
      have e1 : bits .xor .u32 (y : Int) (x : Int) = (z : Int) := by rw [u32_xor_nat _ _ hy (by omega), hzd]
      obtain ⟨m, hmd, hm⟩ : ∃ m : Nat, m = z % 16 ∧ m < 16 := ⟨_, rfl, by omega⟩
      have e2 : bits .and .u32 (z : Int) 15 = (m : Int) := by rw [hmd]; exact and15 z hz
      obtain ⟨t, htd, ht⟩ : ∃ t : Nat, t = nib m ∧ t < 4294967296 := ⟨_, rfl, nib_lt m⟩
      have e3 : w.cell? ⟨0, m, none⟩ = some (.int .u32 (t : Int)) := by rw [htd]; exact hg.out.2 m hm
      obtain ⟨z2, hz2d, hz2⟩ : ∃ z2 : Nat, z2 = z / 16 ^^^ t ∧ z2 < 4294967296 := ⟨_, rfl, xor_lt32 (by omega) ht⟩
      have e4 : bits .xor .u32 ((z : Int) / 16) (t : Int) = (z2 : Int) := by rw [hz2d]; exact u32_xor_nat (z / 16) t (by omega) ht
      obtain ⟨m2, hm2d, hm2⟩ : ∃ m : Nat, m = z2 % 16 ∧ m < 16 := ⟨_, rfl, by omega⟩
      have e5 : bits .and .u32 (z2 : Int) 15 = (m2 : Int) := by rw [hm2d]; exact and15 z2 hz2
      obtain ⟨t2, ht2d, ht2⟩ : ∃ t : Nat, t = nib m2 ∧ t < 4294967296 := ⟨_, rfl, nib_lt m2⟩
      have e6 : w.cell? ⟨0, m2, none⟩ = some (.int .u32 (t2 : Int)) := by rw [ht2d]; exact hg.out.2 m2 hm2
      obtain ⟨z3, hz3d, hz3⟩ : ∃ z3 : Nat, z3 = z2 / 16 ^^^ t2 ∧ z3 < 4294967296 := ⟨_, rfl, xor_lt32 (by omega) ht2⟩
      have e7 : bits .xor .u32 ((z2 : Int) / 16) (t2 : Int) = (z3 : Int) := by rw [hz3d]; exact u32_xor_nat (z2 / 16) t2 (by omega) ht2
      have HZ : Hid (z3 = cstep y x) := by
        show z3 = cstep y x
        rw [hz3d, ht2d, hm2d, hz2d, htd, hmd, hzd]; rfl
      clear hzd hmd htd hz2d hm2d ht2d hz3d
      go_wp2
      go_round
      case rel =>
        refine ⟨k + 1, by omega, by go_num, z3, ?_, hz3, rfl⟩
        show (l.take (k + 1)).foldl cstep 4294967295 = z3
        rw [List.take_add_one, HX.out, HZ.out, List.foldl_append, HY.out]; rfl
      case measure => simp [intOf]; omega
    · have em : bits .xor .u32 IntKind.u32.max (y : Int) = ((4294967295 ^^^ y : Nat) : Int) := u32_xor_nat 4294967295 y (by omega) hy
      have HM : Hid (bits .xor .u32 IntKind.u32.max (y : Int) = ((4294967295 ^^^ y : Nat) : Int)) := em
      clear em
      go_wp2
      go_ret
      refine ⟨?_, rfl⟩
      have : crc l = 4294967295 ^^^ y := by
        unfold crc
        rw [← HY.out, List.take_of_length_le (by have := hl.out; omega)]
      rw [this]
      exact congrArg (fun q => Ending.returned (Value.int .u32 q)) HM.out

set_option maxHeartbeats 1000000 in
set_option maxRecDepth 100000 in
theorem Sum_any (v : Value) (l : List Nat) (w : World) (h : Seg w v l) (hb : Byts l) (hg : Glob w) :
    Calls Tryd.prog 35 #[v] w fun e w' => e = .returned (.int .u32 (crc l : Nat)) ∧ w' = w := by
  obtain ⟨ao, cap, rfl, h1, h2, h3, h4⟩ := h
  by_cases hl : l = []
  · subst hl
    clear h4 hg
    have em : bits .xor .u32 IntKind.u32.max 4294967295 = ((4294967295 ^^^ 4294967295 : Nat) : Int) := u32_xor_nat 4294967295 4294967295 (by omega) (by omega)
    rw [Nat.xor_self] at em
    simp only [List.length_nil]
    go_enter Tryd.func35, Tryd.ntmps35
    go_wp2
    refine wp_loop_rounds 1 ?_
    rw [rounds_succ]
    go_wp2
    go_ret
    exact ⟨rfl, rfl⟩
  · rcases h4 with h4 | ⟨b, off, rfl, _, hc⟩
    · exact absurd h4 hl
    · exact Sum_core l.length b off cap l w rfl h3 hb hg hc
end Go.Proofs.YtaajjejgjnlbgaaDoor
