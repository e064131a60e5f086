/-
  Texts of the vault, in build order: Lists.
-/
import Derived.Test.YtbfhcbihgleddaaGreatDoorM09
/-
  Walks over package codec's writers of parts of snapshots: the lists.
-/
namespace Go.Proofs.YtbfhcbihgleddaaGreatDoor
open Go.RowKit

theorem flat_len {α : Type} (enc : α → List Nat) (m : Nat) (h : ∀ x, (enc x).length ≤ m) (xs : List α) : (xs.flatMap enc).length ≤ m * xs.length := by
  induction xs with
  | nil => simp
  | cons x xs ih =>
    have := h x
    simp only [List.flatMap_cons, List.length_append, List.length_cons, Nat.mul_add, Nat.mul_one]; omega
theorem flat_snoc {α : Type} (enc : α → List Nat) (xs : List α) (k : Nat) (x : α) (h : xs[k]? = some x) : (xs.take (k + 1)).flatMap enc = (xs.take k).flatMap enc ++ enc x := by
  rw [List.take_add_one, h, List.flatMap_append]; simp
def ics (n : Int) : List Value := [.int .i64 n]

set_option maxHeartbeats 2000000 in
set_option maxRecDepth 100000 in
theorem writeListI_any (base : Nat) (v : Value) (l : List Nat) (vs : Value) (xs : List (Int)) (w : World) (hl : l.length ≤ 10000000) (hn : xs.length ≤ 65535) (hb : base ≤ w.heap.size) (hown : Own base w v l) (hseg : LSeg 1 ics base w vs xs) :
    Calls Tryz.prog 127 #[v, vs, .func (.func 126) #[] #[]] w fun e w' => ∃ v', e = .returned v' ∧ Own base w' v' (l ++ (be 2 xs.length ++ xs.flatMap sbe)) ∧ Kept base w w' := by
  obtain ⟨ao, cap, rfl, h2, h4⟩ := hseg
  have hw : IntKind.u64.wrap (xs.length : Int) = xs.length := by rw [IntKind.wrap_u64]; omega
  by_cases h0 : xs = []
  · subst h0
    clear h4
    simp only [List.length_nil] at *
    go_enter Tryz.func127, Tryz.ntmps127
    go_wp2_with fail
    refine (writeNumber_at base v l _ _ w (by omega) (by omega) (by omega) (by omega) hb hown).mono ?_
    rintro e w1 ⟨v1, rfl, ho1, hk1⟩
    go_wp2
    refine wp_loop_rounds 1 ?_
    rw [rounds_succ]
    go_wp2
    go_ret
    exact ⟨_, rfl, by simpa using ho1, hk1⟩
  rcases h4 with h4 | ⟨b, off, rfl, hbB, hcell⟩
  · exact absurd h4 h0
  have HC : Hid (∀ (i : Nat) (x : Int), xs[i]? = some x → ∀ (j : Nat) (u : Value), (ics x)[j]? = some u → w.cell? ⟨b, off + i * 1 + j, none⟩ = some u) := hcell
  clear hcell h0
  go_enter Tryz.func127, Tryz.ntmps127
  go_wp2_with fail
  refine (writeNumber_at base v l _ _ w (by omega) (by omega) (by omega) (by omega) hb hown).mono ?_
  rintro e w1 ⟨v1, rfl, ho1, hk1⟩
  generalize hnn : xs.length = n at *
  have HN : Hid (xs.length = n) := hnn
  have ho1 : Own base w1 v1 (l ++ be 2 n) := ho1
  have HO1 : Hid (Own base w1 v1 (l ++ be 2 n)) := ho1
  clear hnn ho1
  go_wp2
  go_loopw [0, 16] (fun v i wr => ∃ k : Nat, k ≤ n ∧ i = .int .i64 k ∧ Own base wr v ((l ++ be 2 n) ++ (xs.take k).flatMap sbe) ∧ Kept base w wr) (fun _ i _ => n - (intOf i).toNat)
  case atStart => exact ⟨0, Nat.zero_le _, rfl, by simpa using HO1.out, hk1⟩
  case round =>
    obtain ⟨k, hk, rfl, hok, hkk⟩ := hrel
    have hzk := hkk.size
    by_cases hlt : k < n
    · obtain ⟨x, hx⟩ : ∃ x : Int, xs[k]? = some x := ⟨_, List.getElem?_eq_getElem (by have := HN.out; omega)⟩
      have hcw : ∀ (j : Nat) (u : Value), (ics x)[j]? = some u → wr.cell? ⟨b, off + k * 1 + j, none⟩ = some u := fun j u hu => (World.cell?_of_block (hkk.block b (by omega) (.inl hbB))).trans (HC.out k x hx j u hu)
      have hc : wr.cell? ⟨b, off + k, none⟩ = some (.int .i64 x) := by have := hcw 0 _ rfl; simpa using this
      have HX : Hid (xs[k]? = some x) := hx
      have HOK : Hid (Own base wr _ ((l ++ be 2 n) ++ (xs.take k).flatMap sbe)) := hok
      have hlen : ((xs.take k).flatMap sbe).length ≤ 8 * k := by
        have := flat_len sbe 8 (fun n => Nat.le_of_eq (sbe_len n)) (xs.take k)
        rw [List.length_take] at this
        exact Nat.le_trans this (Nat.mul_le_mul_left _ (Nat.min_le_left _ _))
      clear hx hok hcw
      go_wp2_with fail
      refine (writeSigned_any base _ _ x wr (by simp only [List.length_append, be_length]; omega) (by omega) HOK.out).mono ?_
      rintro e w3 ⟨v3, rfl, ho3, hk3⟩
      have HO3 : Hid (Own base w3 v3 ((l ++ be 2 n) ++ (xs.take (k + 1)).flatMap sbe)) := by
        show Own _ _ _ _
        rw [flat_snoc sbe xs k x HX.out, ← List.append_assoc]; exact ho3
      have hk3 := hkk.trans hk3
      clear ho3
      go_wp2
      go_roundw
      case rel => exact ⟨k + 1, by omega, by go_num, HO3.out, hk3⟩
      case measure => simp [intOf]; omega
    · go_wp2
      go_ret
      obtain rfl : k = n := by omega
      rw [List.take_of_length_le (by have := HN.out; omega)] at hok
      exact ⟨_, rfl, by rw [HN.out]; simpa using hok, hkk⟩

set_option maxHeartbeats 2000000 in
set_option maxRecDepth 100000 in
theorem writeListP_any (base : Nat) (v : Value) (l : List Nat) (vs : Value) (xs : List (Pn)) (w : World) (hl : l.length ≤ 10000000) (hn : xs.length ≤ 65535) (hb : base ≤ w.heap.size) (hown : Own base w v l) (hseg : LSeg 4 Pn.cs base w vs xs) :
    Calls Tryz.prog 128 #[v, vs, .func (.func 129) #[] #[]] w fun e w' => ∃ v', e = .returned v' ∧ Own base w' v' (l ++ (be 2 xs.length ++ xs.flatMap pnb)) ∧ Kept base w w' := by
  obtain ⟨ao, cap, rfl, h2, h4⟩ := hseg
  have hw : IntKind.u64.wrap (xs.length : Int) = xs.length := by rw [IntKind.wrap_u64]; omega
  by_cases h0 : xs = []
  · subst h0
    clear h4
    simp only [List.length_nil] at *
    go_enter Tryz.func128, Tryz.ntmps128
    go_wp2_with fail
    refine (writeNumber_at base v l _ _ w (by omega) (by omega) (by omega) (by omega) hb hown).mono ?_
    rintro e w1 ⟨v1, rfl, ho1, hk1⟩
    go_wp2
    refine wp_loop_rounds 1 ?_
    rw [rounds_succ]
    go_wp2
    go_ret
    exact ⟨_, rfl, by simpa using ho1, hk1⟩
  rcases h4 with h4 | ⟨b, off, rfl, hbB, hcell⟩
  · exact absurd h4 h0
  have HC : Hid (∀ (i : Nat) (x : Pn), xs[i]? = some x → ∀ (j : Nat) (u : Value), (Pn.cs x)[j]? = some u → w.cell? ⟨b, off + i * 4 + j, none⟩ = some u) := hcell
  clear hcell h0
  go_enter Tryz.func128, Tryz.ntmps128
  go_wp2_with fail
  refine (writeNumber_at base v l _ _ w (by omega) (by omega) (by omega) (by omega) hb hown).mono ?_
  rintro e w1 ⟨v1, rfl, ho1, hk1⟩
  generalize hnn : xs.length = n at *
  have HN : Hid (xs.length = n) := hnn
  have ho1 : Own base w1 v1 (l ++ be 2 n) := ho1
  have HO1 : Hid (Own base w1 v1 (l ++ be 2 n)) := ho1
  clear hnn ho1
  go_wp2
  go_loopw [0, 16] (fun v i wr => ∃ k : Nat, k ≤ n ∧ i = .int .i64 k ∧ Own base wr v ((l ++ be 2 n) ++ (xs.take k).flatMap pnb) ∧ Kept base w wr) (fun _ i _ => n - (intOf i).toNat)
  case atStart => exact ⟨0, Nat.zero_le _, rfl, by simpa using HO1.out, hk1⟩
  case round =>
    obtain ⟨k, hk, rfl, hok, hkk⟩ := hrel
    have hzk := hkk.size
    by_cases hlt : k < n
    · obtain ⟨x, hx⟩ : ∃ x : Pn, xs[k]? = some x := ⟨_, List.getElem?_eq_getElem (by have := HN.out; omega)⟩
      have hcw : ∀ (j : Nat) (u : Value), (Pn.cs x)[j]? = some u → wr.cell? ⟨b, off + k * 4 + j, none⟩ = some u := fun j u hu => (World.cell?_of_block (hkk.block b (by omega) (.inl hbB))).trans (HC.out k x hx j u hu)
      have hc0 : wr.cell? ⟨b, off + k * 4, none⟩ = some (.int .i64 x.ke) := hcw 0 _ rfl
      have hc1 : wr.cell? ⟨b, off + k * 4 + 1, none⟩ = some (.int .i64 x.fr) := hcw 1 _ rfl
      have hc2 : wr.cell? ⟨b, off + k * 4 + 2, none⟩ = some (.int .i64 x.to) := hcw 2 _ rfl
      have hc3 : wr.cell? ⟨b, off + k * 4 + 3, none⟩ = some (.int .i64 x.ac) := hcw 3 _ rfl
      have HX : Hid (xs[k]? = some x) := hx
      have HOK : Hid (Own base wr _ ((l ++ be 2 n) ++ (xs.take k).flatMap pnb)) := hok
      have hlen : ((xs.take k).flatMap pnb).length ≤ 32 * k := by
        have := flat_len pnb 32 (fun p => Nat.le_of_eq (pnb_len p)) (xs.take k)
        rw [List.length_take] at this
        exact Nat.le_trans this (Nat.mul_le_mul_left _ (Nat.min_le_left _ _))
      clear hx hok hcw
      go_wp2_with fail
      refine (writePane_any base _ _ x _ (by simp only [List.length_append, be_length]; omega) (by simp; omega) (HOK.out.alloc _)).mono ?_
      rintro e w3 ⟨v3, rfl, ho3, hk3⟩
      have HO3 : Hid (Own base w3 v3 ((l ++ be 2 n) ++ (xs.take (k + 1)).flatMap pnb)) := by
        show Own _ _ _ _
        rw [flat_snoc pnb xs k x HX.out, ← List.append_assoc]; exact ho3
      have hk3 := (hkk.alloc _).trans hk3
      clear ho3
      go_wp2
      go_roundw
      case rel => exact ⟨k + 1, by omega, by go_num, HO3.out, hk3⟩
      case measure => simp [intOf]; omega
    · go_wp2
      go_ret
      obtain rfl : k = n := by omega
      rw [List.take_of_length_le (by have := HN.out; omega)] at hok
      exact ⟨_, rfl, by rw [HN.out]; simpa using hok, hkk⟩

set_option maxHeartbeats 2000000 in
set_option maxRecDepth 100000 in
theorem writeListO_any (base : Nat) (v : Value) (l : List Nat) (vs : Value) (xs : List (Ot)) (w : World) (hl : l.length ≤ 10000000) (hn : xs.length ≤ 65535) (hf : ∀ o ∈ xs, o.fits = true) (hu : ∀ o ∈ xs, 0 ≤ o.f.n) (hb : base ≤ w.heap.size) (hown : Own base w v l) (hseg : LSeg 8 Ot.cs base w vs xs) :
    Calls Tryz.prog 130 #[v, vs, .func (.func 131) #[] #[]] w fun e w' => ∃ v', e = .returned v' ∧ Own base w' v' (l ++ (be 2 xs.length ++ xs.flatMap otb)) ∧ Kept base w w' := by
  have HF : Hid (∀ o ∈ xs, o.fits = true) := hf
  have HU : Hid (∀ o ∈ xs, 0 ≤ o.f.n) := hu
  clear hf hu
  obtain ⟨ao, cap, rfl, h2, h4⟩ := hseg
  have hw : IntKind.u64.wrap (xs.length : Int) = xs.length := by rw [IntKind.wrap_u64]; omega
  by_cases h0 : xs = []
  · subst h0
    clear h4 HF HU
    simp only [List.length_nil] at *
    go_enter Tryz.func130, Tryz.ntmps130
    go_wp2_with fail
    refine (writeNumber_at base v l _ _ w (by omega) (by omega) (by omega) (by omega) hb hown).mono ?_
    rintro e w1 ⟨v1, rfl, ho1, hk1⟩
    go_wp2
    refine wp_loop_rounds 1 ?_
    rw [rounds_succ]
    go_wp2
    go_ret
    exact ⟨_, rfl, by simpa using ho1, hk1⟩
  rcases h4 with h4 | ⟨b, off, rfl, hbB, hcell⟩
  · exact absurd h4 h0
  have HC : Hid (∀ (i : Nat) (x : Ot), xs[i]? = some x → ∀ (j : Nat) (u : Value), (Ot.cs x)[j]? = some u → w.cell? ⟨b, off + i * 8 + j, none⟩ = some u) := hcell
  clear hcell h0
  go_enter Tryz.func130, Tryz.ntmps130
  go_wp2_with fail
  refine (writeNumber_at base v l _ _ w (by omega) (by omega) (by omega) (by omega) hb hown).mono ?_
  rintro e w1 ⟨v1, rfl, ho1, hk1⟩
  generalize hnn : xs.length = n at *
  have HN : Hid (xs.length = n) := hnn
  have ho1 : Own base w1 v1 (l ++ be 2 n) := ho1
  have HO1 : Hid (Own base w1 v1 (l ++ be 2 n)) := ho1
  clear hnn ho1
  go_wp2
  go_loopw [0, 16] (fun v i wr => ∃ k : Nat, k ≤ n ∧ i = .int .i64 k ∧ Own base wr v ((l ++ be 2 n) ++ (xs.take k).flatMap otb) ∧ Kept base w wr) (fun _ i _ => n - (intOf i).toNat)
  case atStart => exact ⟨0, Nat.zero_le _, rfl, by simpa using HO1.out, hk1⟩
  case round =>
    obtain ⟨k, hk, rfl, hok, hkk⟩ := hrel
    have hzk := hkk.size
    by_cases hlt : k < n
    · obtain ⟨x, hx⟩ : ∃ x : Ot, xs[k]? = some x := ⟨_, List.getElem?_eq_getElem (by have := HN.out; omega)⟩
      have hcw : ∀ (j : Nat) (u : Value), (Ot.cs x)[j]? = some u → wr.cell? ⟨b, off + k * 8 + j, none⟩ = some u := fun j u hu => (World.cell?_of_block (hkk.block b (by omega) (.inl hbB))).trans (HC.out k x hx j u hu)
      have hc0 : wr.cell? ⟨b, off + k * 8, none⟩ = some (.int .i64 x.ch) := hcw 0 _ rfl
      have hc1 : wr.cell? ⟨b, off + k * 8 + 1, none⟩ = some (.int .i64 x.f.kd) := hcw 1 _ rfl
      have hc2 : wr.cell? ⟨b, off + k * 8 + 2, none⟩ = some (.int .i64 x.f.ke) := hcw 2 _ rfl
      have hc3 : wr.cell? ⟨b, off + k * 8 + 3, none⟩ = some (.int .i64 x.f.ti) := hcw 3 _ rfl
      have hc4 : wr.cell? ⟨b, off + k * 8 + 4, none⟩ = some (.int .i64 x.f.va) := hcw 4 _ rfl
      have hc5 : wr.cell? ⟨b, off + k * 8 + 5, none⟩ = some (.int .i64 x.f.ma) := hcw 5 _ rfl
      have hc6 : wr.cell? ⟨b, off + k * 8 + 6, none⟩ = some (.int .u64 x.f.n) := hcw 6 _ rfl
      have hc7 : wr.cell? ⟨b, off + k * 8 + 7, none⟩ = some (.bool x.f.ov) := hcw 7 _ rfl
      have hof := HF.out x (List.mem_of_getElem? hx)
      unfold Ot.fits at hof
      rw [Bool.and_eq_true] at hof
      have hch := of_decide_eq_true hof.1
      have HK : Hid (x.f.kd = 1 ∨ x.f.kd = 2 ∨ x.f.kd = 3) := fits_kind hof.2
      have hun := HU.out x (List.mem_of_getElem? hx)
      obtain ⟨hch0, hch1⟩ := hch
      clear hof
      have HX : Hid (xs[k]? = some x) := hx
      have HOK : Hid (Own base wr _ ((l ++ be 2 n) ++ (xs.take k).flatMap otb)) := hok
      have hlen : ((xs.take k).flatMap otb).length ≤ 27 * k := by
        have := flat_len otb 27 otb_len (xs.take k)
        rw [List.length_take] at this
        exact Nat.le_trans this (Nat.mul_le_mul_left _ (Nat.min_le_left _ _))
      clear hx hok hcw
      go_wp2_with fail
      refine (writeOut_any base _ _ x.ch x.f.kd x.f.ke x.f.ti x.f.va x.f.ma x.f.n x.f.ov _ hch0 hch1 HK hun (by simp only [List.length_append, be_length]; omega) (by simp; omega) (HOK.out.alloc _)).mono ?_
      rintro e w3 ⟨v3, rfl, ho3, hk3⟩
      have HO3 : Hid (Own base w3 v3 ((l ++ be 2 n) ++ (xs.take (k + 1)).flatMap otb)) := by
        show Own _ _ _ _
        rw [flat_snoc otb xs k x HX.out, ← List.append_assoc]; exact ho3
      have hk3 := (hkk.alloc _).trans hk3
      clear ho3
      go_wp2
      go_roundw
      case rel => exact ⟨k + 1, by omega, by go_num, HO3.out, hk3⟩
      case measure => simp [intOf]; omega
    · go_wp2
      go_ret
      obtain rfl : k = n := by omega
      rw [List.take_of_length_le (by have := HN.out; omega)] at hok
      exact ⟨_, rfl, by rw [HN.out]; simpa using hok, hkk⟩
end Go.Proofs.YtbfhcbihgleddaaGreatDoor
