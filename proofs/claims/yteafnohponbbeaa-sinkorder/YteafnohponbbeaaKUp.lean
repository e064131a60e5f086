/-
  sort.Search, upTo.
-/
import Derived.Test.YteafnohponbbeaaKTx
namespace Go.Proofs.Yteafnohponbbeaa
open Go.RowKit

set_option maxHeartbeats 4000000 in
set_option maxRecDepth 100000 in
theorem upC_any {w : World} {KL KF : Nat} {v : Value} {l : List Tx} {n : Nat} (hL : BoxT 63 w KL #[v]) (hF : BoxT 32 w KF #[.int .u64 (n : Int)]) (hl : LSeg 2 Tx.cs w.heap.size w v l) {i : Nat} {x : Tx} (hx : l[i]? = some x) :
    Calls Try.prog 35 #[.int .i64 (i : Int), .pointer (some ⟨KL, 0, none⟩), .pointer (some ⟨KF, 0, none⟩)] w fun e w' => e = .returned (.bool (decide (n < x.n))) ∧ Below w.heap.size w w' := by
  obtain ⟨ao, cap, rfl⟩ := hl.shapeOf
  obtain ⟨nb, no, rfl, nlt, e0, e1⟩ := hl.tx hx
  have hlt := lt_of_get hx
  have bt : (i : Int) < (l.length : Int) := by omega
  have bt0 : (0 : Int) ≤ (i : Int) := by omega
  have c0 : w.cell? ⟨KL, 0, none⟩ = some (.slice (some ⟨nb, no, none⟩) l.length cap) := hL.cells1
  have f0 : w.cell? ⟨KF, 0, none⟩ = some (.int .u64 (n : Int)) := hF.cells1
  obtain ⟨xn, xa, xc, xr⟩ := x
  simp only at *
  clear hl hx hL hF
  go_enter Try.func35, Try.ntmps35
  go_upto_region 1 with fail
  go_quiet (fail)
  go_wp2_with fail
  go_ret
  exact ⟨ret_bool (decide_eq_decide.2 (by omega)), below_drewN (Below.refl _ _) _⟩
theorem runUp (args : Array Value) (W : World) : (callFunc 35 args).run Try.prog W = .ok (.enter 35 args) W := by kernel_rfl
/-- sort.Search where what is asked turns from no to yes once. -/
theorem Search_any {w : World} {n : Nat} (hn : n ≤ 1000000) (F : Nat) (cap : Array Value) (q : Nat → Bool) (hq : ∀ a b, a ≤ b → b < n → q a = true → q b = true)
    (hF : ∀ (args : Array Value) (W : World), (callFunc F args).run Try.prog W = .ok (.enter F args) W)
    (hC : ∀ (w1 : World), Below w.heap.size w w1 → ∀ i : Nat, i < n → Calls Try.prog F (#[.int .i64 (i : Int)] ++ cap) w1 fun e w' => e = .returned (.bool (q i)) ∧ Below w1.heap.size w1 w') :
    Calls Try.prog 34 #[.int .i64 (n : Int), .func (.func F) #[] cap] w fun e w' => (∃ k : Nat, e = .returned (.int .i64 (k : Int)) ∧ k ≤ n ∧ (∀ a, a < k → q a = false) ∧ ∀ a, k ≤ a → a < n → q a = true) ∧ Below w.heap.size w w' := by
  have HC := hide hC
  have HQ := hide hq
  clear hC hq
  go_enter Try.func34, Try.ntmps34
  go_wp2_with fail
  go_loopg [5, 6, 7] (n + 1) (fun gh iv jv _ wr => ∃ i j : Nat, iv = .int .i64 (i : Int) ∧ jv = .int .i64 (j : Int) ∧ i ≤ j ∧ j ≤ n ∧ j + 1 ≤ gh + i ∧ Hid (∀ a, a < i → q a = false) ∧ Hid (∀ a, j ≤ a → a < n → q a = true) ∧ Hid (Below w.heap.size w wr))
  case atStart => exact ⟨0, n, rfl, rfl, by omega, by omega, by omega, (show ∀ a, _ from fun a ha => by omega), (show ∀ a, _ from fun a ha => by omega), Below.refl _ _⟩
  case round =>
    obtain ⟨i, j, rfl, rfl, hij, hjn, hg, HI, HJ, GB⟩ := hrel
    obtain ⟨go, rfl⟩ : ∃ go, gk = go + 1 := ⟨gk - 1, by omega⟩
    have hrun := hF
    by_cases hlt : i < j
    · have bt : (i : Int) < (j : Int) := by omega
      obtain ⟨h, hh⟩ : ∃ h, (i + j) / 2 = h := ⟨_, rfl⟩
      have hh1 : i ≤ h := by omega
      have hh2 : h < j := by omega
      have HH : Hid (((i : Int) + (j : Int)) / 2 = (h : Int)) := (show _ = _ by omega)
      clear hh
      have hC1 := HC.out wr GB.out h (by omega)
      rw [← HH.out] at hC1
      have HC1 := hide hC1
      clear hC1
      cases hb : q h with
      | true =>
        rw [hb] at HC1
        have HB := hide hb
        clear hb
        go_wp2_with (first | (refine HC1.out.mono ?_; rintro e w1 ⟨rfl, b1⟩; have B1 := hide (GB.out.trans (b1.mono GB.out.size)); clear b1) | fail)
        go_roundg go
        case rel => exact ⟨i, h, rfl, by rw [HH.out], by omega, by omega, by omega, HI, (show ∀ a, _ from fun a h1 h2 => HQ.out h a h1 h2 HB.out), B1⟩
        case measure => omega
      | false =>
        rw [hb] at HC1
        have HB := hide hb
        clear hb
        go_wp2_with (first | (refine HC1.out.mono ?_; rintro e w1 ⟨rfl, b1⟩; have B1 := hide (GB.out.trans (b1.mono GB.out.size)); clear b1) | fail)
        go_roundg go
        case rel =>
          refine ⟨h + 1, j, by rw [HH.out]; go_num, rfl, by omega, by omega, by omega, (show ∀ a, _ from fun a ha => ?_), HJ, B1⟩
          cases hqa : q a with
          | false => rfl
          | true => have := HQ.out a h (by omega) (by omega) hqa; rw [HB.out] at this; cases this
        case measure => omega
    · have bt : ¬ (i : Int) < (j : Int) := by omega
      go_wp2_with fail
      go_ret
      exact ⟨⟨i, rfl, by omega, HI.out, fun a h1 h2 => HJ.out a (by omega) h2⟩, GB.out⟩

theorem split_at {n : Nat} : ∀ {l : List Tx} {k : Nat}, k ≤ l.length → (∀ a x, a < k → l[a]? = some x → x.n ≤ n) → (∀ a x, k ≤ a → l[a]? = some x → n < x.n) → l.take k = l.filter (fun x => decide (x.n ≤ n)) ∧ l.drop k = l.filter (fun x => decide (n < x.n))
  | [], k, _, _, _ => by simp
  | x :: l, 0, _, _, h2 => by
    have h3 : ∀ y ∈ x :: l, n < y.n := fun y hy => by
      obtain ⟨a, ha⟩ := List.getElem?_of_mem hy
      exact h2 a y (Nat.zero_le _) ha
    refine ⟨?_, ?_⟩
    · rw [List.take_zero, eq_comm, List.filter_eq_nil_iff]
      intro y hy
      have := h3 y hy
      simp; omega
    · rw [List.drop_zero, eq_comm, List.filter_eq_self]
      intro y hy
      simpa using h3 y hy
  | x :: l, k + 1, hk, h1, h2 => by
    have h3 := h1 0 x (by omega) rfl
    obtain ⟨i1, i2⟩ := split_at (n := n) (k := k) (l := l) (by simpa using hk) (fun a y ha hy => h1 (a + 1) y (by omega) (by simpa using hy)) (fun a y ha hy => h2 (a + 1) y (by omega) (by simpa using hy))
    refine ⟨?_, ?_⟩
    · rw [List.take_succ_cons, i1, List.filter_cons, if_pos (by simpa using h3)]
    · rw [List.drop_succ_cons, i2, List.filter_cons, if_neg (by simp; omega)]
/-- Numbers rise. -/
def Ris (l : List Tx) : Prop := l.Pairwise fun x y => x.n < y.n
theorem Ris.at {l : List Tx} (h : Ris l) {a b : Nat} {x y : Tx} (hab : a ≤ b) (hx : l[a]? = some x) (hy : l[b]? = some y) : x.n ≤ y.n := by
  rcases Nat.lt_or_ge a b with hlt | hge
  · obtain ⟨ha, rfl⟩ := List.getElem?_eq_some_iff.1 hx
    obtain ⟨hb, rfl⟩ := List.getElem?_eq_some_iff.1 hy
    exact Nat.le_of_lt (List.pairwise_iff_getElem.1 h a b ha hb hlt)
  · obtain rfl : a = b := by omega
    rw [hx] at hy; cases hy; exact Nat.le_refl _
/-- What is asked of the a-th. -/
def qUp (l : List Tx) (n a : Nat) : Bool := match l[a]? with | none => true | some x => decide (n < x.n)
theorem qUp_at {l : List Tx} {n a : Nat} {x : Tx} (h : l[a]? = some x) : qUp l n a = decide (n < x.n) := by unfold qUp; rw [h]
set_option maxHeartbeats 4000000 in
set_option maxRecDepth 100000 in
/-- upTo: the first ones, as a slice of the same row. -/
theorem upTo_any {w : World} {B : Nat} {ao : Option Addr} {m cap : Nat} {l : List Tx} {n : Nat} (hl : LSeg 2 Tx.cs B w (.slice ao m cap) l) (hB : B ≤ w.heap.size) (hn : l.length ≤ 1000000) (hc : l.length ≤ cap) (hr : Ris l) :
    Calls Try.prog 30 #[.slice ao m cap, .int .u64 (n : Int)] w fun e w' => (∃ k : Nat, e = .returned (.slice ao k cap) ∧ k ≤ l.length ∧ l.take k = l.filter (fun x => decide (x.n ≤ n)) ∧ l.drop k = l.filter (fun x => decide (n < x.n))) ∧ Below w.heap.size w w' := by
  obtain rfl : m = l.length := by obtain ⟨a', c', e, _⟩ := hl; cases e; rfl
  obtain ⟨W1, hW1⟩ : ∃ W1, W1 = (w.alloc (.cells #[.slice ao l.length cap] 63)).alloc (.cells #[.int .u64 (n : Int)] 32) := ⟨_, rfl⟩
  have hb1 := below_box2 w (.cells #[.slice ao l.length cap] 63) (.cells #[.int .u64 (n : Int)] 32)
  rw [← hW1] at hb1
  have hs1 : W1.heap.size = w.heap.size + 2 := by rw [hW1]; simp
  have k0 : BoxT 63 W1 w.heap.size #[.slice ao l.length cap] := by rw [hW1]; exact (BoxT.new _ _ _).alloc _
  have k1 : BoxT 32 W1 (w.heap.size + 1) #[.int .u64 (n : Int)] := by rw [hW1]; exact BoxT.new_at (by simp)
  have h1 : LSeg 2 Tx.cs W1.heap.size W1 (.slice ao l.length cap) l := (hl.below (hb1.mono hB)).mono (by omega)
  have HS : Hid (∀ w', Below W1.heap.size W1 w' → Calls Try.prog 34 #[.int .i64 (l.length : Int), .func (.func 35) #[] (#[.pointer (some ⟨w.heap.size, 0, none⟩), .pointer (some ⟨w.heap.size + 1, 0, none⟩)])] w' fun e w'' => (∃ k : Nat, e = .returned (.int .i64 (k : Int)) ∧ k ≤ l.length ∧ (∀ a, a < k → qUp l n a = false) ∧ ∀ a, k ≤ a → a < l.length → qUp l n a = true) ∧ Below w'.heap.size w' w'') := by
    intro w' hb
    refine Search_any hn 35 _ (qUp l n) (fun a b hab hb2 hq => ?_) runUp (fun w1 hb2 i hi => ?_)
    · obtain ⟨x, hx⟩ := get_of_lt (show a < l.length by omega)
      obtain ⟨y, hy⟩ := get_of_lt hb2
      rw [qUp_at hx] at hq
      rw [qUp_at hy]
      have := hr.at hab hx hy
      simp at hq ⊢
      omega
    · obtain ⟨x, hx⟩ := get_of_lt hi
      rw [qUp_at hx]
      have hbb := hb.trans (hb2.mono hb.size)
      have hz := hbb.size
      exact upC_any (k0.below hbb) (k1.below hbb) ((h1.below hbb).mono hz) hx
  have KC : Hid (∀ w' : World, Below W1.heap.size W1 w' → w'.cell? ⟨w.heap.size, 0, none⟩ = some (.slice ao l.length cap)) := fun w' hb => (k0.below hb).cells1
  have HB1 := hide hb1
  have HLN := hide hn
  have HR := hide hr
  clear hl h1 hb1 hr k0 k1 hs1
  go_enter Try.func30, Try.ntmps30
  go_upto_region 1 with fail
  rw [← hW1]
  clear hW1
  refine wp_region_M (S := fun w' => w'.cell? ⟨w.heap.size, 0, none⟩ = some (.slice ao l.length cap)) (late := []) (by kernel_rfl) (KC.out _ (Below.refl _ _).drew) (fun hHeld => ?_)
  (try simp only [List.size_toArray, List.length_cons, List.length_nil, Nat.zero_add, Nat.reduceAdd, Array.replicate, List.replicate])
  refine wpAnyM_take (i := 0) (oi := ⟨_, _, _, _, _, _⟩) (v := ?_) rfl (by kernel_rfl) (by kernel_rfl) (by kernel_rfl) (by kernel_rfl) (fun _ _ _ h => h) (Or.inl ⟨by rfl, ?_⟩) hHeld ?_
  rotate_left
  · (intro w' hSw; (try dsimp only at hSw); go_simp; try (with_reducible rfl))
  (try simp only [Act.put, List.setIfInBounds_toArray, List.set_cons_zero, List.set_cons_succ])
  refine wpAnyM_take (i := 1) (oi := ⟨_, _, _, _, _, _⟩) (v := ?_) rfl (by kernel_rfl) (by kernel_rfl) (by kernel_rfl) (by kernel_rfl) (fun _ _ _ h => h) (Or.inl ⟨by rfl, ?_⟩) hHeld ?_
  rotate_left
  · (intro w' hSw; (try dsimp only at hSw); go_simp; try (with_reducible rfl))
  (try simp only [Act.put, List.setIfInBounds_toArray, List.set_cons_zero, List.set_cons_succ])
  refine wpAnyM_take (i := 2) (oi := ⟨_, _, _, _, _, _⟩) (v := ?_) rfl (by kernel_rfl) (by kernel_rfl) (by kernel_rfl) (by kernel_rfl) (fun _ _ _ h => h) (Or.inl ⟨by rfl, ?_⟩) hHeld ?_
  rotate_left
  · (intro w' hSw; (try dsimp only at hSw); go_simp; try (with_reducible rfl))
  (try simp only [Act.put, List.setIfInBounds_toArray, List.set_cons_zero, List.set_cons_succ])
  refine wpAnyM_take (i := 3) (oi := ⟨_, _, _, _, _, _⟩) (v := ?_) rfl (by kernel_rfl) (by kernel_rfl) (by kernel_rfl) (by kernel_rfl) (fun _ _ _ h => h) (Or.inl ⟨by rfl, ?_⟩) hHeld ?_
  rotate_left
  · (intro w' hSw; (try dsimp only at hSw); go_simp; try (with_reducible rfl))
  (try simp only [Act.put, List.setIfInBounds_toArray, List.set_cons_zero, List.set_cons_succ])
  refine wpAnyM_one (i := 4) (o := ⟨_, _, _, _, _, _⟩) (by kernel_rfl) rfl (fun K hK => ?_)
  go_simp
  go_at_call 34
  refine (HS.out _ (Below.refl _ _).drew).mono ?_
  rintro e w2 ⟨⟨k, rfl, hk, q1, q2⟩, b2⟩
  have B2 : Hid (Below W1.heap.size W1 w2) := (Below.refl _ _).drew.trans b2
  have Q1 := hide q1
  have Q2 := hide q2
  clear b2 q1 q2
  have hkc : (k : Int) ≤ (cap : Int) := by omega
  have hk0 : (0 : Int) ≤ (k : Int) := by omega
  refine hK.out _ _ (KC.out _ B2.out) (fun hHeld => ?_)
  clear hK K
  (try simp only [List.setIfInBounds_toArray, List.set_cons_zero, List.set_cons_succ])
  refine wpAnyM_take (i := 5) (oi := ⟨_, _, _, _, _, _⟩) (v := ?_) rfl (by kernel_rfl) (by kernel_rfl) (by kernel_rfl) (by kernel_rfl) (fun _ _ _ h => h) (Or.inl ⟨by rfl, ?_⟩) hHeld ?_
  rotate_left
  · (intro w' hSw; (try dsimp only at hSw); go_simp; try (with_reducible rfl))
  (try simp only [Act.put, List.setIfInBounds_toArray, List.set_cons_zero, List.set_cons_succ])
  refine wpAnyM_take (i := 6) (oi := ⟨_, _, _, _, _, _⟩) (v := ?_) rfl (by kernel_rfl) (by kernel_rfl) (by kernel_rfl) (by kernel_rfl) (fun _ _ _ h => h) (Or.inl ⟨by rfl, ?_⟩) hHeld ?_
  rotate_left
  · (intro w' hSw; (try dsimp only at hSw); go_simp; try (with_reducible rfl))
  (try simp only [Act.put, List.setIfInBounds_toArray, List.set_cons_zero, List.set_cons_succ])
  refine wpAnyM_done (by kernel_rfl) ?_ _
  clear hHeld
  go_wp2_with fail
  go_ret
  refine ⟨⟨k, rfl, hk, ?_⟩, HB1.out.trans (B2.out.mono HB1.out.size)⟩
  refine split_at (k := k) hk (fun a x ha hx => ?_) (fun a x ha hx => ?_)
  · have := Q1.out a ha
    rw [qUp_at hx] at this
    simpa using this
  · have := Q2.out a ha (lt_of_get hx)
    rw [qUp_at hx] at this
    simpa using this

end Go.Proofs.Yteafnohponbbeaa
