/-
  Texts of the vault, in build order: Crc, RefSeal.
-/
import Derived.Test.YtbfhcbihgleddaaGreatDoorM07
/-
  Plain mathematics of the sum: by bits and by four bits it is the same; one byte changed changes it; what a seal's bytes are read as.
-/
namespace Go.Proofs.YtbfhcbihgleddaaGreatDoor
open Go.RowKit

def bstep (c : Nat) : Nat := if c % 2 = 1 then c / 2 ^^^ 3988292384 else c / 2
theorem xor_half (a b : Nat) : (a ^^^ b) / 2 = a / 2 ^^^ b / 2 := by
  have h := Nat.shiftRight_xor_distrib (a := a) (b := b) (i := 1)
  simpa [Nat.shiftRight_eq_div_pow] using h
theorem xor_par (a b : Nat) (ha : a % 2 = 0) : (a ^^^ b) % 2 = b % 2 := by
  have h := Nat.xor_mod_two_pow (a := a) (b := b) (n := 1)
  rw [Nat.pow_one, ha, Nat.zero_xor] at h
  exact h
theorem bstep_xor (a b : Nat) (ha : a % 2 = 0) : bstep (a ^^^ b) = a / 2 ^^^ bstep b := by
  unfold bstep
  rw [xor_par a b ha, xor_half]
  split
  · rw [Nat.xor_assoc]
  · rfl
theorem xor16 (q r : Nat) (hr : r < 16) : 16 * q ^^^ r = 16 * q + r := by
  have h1 : (16 * q ^^^ r) / 2 ^ 4 = q ^^^ 0 := by
    rw [Nat.xor_div_two_pow]
    congr 1 <;> omega
  have h2 : (16 * q ^^^ r) % 2 ^ 4 = r := by
    rw [Nat.xor_mod_two_pow, show 16 * q % 2 ^ 4 = 0 from by omega, Nat.zero_xor]; omega
  rw [Nat.xor_zero] at h1
  omega
theorem bstep4_low (r : Nat) (hr : r < 16) : bstep (bstep (bstep (bstep r))) = nib r := by
  match r, hr with
  | 0, _ | 1, _ | 2, _ | 3, _ | 4, _ | 5, _ | 6, _ | 7, _ | 8, _ | 9, _ | 10, _ | 11, _ | 12, _ | 13, _ | 14, _ | 15, _ => decide +kernel
  | n + 16, h => exact absurd h (by omega)
/-- Four steps of one bit are one of four bits. -/
theorem bstep4 (c : Nat) : bstep (bstep (bstep (bstep c))) = nstep c := by
  have hc : c = 16 * (c / 16) ^^^ c % 16 := by rw [xor16 _ _ (by omega)]; omega
  unfold nstep
  generalize hq : c / 16 = q at *
  generalize hr : c % 16 = r at *
  have hr16 : r < 16 := by omega
  rw [hc, bstep_xor _ _ (by omega), show 16 * q / 2 = 8 * q from by omega, bstep_xor _ _ (by omega), show 8 * q / 2 = 4 * q from by omega, bstep_xor _ _ (by omega), show 4 * q / 2 = 2 * q from by omega, bstep_xor _ _ (by omega), show 2 * q / 2 = q from by omega, bstep4_low r hr16]

theorem nib_top (i j : Nat) (hi : i < 16) (hj : j < 16) (h : nib i / 2 ^ 28 = nib j / 2 ^ 28) : i = j := by
  have : ∀ i : Fin 16, ∀ j : Fin 16, nib i.1 / 2 ^ 28 = nib j.1 / 2 ^ 28 → i.1 = j.1 := by decide +kernel
  exact this ⟨i, hi⟩ ⟨j, hj⟩ h
theorem xor_cancel {a b c : Nat} (h : a ^^^ c = b ^^^ c) : a = b := by
  have := congrArg (· ^^^ c) h
  simpa [Nat.xor_assoc] using this
theorem xor_cancel' {a b c : Nat} (h : c ^^^ a = c ^^^ b) : a = b := by
  rw [Nat.xor_comm c a, Nat.xor_comm c b] at h; exact xor_cancel h
theorem nstep_inj {a b : Nat} (ha : a < 4294967296) (hb : b < 4294967296) (h : nstep a = nstep b) : a = b := by
  unfold nstep at h
  have ht := congrArg (· / 2 ^ 28) h
  simp only [Nat.xor_div_two_pow] at ht
  rw [show a / 16 / 2 ^ 28 = 0 from by omega, show b / 16 / 2 ^ 28 = 0 from by omega, Nat.zero_xor, Nat.zero_xor] at ht
  have hr := nib_top _ _ (by omega) (by omega) ht
  rw [hr] at h
  have := xor_cancel h
  omega
theorem nstep_lt {a : Nat} (ha : a < 4294967296) : nstep a < 4294967296 := xor_lt32 (by omega) (nib_lt _)
theorem cstep_lt {c x : Nat} (hc : c < 4294967296) (hx : x < 256) : cstep c x < 4294967296 := nstep_lt (nstep_lt (xor_lt32 hc (by omega)))
theorem cstep_inj {c d x y : Nat} (hc : c < 4294967296) (hd : d < 4294967296) (hx : x < 256) (hy : y < 256) (h : cstep c x = cstep d y) : c ^^^ x = d ^^^ y :=
  nstep_inj (xor_lt32 hc (by omega)) (xor_lt32 hd (by omega)) (nstep_inj (nstep_lt (xor_lt32 hc (by omega))) (nstep_lt (xor_lt32 hd (by omega))) h)
theorem fold_inj (l : List Nat) : Byts l → ∀ c d, c < 4294967296 → d < 4294967296 → l.foldl cstep c = l.foldl cstep d → c = d := by
  induction l with
  | nil => intro _ c d _ _ h; exact h
  | cons x l ih =>
    intro hb c d hc hd h
    have hx : x < 256 := hb 0 x rfl
    have hb' : Byts l := fun i y hy => hb (i + 1) y (by simpa using hy)
    have := ih hb' _ _ (cstep_lt hc hx) (cstep_lt hd hx) h
    exact xor_cancel (cstep_inj hc hd hx hx this)
theorem fold_set (l : List Nat) : Byts l → ∀ (i y x : Nat) c, c < 4294967296 → y < 256 → l[i]? = some x → y ≠ x → (l.set i y).foldl cstep c ≠ l.foldl cstep c := by
  induction l with
  | nil => intro _ i y x c _ _ h; simp at h
  | cons a l ih =>
    intro hb i y x c hc hy hx hne h
    have ha : a < 256 := hb 0 a rfl
    have hb' : Byts l := fun i y hy => hb (i + 1) y (by simpa using hy)
    cases i with
    | zero =>
      simp only [List.getElem?_cons_zero, Option.some.injEq] at hx
      subst hx
      have := fold_inj l hb' _ _ (cstep_lt hc hy) (cstep_lt hc ha) h
      exact hne (xor_cancel' (cstep_inj hc hc hy ha this))
    | succ i => exact ih hb' i y x _ (cstep_lt hc ha) hy (by simpa using hx) hne h
theorem crc_set (l : List Nat) (hb : Byts l) (i y x : Nat) (hy : y < 256) (hx : l[i]? = some x) (hne : y ≠ x) : crc (l.set i y) ≠ crc l := by
  unfold crc
  intro h
  exact fold_set l hb i y x _ (by omega) hy hx hne (xor_cancel' h)

theorem be_val (l : List Nat) (hb : Byts l) : be l.length (val l) = l := by
  have key : ∀ (n : Nat) (l : List Nat), l.length = n → Byts l → ∀ m, m % 2 ^ (8 * n) = val l → be n m = l := by
    intro n
    induction n with
    | zero => intro l hl _ m _; simp at hl; subst hl; rfl
    | succ n ih =>
      intro l hl hb m hm
      match l, hl with
      | x :: l, hl =>
        have hl : l.length = n := by simpa using hl
        have hx : x < 256 := hb 0 x rfl
        have hb' : Byts l := fun i y hy => hb (i + 1) y (by simpa using hy)
        have hv : val l < 2 ^ (8 * n) := by
          have := val_lt l hb' l.length (Nat.le_refl _)
          rw [List.take_length, hl, show (256 : Nat) = 2 ^ 8 from rfl, ← Nat.pow_mul] at this
          exact this
        have hval : val (x :: l) = x * 2 ^ (8 * n) + val l := by
          have fold : ∀ (l : List Nat) (a : Nat), l.foldl (fun n c => n * 256 + c) a = a * 2 ^ (8 * l.length) + val l := by
            intro l
            induction l with
            | nil => intro a; simp [val]
            | cons y l ih2 =>
              intro a
              have e1 : val (y :: l) = l.foldl (fun n c => n * 256 + c) y := by simp [val]
              have e2 : 2 ^ (8 * (l.length + 1)) = 2 ^ (8 * l.length) * 256 := by rw [show 8 * (l.length + 1) = 8 * l.length + 8 from by omega, Nat.pow_add]
              rw [List.foldl_cons, ih2, e1, ih2, List.length_cons, e2, Nat.add_mul]
              have : a * 256 * 2 ^ (8 * l.length) = a * (2 ^ (8 * l.length) * 256) := by rw [Nat.mul_assoc, Nat.mul_comm 256]
              omega
          have := fold l x
          rw [hl] at this
          rw [← this]; simp [val]
        have e : 2 ^ (8 * (n + 1)) = 2 ^ (8 * n) * 256 := by rw [show 8 * (n + 1) = 8 * n + 8 from by omega, Nat.pow_add]
        rw [e, Nat.mod_mul, hval] at hm
        have hpos : 0 < 2 ^ (8 * n) := Nat.pow_pos (by omega)
        have hml := Nat.mod_lt m hpos
        have h1 : m % 2 ^ (8 * n) = val l := by
          have := congrArg (· % 2 ^ (8 * n)) hm
          simp only [Nat.add_mul_mod_self_left, Nat.mod_mod] at this
          rw [this, Nat.add_comm, Nat.add_mul_mod_self_right, Nat.mod_eq_of_lt hv]
        have h2 : m / 2 ^ (8 * n) % 256 = x := by
          rw [h1] at hm
          have : 2 ^ (8 * n) * (m / 2 ^ (8 * n) % 256) = 2 ^ (8 * n) * x := by rw [Nat.mul_comm _ x]; omega
          exact Nat.eq_of_mul_eq_mul_left hpos this
        simp only [be, h2, ih l hl hb' m h1]
  refine key _ l rfl hb _ ?_
  have := val_lt l hb l.length (Nat.le_refl _)
  rw [List.take_length, show (256 : Nat) = 2 ^ 8 from rfl, ← Nat.pow_mul] at this
  exact Nat.mod_eq_of_lt this
theorem val_inj {a b : List Nat} (hl : a.length = b.length) (ha : Byts a) (hb : Byts b) (h : val a = val b) : a = b := by
  rw [← be_val a ha, ← be_val b hb, hl, h]

/-- What a bad reader reads stays bad. -/
theorem num_bad (k : Nat) (l : List Nat) : (num k (l, true)).2.2 = true := by unfold num; split <;> rfl
theorem num_short (k : Nat) (l : List Nat) (b : Bool) (h : l.length < k) : num k (l, b) = (0, (l, true)) := num_no (by simp; omega)

theorem rOpen_none_of_bad (l : List Nat) (h : (num 4 (num 4 (l, false)).2).2.2 = true) : rOpen l = none := by
  unfold rOpen
  rw [if_neg]
  rw [h]
  intro hh
  exact absurd hh.2.1 (by decide)

/-- What is read of a length and a sum. -/
theorem rOpen_parts (n s : Nat) (l : List Nat) (hn : n < 4294967296) (hs : s < 4294967296) : rOpen (be 4 n ++ (be 4 s ++ l)) = if n ≤ 1048576 ∧ n ≤ l.length ∧ crc (l.take n) = s then some (l.take n) else none := by
  unfold rOpen
  rw [num_be 4 n _ _ (by omega)]
  simp only [num_be 4 s _ _ (show s < 2 ^ (8 * 4) by omega), true_and]

theorem rOpen_sealed (l m : List Nat) (hb : Byts l) (hl : l.length ≤ 1048576) : rOpen (sealed l ++ m) = some l := by
  have e : sealed l ++ m = be 4 l.length ++ (be 4 (crc l) ++ (l ++ m)) := by simp [sealed]
  have ht : (l ++ m).take l.length = l := List.take_left' rfl
  rw [e, rOpen_parts _ _ _ (by omega) (crc_lt l hb), ht, if_pos ⟨hl, by simp, rfl⟩]
theorem sealed_len (l : List Nat) : (sealed l).length = l.length + 8 := by simp [sealed, be_length]; omega
theorem sealed_byts' (l : List Nat) (hb : Byts l) : Byts (sealed l) := (Byts.be _ _).app ((Byts.be _ _).app hb)

theorem rOpen_cut (l : List Nat) (k : Nat) (hb : Byts l) (hl : l.length ≤ 1048576) (hk : k < (sealed l).length) : rOpen ((sealed l).take k) = none := by
  rw [sealed_len] at hk
  by_cases h4 : k < 4
  · apply rOpen_none_of_bad
    rw [num_short 4 ((sealed l).take k) false (by rw [List.length_take]; omega)]
    exact num_bad _ _
  by_cases h8 : k < 8
  · have e : (sealed l).take k = be 4 l.length ++ ((be 4 (crc l) ++ l).take (k - 4)) := by
      unfold sealed; rw [List.take_append, be_length, List.take_of_length_le (by rw [be_length]; omega)]
    apply rOpen_none_of_bad
    rw [e, num_be 4 _ _ _ (by omega), num_short 4 _ _ (by rw [List.length_take]; omega)]
  · have e : (sealed l).take k = be 4 l.length ++ (be 4 (crc l) ++ l.take (k - 8)) := by
      unfold sealed; rw [List.take_append, be_length, List.take_of_length_le (by rw [be_length]; omega), List.take_append, be_length, List.take_of_length_le (by rw [be_length]; omega), show k - 4 - 4 = k - 8 from by omega]
    rw [e, rOpen_parts _ _ _ (by omega) (crc_lt l hb), if_neg]
    intro h
    have := h.2.1
    rw [List.length_take] at this
    omega

theorem rOpen_turned (l : List Nat) (k y x : Nat) (hb : Byts l) (hl : l.length ≤ 1048576) (h4 : 4 ≤ k) (hx : (sealed l)[k]? = some x) (hy : y < 256) (hne : y ≠ x) : rOpen ((sealed l).set k y) = none := by
  have hk : k < l.length + 8 := by rw [← sealed_len]; exact (List.getElem?_eq_some_iff.1 hx).1
  by_cases h8 : k < 8
  · have e : (sealed l).set k y = be 4 l.length ++ ((be 4 (crc l)).set (k - 4) y ++ l) := by
      unfold sealed
      rw [List.set_append_right _ _ (by rw [be_length]; omega), be_length, List.set_append_left _ _ (by rw [be_length]; omega)]
    have hlen : ((be 4 (crc l)).set (k - 4) y).length = 4 := by simp [be_length]
    have hbs : Byts ((be 4 (crc l)).set (k - 4) y) := by
      intro i z hz
      rw [List.getElem?_set] at hz
      split at hz
      · split at hz
        · simp at hz; omega
        · cases hz
      · exact Byts.be _ _ i z hz
    have hvl : val ((be 4 (crc l)).set (k - 4) y) < 4294967296 := by
      have := val_lt _ hbs 4 (by omega)
      rw [List.take_of_length_le (by omega)] at this
      exact this
    have hbe := be_val _ hbs
    rw [hlen] at hbe
    rw [e, ← hbe, rOpen_parts _ _ _ (by omega) hvl, if_neg]
    intro h
    rw [List.take_length] at h
    have heq : (be 4 (crc l)).set (k - 4) y = be 4 (crc l) := by rw [← hbe, ← h.2.2]
    have hx' : (be 4 (crc l))[k - 4]? = some x := by
      have h2 := hx
      unfold sealed at h2
      rw [List.getElem?_append_right (by rw [be_length]; omega), be_length, List.getElem?_append_left (by rw [be_length]; omega)] at h2
      exact h2
    have := congrArg (·[k - 4]?) heq
    simp only [List.getElem?_set_self (show k - 4 < (be 4 (crc l)).length by rw [be_length]; omega), hx'] at this
    exact hne (Option.some.inj this)
  · have e : (sealed l).set k y = be 4 l.length ++ (be 4 (crc l) ++ l.set (k - 8) y) := by
      unfold sealed
      rw [List.set_append_right _ _ (by rw [be_length]; omega), be_length, List.set_append_right _ _ (by rw [be_length]; omega), be_length, show k - 4 - 4 = k - 8 from by omega]
    have hx' : l[k - 8]? = some x := by
      have h2 := hx
      unfold sealed at h2
      rw [List.getElem?_append_right (by rw [be_length]; omega), be_length, List.getElem?_append_right (by rw [be_length]; omega), be_length, show k - 4 - 4 = k - 8 from by omega] at h2
      exact h2
    rw [e, rOpen_parts _ _ _ (by omega) (crc_lt l hb), if_neg]
    intro h
    have h3 := h.2.2
    rw [List.take_of_length_le (by simp)] at h3
    exact crc_set l hb _ y x hy hx' hne h3
end Go.Proofs.YtbfhcbihgleddaaGreatDoor
namespace Go.Proofs.YtbfhcbihgleddaaGreatDoor
open Go.RowKit

def bstepN : Nat → Nat → Nat
  | 0, c => c
  | k + 1, c => bstep (bstepN k c)
theorem bstepN8 (c : Nat) : bstepN 8 c = nstep (nstep c) := by
  rw [← bstep4, ← bstep4]; rfl
theorem bstep_lt {c : Nat} (hc : c < 4294967296) : bstep c < 4294967296 := by
  unfold bstep
  split
  · exact xor_lt32 (by omega) (by omega)
  · omega
theorem bstepN_lt {c : Nat} (hc : c < 4294967296) (k : Nat) : bstepN k c < 4294967296 := by
  induction k with
  | zero => exact hc
  | succ k ih => exact bstep_lt ih
theorem and1 (z : Nat) (hz : z < 4294967296) : bits .and .u32 (z : Int) 1 = ((z % 2 : Nat) : Int) := by
  have h := u32_and_nat z 1 hz (by omega)
  have e : z &&& 1 = z % 2 := Nat.and_two_pow_sub_one_eq_mod z 1
  rw [e] at h
  exact h

/-- Place: a number from 0 to n - 1. -/
theorem Place_any (k n : Int) (w : World) (hk : I64 k) (h0 : 0 < n) (h1 : n ≤ 1000000000) :
    Calls Tryz.prog 20 #[.int .i64 k, .int .i64 n] w fun e w' => ∃ p : Nat, e = .returned (.int .i64 p) ∧ (p : Int) < n ∧ w' = w := by
  obtain ⟨k1, k2⟩ := hk
  have hb1 := Int.tmod_lt_of_pos k h0
  have hb2 := Int.lt_tmod_of_pos k h0
  have hne : (n == 0) = false := beq_eq_false_iff_ne.2 (by omega)
  have hne' : ¬ n = 0 := by omega
  by_cases hneg : k.tmod n < 0
  · go_enter Tryz.func20, Tryz.ntmps20
    go_wp2
    go_ret
    refine ⟨(k.tmod n + n).toNat, ?_, ?_, rfl⟩
    · exact congrArg (fun q => Ending.returned (Value.int .i64 q)) (by omega)
    · omega
  · go_enter Tryz.func20, Tryz.ntmps20
    go_wp2
    go_ret
    refine ⟨(k.tmod n).toNat, ?_, ?_, rfl⟩
    · exact congrArg (fun q => Ending.returned (Value.int .i64 q)) (by omega)
    · omega
end Go.Proofs.YtbfhcbihgleddaaGreatDoor
