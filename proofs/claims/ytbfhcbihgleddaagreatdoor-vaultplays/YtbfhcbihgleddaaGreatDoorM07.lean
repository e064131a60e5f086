/-
  Texts of the vault, in build order: Known, Math.
-/
import Derived.Test.YtbfhcbihgleddaaGreatDoorM05
import Derived.Test.YtbfhcbihgleddaaGreatDoorM06
import Derived.Lib.SlBytesConst
namespace Go.Proofs.YtbfhcbihgleddaaGreatDoor
open Go.RowKit

/-- A new row of constant bytes. -/
theorem Seg.lit {w : World} {C : Array Value} {m : Nat × Nat} (l : List Nat) (hC : C = (bs l).toArray) (hl : l.length ≤ 1000) : Seg (w.alloc (.cells C 5 m)) (.slice (some ⟨w.heap.size, 0, none⟩) l.length l.length) l := by
  refine ⟨_, l.length, rfl, Nat.le_refl _, by omega, by omega, .inr ⟨w.heap.size, 0, rfl, by simp, fun i x hx => ?_⟩⟩
  rw [World.cell?_alloc_mark, Nat.zero_add, hC]
  simp [bs, List.getElem?_map, hx]
theorem Byts.of (l : List Nat) (h : l.all (· < 256) = true) : Byts l := fun i x hx => by
  have := List.all_eq_true.1 h x (List.mem_of_getElem? hx)
  simpa using this
theorem known_1 : fits 2 0 0 0 5 0 false = true := by decide
theorem known_2 : done (rFrame (frb 2 0 0 0 5 0 false, false)).2 = true := by decide +kernel
theorem known_3 : (rFrame (frb 2 0 0 0 5 0 false, false)).1 = ⟨2, 0, 0, 0, 5, 0, false⟩ := by
  have : ∀ f : Frm, f.kd = 2 ∧ f.ke = 0 ∧ f.ti = 0 ∧ f.va = 0 ∧ f.ma = 5 ∧ f.n = 0 ∧ f.ov = false → f = ⟨2, 0, 0, 0, 5, 0, false⟩ := by
    rintro ⟨a, b, c, d, e, f, g⟩ ⟨rfl, rfl, rfl, rfl, rfl, rfl, rfl⟩; rfl
  exact this _ (by decide +kernel)
theorem known_4 : rOpen (sealed [97, 98, 99] ++ [9]) = some [97, 98, 99] := by decide +kernel
theorem known_5 : rOpen ((sealed [97, 98, 99]).take 10) = none := by decide +kernel
theorem known_6 : crc [49, 50, 51, 52, 53, 54, 55, 56, 57] = 3421780262 := by decide +kernel
theorem known_7 : fits 0 0 0 0 0 0 false = false := by decide
theorem known_8 : frb 2 0 0 0 5 0 false = [2, 0, 0, 0, 0, 0, 0, 0, 5] := by decide +kernel
theorem known_9 : (sealed [97, 98, 99]).length = 11 := by decide +kernel
theorem sealed_byts : Byts (sealed [97, 98, 99]) := Byts.of _ (by decide +kernel)

theorem SegB.below {B : Nat} {w w' : World} {v : Value} {l : List Nat} (h : SegB B w v l) (hb : Below B w w') : SegB B w' v l := by
  obtain ⟨ao, cap, h1, h2, h3, h3', h4⟩ := h
  refine ⟨ao, cap, h1, h2, h3, h3', ?_⟩
  rcases h4 with h4 | ⟨b, off, h5, h6, h7⟩
  · exact .inl h4
  · exact .inr ⟨b, off, h5, h6, fun i x hi => (hb.cell (p := ⟨b, off + i, none⟩) h6).trans (h7 i x hi)⟩
theorem Seg.cut {w : World} {g off n cap k : Nat} {l : List Nat} (h : Seg w (.slice (some ⟨g, off, none⟩) n cap) l) (hk : k ≤ l.length) : Seg w (.slice (some ⟨g, off, none⟩) k cap) (l.take k) := by
  obtain ⟨ao, cap', h1, h2, h3, h3', h4⟩ := h
  simp only [Value.slice.injEq] at h1
  obtain ⟨rfl, rfl, rfl⟩ := h1
  refine ⟨some ⟨g, off, none⟩, cap, by simp [List.length_take, Nat.min_eq_left hk], by simp; omega, h3, by simp; omega, ?_⟩
  rcases h4 with h4 | ⟨b, o, h5, h6, h7⟩
  · exact .inl (by simp [h4])
  · refine .inr ⟨b, o, h5, h6, fun i x hx => h7 i x ?_⟩
    rw [List.getElem?_take] at hx
    split at hx
    · exact hx
    · cases hx

end Go.Proofs.YtbfhcbihgleddaaGreatDoor
namespace Go.Proofs.YtbfhcbihgleddaaGreatDoor
open Go.RowKit

theorem val_be (k n : Nat) : ∀ acc, (be k n).foldl (fun n c => n * 256 + c) acc = acc * 2 ^ (8 * k) + n % 2 ^ (8 * k) := by
  induction k with
  | zero => intro acc; simp [be, Nat.mod_one]
  | succ k ih =>
    intro acc
    have e : 2 ^ (8 * (k + 1)) = 2 ^ (8 * k) * 256 := by rw [show 8 * (k + 1) = 8 * k + 8 from by omega, Nat.pow_add]
    simp only [be, List.foldl_cons]
    rw [ih, e, Nat.mod_mul, Nat.add_mul]
    have : n / 2 ^ (8 * k) % 256 * 2 ^ (8 * k) = 2 ^ (8 * k) * (n / 2 ^ (8 * k) % 256) := Nat.mul_comm _ _
    have : acc * 256 * 2 ^ (8 * k) = acc * (2 ^ (8 * k) * 256) := by rw [Nat.mul_assoc, Nat.mul_comm 256]
    omega
theorem num_be (k n : Nat) (l : List Nat) (b : Bool) (hn : n < 2 ^ (8 * k)) : num k (be k n ++ l, b) = (n, (l, b)) := by
  have hk : k ≤ (be k n ++ l).length := by simp [be_length]
  rw [num_yes hk]
  have h1 : (be k n ++ l).take k = be k n := List.take_left' (be_length k n)
  have h2 : (be k n ++ l).drop k = l := List.drop_left' (be_length k n)
  simp only [h1, h2]
  have : val (be k n) = n := by
    unfold val
    rw [val_be, Nat.zero_mul, Nat.zero_add, Nat.mod_eq_of_lt hn]
  rw [this]
theorem num_one (x : Nat) (l : List Nat) (b : Bool) : num 1 (x :: l, b) = (x, (l, b)) := by
  rw [num_yes (by simp)]
  simp [val]
theorem wrap_u64_lt (n : Int) : (IntKind.u64.wrap n).toNat < 2 ^ (8 * 8) := by rw [IntKind.wrap_u64]; omega
theorem num_sbe (n : Int) (l : List Nat) (b : Bool) : num 8 (sbe n ++ l, b) = ((IntKind.u64.wrap n).toNat, (l, b)) := num_be 8 _ l b (wrap_u64_lt n)
theorem i64of_wrap (n : Int) (h0 : -9223372036854775808 ≤ n) (h1 : n ≤ 9223372036854775807) : i64of (IntKind.u64.wrap n).toNat = n := by
  unfold i64of wrap64
  rw [IntKind.wrap_u64]
  omega
theorem rFlag_of (x : Bool) (l : List Nat) : rFlag (x.toNat :: l, false) = (x, (l, false)) := by
  unfold rFlag
  rw [num_one]
  cases x <;> simp

theorem Byts.app {l m : List Nat} (hl : Byts l) (hm : Byts m) : Byts (l ++ m) := by
  intro i x hx
  by_cases hi : i < l.length
  · rw [List.getElem?_append_left hi] at hx; exact hl i x hx
  · rw [List.getElem?_append_right (by omega)] at hx; exact hm _ x hx
theorem Byts.cons {x : Nat} {l : List Nat} (hx : x < 256) (hl : Byts l) : Byts (x :: l) := by
  intro i y hy
  cases i with
  | zero => simp at hy; omega
  | succ i => exact hl i y (by simpa using hy)
theorem Byts.nil : Byts [] := by intro i x hx; simp at hx
theorem Byts.be (k n : Nat) : Byts (be k n) := by
  induction k with
  | zero => exact Byts.nil
  | succ k ih => exact Byts.cons (Nat.mod_lt _ (by omega)) ih
theorem Byts.sbe (n : Int) : Byts (sbe n) := Byts.be _ _

theorem frb_byts (kd ke ti va ma n : Int) (ov : Bool) : Byts (frb kd ke ti va ma n ov) := by
  unfold frb
  split
  · exact Byts.cons (by omega) ((Byts.sbe _).app ((Byts.sbe _).app (Byts.sbe _)))
  split
  · exact Byts.cons (by omega) (Byts.sbe _)
  · exact Byts.cons (by omega) ((Byts.be _ _).app (Byts.cons (by cases ov <;> simp) Byts.nil))
theorem frb_len (kd ke ti va ma n : Int) (ov : Bool) : (frb kd ke ti va ma n ov).length ≤ 25 := by
  unfold frb
  split
  · simp [YtbfhcbihgleddaaGreatDoor.sbe, be_length]
  split
  · simp [YtbfhcbihgleddaaGreatDoor.sbe, be_length]
  · simp [be_length]

def I64 (n : Int) : Prop := -9223372036854775808 ≤ n ∧ n ≤ 9223372036854775807
def U64 (n : Int) : Prop := 0 ≤ n ∧ n ≤ 18446744073709551615

/-- What Frame writes is read as it was; what stands behind it is left. -/
theorem rFrame_frb (kd ke ti va ma n : Int) (ov : Bool) (l : List Nat) (h : fits kd ke ti va ma n ov = true) (h1 : I64 ke) (h2 : I64 ti) (h3 : I64 va) (h4 : I64 ma) (h5 : U64 n) :
    rFrame (frb kd ke ti va ma n ov ++ l, false) = (⟨kd, ke, ti, va, ma, n, ov⟩, (l, false)) := by
  rcases fits_kind h with rfl | rfl | rfl
  · rw [fits_1] at h
    obtain ⟨rfl, rfl, rfl⟩ := of_decide_eq_true h
    have e : frb 1 ke ti va 0 0 false ++ l = 1 :: (sbe ke ++ (sbe ti ++ (sbe va ++ l))) := by simp [frb]
    rw [e]
    unfold rFrame
    simp only [num_one, if_true, num_sbe, i64of_wrap _ h1.1 h1.2, i64of_wrap _ h2.1 h2.2, i64of_wrap _ h3.1 h3.2]
  · rw [fits_2] at h
    obtain ⟨rfl, rfl, rfl, rfl, rfl⟩ := of_decide_eq_true h
    have e : frb 2 0 0 0 ma 0 false ++ l = 2 :: (sbe ma ++ l) := by simp [frb]
    rw [e]
    unfold rFrame
    simp only [num_one, show ¬ (2 : Nat) = 1 from by decide, if_false, if_true, num_sbe, i64of_wrap _ h4.1 h4.2]
  · rw [fits_3] at h
    obtain ⟨rfl, rfl, rfl, rfl⟩ := of_decide_eq_true h
    have e : frb 3 0 0 0 0 n ov ++ l = 3 :: (be 8 n.toNat ++ (ov.toNat :: l)) := by simp [frb]
    have hn : n.toNat < 2 ^ (8 * 8) := by have := h5.2; omega
    have hc : ((n.toNat : Nat) : Int) = n := Int.toNat_of_nonneg h5.1
    rw [e]
    unfold rFrame
    simp only [num_one, show ¬ (3 : Nat) = 1 from by decide, show ¬ (3 : Nat) = 2 from by decide, if_false, if_true, num_be 8 _ _ _ hn, rFlag_of, hc]

theorem rControl_ctb (kd ep n tk : Int) (l : List Nat) (h : cfits kd tk = true) (h1 : U64 ep) (h2 : U64 n) : rControl (ctb kd ep n tk ++ l, false) = (⟨kd, ep, n, tk⟩, (l, false)) := by
  obtain ⟨a, b, c, d⟩ := of_decide_eq_true h
  have e : ctb kd ep n tk ++ l = kd.toNat :: (be 8 ep.toNat ++ (be 8 n.toNat ++ (be 2 tk.toNat ++ l))) := by simp [ctb]
  have k1 : ((kd.toNat : Nat) : Int) = kd := Int.toNat_of_nonneg (by omega)
  have k2 : ((ep.toNat : Nat) : Int) = ep := Int.toNat_of_nonneg h1.1
  have k3 : ((n.toNat : Nat) : Int) = n := Int.toNat_of_nonneg h2.1
  have k4 : ((tk.toNat : Nat) : Int) = tk := Int.toNat_of_nonneg c
  have b1 : ep.toNat < 2 ^ (8 * 8) := by have := h1.2; omega
  have b2 : n.toNat < 2 ^ (8 * 8) := by have := h2.2; omega
  have b3 : tk.toNat < 2 ^ (8 * 2) := by omega
  rw [e]
  unfold rControl
  simp only [num_one, num_be 8 _ _ _ b1, num_be 8 _ _ _ b2, num_be 2 _ _ _ b3, k1, k2, k3, k4]
  rw [if_pos (by omega)]
theorem ctb_byts (kd ep n tk : Int) (h : cfits kd tk = true) : Byts (ctb kd ep n tk) := by
  obtain ⟨a, b, c, d⟩ := of_decide_eq_true h
  exact Byts.cons (by omega) ((Byts.be _ _).app ((Byts.be _ _).app (Byts.be _ _)))
theorem ctb_len (kd ep n tk : Int) : (ctb kd ep n tk).length = 19 := by simp [ctb, be_length]
end Go.Proofs.YtbfhcbihgleddaaGreatDoor
