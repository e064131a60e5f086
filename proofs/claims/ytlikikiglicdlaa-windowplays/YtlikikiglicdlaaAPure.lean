/-
  The aggregates as pure functions, and their laws.
-/
import Derived.Test.YtlikikiglicdlaaABase
namespace Go.Proofs.Ytlikikiglicdlaa
open Go.RowKit

/-- A whole number of 64 bits. -/
def In64 (x : Int) : Prop := -9223372036854775808 ≤ x ∧ x ≤ 9223372036854775807
theorem in64_of_wf {x : Int} (h : (Lit.int .i64 x).wf = true) : In64 x := by
  simp only [Lit.wf, IntKind.min, IntKind.max, IntKind.signed, IntKind.bits, Bool.and_eq_true, decide_eq_true_eq, if_true] at h
  unfold In64
  omega
def xr (x y : Int) : Int := bits .xor .i64 x y
theorem wrap_int (b : BitVec 64) : IntKind.i64.wrap (b.toNat : Int) = b.toInt := by
  simp only [IntKind.wrap, IntKind.bits, IntKind.signed]
  rw [BitVec.toInt_eq_toNat_cond]
  have := b.isLt
  generalize b.toNat = n at *
  simp
  split <;> split <;> omega
theorem xr_eq (x y : Int) : xr x y = (BitVec.ofInt 64 x ^^^ BitVec.ofInt 64 y).toInt := wrap_int (BitVec.ofInt 64 x ^^^ BitVec.ofInt 64 y)
theorem xr_comm (x y : Int) : xr x y = xr y x := by rw [xr_eq, xr_eq, BitVec.xor_comm]
theorem xr_assoc (x y z : Int) : xr (xr x y) z = xr x (xr y z) := by
  rw [xr_eq (xr x y), xr_eq x (xr y z), xr_eq x y, xr_eq y z, BitVec.ofInt_toInt, BitVec.ofInt_toInt, BitVec.xor_assoc]
theorem xr_zero {x : Int} (h : In64 x) : xr x 0 = x := by
  unfold In64 at h
  rw [xr_eq, show BitVec.ofInt 64 0 = 0#64 from rfl, BitVec.xor_zero, BitVec.toInt_ofInt]
  unfold Int.bmod
  simp
  split <;> omega
theorem xr_back {x y : Int} (h : In64 x) : xr (xr x y) y = x := by
  rw [xr_assoc, show xr y y = 0 by rw [xr_eq, BitVec.xor_self]; rfl, xr_zero h]
theorem xr_in (x y : Int) : In64 (xr x y) := by
  have := wrap_within .i64 ((BitVec.ofInt 64 x ^^^ BitVec.ofInt 64 y).toNat : Int)
  unfold In64
  have e : xr x y = IntKind.i64.wrap ((BitVec.ofInt 64 x ^^^ BitVec.ofInt 64 y).toNat : Int) := rfl
  rw [e]
  simp only [IntKind.min, IntKind.max, IntKind.signed, IntKind.bits, if_true] at this
  omega
/-- What nothing comes to. -/
def zr (a : Int) : Int := if a = 3 then 9223372036854775807 else if a = 4 then -9223372036854775808 else 0
/-- Two of these joined. -/
def jn (a x y : Int) : Int :=
  if a = 1 then wrap64 (x + y) else if a = 2 then wrap64 (x + y) else if a = 3 then (if y < x then y else x) else if a = 4 then (if y > x then y else x) else if a = 5 then xr x y else 0
def ad (a x v : Int) : Int := jn a x (if a = 2 then 1 else v)
def al (a : Int) (l : List Int) : Int := l.foldl (ad a) (zr a)
theorem zr_in (a : Int) : In64 (zr a) := by unfold In64 zr; split <;> (try split) <;> omega
theorem jn_in {a x y : Int} (hx : In64 x) (hy : In64 y) : In64 (jn a x y) := by
  have h := xr_in x y
  unfold jn
  unfold In64 at *
  split
  · unfold wrap64; omega
  split
  · unfold wrap64; omega
  split
  · split <;> omega
  split
  · split <;> omega
  split
  · exact h
  · omega
theorem jn_comm (a x y : Int) : jn a x y = jn a y x := by
  unfold jn
  rw [Int.add_comm y x, xr_comm y x]
  split
  · rfl
  split
  · rfl
  split
  · split <;> split <;> omega
  split
  · split <;> split <;> omega
  rfl
theorem jn1 (x y : Int) : jn 1 x y = wrap64 (x + y) := rfl
theorem jn2 (x y : Int) : jn 2 x y = wrap64 (x + y) := rfl
theorem jn3 (x y : Int) : jn 3 x y = if y < x then y else x := rfl
theorem jn4 (x y : Int) : jn 4 x y = if y > x then y else x := rfl
theorem jn5 (x y : Int) : jn 5 x y = xr x y := rfl
theorem jn_none {a : Int} (h : ¬ (1 ≤ a ∧ a ≤ 5)) (x y : Int) : jn a x y = 0 := by
  unfold jn
  rw [if_neg (by omega), if_neg (by omega), if_neg (by omega), if_neg (by omega), if_neg (by omega)]
theorem five {a : Int} (h : 1 ≤ a ∧ a ≤ 5) : a = 1 ∨ a = 2 ∨ a = 3 ∨ a = 4 ∨ a = 5 := by omega
theorem jn_assoc (a x y z : Int) : jn a (jn a x y) z = jn a x (jn a y z) := by
  by_cases h : 1 ≤ a ∧ a ≤ 5
  · rcases five h with rfl | rfl | rfl | rfl | rfl
    · simp only [jn1, wrap64]; omega
    · simp only [jn2, wrap64]; omega
    · simp only [jn3]; split <;> split <;> (try split) <;> (try split) <;> omega
    · simp only [jn4]; split <;> split <;> (try split) <;> (try split) <;> omega
    · simp only [jn5]; exact xr_assoc x y z
  · rw [jn_none h, jn_none h]
theorem jn_zero {a x : Int} (ha : 1 ≤ a ∧ a ≤ 5) (hx : In64 x) : jn a x (zr a) = x := by
  have hz := xr_zero hx
  unfold jn zr
  unfold In64 at hx
  have : a = 1 ∨ a = 2 ∨ a = 3 ∨ a = 4 ∨ a = 5 := by omega
  rcases this with rfl | rfl | rfl | rfl | rfl
  · simp; unfold wrap64; omega
  · simp; unfold wrap64; omega
  · simp; omega
  · simp; omega
  · simpa using hz
theorem ad_swap (a x u v : Int) : ad a (ad a x u) v = ad a (ad a x v) u := by
  unfold ad
  generalize (if a = 2 then (1 : Int) else u) = p
  generalize (if a = 2 then (1 : Int) else v) = q
  rw [jn_assoc, jn_assoc, jn_comm a p q]
theorem ad_in {a x v : Int} (hx : In64 x) (hv : In64 v) : In64 (ad a x v) := by
  unfold ad
  refine jn_in hx ?_
  split
  · unfold In64; omega
  · exact hv
theorem fold_perm (a : Int) {l m : List Int} (h : l.Perm m) : ∀ z, l.foldl (ad a) z = m.foldl (ad a) z := by
  induction h with
  | nil => intro z; rfl
  | cons x _ ih => intro z; exact ih _
  | swap x y l => intro z; simp only [List.foldl_cons]; rw [ad_swap]
  | trans _ _ ih1 ih2 => intro z; rw [ih1, ih2]
theorem al_perm (a : Int) {l m : List Int} (h : l.Perm m) : al a l = al a m := fold_perm a h _
theorem fold_in (a : Int) {l : List Int} (h : ∀ x ∈ l, In64 x) : ∀ z, In64 z → In64 (l.foldl (ad a) z) := by
  induction l with
  | nil => intro z hz; exact hz
  | cons x l ih => intro z hz; exact ih (fun y hy => h y (List.mem_cons_of_mem _ hy)) _ (ad_in hz (h x (List.mem_cons_self ..)))
theorem al_in (a : Int) {l : List Int} (h : ∀ x ∈ l, In64 x) : In64 (al a l) := fold_in a h _ (zr_in a)
theorem fold_jn {a : Int} (l : List Int) : ∀ x z, l.foldl (ad a) (jn a x z) = jn a x (l.foldl (ad a) z) := by
  induction l with
  | nil => intro x z; rfl
  | cons v l ih =>
    intro x z
    simp only [List.foldl_cons]
    rw [show ad a (jn a x z) v = jn a x (ad a z v) from jn_assoc a x z _, ih]
theorem al_app {a : Int} (ha : 1 ≤ a ∧ a ≤ 5) {l m : List Int} (hl : ∀ x ∈ l, In64 x) : jn a (al a l) (al a m) = al a (m ++ l) := by
  rw [al_perm a (List.perm_append_comm (l₁ := m) (l₂ := l))]
  unfold al
  rw [List.foldl_append, ← fold_jn]
  congr 1
  exact jn_zero ha (al_in a hl)
theorem al_one (a : Int) (l : List Int) (x : Int) : al a (l ++ [x]) = ad a (al a l) x := by
  unfold al
  rw [List.foldl_append]
  rfl
theorem al_count {l : List Int} (h : l.length ≤ 1000) : al 2 l = (l.length : Int) := by
  have : ∀ (l : List Int) (k : Nat), k + l.length ≤ 1000 → l.foldl (ad 2) (k : Int) = ((k + l.length : Nat) : Int) := by
    intro l
    induction l with
    | nil => intro k _; rfl
    | cons x l ih =>
      intro k hk
      simp only [List.length_cons] at hk
      rw [List.foldl_cons, show ad 2 (k : Int) x = ((k + 1 : Nat) : Int) by simp [ad, jn, wrap64]; omega, ih (k + 1) (by omega), List.length_cons]
      congr 1
      omega
  have h0 := this l 0 (by omega)
  rw [Nat.zero_add] at h0
  exact h0
theorem ad_le (s x : Int) : ad 3 s x ≤ x := by simp [ad, jn]; split <;> omega
theorem ad_ge (s x : Int) : x ≤ ad 4 s x := by simp [ad, jn]; split <;> omega
theorem ad_xor {s x : Int} (h : In64 s) : ad 5 (ad 5 s x) x = s := by simpa [ad, jn] using xr_back h
theorem ad_sum {s x : Int} (h : In64 s) : ad 1 (ad 1 s x) (wrap64 (-x)) = s := by
  unfold In64 at h
  simp [ad, jn]
  unfold wrap64
  omega
end Go.Proofs.Ytlikikiglicdlaa
