/-
  numberOf.
-/
import Derived.Test.YtdoldohcimbdaaaSBytes
namespace Go.Proofs.Ytdoldohcimbdaaa
open Go.RowKit

/-- The number whose bytes these are, the highest first. -/
def nOf (l : List Nat) : Nat := l.foldl (fun n x => n * 256 + x) 0
theorem nOf_snoc (l : List Nat) (x : Nat) : nOf (l ++ [x]) = nOf l * 256 + x := by unfold nOf; rw [List.foldl_append]; rfl
theorem nOf_le : ∀ (l : List Nat) (a : Nat), (∀ x ∈ l, x < 256) → l.foldl (fun n x => n * 256 + x) a + 1 ≤ (a + 1) * 256 ^ l.length
  | [], a, _ => by simp
  | x :: l, a, h => by
    have h1 := nOf_le l (a * 256 + x) (fun y hy => h y (List.mem_cons_of_mem _ hy))
    have h2 := h x (List.mem_cons_self ..)
    have h3 : (a * 256 + x + 1) * 256 ^ l.length ≤ ((a + 1) * 256) * 256 ^ l.length := Nat.mul_le_mul_right _ (by omega)
    rw [List.foldl_cons, List.length_cons, Nat.pow_succ, Nat.mul_comm (256 ^ l.length), ← Nat.mul_assoc]
    omega
theorem nOf_lt (l : List Nat) (h : ∀ x ∈ l, x < 256) : nOf l < 256 ^ l.length := by
  have := nOf_le l 0 h
  unfold nOf
  omega
theorem or_byte (n x : Nat) (hx : x < 256) : n * 256 ||| x = n * 256 + x := by
  have h := Nat.shiftLeft_add_eq_or_of_lt (b := x) (i := 8) (by omega) n
  rw [Nat.shiftLeft_eq] at h
  exact h.symm
theorem orb_eq (n x : Nat) (hn : n < 72057594037927936) (hx : x < 256) : bits .or .u64 ((n : Int) * 256) (x : Int) = ((n * 256 + x : Nat) : Int) := by
  rw [show (n : Int) * 256 = ((n * 256 : Nat) : Int) by omega, u64_or_nat _ _ (by omega) (by omega), or_byte n x hx]
set_option maxHeartbeats 4000000 in
set_option maxRecDepth 100000 in
theorem numberOf_any {w : World} {v : Value} {l : List Nat} (hl : LSeg 1 u8cs w.heap.size w v l) (hb : ∀ x ∈ l, x < 256) (hn : l.length ≤ 8) : Calls Try.prog 59 #[v] w fun e w' => e = .returned (.int .u64 (nOf l : Int)) ∧ w' = w := by
  obtain ⟨ao, cap, rfl⟩ := hl.shapeOf
  have HL := hide hl
  have HB := hide hb
  clear hl hb
  go_enter Try.func59, Try.ntmps59
  go_wp2_with fail
  go_loopg [3, 5, 8] (l.length + 1) (fun gh nv _ iv wr => ∃ i : Nat, iv = .int .i64 (i : Int) ∧ nv = .int .u64 (nOf (l.take i) : Int) ∧ i ≤ l.length ∧ l.length + 1 ≤ gh + i ∧ wr = w)
  case atStart => exact ⟨0, rfl, rfl, by omega, by omega, rfl⟩
  case round =>
    obtain ⟨i, rfl, rfl, hi, hg, rfl⟩ := hrel
    obtain ⟨go, rfl⟩ : ∃ go, gk = go + 1 := ⟨gk - 1, by omega⟩
    by_cases hlt : i < l.length
    · obtain ⟨x, hx⟩ := get_of_lt hlt
      have bt : (i : Int) < (l.length : Int) := by omega
      have hxb := HB.out x (List.mem_of_getElem? hx)
      have hlt2 : nOf (l.take i) < 72057594037927936 := by
        have h1 := nOf_lt (l.take i) (fun y hy => HB.out y (List.mem_of_mem_take hy))
        have h2 : 256 ^ (l.take i).length ≤ 256 ^ 7 := Nat.pow_le_pow_right (by omega) (by rw [List.length_take]; omega)
        have h3 : (256 : Nat) ^ 7 = 72057594037927936 := by decide
        omega
      have HS : Hid (nOf (l.take (i + 1)) = nOf (l.take i) * 256 + x) := (show _ = _ by
        have e : l[i] = x := by rw [List.getElem?_eq_getElem hlt] at hx; exact Option.some.inj hx
        rw [List.take_succ_eq_append_getElem hlt, e, nOf_snoc])
      obtain ⟨nb, no, rfl, nlt, _, d⟩ := HL.out.readAt hx
      have d0 : wr.cell? ⟨nb, no + i, none⟩ = some (.int .u8 (x : Int)) := by have h0 := d 0 _ rfl; simpa using h0
      clear d hx
      generalize nOf (l.take i) = N at *
      go_wp2_with fail
      go_roundg go
      case rel =>
        refine ⟨i + 1, by go_num, ?_, by omega, by omega, rfl⟩
        rw [HS.out]
        exact congrArg (Value.int .u64) (orb_eq _ _ hlt2 hxb)
      case measure => omega
    · have bt : ¬ (i : Int) < (l.length : Int) := by omega
      have HT : Hid (l.take i = l) := (show _ = _ from List.take_of_length_le (by omega))
      rw [HT.out]
      go_wp2_with fail
      go_ret
      exact ⟨rfl, rfl⟩
end Go.Proofs.Ytdoldohcimbdaaa
