/-
  Texts of the vault, in build order: Fine.
-/
import Derived.Test.YtbfhcbihgleddaaGreatDoorM02
/-
  A finer contract of the document's Put: one other block stays as it was.
-/
namespace Go.Proofs.YtbfhcbihgleddaaGreatDoor
open Go.RowKit

/-- append of one byte: the row is the one that it was, or a new one. -/
theorem app_fine {w : World} {ops : Array Oper} {rest : List Oper} {o : Oper} {a : Act} {Q : Exit → Act → World → Prop} (hgd : o.guard = none) (s x : Operand)
    (ho : o.op = .call { callee := .builtin .append, args := #[s, x], argTypes := #[22, 22] }) (base : Nat) (v : Value) (l : List Nat) (hs : a.eval s = v) (hown : Own base w v l)
    (ad : Addr) (y : Nat) (hx : a.eval x = .slice (some ad) 1 1) (hnews : w.cell? (ad.add 0) = some (.int .u8 (y : Int)))
    (hl : l.length ≤ 10000000000) (hbase : base ≤ w.heap.size)
    (h : ∀ v' w', Own base w' v' (l ++ [y]) → w.grownBy w' v.ownBlock → (∀ k, v'.ownBlock = some k → v.ownBlock = some k ∨ w.heap.size ≤ k) → wpList Tryz.prog ops Q rest (a.put o.dst v') w') : wpList Tryz.prog ops Q (o :: rest) a w := by
  obtain ⟨i0, hi, hz0, hz1, hz2⟩ := info_parts Tryz.info5
  have hc : ∀ (j : Nat) (u : Value), [Value.int .u8 (y : Int)][j]? = some u → w.cell? (ad.add j) = some u := by
    intro j u hj
    match j, hj with
    | 0, hj => simp at hj; subst hj; exact hnews
  have h1c : ∀ u ∈ [Value.int .u8 (y : Int)], u.oneCell' = true := by intro u hu; simp at hu; subst hu; rfl
  have hown0 := hown
  have out : ∀ (b : Nat) (v' : Value) (w' : World), base ≤ b → w'.ownsRow b 5 1 v' (l.length + 1) (bs l ++ [.int .u8 (y : Int)]) → Own base w' v' (l ++ [y]) := by
    intro b v' w' hb h1
    have h2 : Own b w' v' (l ++ [y]) := by
      show w'.ownsRow b 5 1 v' (l ++ [y]).length (bs (l ++ [y]))
      rw [List.length_append, bs_append]; exact h1
    exact h2.mono hb
  rcases hown.2 with ⟨rfl, h0⟩ | ⟨g, cap, cur, rfl, h2, h3, h4, h5, _⟩
  · have hl0 : l = [] := List.length_eq_zero_iff.1 h0
    subst hl0
    refine wpList_append_grows w hgd s x 22 ho 5 i0 (.int .u8 0) 1 1 Tryz.underlying22 hi hz0 hz1 hz2 rfl (by decide) none 0 0 [] hs (fun _ => ⟨rfl, rfl⟩) rfl (fun b hb => by cases hb) ad 1 1 [.int .u8 (y : Int)] hx rfl hc h1c (by omega) (by unfold maxLen; omega) (by omega) ?_
    intro v' w' h1 h2
    exact h v' w' (out _ v' w' hbase h1) h2 (fun k hk => .inr (World.ownsRow.lt h1 k hk).1)
  · by_cases hroom : l.length + 1 ≤ cap
    · refine wpList_append_fits w hgd s x 22 ho base 5 i0 1 Tryz.underlying22 hi hz1 g l.length cap (bs l) hs hown0 ad 1 1 [.int .u8 (y : Int)] hx rfl hc h1c hroom ?_
      intro w' h1 h2
      exact h _ w' (out base _ w' (Nat.le_refl _) h1) h2 (fun k hk => .inl hk)
    · refine wpList_append_grows w hgd s x 22 ho 5 i0 (.int .u8 0) 1 1 Tryz.underlying22 hi hz0 hz1 hz2 rfl (by decide) (some ⟨g, 0, none⟩) l.length cap (bs l) hs (fun e => by cases e) (by simp [bs]) (fun b hb => by cases hb; exact World.ownsRow.cells hown0 rfl) ad 1 1 [.int .u8 (y : Int)] hx rfl hc h1c (by omega) (by unfold maxLen; omega) (by omega) ?_
      intro v' w' h1 h2
      refine h v' w' (out _ v' w' hbase h1) ⟨h2.os, h2.tape, h2.output, h2.size, fun k hk _ => h2.block k hk (by simp)⟩ (fun k hk => .inr (World.ownsRow.lt h1 k hk).1)

/-- What Put leaves as it was: all below base, all that is no row of bytes, and block x. -/
structure KeptX (base x : Nat) (w w' : World) (v' : Value) : Prop where
  k : Kept base w w'
  b : w'.heap[x]? = w.heap[x]?
  n : v'.ownBlock ≠ some x

set_option maxHeartbeats 1000000 in
set_option maxRecDepth 100000 in
theorem put_fine (base x : Nat) (v : Value) (l : List Nat) (size n : Nat) (w : World) (hs : size ≤ 8) (hl : l.length ≤ 1000000000) (hb : base ≤ w.heap.size) (hown : Own base w v l) (hx : x < w.heap.size) (hne : Hid (v.ownBlock ≠ some x)) :
    Calls Tryz.prog 104 #[v, .int .i64 size, .int .u64 n] w fun e w' => ∃ v', e = .returned v' ∧ Own base w' v' (l ++ be size n) ∧ KeptX base x w w' v' := by
  go_enter Tryz.func104, Tryz.ntmps104
  go_wp2
  go_loopw [0, 7] (fun v i wr => ∃ k : Nat, k ≤ size ∧ i = .int .i64 ((size : Int) - 1 - k) ∧ Own base wr v (l ++ (be size n).take k) ∧ KeptX base x w wr v) (fun _ i _ => (intOf i + 1).toNat)
  case atStart => exact ⟨0, Nat.zero_le _, by simp, by simpa using hown, ⟨Kept.refl _ _, rfl, hne.out⟩⟩
  case round =>
    obtain ⟨k, hk, rfl, hown, hkept⟩ := hrel
    have hkl : ((be size n).take k).length ≤ 8 := by rw [List.length_take, be_length]; omega
    have hsz := hkept.k.size
    have HKX : Hid (KeptX base x w wr _) := hkept
    clear hkept
    by_cases hlt : k < size
    · go_wp2_with (at_builtin; (rw [cast_byte]); refine app_fine rfl _ _ rfl base _ _ rfl (hown.alloc _) ⟨wr.heap.size, 0, none⟩ (n / 2 ^ (8 * (size - 1 - k)) % 256) rfl (one_cell _ _ 0 (by simp)) ?c1 ?c2 ?_)
      case c1 => simp only [List.length_append]; omega
      case c2 => simp; omega
      intro v' w1 hown' hg hown2
      have hk1 : Kept base wr w1 := ((Kept.refl _ _).alloc _).trans (Kept.of_grown (hown.alloc _) hg)
      have HK2 : Hid (KeptX base x w w1 v') := by
        refine ⟨HKX.out.k.trans hk1, ?_, ?_⟩
        · rw [hg.block x (by simp; omega) (fun e => HKX.out.n e.symm), Below.heap_alloc wr _ x (by omega), HKX.out.b]
        · intro e
          rcases hown2 x e with h | h
          · exact HKX.out.n h
          · first | omega | (simp at h; omega)
      clear hg hown2 hk1
      go_wp2
      go_roundw
      case rel => exact ⟨k + 1, by omega, by go_num, by rw [be_take size n k hlt]; simpa using hown', HK2.out⟩
      case measure => simp [intOf]; omega
    · go_wp2
      go_ret
      have : k = size := by omega
      subst this
      rw [List.take_of_length_le (by rw [be_length]; omega)] at hown
      exact ⟨_, rfl, hown, HKX.out⟩
end Go.Proofs.YtbfhcbihgleddaaGreatDoor
