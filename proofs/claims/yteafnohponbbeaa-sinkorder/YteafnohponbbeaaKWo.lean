/-
  copied, without.
-/
import Derived.Test.YteafnohponbbeaaKUp
namespace Go.Proofs.Yteafnohponbbeaa
open Go.RowKit

set_option maxHeartbeats 4000000 in
set_option maxRecDepth 100000 in
theorem copiedRc_any {w : World} {B : Nat} {v : Value} {l : List Rc} (hl : LSeg 3 Rc.cs B w v l) (hn : l.length ≤ 1000000) : Calls Try.prog 29 #[v] w fun e w' => ∃ u, e = .returned u ∧ OwnL 39 3 Rc.cs w.heap.size w' u l ∧ Below w.heap.size w w' := by
  have HL := hide hl
  have HN : Hid (([] : List Rc).length + l.length ≤ 1000000) := (show _ ≤ _ by simpa using hn)
  obtain ⟨ao, cap, rfl⟩ := hl.shapeOf
  clear hl hn
  go_enter Try.func29, Try.ntmps29
  go_wp2_with (at_builtin; refine app_segL Try.infoRc Try.underlying29 rfl (by decide) (by decide) Rc.cs_len Rc.cs_one rfl _ _ rfl w.heap.size (.slice none 0 0) [] rfl (OwnL.nil _ _ _ _ _) B _ l rfl HL.out HN.out (Nat.le_refl _) ?_; intro v1 w1 h1 g1 k1; rw [List.nil_append] at h1)
  have b1 : Below w.heap.size w w1 := (Below.refl _ _).grown g1 (Nat.le_refl _) (fun g e => by cases e)
  go_ret
  exact ⟨_, rfl, h1, b1⟩
set_option maxHeartbeats 4000000 in
set_option maxRecDepth 100000 in
theorem copiedTx_any {w : World} {B : Nat} {v : Value} {l : List Tx} (hl : LSeg 2 Tx.cs B w v l) (hn : l.length ≤ 1000000) : Calls Try.prog 36 #[v] w fun e w' => ∃ u, e = .returned u ∧ OwnL 69 2 Tx.cs w.heap.size w' u l ∧ Below w.heap.size w w' := by
  have HL := hide hl
  have HN : Hid (([] : List Tx).length + l.length ≤ 1000000) := (show _ ≤ _ by simpa using hn)
  obtain ⟨ao, cap, rfl⟩ := hl.shapeOf
  clear hl hn
  go_enter Try.func36, Try.ntmps36
  go_wp2_with (at_builtin; refine app_segL Try.infoTx Try.underlying63 rfl (by decide) (by decide) Tx.cs_len Tx.cs_one rfl _ _ rfl w.heap.size (.slice none 0 0) [] rfl (OwnL.nil _ _ _ _ _) B _ l rfl HL.out HN.out (Nat.le_refl _) ?_; intro v1 w1 h1 g1 k1; rw [List.nil_append] at h1)
  have b1 : Below w.heap.size w w1 := (Below.refl _ _).grown g1 (Nat.le_refl _) (fun g e => by cases e)
  go_ret
  exact ⟨_, rfl, h1, b1⟩

theorem Row.seg {α : Type} {t sz : Nat} {cs : α → List Value} {base : Nat} {w : World} {v : Value} {xs : List α} (h : Row t sz cs base w v xs) (hcs : ∀ x, (cs x).length = sz) (hl : xs.length ≤ 140737488355328) : LSeg sz cs w.heap.size w v xs := by
  rcases h with ⟨rfl, rfl⟩ | ⟨g, off, cap, cur, rfl, h2, h3, h4, h5, h6, h7⟩
  · exact LSeg.nil' _ _ _ _
  · refine ⟨_, _, rfl, hl, .inr ⟨g, off, rfl, h3.lt, fun i x hi j u hu => ?_⟩⟩
    rw [h3.cellAt, Nat.add_assoc]
    exact h7 _ u (flat_get hcs xs i j x u hi hu)
theorem Row.mono {α : Type} {t sz : Nat} {cs : α → List Value} {base base' : Nat} {w : World} {v : Value} {xs : List α} (h : Row t sz cs base w v xs) (hb : base' ≤ base) : Row t sz cs base' w v xs := by
  rcases h with h | ⟨g, off, cap, cur, e, h2, h3⟩
  · exact .inl h
  · exact .inr ⟨g, off, cap, cur, e, Nat.le_trans hb h2, h3⟩
theorem Row.own_shape {α : Type} {t sz : Nat} {cs : α → List Value} {base : Nat} {w : World} {a : Option Addr} {n c : Nat} {xs : List α} (h : Row t sz cs base w (.slice a n c) xs) : n = xs.length ∧ xs.length ≤ c := by
  rcases h with ⟨e, rfl⟩ | ⟨g, off, cap, cur, e, h2, h3, h4, _⟩
  · cases e; exact ⟨rfl, Nat.le_refl _⟩
  · cases e; exact ⟨rfl, h4⟩
/-- The first k. -/
theorem Row.take {α : Type} {t sz : Nat} {cs : α → List Value} {base : Nat} {w : World} {a : Option Addr} {n c k : Nat} {xs : List α} (h : Row t sz cs base w (.slice a n c) xs) (hk : k ≤ xs.length) : Row t sz cs base w (.slice a k c) (xs.take k) := by
  rcases h with ⟨e, rfl⟩ | ⟨g, off, cap, cur, e, h2, h3, h4, h5, h6, h7⟩
  · cases e
    obtain rfl : k = 0 := by simpa using hk
    exact .inl ⟨rfl, rfl⟩
  · cases e
    refine .inr ⟨g, off, c, cur, by rw [List.length_take, Nat.min_eq_left hk], h2, h3, by rw [List.length_take]; omega, h5, h6, fun j u hj => h7 j u ?_⟩
    have e : xs.flatMap cs = (xs.take k).flatMap cs ++ (xs.drop k).flatMap cs := by rw [← List.flatMap_append, List.take_append_drop]
    rw [e, List.getElem?_append_left (lt_of_get hj)]
    exact hj
/-- Behind the first k; where nothing may follow, the address stays. -/
theorem Row.drop {α : Type} {t sz : Nat} {cs : α → List Value} (hcs : ∀ x, (cs x).length = sz) {base : Nat} {w : World} {g off n c k : Nat} {xs : List α} (h : Row t sz cs base w (.slice (some ⟨g, off, none⟩) n c) xs) (hk : k ≤ xs.length) : (k ≠ c → Row t sz cs base w (.slice (some ⟨g, off + k * sz, none⟩) (n - k) (c - k)) (xs.drop k)) ∧ (k = c → Row t sz cs base w (.slice (some ⟨g, off, none⟩) 0 0) [] ∧ xs.drop k = []) := by
  rcases h with ⟨e, rfl⟩ | ⟨g, off, cap, cur, e, h2, h3, h4, h5, h6, h7⟩
  · cases e
  · cases e
    refine ⟨fun hc => .inr ⟨g, off + k * sz, c - k, cur, by rw [List.length_drop], h2, h3, by rw [List.length_drop]; omega, by omega, ?_, fun j u hj => ?_⟩, fun hc => ⟨.inr ⟨g, off, 0, cur, rfl, h2, h3, Nat.le_refl _, by omega, by omega, fun j u hu => by simp at hu⟩, List.drop_eq_nil_of_le (by omega)⟩⟩
    · have : c * sz = (c - k) * sz + k * sz := by rw [← Nat.add_mul]; congr 1; omega
      omega
    · rw [Nat.add_assoc]
      refine h7 _ u ?_
      have e : xs.flatMap cs = (xs.take k).flatMap cs ++ (xs.drop k).flatMap cs := by rw [← List.flatMap_append, List.take_append_drop]
      rw [e, List.getElem?_append_right (by rw [flat_size hcs, List.length_take, Nat.min_eq_left hk]; omega), flat_size hcs, List.length_take, Nat.min_eq_left hk, Nat.add_sub_cancel_left]
      exact hj
theorem zero_val (w : World) : (zeroValue 69).run Try.prog w = .ok (.agg #[.int .u64 0, .slice none 0 0]) w := by
  obtain ⟨i, hi, hz, _⟩ := info_parts Try.infoTx
  simp [zeroValue, typeInfo, hi, hz]
theorem zero_len (n : Nat) : (Builtin.zeroCells #[.int .u64 0, .slice none 0 0] n).toList.length = n * 2 := by simp [Builtin.zeroCells]
theorem zero_one (n : Nat) : ∀ v ∈ (Builtin.zeroCells #[.int .u64 0, .slice none 0 0] n).toList, v.oneCell' = true := by
  intro v hv
  simp only [Builtin.zeroCells] at hv
  simp at hv
  obtain ⟨i, _, rfl⟩ := hv
  have : i % 2 = 0 ∨ i % 2 = 1 := by omega
  rcases this with h | h <;> simp [h] <;> rfl
theorem run_clear_tx (w : World) (ty b o n c : Nat) (hn : 0 < n) (hc : ∀ j, j < n * 2 → (w.cell? ⟨b, o + j, none⟩).isSome = true) (hf : ∀ j, j < n * 2 → w.frozen? ⟨b, o + j, none⟩ = false) :
    (Builtin.clear_ #[63] ty #[.slice (some ⟨b, o, none⟩) n c]).run Try.prog w = .ok (.tuple #[]) (w.setCells b o (Builtin.zeroCells #[.int .u64 0, .slice none 0 0] n).toList) := by
  have hst := run_storeCells_cells (P := Try.prog) b o (Builtin.zeroCells #[.int .u64 0, .slice none 0 0] n).toList 0 w (by rw [zero_len]; simpa using hc) (by rw [zero_len]; simpa using hf) (zero_one n)
  simp only [Nat.add_zero] at hst
  obtain ⟨m, rfl⟩ : ∃ m, n = m + 1 := ⟨n - 1, by omega⟩
  simp [Builtin.clear_, run_underlying Try.underlying63, Value.cells, hst]
theorem run_clear_none (w : World) (ty : Nat) (a : Option Addr) (c : Nat) : (Builtin.clear_ #[63] ty #[.slice a 0 c]).run Try.prog w = .ok (.tuple #[]) w := by
  cases a <;> simp [Builtin.clear_, run_underlying Try.underlying63]
/-- What is to be gone: nothing, or cells of the very block, apart from those that are left. -/
def Gone (w : World) (lv : Value) (ln : Nat) (ga : Option Addr) (gn : Nat) : Prop :=
  gn = 0 ∨ ∃ g off cur, ga = some ⟨g, off, none⟩ ∧ BoxT 69 w g cur ∧ off + gn * 2 ≤ cur.size ∧ ∃ lo lc, lv = .slice (some ⟨g, lo, none⟩) ln lc ∧ (lo + ln * 2 ≤ off ∨ off + gn * 2 ≤ lo)
set_option maxHeartbeats 4000000 in
set_option maxRecDepth 100000 in
theorem without_any {w : World} {la ga : Option Addr} {ln lc gn gc : Nat} {ls : List Tx} (hl : Row 69 2 Tx.cs 0 w (.slice la ln lc) ls) (hg : Gone w (.slice la ln lc) ln ga gn) (hn : ls.length ≤ 1000000) :
    Calls Try.prog 31 #[.slice la ln lc, .slice ga gn gc] w fun e w' => ∃ u, e = .returned u ∧ Row 69 2 Tx.cs 0 w' u ls ∧ w.grownBy w' (Value.slice la ln lc).ownBlock ∧ ∀ h, u.ownBlock = some h → (Value.slice la ln lc).ownBlock = some h ∨ w.heap.size ≤ h := by
  obtain ⟨rfl, hlc⟩ := hl.own_shape
  have HC := hide (copiedTx_any (hl.seg Tx.cs_len (by omega)) hn)
  by_cases hle : ls.length ≤ gn
  · have bt : (ls.length : Int) ≤ (gn : Int) := by omega
    clear hl hg
    go_enter Try.func31, Try.ntmps31
    go_wp2_with (first | (go_at_call 36; refine HC.out.mono ?_; rintro e w1 ⟨u, rfl, o1, b1⟩; have O1 := hide o1; have B1 := hide b1; clear o1 b1) | fail)
    go_ret
    exact ⟨_, rfl, (Row.of_own O1.out).mono (Nat.zero_le _), ⟨B1.out.os, B1.out.tape, B1.out.output, B1.out.size, fun i hi _ => B1.out.block i hi⟩, fun g e => .inr (O1.out.at g e)⟩
  · have bt : ¬ (ls.length : Int) ≤ (gn : Int) := by omega
    rcases hg with h0 | ⟨g, off, cur, rfl, hb, hsz, lo, lc', e, hap⟩
    · have hrun : ∀ ty, (Builtin.clear_ #[63] ty #[.slice ga gn gc]).run Try.prog w = .ok (.tuple #[]) w := fun ty => by rw [h0]; exact run_clear_none w ty ga gc
      clear h0
      have HL := hide hl
      clear hl
      go_enter Try.func31, Try.ntmps31
      go_wp2_with fail
      go_ret
      exact ⟨_, rfl, HL.out, grownBy_refl _ _, fun g e => .inl e⟩
    · cases e
      by_cases h0 : gn = 0
      · have hrun : ∀ ty, (Builtin.clear_ #[63] ty #[.slice (some ⟨g, off, none⟩) gn gc]).run Try.prog w = .ok (.tuple #[]) w := fun ty => by rw [h0]; exact run_clear_none w ty _ gc
        clear h0
        have HL := hide hl
        clear hl
        go_enter Try.func31, Try.ntmps31
        go_wp2_with fail
        go_ret
        exact ⟨_, rfl, HL.out, grownBy_refl _ _, fun g e => .inl e⟩
      · have hrun : ∀ ty, (Builtin.clear_ #[63] ty #[.slice (some ⟨g, off, none⟩) gn gc]).run Try.prog w = .ok (.tuple #[]) (w.setCells g off (Builtin.zeroCells #[.int .u64 0, .slice none 0 0] gn).toList) := fun ty => run_clear_tx w ty g off gn gc (by omega) (fun j hj => by
          rw [hb.cellAt, Array.getElem?_eq_getElem (by omega)]; rfl) (fun j _ => hb.free _)
        have HL := hide hl
        have HZ := hide (zero_len gn)
        generalize (Builtin.zeroCells #[.int .u64 0, .slice none 0 0] gn).toList = vs at *
        clear hl
        have HB := hide hb
        have HP := hide hap
        have HS := hide hsz
        clear hb hap hsz
        go_enter Try.func31, Try.ntmps31
        go_wp2_with fail
        go_ret
        refine ⟨_, rfl, ?_, grown_setCells g vs w off, fun h e => .inl e⟩
        rcases HL.out with ⟨e, _⟩ | ⟨g2, off2, cap2, cur2, e, h2, h3, h4, h5, h6, h7⟩
        · cases e
        · cases e
          obtain rfl : cur2 = cur := by have h8 := HB.out; unfold BoxT at h3 h8; rw [h3] at h8; cases h8; rfl
          refine .inr ⟨g, lo, lc, _, rfl, h2, h3.setCells vs, h4, h5, by rw [setL_size]; exact h6, fun j u hj => ?_⟩
          have hj2 := lt_of_get hj
          rw [flat_size Tx.cs_len] at hj2
          rw [setL_out _ _ _ _ (by have := HP.out; have := HZ.out; omega)]
          exact h7 j u hj

end Go.Proofs.Yteafnohponbbeaa
