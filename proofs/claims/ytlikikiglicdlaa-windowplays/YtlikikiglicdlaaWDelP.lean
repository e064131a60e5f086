/-
  slices.DeleteFunc over panes.
-/
import Derived.Test.YtlikikiglicdlaaWDel
namespace Go.Proofs.Ytlikikiglicdlaa
open Go.RowKit

def keepO (wh : Pn) (l : List Pn) : List Pn := l.filter fun s => !ovb wh s
/-- In the midst of DeleteFunc. -/
structure DI (w wr : World) (wh : Pn) (K g cap : Nat) (l : List Pn) (j : Nat) : Prop where
  hk : BoxT 46 wr K wh.cs.toArray
  gr : w.grownBy wr (some g)
  box : ∃ cur : Array Value, BoxT 46 wr g cur ∧ cur.size = cap * 4 ∧ (∀ (a : Nat) (x : Pn), (keepO wh (l.take j))[a]? = some x → ∀ (q : Nat) (u : Value), x.cs[q]? = some u → cur[a * 4 + q]? = some u) ∧ (∀ (a : Nat) (x : Pn), j ≤ a → l[a]? = some x → ∀ (q : Nat) (u : Value), x.cs[q]? = some u → cur[a * 4 + q]? = some u)
theorem keep_take {wh : Pn} {l : List Pn} {j : Nat} {s : Pn} (hs : l[j]? = some s) : keepO wh (l.take (j + 1)) = if ovb wh s then keepO wh (l.take j) else keepO wh (l.take j) ++ [s] := by
  have hlt := lt_of_get hs
  have e : l[j] = s := by rw [List.getElem?_eq_getElem hlt] at hs; exact Option.some.inj hs
  rw [List.take_succ_eq_append_getElem hlt, e]
  unfold keepO
  rw [List.filter_append]
  cases h : ovb wh s <;> simp [h]
theorem keep_le (wh : Pn) (l : List Pn) (j : Nat) : (keepO wh (l.take j)).length ≤ j := by
  have h1 : (keepO wh (l.take j)).length ≤ (l.take j).length := List.length_filter_le ..
  have h2 : (l.take j).length ≤ j := by rw [List.length_take]; omega
  omega
theorem grown_below {w wr w' : World} {r : Option Nat} (h : w.grownBy wr r) (hb : Below wr.heap.size wr w') : w.grownBy w' r :=
  ⟨hb.os.trans h.os, hb.tape.trans h.tape, hb.output.trans h.output, Nat.le_trans h.size hb.size, fun i hi hne => (hb.block i (Nat.lt_of_lt_of_le hi h.size)).trans (h.block i hi hne)⟩
theorem DI.skip {w wr w' : World} {wh : Pn} {K g cap : Nat} {l : List Pn} {j : Nat} {s : Pn} (h : DI w wr wh K g cap l j) (hb : Below wr.heap.size wr w') (hs : l[j]? = some s) (hw : ovb wh s = true) : DI w w' wh K g cap l (j + 1) := by
  obtain ⟨cur, h1, h2, h3, h4⟩ := h.box
  refine ⟨BoxT.below (t := 46) h.hk hb, grown_below h.gr hb, cur, BoxT.below (t := 46) h1 hb, h2, fun a x ht => ?_, fun a x ha ht => h4 a x (by omega) ht⟩
  rw [keep_take hs, if_pos hw] at ht
  exact h3 a x ht
theorem DI.move {w wr w' : World} {wh : Pn} {K g cap : Nat} {l : List Pn} {j : Nat} {s : Pn} (h : DI w wr wh K g cap l j) (hb : Below wr.heap.size wr w') (hKg : K ≠ g) (hs : l[j]? = some s) (hw : ovb wh s = false) (hlt : (keepO wh (l.take j)).length < j) :
    DI w (w'.setCells g ((keepO wh (l.take j)).length * 4) s.cs) wh K g cap l (j + 1) := by
  obtain ⟨cur, h1, h2, h3, h4⟩ := h.box
  have h1' := BoxT.below (t := 46) h1 hb
  have hjl : j < cap := by
    have := lt_of_get (l := cur.toList) (by rw [Array.getElem?_toList]; exact h4 j s (Nat.le_refl _) hs 0 _ rfl)
    simp at this
    omega
  have hgr := grownBy_trans (grown_below h.gr hb) (grown_setCells g s.cs w' ((keepO wh (l.take j)).length * 4))
  have hk' : BoxT 46 (w'.setCells g ((keepO wh (l.take j)).length * 4) s.cs) K wh.cs.toArray := (BoxT.below (t := 46) h.hk hb).grown (grown_setCells g s.cs w' ((keepO wh (l.take j)).length * 4)) hKg
  refine ⟨hk', hgr, _, h1'.setCells s.cs, by rw [setL_size]; exact h2, fun a x ht q u hu => ?_, fun a x ha ht q u hu => ?_⟩
  · have hq := lt_of_get hu
    rw [Pn.cs_len] at hq
    rw [keep_take hs, hw] at ht
    simp only [Bool.false_eq_true, if_false] at ht
    by_cases e : a < (keepO wh (l.take j)).length
    · rw [List.getElem?_append_left e] at ht
      rw [setL_out _ _ _ _ (.inl (by omega))]
      exact h3 a x ht q u hu
    · have ha : a = (keepO wh (l.take j)).length := by
        have := lt_of_get ht
        simp at this; omega
      subst ha
      simp at ht
      subst ht
      exact setL_in _ _ _ _ _ (by rw [Pn.cs_len, h2]; omega) hu
  · have hq := lt_of_get hu
    rw [Pn.cs_len] at hq
    rw [setL_out _ _ _ _ (.inr (by rw [Pn.cs_len]; omega))]
    exact h4 a x (by omega) ht q u hu
theorem keep_all {wh : Pn} {l : List Pn} (h : ∀ s ∈ l, ovb wh s = false) : keepO wh l = l := by
  unfold keepO
  rw [List.filter_eq_self]
  intro s hs
  rw [h s hs]; rfl
theorem keep_lt {wh : Pn} {l : List Pn} {k : Nat} {s : Pn} (hs : l[k]? = some s) (hw : ovb wh s = true) (j : Nat) (hj : k < j) (hjl : j ≤ l.length) : (keepO wh (l.take j)).length < j := by
  have h1 : s ∈ l.take j := by
    refine List.mem_of_getElem? (i := k) ?_
    rw [List.getElem?_take, if_pos hj]; exact hs
  have h2 : (keepO wh (l.take j)).length < (l.take j).length := by
    unfold keepO
    exact List.length_filter_lt_length_iff_exists.2 ⟨s, h1, by rw [hw]; decide⟩
  rw [List.length_take] at h2
  omega
theorem Try.zeroPn (w : World) : (zeroValue 46).run Try.prog w = .ok (.agg #[.int .i64 0, .int .i64 0, .int .i64 0, .int .i64 0]) w := by
  obtain ⟨i, hi, hz, _⟩ := info_parts Try.infoPn
  simp [zeroValue, typeInfo, hi, hz]
theorem zero_cells (n : Nat) : (Builtin.zeroCells #[Value.int .i64 0, .int .i64 0, .int .i64 0, .int .i64 0] n).toList = List.replicate (n * 4) (.int .i64 0) := by
  simp only [Builtin.zeroCells]
  apply List.ext_getElem
  · simp
  · intro i h1 h2
    have : i % 4 = 0 ∨ i % 4 = 1 ∨ i % 4 = 2 ∨ i % 4 = 3 := by omega
    rcases this with h | h | h | h <;> simp [h]
theorem run_clear_pn (w : World) (ty b o n c : Nat) (hn : 0 < n) (hc : ∀ j, j < n * 4 → (w.cell? ⟨b, o + j, none⟩).isSome = true) (hf : ∀ j, j < n * 4 → w.frozen? ⟨b, o + j, none⟩ = false) :
    (Builtin.clear_ #[35] ty #[.slice (some ⟨b, o, none⟩) n c]).run Try.prog w = .ok (.tuple #[]) (w.setCells b o (List.replicate (n * 4) (.int .i64 0))) := by
  have hst := run_storeCells_cells (P := Try.prog) b o (List.replicate (n * 4) (.int .i64 0)) 0 w (by simpa using hc) (by simpa using hf) (by intro v hv'; rw [List.eq_of_mem_replicate hv']; rfl)
  simp only [Nat.add_zero] at hst
  have hz := zero_cells n
  obtain ⟨m, rfl⟩ : ∃ m, n = m + 1 := ⟨n - 1, by omega⟩
  simp [Builtin.clear_, run_underlying Try.underlying35, Value.cells, hz, hst]
end Go.Proofs.Ytlikikiglicdlaa
