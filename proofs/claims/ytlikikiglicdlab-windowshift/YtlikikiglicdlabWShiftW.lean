/-
  A span set within a row of panes; Put, as a row of the law's own.
-/
import Derived.Test.YtlikikiglicdlabWShiftP
namespace Go.Proofs.Ytlikikiglicdlab
open Go.RowKit

theorem Row.setSpan {base : Nat} {w : World} {g off n cap : Nat} {l : List Pn} (h : Row 41 4 Pn.cs base w (.slice (some ⟨g, off, none⟩) n cap) l) {i : Nat} {x : Pn} (hx : l[i]? = some x) (f' t' : Int) : Row 41 4 Pn.cs base (w.setCells g (off + i * 4 + 1) [.int .i64 f', .int .i64 t']) (.slice (some ⟨g, off, none⟩) n cap) (l.set i ⟨x.k, f', t', x.a⟩) := by
  have hi := lt_of_get hx
  rcases h with ⟨e, _⟩ | ⟨g', off', cap', cur, e, h2, h3, h4, h5, h6, h7⟩
  · cases e
  · cases e
    have hb : BoxT 41 w g cur := h3
    have hfit : off + i * 4 + 4 ≤ cur.size := by omega
    refine .inr ⟨g, off, cap, setL cur (off + i * 4 + 1) [.int .i64 f', .int .i64 t'], by rw [List.length_set], h2, hb.setCells _, by rw [List.length_set]; exact h4, h5, by rw [setL_size]; exact h6, ?_⟩
    intro q u hq
    have hql := lt_of_get hq
    rw [flat_size Pn.cs_len, List.length_set] at hql
    have hq4 : q / 4 < l.length := by omega
    have hdm : q / 4 * 4 + q % 4 = q := by omega
    have old : ∀ (y : Pn) (u : Value), l[q / 4]? = some y → (Pn.cs y)[q % 4]? = some u → cur[off + q]? = some u := by
      intro y u hy hu
      have h8 := flat_get Pn.cs_len l (q / 4) (q % 4) y u hy hu
      rw [hdm] at h8
      exact h7 _ _ h8
    by_cases hqi : q / 4 = i
    · have hn : (l.set i ⟨x.k, f', t', x.a⟩)[q / 4]? = some (⟨x.k, f', t', x.a⟩ : Pn) := by rw [hqi, List.getElem?_set_self hi]
      have hx' : l[q / 4]? = some x := by rw [hqi]; exact hx
      have hm4 : q % 4 = 0 ∨ q % 4 = 1 ∨ q % 4 = 2 ∨ q % 4 = 3 := by omega
      have new : ∀ u', (Pn.cs ⟨x.k, f', t', x.a⟩)[q % 4]? = some u' → u = u' := by
        intro u' hu
        have h9 := flat_get Pn.cs_len _ (q / 4) (q % 4) _ u' hn hu
        rw [hdm, hq] at h9
        exact Option.some.inj h9
      rcases hm4 with e | e | e | e
      · rw [new (.int .i64 x.k) (by rw [e]; rfl), setL_out _ _ _ _ (.inl (by omega))]
        exact old x _ hx' (by rw [e]; rfl)
      · rw [new (.int .i64 f') (by rw [e]; rfl)]
        have h10 := setL_in [.int .i64 f', .int .i64 t'] cur (off + i * 4 + 1) 0 (.int .i64 f') (by show off + i * 4 + 1 + 2 ≤ _; omega) rfl
        have e2 : off + q = off + i * 4 + 1 + 0 := by omega
        rw [e2]
        exact h10
      · rw [new (.int .i64 t') (by rw [e]; rfl)]
        have h10 := setL_in [.int .i64 f', .int .i64 t'] cur (off + i * 4 + 1) 1 (.int .i64 t') (by show off + i * 4 + 1 + 2 ≤ _; omega) rfl
        have e2 : off + q = off + i * 4 + 1 + 1 := by omega
        rw [e2]
        exact h10
      · rw [new (.int .i64 x.a) (by rw [e]; rfl), setL_out _ _ _ _ (.inr (by show off + i * 4 + 1 + 2 ≤ off + q; omega))]
        exact old x _ hx' (by rw [e]; rfl)
    · obtain ⟨y, hy⟩ := get_of_lt hq4
      have hn : (l.set i ⟨x.k, f', t', x.a⟩)[q / 4]? = some y := by rw [List.getElem?_set_ne (fun e => hqi e.symm)]; exact hy
      obtain ⟨u', hu⟩ := get_of_lt (show q % 4 < (Pn.cs y).length by rw [Pn.cs_len]; omega)
      have h9 := flat_get Pn.cs_len _ (q / 4) (q % 4) _ u' hn hu
      rw [hdm, hq] at h9
      rw [Option.some.inj h9, setL_out _ _ _ _ (by show _ ∨ off + i * 4 + 1 + 2 ≤ off + q; omega)]
      exact old y u' hy hu
theorem Put_own {w : World} {v : Value} {l : List Pn} (hl : LSeg 4 Pn.cs w.heap.size w v l) (hn : l.length ≤ 50000) (k : Int) {size slide : Int} (hs : In64 size) (hsl : In64 slide) (a rk rt rv : Int) (wx : World) (hb : Below w.heap.size w wx) :
    Calls Try.prog 10 #[.agg #[.int .i64 k, .int .i64 size, .int .i64 slide], .int .i64 a, v, .agg #[.int .i64 rk, .int .i64 rt, .int .i64 rv]] wx fun e w' => ∃ u, e = .returned u ∧ Row 41 4 Pn.cs w.heap.size w' u (pPut k size slide a l ⟨rk, rt, rv⟩) ∧ Below w.heap.size w w' :=
  (Put_any ((hl.below hb).mono hb.size) hn k hs hsl a ⟨rk, rt, rv⟩).mono fun _ _ ⟨u, h1, h2, h3⟩ => ⟨u, h1, h2.mono hb.size, hb.trans (h3.mono hb.size)⟩
/-- A row that has come back so far. -/
def Backed (d : Int) (ps ms : List Pn) (i : Nat) : Prop := ms.length = ps.length ∧ ∀ j x, ps[j]? = some x → ms[j]? = some (if j < i then x else sh d x)
theorem backed_start (d : Int) (ps : List Pn) : Backed d ps (ps.map (sh d)) 0 := by
  refine ⟨by simp, fun j x h => ?_⟩
  rw [List.getElem?_map, h, if_neg (by omega)]; rfl
theorem backed_step {d : Int} {ps ms : List Pn} {i : Nat} {x : Pn} (h : Backed d ps ms i) (hx : ps[i]? = some x) : Backed d ps (ms.set i x) (i + 1) := by
  refine ⟨by rw [List.length_set]; exact h.1, fun j y hy => ?_⟩
  by_cases e : j = i
  · subst e
    rw [List.getElem?_set_self (by have := lt_of_get hx; have := h.1; omega), if_pos (by omega)]
    rw [hx] at hy; exact hy
  · rw [List.getElem?_set_ne (fun h => e h.symm), h.2 j y hy]
    by_cases h1 : j < i
    · rw [if_pos h1, if_pos (by omega)]
    · rw [if_neg h1, if_neg (by omega)]
theorem backed_end {d : Int} {ps ms : List Pn} {i : Nat} (h : Backed d ps ms i) (hi : ps.length ≤ i) : ms = ps := by
  apply List.ext_getElem?
  intro j
  by_cases hj : j < ps.length
  · obtain ⟨x, hx⟩ := get_of_lt hj
    rw [h.2 j x hx, hx, if_pos (by omega)]
  · rw [List.getElem?_eq_none (by have := h.1; omega), List.getElem?_eq_none (by omega)]
end Go.Proofs.Ytlikikiglicdlab
