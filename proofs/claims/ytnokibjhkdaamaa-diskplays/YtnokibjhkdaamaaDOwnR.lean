/-
  Rows of files that a call makes: append's laws.
-/
import Derived.Test.YtnokibjhkdaamaaDRefAt
import Derived.Deep.RegionLaw
namespace Go.Proofs.Ytnokibjhkdaamaa
open Go.RowKit Go.Maps

/-- v is a slice of just the files rs, at the head of a row that lies from block base on. -/
def OwnR (base : Nat) (w : World) (v : Value) (rs : List Rf) : Prop := w.ownsRow base 76 3 v rs.length (rs.flatMap Rf.cs)
abbrev RowR (w : World) (v : Value) (rs : List Rf) : Prop := LSeg 3 Rf.cs w.heap.size w v rs
theorem Try.info76 : (Try.prog.info? 76).map (fun i => (i.zero, i.size, i.bytes)) = some (some (.agg #[.string ByteArray.empty, .slice none 0 0, .int .i64 0]), 3, 48) := by kernel_rfl
theorem OwnR.nil (base : Nat) (w : World) : OwnR base w (.slice none 0 0) [] := World.ownsRow_nil _ _ _ _
theorem OwnR.alloc {base : Nat} {w : World} {v : Value} {rs : List Rf} (h : OwnR base w v rs) (o : Obj) : OwnR base (w.alloc o) v rs := World.ownsRow.alloc h o
theorem OwnR.drew {base : Nat} {w : World} {v : Value} {rs : List Rf} (h : OwnR base w v rs) : OwnR base w.drew v rs := h
theorem OwnR.shape {base : Nat} {w : World} {v : Value} {rs : List Rf} (h : OwnR base w v rs) : ∃ ao cap, v = .slice ao rs.length cap := by
  rcases h.2 with ⟨rfl, h0⟩ | ⟨g, cap, cur, rfl, _⟩
  · exact ⟨none, 0, by rw [h0]⟩
  · exact ⟨_, cap, rfl⟩
theorem Rf.cs_len (r : Rf) : (Rf.cs r).length = 3 := rfl
theorem flat_get (xs : List Rf) : ∀ (i j : Nat) (x : Rf) (u : Value), xs[i]? = some x → (Rf.cs x)[j]? = some u → (xs.flatMap Rf.cs)[i * 3 + j]? = some u := by
  induction xs with
  | nil => intro i j x u h; simp at h
  | cons y ys ih =>
    intro i j x u h hu
    have hj : j < 3 := by rw [← Rf.cs_len x]; exact (List.getElem?_eq_some_iff.1 hu).1
    rw [List.flatMap_cons]
    match i, h with
    | 0, h =>
      obtain rfl : y = x := by simpa using h
      rw [Nat.zero_mul, Nat.zero_add, List.getElem?_append_left (by rw [Rf.cs_len]; exact hj)]; exact hu
    | i + 1, h =>
      rw [List.getElem?_append_right (by rw [Rf.cs_len, Nat.succ_mul]; omega), Rf.cs_len, show (i + 1) * 3 + j - 3 = i * 3 + j by omega]
      exact ih i j x u (by simpa using h) hu
theorem flat_len (xs : List Rf) : (xs.flatMap Rf.cs).length = xs.length * 3 := by
  induction xs with
  | nil => rfl
  | cons a r ih => rw [List.flatMap_cons, List.length_append, ih, Rf.cs_len, List.length_cons]; omega
theorem flat_back (xs : List Rf) : ∀ (m : Nat) (u : Value), (xs.flatMap Rf.cs)[m]? = some u → ∃ x, xs[m / 3]? = some x ∧ (Rf.cs x)[m % 3]? = some u := by
  intro m u h
  have hm : m < xs.length * 3 := by rw [← flat_len]; exact (List.getElem?_eq_some_iff.1 h).1
  obtain ⟨x, hx⟩ : ∃ x, xs[m / 3]? = some x := ⟨_, List.getElem?_eq_getElem (by omega)⟩
  obtain ⟨v, hv⟩ : ∃ v, (Rf.cs x)[m % 3]? = some v := ⟨_, List.getElem?_eq_getElem (by rw [Rf.cs_len]; omega)⟩
  have := flat_get xs (m / 3) (m % 3) x v hx hv
  rw [show m / 3 * 3 + m % 3 = m by omega, h] at this
  exact ⟨x, hx, by rw [hv, this]⟩
theorem OwnR.row {base : Nat} {w : World} {v : Value} {rs : List Rf} (h : OwnR base w v rs) (hl : rs.length ≤ 140737488355328) : RowR w v rs := by
  rcases h.2 with ⟨rfl, h0⟩ | ⟨g, cap, cur, rfl, h2, h3, h4, h5, _⟩
  · have : rs = [] := List.length_eq_zero_iff.1 h0
    subst this
    exact ⟨none, 0, rfl, by simp, .inl rfl⟩
  · refine ⟨_, cap, rfl, hl, .inr ⟨g, 0, rfl, (Array.getElem?_eq_some_iff.1 h3).1, fun i x hx j u hu => ?_⟩⟩
    have hg := flat_get rs i j x u hx hu
    have hlt := (List.getElem?_eq_some_iff.1 hg).1
    have hlen : (rs.flatMap Rf.cs).length = rs.length * 3 := h.1
    rw [Nat.zero_add, World.ownsRow.cellAt h (i * 3 + j) (by omega)]
    exact hg
theorem cs_one (r : Rf) : ∀ u ∈ Rf.cs r, u.oneCell' = true := by
  intro u hu
  simp [Rf.cs] at hu
  rcases hu with rfl | rfl | rfl <;> rfl
/-- append of files onto files, run. -/
theorem appR_run {base : Nat} {w : World} {v vx : Value} {xs ys : List Rf} (hown : OwnR base w v xs) (hs : RowR w vx ys) (hl : xs.length + ys.length ≤ 1000000000) (hbase : base ≤ w.heap.size) (ty : TypeId) :
    ∃ v' w', (Builtin.append_ #[69, 69] ty #[v, vx]).run Try.prog w = .ok v' w' ∧ OwnR base w' v' (xs ++ ys) ∧ w.grownBy w' v.ownBlock := by
  obtain ⟨i0, hi, hz0, hz1, hz2⟩ := info_parts Try.info76
  obtain ⟨ao, cap, rfl, h2, h4⟩ := hs
  rcases ao with _ | ad
  · have hm : ys = [] := by
      rcases h4 with h4 | ⟨b, off, h5, _⟩
      · exact h4
      · cases h5
    subst hm
    refine ⟨v, w, run_append_none_any base 69 ty 76 i0 3 Try.underlying69 hi v xs.length (xs.flatMap Rf.cs) hown cap, ?_, ⟨rfl, rfl, rfl, Nat.le_refl _, fun _ _ _ => rfl⟩⟩
    rw [List.append_nil]; exact hown
  · obtain ⟨v', w', hr, ho, hg, _⟩ := run_append_own (P := Try.prog) w base 69 ty 76 i0 _ 3 48 Try.underlying69 hi hz0 hz1 hz2 rfl (by decide) v xs.length (xs.flatMap Rf.cs) hown ad ys.length cap (ys.flatMap Rf.cs) (flat_len ys) (fun m u hu => by
      rcases h4 with h4 | ⟨b, off, h5, _, h6⟩
      · subst h4; simp at hu
      · cases h5
        obtain ⟨x, hx, hc⟩ := flat_back ys m u hu
        have := h6 (m / 3) x hx (m % 3) u hc
        rw [add_plain2]
        rw [show off + m / 3 * 3 + m % 3 = off + m by omega] at this
        exact this) (fun u hu => by
      obtain ⟨r, _, hr⟩ := List.mem_flatMap.1 hu
      exact cs_one r u hr) (by unfold maxLen; omega) (by omega) hbase
    refine ⟨v', w', hr, ?_, hg⟩
    show w'.ownsRow base 76 3 v' (xs ++ ys).length ((xs ++ ys).flatMap Rf.cs)
    rw [List.length_append, List.flatMap_append]; exact ho
theorem appR {base : Nat} {w : World} {v vx : Value} {xs ys : List Rf} {ops : Array Oper} {rest : List Oper} {o : Oper} {a : Act} {Q : Exit → Act → World → Prop} (hgd : o.guard = none) (s x : Operand)
    (ho : o.op = .call { callee := .builtin .append, args := #[s, x], argTypes := #[69, 69] }) (hs : a.eval s = v) (hx : a.eval x = vx) (hown : OwnR base w v xs) (hrow : RowR w vx ys) (hl : xs.length + ys.length ≤ 1000000000) (hbase : base ≤ w.heap.size)
    (h : ∀ v' w', OwnR base w' v' (xs ++ ys) → w.grownBy w' v.ownBlock → wpList Try.prog ops Q rest (a.put o.dst v') w') : wpList Try.prog ops Q (o :: rest) a w := by
  obtain ⟨v', w', hr, h1, h2⟩ := appR_run hown hrow hl hbase o.type
  refine wpList_plain hgd fun K hK => ?_
  unfold Oper.wp
  simp [execOp, ho, resolve, invoke, builtin, hs, hx, hr, Result.andThen]
  exact hK _ _ (h v' w' h1 h2)
/-- The same, as one step of a region that draws. -/
theorem stepR {base : Nat} {w : World} {v vx : Value} {xs ys : List Rf} {ops : Array Oper} {o : Oper} {a : Act} {K : Act → World → Prop} {Q : Exit → Act → World → Prop} {E : Prop} (hgd : o.guard = none) (s x : Operand)
    (ho : o.op = .call { callee := .builtin .append, args := #[s, x], argTypes := #[69, 69] }) (hs : a.eval s = v) (hx : a.eval x = vx) (hown : OwnR base w v xs) (hrow : RowR w vx ys) (hl : xs.length + ys.length ≤ 1000000000) (hbase : base ≤ w.heap.size)
    (h : ∀ v' w', OwnR base w' v' (xs ++ ys) → w.grownBy w' v.ownBlock → K (a.put o.dst v') w') : if Region.wanted o (yielded ops a.tmps) = true then Oper.wp Try.prog o a w K Q else E := by
  have hw : Region.wanted o (yielded ops a.tmps) = true := by simp [Region.wanted, hgd]
  rw [if_pos hw]
  obtain ⟨v', w', hr, h1, h2⟩ := appR_run hown hrow hl hbase o.type
  unfold Oper.wp
  simp [execOp, ho, resolve, invoke, builtin, hs, hx, hr, Result.andThen]
  exact h v' w' h1 h2
/-- Beginnings and ends of rows. -/
theorem RowR.first {w : World} {ao : Option Addr} {n cap : Nat} {rs : List Rf} (h : RowR w (.slice ao n cap) rs) (k : Nat) (hk : k ≤ rs.length) (c : Nat) : RowR w (.slice ao k c) (rs.take k) := by
  obtain ⟨ao', cap', e, h2, h4⟩ := h
  simp only [Value.slice.injEq] at e
  obtain ⟨rfl, -, rfl⟩ := e
  have el : (rs.take k).length = k := by rw [List.length_take]; omega
  refine ⟨ao, c, by rw [el], by omega, ?_⟩
  rcases h4 with h4 | ⟨b, off, h5, h6, h7⟩
  · exact .inl (by rw [h4]; simp)
  · refine .inr ⟨b, off, h5, h6, fun i x hx => h7 i x ?_⟩
    rw [List.getElem?_take] at hx
    split at hx
    · exact hx
    · cases hx
theorem RowR.last {w : World} {b off n cap : Nat} {rs : List Rf} (h : RowR w (.slice (some ⟨b, off, none⟩) n cap) rs) (k : Nat) (hk : k ≤ rs.length) (c m : Nat) (hm : m = rs.length - k) : RowR w (.slice (some ⟨b, off + k * 3, none⟩) m c) (rs.drop k) := by
  obtain ⟨ao', cap', e, h2, h4⟩ := h
  simp only [Value.slice.injEq] at e
  obtain ⟨rfl, -, rfl⟩ := e
  subst hm
  refine ⟨_, c, by rw [List.length_drop], by rw [List.length_drop]; omega, ?_⟩
  rcases h4 with h4 | ⟨b', off', h5, h6, h7⟩
  · exact .inl (by rw [h4]; simp)
  · cases h5
    refine .inr ⟨b, off + k * 3, rfl, h6, fun i x hx j u hu => ?_⟩
    rw [List.getElem?_drop] at hx
    have := h7 (k + i) x hx j u hu
    rw [show off + (k + i) * 3 + j = off + k * 3 + i * 3 + j by rw [Nat.add_mul]; omega] at this
    exact this
/-- What 'd.L[k:]' is. -/
theorem slice_row {ao : Option Addr} {cap : Nat} (rs : List Rf) (k : Nat) (hk : k ≤ rs.length) (hc : rs.length ≤ cap) : ∃ vs, (∀ W, (Instr.sliceAt 69 (.slice ao rs.length cap) (some (.int .i64 (k : Int))) none none).run Try.prog W = .ok vs W) ∧
    ∀ W, RowR W (.slice ao rs.length cap) rs → RowR W vs (rs.drop k) := by
  have hel : Try.prog.elem 69 = 76 := by unfold Program.elem; rw [Try.underlying69]
  have hund : Try.prog.underlying 69 = some (.slice (Try.prog.elem 69)) := by rw [hel]; exact Try.underlying69
  refine ⟨sliced ao k rs.length cap 3, fun W => ?_, fun W h => ?_⟩
  · rw [run_sliceAt_slice (P := Try.prog) W 69 _ _ _ _ hund, run_slice_l (P := Try.prog) W 69 ao rs.length cap hund .i64 (k : Int) (by omega) (by omega), hel, Try.sizeOf76 W]
    rfl
  · unfold sliced
    by_cases hm : cap = k
    · rw [if_pos hm]
      have hkl : k = rs.length := by omega
      obtain ⟨ao', cap', e, h2, h4⟩ := h
      refine ⟨ao, cap - k, by rw [List.length_drop], by rw [List.length_drop]; omega, .inl ?_⟩
      rw [hkl, List.drop_length]
    · rw [if_neg hm]
      rcases ao with _ | ⟨b, off, sp⟩
      · obtain ⟨ao', cap', e, h2, h4⟩ := h
        simp only [Value.slice.injEq] at e
        obtain ⟨rfl, -, rfl⟩ := e
        have hn : rs = [] := by
          rcases h4 with h4 | ⟨b, off, h5, _⟩
          · exact h4
          · cases h5
        subst hn
        exact ⟨none, cap - k, by simp, by simp, .inl (by simp)⟩
      · by_cases h0 : rs = []
        · subst h0
          exact ⟨_, cap - k, by simp; rfl, by simp, .inl (by simp)⟩
        · have hsp : sp = none := by
            obtain ⟨ao', cap', e, h2, h4⟩ := h
            simp only [Value.slice.injEq] at e
            obtain ⟨rfl, -, rfl⟩ := e
            rcases h4 with h4 | ⟨b', off', h5, _⟩
            · exact absurd h4 h0
            · cases h5; rfl
          subst hsp
          have := RowR.last h k hk (cap - k) (rs.length - k) rfl
          show RowR W (.slice (some (Addr.add ⟨b, off, none⟩ (k * 3))) (rs.length - k) (cap - k)) (rs.drop k)
          rw [add_plain2]
          exact this
end Go.Proofs.Ytnokibjhkdaamaa
