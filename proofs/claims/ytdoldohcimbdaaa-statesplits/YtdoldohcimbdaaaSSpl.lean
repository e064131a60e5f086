/-
  Split.
-/
import Derived.Test.YtdoldohcimbdaaaSSplP
namespace Go.Proofs.Ytdoldohcimbdaaa
open Go.RowKit

theorem wp_segL {α : Type} {t sl sz by_ : Nat} {z : Value} {cs : α → List Value} (hinfo : (Try.prog.info? t).map (fun i => (i.zero, i.size, i.bytes)) = some (some z, sz, by_)) (hund : Try.prog.underlying sl = some (.slice t)) (hz : z.cells.size = sz) (hsz : 0 < sz) (hby : by_ ≤ 100)
    (hcs : ∀ x, (cs x).length = sz) (h1c : ∀ x, ∀ u ∈ cs x, u.oneCell' = true) {w : World} {o : Oper} {a : Act} {K : Act → World → Prop} {Q : Exit → Act → World → Prop} (s x : Operand)
    (ho : o.op = .call { callee := .builtin .append, args := #[s, x], argTypes := #[sl, sl] }) (base : Nat) (v : Value) (xs : List α) (hs : a.eval s = v) (hown : OwnL t sz cs base w v xs)
    (B : Nat) (v2 : Value) (ys : List α) (hx : a.eval x = v2) (hseg : LSeg sz cs B w v2 ys) (hl : xs.length + ys.length ≤ 1000000) (hbase : base ≤ w.heap.size)
    (h : ∀ v' w', OwnL t sz cs base w' v' (xs ++ ys) → w.grownBy w' v.ownBlock → (v'.ownBlock = v.ownBlock ∨ v'.ownBlock = some w.heap.size) → K (a.put o.dst v') w') : Oper.wp Try.prog o a w K Q := by
  obtain ⟨v', w', hr, h2, h3, h4⟩ := run_segL hinfo hund hz hsz hby hcs h1c o.type base hown hseg hl hbase
  unfold Oper.wp execOp
  simp only [ho, resolve, invoke, builtin, Sem.run_bind, Sem.run_pure, Result.andThen_ok, List.map_toArray, List.map_cons, List.map_nil, hs, hx, hr]
  exact h v' w' h2 h3 h4
/-- The parts of the first panes. -/
def ptL (L : List Pn) (par i : Nat) : List (List Pn) := (List.range par).map fun j : Nat => (L.take i).filter fun x => decide (prt (grp x.k) (par : Int) = (j : Int))
theorem ptL_len (L : List Pn) (par i : Nat) : (ptL L par i).length = par := by simp [ptL]
theorem ptL_zero (L : List Pn) (par : Nat) : ptL L par 0 = List.replicate par [] := by
  unfold ptL
  apply List.ext_getElem?
  intro j
  simp [List.getElem?_replicate]
  split <;> simp_all
theorem prt_in {g par : Nat} (hg : g < 16) (h1 : 1 ≤ par) (h2 : par ≤ 4) : 0 ≤ prt (g : Int) (par : Int) ∧ prt (g : Int) (par : Int) < (par : Int) := by
  unfold prt
  rw [if_neg (by omega)]
  have hp : par = 1 ∨ par = 2 ∨ par = 3 ∨ par = 4 := by omega
  rcases hp with rfl | rfl | rfl | rfl <;> omega
theorem ptL_step {L : List Pn} {par i q : Nat} {x : Pn} (hx : L[i]? = some x) (hq : prt (grp x.k) (par : Int) = (q : Int)) (hql : q < par) : ∃ l, (ptL L par i)[q]? = some l ∧ ptL L par (i + 1) = (ptL L par i).set q (l ++ [x]) := by
  refine ⟨(L.take i).filter fun y => decide (prt (grp y.k) (par : Int) = (q : Int)), by simp [ptL, hql], ?_⟩
  apply List.ext_getElem?
  intro j
  have hts := take_snoc hx
  by_cases hj : j < par
  · by_cases e : q = j
    · subst e
      rw [List.getElem?_set_self (by rw [ptL_len]; exact hql)]
      simp [ptL, hj, hts, List.filter_append, hq]
    · rw [List.getElem?_set_ne e]
      have hne : ¬ prt (grp x.k) (par : Int) = (j : Int) := by rw [hq]; omega
      simp [ptL, hj, hts, List.filter_append, hne]
  · rw [List.getElem?_eq_none (by rw [ptL_len]; omega), List.getElem?_eq_none (by rw [List.length_set, ptL_len]; omega)]
theorem Try.infoSl : (Try.prog.info? 44).map (fun i => (i.zero, i.size, i.bytes)) = some (some (.slice none 0 0), 1, 24) := by kernel_rfl
theorem mkSl (w : World) (n : Nat) (hn : n ≤ 1000000) : (Instr.makeSlice 38 (.int .i64 (n : Int)) (.int .i64 (n : Int))).run Try.prog w = .ok (.slice (some ⟨w.heap.size, 0, none⟩) n n) (w.alloc (.cells (List.replicate n (Value.slice none 0 0)).toArray 44)) := by
  obtain ⟨i0, hi, hz0, hz1, hz2⟩ := info_parts Try.infoSl
  have := run_make (P := Try.prog) w 38 44 i0 (.slice none 0 0) (by kernel_rfl) hi hz0 .i64 .i64 (n : Int) (n : Int) (by omega) (Int.le_refl _) (by rw [hz2]; omega) (by omega)
  rw [hz1, Nat.mul_one, Int.toNat_natCast] at this
  have e : madeCells (Value.slice none 0 0).cells n = (List.replicate n (Value.slice none 0 0)).toArray := by
    apply Array.ext
    · simp [size_madeCells]
    · intro i h1 h2
      simp [madeCells, Value.cells, Nat.mod_one]
  rw [e] at this
  exact this
theorem Pts.start {base : Nat} {W : World} {G n : Nat} (h : BoxT 44 W G (List.replicate n (Value.slice none 0 0)).toArray) : Pts base W G (List.replicate n (.slice none 0 0)) (List.replicate n []) := by
  have hv : ∀ (i : Nat) (v : Value), (List.replicate n (Value.slice none 0 0))[i]? = some v → v = .slice none 0 0 := by
    intro i v h
    rw [List.getElem?_replicate] at h
    split at h
    · exact (Option.some.inj h).symm
    · cases h
  refine ⟨h, by simp, fun j v l hj hl => ?_, fun i j u v g _ hu _ e => ?_, fun j v hj e => ?_⟩
  · rw [List.getElem?_replicate] at hl
    split at hl
    · cases hl; rw [hv j v hj]; exact OwnL.nil _ _ _ _ _
    · cases hl
  · rw [hv i u hu] at e; cases e
  · rw [hv j v hj] at e; cases e
theorem Split_no (w : World) (ao : Option Addr) (n cap : Nat) (par : Int) (h : par < 1 ∨ 4 < par) : Calls Try.prog 16 #[.slice ao n cap, .int .i64 par] w fun e w' => e = .returned (.slice none 0 0) ∧ w' = w := by
  by_cases h1 : par < 1
  · go_enter Try.func16, Try.ntmps16
    go_wp2_with fail
    go_ret
    exact ⟨rfl, rfl⟩
  · have h2 : (4 : Int) < par := by omega
    go_enter Try.func16, Try.ntmps16
    go_wp2_with fail
    go_ret
    exact ⟨rfl, rfl⟩
end Go.Proofs.Ytdoldohcimbdaaa
