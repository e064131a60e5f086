/-
  Queues of frames: a row of slices.
-/
import Derived.Test.YtmipgfobggbndaaGAlP
import Derived.Test.YtmipgfobggbndaaGStp
namespace Go.Proofs.Ytmipgfobggbndaa
open Go.RowKit

/-- Slices of frames, each in a block of its own, in a row at block qb. -/
structure QA (w : World) (qb base : Nat) (vs : List Value) (Q : List (List Fr)) : Prop where
  box : BoxT 60 w qb vs.toArray
  len : vs.length = Q.length
  row : ∀ (c : Nat) (v : Value) (xs : List Fr), vs[c]? = some v → Q[c]? = some xs → Row 37 7 Fr.cs base w v xs
  apart : ∀ (c c' : Nat) (v v' : Value) (g : Nat), vs[c]? = some v → vs[c']? = some v' → c ≠ c' → v.ownBlock = some g → v'.ownBlock ≠ some g
theorem Row.lt {α : Type} {t sz : Nat} {cs : α → List Value} {base : Nat} {w : World} {v : Value} {xs : List α} (h : Row t sz cs base w v xs) (g : Nat) (hg : v.ownBlock = some g) : g < w.heap.size := by
  obtain ⟨cur, hc⟩ := h.has g hg
  exact hc.lt
theorem QA.back {w w' : World} {qb base : Nat} {vs : List Value} {Q : List (List Fr)} (h : QA w qb base vs Q) (hq : w'.heap[qb]? = w.heap[qb]?) (hb : ∀ (c : Nat) (v : Value) (g : Nat), vs[c]? = some v → v.ownBlock = some g → w'.heap[g]? = w.heap[g]?) : QA w' qb base vs Q :=
  { box := h.box.back hq, len := h.len, row := fun c v xs hv hx => (h.row c v xs hv hx).back (fun g e => hb c v g hv e), apart := h.apart }
theorem QA.below {w w' : World} {qb base : Nat} {vs : List Value} {Q : List (List Fr)} (h : QA w qb base vs Q) (hb : Below w.heap.size w w') : QA w' qb base vs Q :=
  h.back (hb.block qb h.box.lt) (fun c v g hv e => by
    obtain ⟨xs, hx⟩ := get_of_lt (show c < Q.length by rw [← h.len]; exact lt_of_get hv)
    exact hb.block g ((h.row c v xs hv hx).lt g e))
theorem QA.cell {w : World} {qb base : Nat} {vs : List Value} {Q : List (List Fr)} (h : QA w qb base vs Q) {c : Nat} {v : Value} (hv : vs[c]? = some v) : w.cell? ⟨qb, c, none⟩ = some v := by
  rw [h.box.cellAt]; simpa using hv
theorem madeQ (w : World) (n : Nat) (hn : n ≤ 1000) : (Instr.makeSlice 59 (.int .i64 (n : Int)) (.int .i64 (n : Int))).run Try.prog w = .ok (.slice (some ⟨w.heap.size, 0, none⟩) n n) (w.alloc (.cells (List.replicate n (Value.slice none 0 0)).toArray 60)) := by
  have hinfo : (Try.prog.info? 60).map (fun i => (i.zero, i.size, i.bytes)) = some (some (.slice none 0 0), 1, 24) := by kernel_rfl
  obtain ⟨i0, hi, hz0, hz1, hz2⟩ := info_parts hinfo
  have := run_make (P := Try.prog) w 59 60 i0 (.slice none 0 0) Try.underlying59 hi hz0 .i64 .i64 (n : Int) (n : Int) (by omega) (Int.le_refl _) (by rw [hz2]; omega) (by omega)
  rw [hz1, Nat.mul_one, Int.toNat_natCast] at this
  rw [this]
  congr 3
  apply Array.ext_getElem?
  intro i
  by_cases h : i < n
  · simp [madeCells, Value.cells, h, Nat.mod_one]
  · rw [Array.getElem?_eq_none (by rw [size_madeCells]; omega), Array.getElem?_eq_none (by simp; omega)]
theorem QA.new {w : World} {n base : Nat} : QA (w.alloc (.cells (List.replicate n (Value.slice none 0 0)).toArray 60)) w.heap.size base (List.replicate n (Value.slice none 0 0)) (List.replicate n []) where
  box := BoxT.new _ _ _
  len := by simp
  row := fun c v xs hv hx => by
    rw [List.getElem?_replicate] at hv hx
    split at hv
    · rename_i h
      rw [if_pos h] at hx
      cases hv; cases hx
      exact Row.nil _ _ _ _ _
    · cases hv
  apart := fun c c' v v' g hv _ _ e => by
    rw [List.getElem?_replicate] at hv
    split at hv
    · cases hv; cases e
    · cases hv
/-- One more frame behind channel c's. -/
theorem QA.app {w w' : World} {qb base : Nat} {vs : List Value} {Q : List (List Fr)} (h : QA w qb base vs Q) {c : Nat} {v v' : Value} {xs xs' : List Fr} (hv : vs[c]? = some v) (hr : Row 37 7 Fr.cs base w' v' xs') (hg : w.grownBy w' v.ownBlock) (ho : ∀ g, v'.ownBlock = some g → v.ownBlock = some g ∨ w.heap.size ≤ g) (hx : Q[c]? = some xs) : QA (w'.setCell ⟨qb, c, none⟩ v') qb base (vs.set c v') (Q.set c xs') := by
  have hrow := h.row c v xs hv hx
  have hqb : BoxT 60 w' qb vs.toArray := h.box.back (hg.block qb h.box.lt (fun e => by
    obtain ⟨cur, hc⟩ := hrow.has qb e.symm
    exact BoxT.ne (t := 60) (t' := 37) h.box hc (by decide) rfl))
  have hset : ∀ {v2 : Value} {ys : List Fr}, Row 37 7 Fr.cs base w' v2 ys → Row 37 7 Fr.cs base (w'.setCell ⟨qb, c, none⟩ v') v2 ys := fun hr2 => hr2.back (fun g e => Below.heap_setCell w' ⟨qb, c, none⟩ v' g (fun e2 => by
    obtain ⟨cur, hc⟩ := hr2.has g e
    exact BoxT.ne (t := 37) (t' := 60) hc hqb (by decide) e2))
  refine ⟨?_, by simpa using h.len, fun c2 v2 ys hv2 hy => ?_, fun c1 c2 v1 v2 g hv1 hv2 hne e1 e2 => ?_⟩
  · have := hqb.set c v'
    simpa using this
  · by_cases hcc : c = c2
    · subst hcc
      rw [List.getElem?_set_self (lt_of_get hv)] at hv2
      rw [List.getElem?_set_self (lt_of_get hx)] at hy
      cases hv2; cases hy
      exact hset hr
    · rw [List.getElem?_set_ne hcc] at hv2 hy
      have hr2 := h.row c2 v2 ys hv2 hy
      exact hset (hr2.back (fun g e => hg.block g (hr2.lt g e) (fun e2 => h.apart c c2 v v2 g hv hv2 hcc e2.symm e)))
  · have old : ∀ c2 v2, c ≠ c2 → vs[c2]? = some v2 → ∀ g, v2.ownBlock = some g → v'.ownBlock = some g → False := fun c2 v2 hcc hv2 g e e' => by
      obtain ⟨ys, hy⟩ := get_of_lt (show c2 < Q.length by rw [← h.len]; exact lt_of_get hv2)
      rcases ho g e' with h1 | h1
      · exact h.apart c c2 v v2 g hv hv2 hcc h1 e
      · have := (h.row c2 v2 ys hv2 hy).lt g e; omega
    by_cases h1 : c = c1
    · subst h1
      rw [List.getElem?_set_self (lt_of_get hv)] at hv1
      rw [List.getElem?_set_ne hne] at hv2
      cases hv1
      exact old c2 v2 hne hv2 g e2 e1
    · rw [List.getElem?_set_ne h1] at hv1
      by_cases h2 : c = c2
      · subst h2
        rw [List.getElem?_set_self (lt_of_get hv)] at hv2
        cases hv2
        exact old c1 v1 h1 hv1 g e1 e2
      · rw [List.getElem?_set_ne h2] at hv2
        exact h.apart c1 c2 v1 v2 g hv1 hv2 hne e1 e2
/-- Frames fr laid behind the queues that l names. -/
def bld (n : Nat) (fr : Fr) (Q : List (List Fr)) (l : List Nat) : List (List Fr) := l.foldl (fun Q x => Q.set (x % n) (Q.getD (x % n) [] ++ [fr])) Q
theorem bld_len (n : Nat) (fr : Fr) (l : List Nat) : ∀ Q, (bld n fr Q l).length = Q.length := by
  induction l with
  | nil => intro Q; rfl
  | cons x l ih => intro Q; show (bld n fr _ l).length = _; rw [ih]; simp
theorem bld_take {n : Nat} {fr : Fr} {Q : List (List Fr)} {l : List Nat} {i x : Nat} (h : l[i]? = some x) : bld n fr Q (l.take (i + 1)) = (bld n fr Q (l.take i)).set (x % n) ((bld n fr Q (l.take i)).getD (x % n) [] ++ [fr]) := by
  have hlt := lt_of_get h
  have e : l[i] = x := by rw [List.getElem?_eq_getElem hlt] at h; exact Option.some.inj h
  unfold bld
  rw [List.take_succ_eq_append_getElem hlt, List.foldl_append, e]
  rfl
theorem bld_get {n : Nat} {fr : Fr} (hn : 1 ≤ n) (l : List Nat) : ∀ (Q : List (List Fr)), Q.length = n → ∀ c, c < n → (bld n fr Q l).getD c [] = Q.getD c [] ++ List.replicate (l.countP fun x => x % n == c) fr := by
  induction l with
  | nil => intro Q _ c _; simp [bld]
  | cons x l ih =>
    intro Q hQ c hc
    show (bld n fr _ l).getD c [] = _
    rw [ih _ (by simpa using hQ) c hc]
    have hxn : x % n < Q.length := by rw [hQ]; exact Nat.mod_lt _ hn
    by_cases hxc : x % n = c
    · subst hxc
      rw [List.countP_cons_of_pos (by simp), List.replicate_succ]
      simp [List.getD_eq_getElem?_getD, hxn]
    · rw [List.countP_cons_of_neg (by simpa using hxc)]
      simp [List.getD_eq_getElem?_getD, List.getElem?_set_ne hxc]
end Go.Proofs.Ytmipgfobggbndaa
