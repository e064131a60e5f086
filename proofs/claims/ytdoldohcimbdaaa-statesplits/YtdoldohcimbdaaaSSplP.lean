/-
  A row of rows of panes, as Split makes it.
-/
import Derived.Test.YtdoldohcimbdaaaSGrpP
namespace Go.Proofs.Ytdoldohcimbdaaa
open Go.RowKit

/-- The parts as they lie: the row of slices at G, each slice a row of its own, no two in one block. -/
structure Pts (base : Nat) (W : World) (G : Nat) (vs : List Value) (ls : List (List Pn)) : Prop where
  row : BoxT 44 W G vs.toArray
  len : vs.length = ls.length
  each : ∀ (j : Nat) (v : Value) (l : List Pn), vs[j]? = some v → ls[j]? = some l → OwnL 43 4 Pn.cs base W v l
  apart : ∀ (i j : Nat) (u v : Value) (g : Nat), i ≠ j → vs[i]? = some u → vs[j]? = some v → u.ownBlock = some g → v.ownBlock ≠ some g
  no : ∀ (j : Nat) (v : Value), vs[j]? = some v → v.ownBlock ≠ some G
theorem Pts.lt {base : Nat} {W : World} {G : Nat} {vs : List Value} {ls : List (List Pn)} (h : Pts base W G vs ls) {j : Nat} {v : Value} (hv : vs[j]? = some v) {g : Nat} (hg : v.ownBlock = some g) : g < W.heap.size := by
  obtain ⟨l, hl⟩ := get_of_lt (l := ls) (i := j) (by rw [← h.len]; exact lt_of_get hv)
  exact (h.each j v l hv hl).lt g hg
theorem Pts.below {base : Nat} {W W' : World} {G : Nat} {vs : List Value} {ls : List (List Pn)} (h : Pts base W G vs ls) (hb : Below W.heap.size W W') : Pts base W' G vs ls :=
  ⟨BoxT.below (t := 44) h.row hb, h.len, fun j v l hv hl => (h.each j v l hv hl).below hb, h.apart, h.no⟩
/-- One pane more in one part. -/
theorem Pts.push {base : Nat} {W W1 : World} {G : Nat} {vs : List Value} {ls : List (List Pn)} (h : Pts base W G vs ls) {q n : Nat} {v v' : Value} {l l' : List Pn} (hv : vs[q]? = some v) (hl : ls[q]? = some l) (ho : OwnL 43 4 Pn.cs base W1 v' l') (hg : W.grownBy W1 v.ownBlock) (hk : v'.ownBlock = v.ownBlock ∨ v'.ownBlock = some n) (hn : W.heap.size ≤ n) :
    Pts base (W1.setCell ⟨G, q, none⟩ v') G (vs.set q v') (ls.set q l') := by
  have hG := h.row.lt
  have hql := lt_of_get hv
  have hqm := lt_of_get hl
  have nG : v'.ownBlock ≠ some G := fun e => by
    rcases hk with hk | hk
    · exact h.no q v hv (hk ▸ e)
    · rw [hk] at e; cases e; omega
  have hr1 : BoxT 44 W1 G vs.toArray := by
    have h1 := h.row
    unfold BoxT at *
    rw [hg.block G hG (fun e => h.no q v hv e.symm)]
    exact h1
  have keep : ∀ {u : Value} {m : List Pn}, OwnL 43 4 Pn.cs base W1 u m → u.ownBlock ≠ some G → OwnL 43 4 Pn.cs base (W1.setCell ⟨G, q, none⟩ v') u m := fun {u m} hu hne =>
    hu.back (fun g e => Below.heap_setCell W1 ⟨G, q, none⟩ v' g (fun e2 => hne (by rw [e, e2])))
  have ap : ∀ (j : Nat) (u : Value) (g : Nat), q ≠ j → vs[j]? = some u → u.ownBlock = some g → v'.ownBlock ≠ some g := fun j u g hj hu e e2 => by
    rcases hk with hk | hk
    · exact h.apart q j v u g hj hv hu (hk ▸ e2) e
    · rw [hk] at e2
      cases e2
      have := h.lt hu e
      omega
  refine ⟨?_, by rw [List.length_set, List.length_set]; exact h.len, fun j u m hu hm => ?_, fun i j u u' g hij hu hu' e => ?_, fun j u hu => ?_⟩
  · have h2 := BoxT.set (t := 44) hr1 q v'
    rw [List.setIfInBounds_toArray] at h2
    exact h2
  · by_cases e : q = j
    · subst e
      rw [List.getElem?_set_self hql] at hu
      rw [List.getElem?_set_self hqm] at hm
      cases hu
      cases hm
      exact keep ho nG
    · rw [List.getElem?_set_ne e] at hu hm
      refine keep ((h.each j u m hu hm).back (fun g e2 => hg.block g (h.lt hu e2) (fun e3 => ?_))) (h.no j u hu)
      exact h.apart q j v u g e hv hu e3.symm e2
  · by_cases e1 : q = i
    · subst e1
      rw [List.getElem?_set_self hql] at hu
      cases hu
      rw [List.getElem?_set_ne hij] at hu'
      exact fun e3 => ap j u' g hij hu' e3 e
    · rw [List.getElem?_set_ne e1] at hu
      by_cases e2 : q = j
      · subst e2
        rw [List.getElem?_set_self hql] at hu'
        cases hu'
        exact ap i u g e1 hu e
      · rw [List.getElem?_set_ne e2] at hu'
        exact h.apart i j u u' g hij hu hu' e
  · by_cases e : q = j
    · subst e
      rw [List.getElem?_set_self hql] at hu
      cases hu
      exact nG
    · rw [List.getElem?_set_ne e] at hu
      exact h.no j u hu
end Go.Proofs.Ytdoldohcimbdaaa
