/-
  Logs, Whole, Items walked.
-/
import Derived.Test.YtfiafbfbiidnlaaJLogs
namespace Go.Proofs.Ytfiafbfbiidnlaa
open Go.RowKit

/-- Entry by entry. -/
def fitsL : List Nd → List En → Bool
  | n :: r, e :: s => fitB n.kind n.par e.pts && fitsL r s
  | _, _ => true
def logE (ns : List Nd) (ls : List En) : Int := if ls.length = ns.length then (if fitsL ns ls = true then 0 else 89) else 89
theorem fitsL_at {ns : List Nd} {ls : List En} {t : Nat} {n : Nd} {e : En} (hn : ns[t]? = some n) (he : ls[t]? = some e) : fitsL (ns.drop t) (ls.drop t) = (fitB n.kind n.par e.pts && fitsL (ns.drop (t + 1)) (ls.drop (t + 1))) := by
  have h1 := lt_of_get hn
  have h2 := lt_of_get he
  rw [List.drop_eq_getElem_cons h1, List.drop_eq_getElem_cons h2]
  rw [List.getElem?_eq_getElem h1] at hn
  rw [List.getElem?_eq_getElem h2] at he
  cases hn
  cases he
  rfl
def wholeP (p : Pt) : Bool := p.its.any endB
def wholeB (ls : List En) : Bool := ls.all fun e => e.pts.all wholeP
def itemsP (ps : List Pt) : Nat := (ps.map fun p => p.its.length).sum
def itemsN (ls : List En) : Nat := (ls.map fun e => itemsP e.pts).sum
theorem sum_take {α : Type} {f : α → Nat} {l : List α} {t : Nat} {x : α} (hx : l[t]? = some x) : ((l.take (t + 1)).map f).sum = ((l.take t).map f).sum + f x := by
  have hl := lt_of_get hx
  rw [List.getElem?_eq_getElem hl] at hx
  cases hx
  rw [List.take_succ_eq_append_getElem hl, List.map_append, List.sum_append]
  simp
theorem sum_take_le {α : Type} (f : α → Nat) (l : List α) (t : Nat) : ((l.take t).map f).sum ≤ (l.map f).sum := by
  have : (l.map f).sum = ((l.take t).map f).sum + ((l.drop t).map f).sum := by
    rw [← List.sum_append, ← List.map_append, List.take_append_drop]
  omega
end Go.Proofs.Ytfiafbfbiidnlaa
