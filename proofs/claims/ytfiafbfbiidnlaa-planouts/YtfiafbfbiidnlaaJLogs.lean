/-
  Logs, Whole, Items of package job.
-/
import Derived.Test.YtfiafbfbiidnlaaJItem
namespace Go.Proofs.Ytfiafbfbiidnlaa
open Go.RowKit

/-- A partition, and where its items lie. -/
structure Pt where
  a : Option Addr
  c : Nat
  its : List It
def Pt.cs (p : Pt) : List Value := [.slice p.a p.its.length p.c]
theorem Pt.cs_len (p : Pt) : p.cs.length = 1 := rfl
/-- A node's partitions, and where they lie. -/
structure En where
  a : Option Addr
  c : Nat
  pts : List Pt
def En.cs (e : En) : List Value := [.slice e.a e.pts.length e.c]
theorem En.cs_len (e : En) : e.cs.length = 1 := rfl
structure PtsIn (B : Nat) (w : World) (v : Value) (ps : List Pt) : Prop where
  seg : LSeg 1 Pt.cs B w v ps
  its : ∀ p ∈ ps, LSeg 5 It.cs B w (.slice p.a p.its.length p.c) p.its
structure LogIn (B : Nat) (w : World) (v : Value) (ls : List En) : Prop where
  seg : LSeg 1 En.cs B w v ls
  pts : ∀ e ∈ ls, PtsIn B w (.slice e.a e.pts.length e.c) e.pts
section
variable {B B' : Nat} {w w' : World} {v : Value}
theorem PtsIn.below {ps : List Pt} (h : PtsIn B w v ps) (hb : Below B w w') : PtsIn B w' v ps := ⟨h.seg.below hb, fun p hp => (h.its p hp).below hb⟩
theorem PtsIn.mono {ps : List Pt} (h : PtsIn B w v ps) (hb : B ≤ B') : PtsIn B' w v ps := ⟨h.seg.mono hb, fun p hp => (h.its p hp).mono hb⟩
theorem LogIn.below {ls : List En} (h : LogIn B w v ls) (hb : Below B w w') : LogIn B w' v ls := ⟨h.seg.below hb, fun e he => (h.pts e he).below hb⟩
theorem LogIn.mono {ls : List En} (h : LogIn B w v ls) (hb : B ≤ B') : LogIn B' w v ls := ⟨h.seg.mono hb, fun e he => (h.pts e he).mono hb⟩
theorem LSeg.shape {α : Type} {sz : Nat} {cs : α → List Value} {xs : List α} (h : LSeg sz cs B w v xs) : ∃ ao cap, v = .slice ao xs.length cap := by
  obtain ⟨ao, cap, h1, _⟩ := h
  exact ⟨ao, cap, h1⟩
theorem LSeg.len {α : Type} {sz : Nat} {cs : α → List Value} {xs : List α} (h : LSeg sz cs B w v xs) : xs.length ≤ 140737488355328 := by
  obtain ⟨ao, cap, h1, h2, _⟩ := h
  exact h2
theorem LSeg.one {α : Type} {f : α → Value} {xs : List α} {ao : Option Addr} {m cap : Nat} (h : LSeg 1 (fun x => [f x]) B w (.slice ao m cap) xs) {k : Nat} {x : α} (hx : xs[k]? = some x) : ∃ b o, ao = some ⟨b, o, none⟩ ∧ b < B ∧ w.cell? ⟨b, o + k, none⟩ = some (f x) := by
  obtain ⟨ao', cap', e, h2, h4⟩ := h
  cases e
  rcases h4 with h4 | ⟨b, off, h5, h6, h7⟩
  · subst h4; simp at hx
  · exact ⟨b, off, h5, h6, by simpa using h7 k x hx 0 _ rfl⟩
theorem LSeg.item {xs : List It} {ao : Option Addr} {m cap : Nat} (h : LSeg 5 It.cs B w (.slice ao m cap) xs) {k : Nat} {x : It} (hx : xs[k]? = some x) : ∃ b o, ao = some ⟨b, o, none⟩ ∧ b < B ∧ w.cell? ⟨b, o + k * 5, none⟩ = some (.int .i64 x.kind) ∧
    w.cell? ⟨b, o + k * 5 + 1, none⟩ = some (.int .i64 x.key) ∧ w.cell? ⟨b, o + k * 5 + 2, none⟩ = some (.int .i64 x.time) ∧ w.cell? ⟨b, o + k * 5 + 3, none⟩ = some (.int .i64 x.val) ∧ w.cell? ⟨b, o + k * 5 + 4, none⟩ = some (.int .i64 x.mark) := by
  obtain ⟨ao', cap', e, h2, h4⟩ := h
  cases e
  rcases h4 with h4 | ⟨b, off, h5, h6, h7⟩
  · subst h4; simp at hx
  · exact ⟨b, off, h5, h6, h7 k x hx 0 _ rfl, h7 k x hx 1 _ rfl, h7 k x hx 2 _ rfl, h7 k x hx 3 _ rfl, h7 k x hx 4 _ rfl⟩
end
theorem any_take {α : Type} {f : α → Bool} {l : List α} {t : Nat} {x : α} (hx : l[t]? = some x) (h : (l.take t).any f = false) : (l.take (t + 1)).any f = f x := by
  have hl := lt_of_get hx
  rw [List.take_succ_eq_append_getElem hl, List.any_append, h]
  rw [List.getElem?_eq_getElem hl] at hx
  cases hx
  simp

def partOk (p : Pt) : Bool := decide (p.its.length ≤ 4096) && !p.its.any noneB
def fitB (k par : Int) (ps : List Pt) : Bool := if k = 1 then decide ((ps.length : Int) = par) && ps.all partOk else decide (ps.length = 0)
theorem allP_take {α : Type} {f : α → Bool} {l : List α} {t : Nat} {x : α} (hx : l[t]? = some x) (h : (l.take t).all f = true) : (l.take (t + 1)).all f = f x := by
  have hl := lt_of_get hx
  rw [List.take_succ_eq_append_getElem hl, List.all_append, h]
  rw [List.getElem?_eq_getElem hl] at hx
  cases hx
  simp
theorem allP_not {α : Type} {f : α → Bool} {l : List α} {t : Nat} {x : α} (hx : l[t]? = some x) (h : f x = false) : l.all f = false := by
  rw [List.all_eq_false]
  exact ⟨x, List.mem_of_getElem? hx, by simp [h]⟩
end Go.Proofs.Ytfiafbfbiidnlaa
