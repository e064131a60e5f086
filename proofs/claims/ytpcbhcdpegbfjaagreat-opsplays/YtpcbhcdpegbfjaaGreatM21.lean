/-
  Texts in build order: ZETree.
-/
import Derived.Test.YtpcbhcdpegbfjaaGreatM20
import Derived.Deep.Draws
import Derived.Test.YtpcbhcdpegbfjaaGreatM18
/-
 How an expression lies in memory: its value, and that all within it lie where its lists lead.
-/
namespace Go.Proofs.YtpcbhcdpegbfjaaGreat.J
open Go.RowKit
def Ex.sub : Ex → List Ex
 | ⟨op, n, a, c, l⟩ => ⟨op, n, a, c, l⟩ :: (l.attach.map fun ⟨x, _⟩ => Ex.sub x).flatten
theorem Ex.sub_eq (e : Ex) : e.sub = e :: e.l.flatMap Ex.sub := by
 obtain ⟨op, n, a, c, l⟩ := e
 rw [Ex.sub]
 exact congrArg (fun q => ((⟨op, n, a, c, l⟩ : Ex) :: List.flatten q)) (att_map l Ex.sub)
theorem Ex.sub_self (e : Ex) : e ∈ e.sub := by rw [Ex.sub_eq]; simp
theorem Ex.sub_kid {e x : Ex} (h : x ∈ e.l) : ∀ y ∈ x.sub, y ∈ e.sub := by
 intro y hy
 rw [Ex.sub_eq]
 exact List.mem_cons_of_mem _ (List.mem_flatMap.2 ⟨x, h, hy⟩)
theorem Ex.sub_trans (e : Ex) : ∀ x ∈ e.sub, ∀ y ∈ x.sub, y ∈ e.sub := by
 refine Ex.ind (P := fun e => ∀ x ∈ e.sub, ∀ y ∈ x.sub, y ∈ e.sub) ?_ e
 intro op n a c l ih x hx y hy
 rw [Ex.sub_eq] at hx
 rcases List.mem_cons.1 hx with rfl | hx
 ·exact hy
 ·obtain ⟨z, hz, hx⟩ := List.mem_flatMap.1 hx
  exact Ex.sub_kid (e := ⟨op, n, a, c, l⟩) hz y (ih z hz x hx y hy)
theorem formed_sub {e : Ex} (h : formed e = true) : ∀ x ∈ e.sub, snd1 x.op x.n x.l.length = true ∧ formed x = true := by
 revert h
 refine Ex.ind (P := fun e => formed e = true → ∀ x ∈ e.sub, snd1 x.op x.n x.l.length = true ∧ formed x = true) ?_ e
 intro op n a c l ih h x hx
 have h0 := h
 rw [formed_mk, Bool.and_eq_true, List.all_eq_true] at h
 rw [Ex.sub_eq] at hx
 rcases List.mem_cons.1 hx with rfl | hx
 ·exact ⟨h.1, h0⟩
 ·obtain ⟨z, hz, hx⟩ := List.mem_flatMap.1 hx
  exact ih z hz (h.2 z hz) x hx
theorem formed_kid {e : Ex} (h : formed e = true) {x : Ex} (hx : x ∈ e.l) : formed x = true :=
 (formed_sub h x (Ex.sub_kid hx x x.sub_self)).2
theorem formed_self {e : Ex} (h : formed e = true) : snd1 e.op e.n e.l.length = true := (formed_sub h e e.sub_self).1
def Ex.val (e : Ex) : Value := .agg #[.int .i64 e.op, .int .i64 e.n, .slice e.a e.l.length e.c]
structure Lie (w : World) (e : Ex) : Prop where
 op1 : -9223372036854775808 ≤ e.op
 op2 : e.op ≤ 9223372036854775807
 n1 : -9223372036854775808 ≤ e.n
 n2 : e.n ≤ 9223372036854775807
 len : e.l.length ≤ 140737488355328
 cap : e.l.length ≤ e.c
 at_ : ∀ (i : Nat) (x : Ex), e.l[i]? = some x → ∃ b o, e.a = some ⟨b, o, none⟩ ∧ w.cell? ⟨b, o + i * 3, none⟩ = some (.int .i64 x.op) ∧
  w.cell? ⟨b, o + i * 3 + 1, none⟩ = some (.int .i64 x.n) ∧ w.cell? ⟨b, o + i * 3 + 2, none⟩ = some (.slice x.a x.l.length x.c)
def In (w : World) (e : Ex) : Prop := ∀ x ∈ e.sub, Lie w x
theorem In.self {w : World} {e : Ex} (h : In w e) : Lie w e := h e e.sub_self
theorem In.kid {w : World} {e x : Ex} (h : In w e) (hx : x ∈ e.l) : In w x := fun y hy => h y (Ex.sub_kid hx y hy)
theorem In.sub {w : World} {e x : Ex} (h : In w e) (hx : x ∈ e.sub) : In w x := fun y hy => h y (Ex.sub_trans e x hx y hy)
theorem In.mk {w : World} {e : Ex} (h : Lie w e) (hk : ∀ x ∈ e.l, In w x) : In w e := by
 intro x hx
 rw [Ex.sub_eq] at hx
 rcases List.mem_cons.1 hx with rfl | hx
 ·exact h
 ·obtain ⟨z, hz, hx⟩ := List.mem_flatMap.1 hx
  exact hk z hz x hx
theorem cell_lt {w : World} {b o : Nat} {v : Value} (h : w.cell? ⟨b, o, none⟩ = some v) : b < w.heap.size := by
 rcases Nat.lt_or_ge b w.heap.size with h1 | h1
 ·exact h1
 ·simp [World.cell?, Array.getElem?_eq_none h1] at h
theorem Lie.below {w w' : World} {e : Ex} (h : Lie w e) (hb : Below w.heap.size w w') : Lie w' e := by
 refine ⟨h.op1, h.op2, h.n1, h.n2, h.len, h.cap, fun i x hx => ?_⟩
 obtain ⟨b, o, h1, h2, h3, h4⟩ := h.at_ i x hx
 have hl := cell_lt h2
 refine ⟨b, o, h1, ?_, ?_, ?_⟩
 ·rw [hb.cell (p := ⟨b, o + i * 3, none⟩) hl]; exact h2
 ·rw [hb.cell (p := ⟨b, o + i * 3 + 1, none⟩) hl]; exact h3
 ·rw [hb.cell (p := ⟨b, o + i * 3 + 2, none⟩) hl]; exact h4
theorem In.below {w w' : World} {e : Ex} (h : In w e) (hb : Below w.heap.size w w') : In w' e := fun x hx => (h x hx).below hb
theorem Lie.same {w w' : World} {e : Ex} (h : Lie w e) (hb : w'.heap = w.heap) : Lie w' e := by
 refine ⟨h.op1, h.op2, h.n1, h.n2, h.len, h.cap, fun i x hx => ?_⟩
 obtain ⟨b, o, h1, h2, h3, h4⟩ := h.at_ i x hx
 refine ⟨b, o, h1, ?_, ?_, ?_⟩ <;> simp only [World.cell?, hb] at * <;> assumption
theorem In.same {w w' : World} {e : Ex} (h : In w e) (hb : w'.heap = w.heap) : In w' e := fun x hx => (h x hx).same hb
theorem In.drew {w : World} {e : Ex} (h : In w e) : In w.drew e := h.same rfl
theorem In.drewN {w : World} {e : Ex} (h : In w e) (n : Nat) : In (w.drewN n) e := h.same rfl
end Go.Proofs.YtpcbhcdpegbfjaaGreat.J
