/-
  Steps of scripts, as the statements read them.
-/
import Derived.Test.YtnokibjhkdaamaaDKnown
namespace Go.Proofs.Ytnokibjhkdaamaa
open Go.RowKit Go.Maps

theorem hide {p : Prop} (h : p) : Hid p := h
theorem SegB.below {B : Nat} {w w' : World} {v : Value} {l : List Nat} (h : SegB B w v l) (hb : Below B w w') : SegB B w' v l := by
  obtain ⟨ao, cap, h1, h2, h3, h3', h4⟩ := h
  refine ⟨ao, cap, h1, h2, h3, h3', ?_⟩
  rcases h4 with h4 | ⟨b, off, h5, h6, h7⟩
  · exact .inl h4
  · exact .inr ⟨b, off, h5, h6, fun i x hi => (hb.cell (p := ⟨b, off + i, none⟩) h6).trans (h7 i x hi)⟩
/-- What is true of a step that came in. -/
structure StpOk (B : Nat) (w : World) (p : Stp) : Prop where
  b : SegB B w (.slice p.ba p.bl.length p.bc) p.bl
  byts : Byts p.bl
  k : LSeg 1 (fun x : Int => [Value.int .i64 x]) B w (.slice p.ka p.kl.length p.kc) p.kl
  nm : p.nm.size ≤ 140737488355328
  to : p.to.size ≤ 140737488355328
  n : (Lit.int .i64 p.n).wf = true
theorem StpOk.below {B : Nat} {w w' : World} {p : Stp} (h : StpOk B w p) (hb : Below B w w') : StpOk B w' p := ⟨h.b.below hb, h.byts, h.k.below hb, h.nm, h.to, h.n⟩
/-- A script that came in. -/
structure Scr (w : World) (v : Value) (xs : List Stp) : Prop where
  s : LSeg 6 Stp.cs w.heap.size w v xs
  o : ∀ p ∈ xs, StpOk w.heap.size w p
  wt : ∀ p ∈ xs, p.wt ≤ 1125899906842624
theorem tot_mem {xs : List Stp} {p : Stp} (h : p ∈ xs) : p.wt ≤ tot xs := by
  induction xs with
  | nil => cases h
  | cons a r ih =>
    have e : tot (a :: r) = a.wt + tot r := by simp [tot]
    rw [e]
    rcases List.mem_cons.1 h with rfl | h
    · omega
    · have := ih h; omega
theorem mem_wt {xs : List Stp} {p : Stp} (h : p ∈ xs) (ht : tot xs ≤ 50000) : p.bl.length ≤ 50000 ∧ p.nm.size ≤ 50000 ∧ p.to.size ≤ 50000 ∧ p.kl.length ≤ 50000 := by
  have := tot_mem h
  unfold Stp.wt at this
  omega
theorem St.since {w0 w : World} {k b n : Nat} {p : Pd} (h : St w0 w k b n p) : Below w0.heap.size w0 w := h.s.below
theorem St.drewN {w0 w : World} {k b n : Nat} {p : Pd} (h : St w0 w k b n p) (q : Nat) : St w0 (w.drewN q) k b n p := h.below (below_drewN' (Below.refl _ _) q)
theorem kUsed {w0 w : World} {k b n : Nat} {p : Pd} (h : St w0 w k b n p) : Calls Try.prog 13 #[.pointer (some ⟨k, 0, none⟩)] w fun e w' => e = .returned (.int .i64 (fSum p.l : Nat)) ∧ w' = w := Used_p h.d
theorem kDelete {w0 w : World} {k b n : Nat} {p : Pd} (h : St w0 w k b n p) (s : ByteArray) (hs : s.size ≤ maxLen) (p' : Pd) (er : Int) (hp : pDelete p (nm s) = (p', er)) :
    Calls Try.prog 25 #[.pointer (some ⟨k, 0, none⟩), .string s] w fun e w' => e = .returned (.int .i64 er) ∧ St w0 w' k b n p' ∧ Turned k b w w' := by
  have := Delete_p h.d s hs
  rw [hp] at this
  exact this.mono fun e w' ⟨h1, h2, h3⟩ => ⟨h1, ⟨h2, h.s.step h3⟩, h3⟩
theorem kNew (w0 w : World) (h : Below w0.heap.size w0 w) (x : Int) (hx : (Lit.int .i64 x).wf = true) :
    Calls Try.prog 10 #[.int .i64 x] w fun e w' => ∃ k b, e = .returned (.pointer (some ⟨k, 0, none⟩)) ∧ St w0 w' k b 0 ⟨[], max x 0, -1⟩ ∧ w.heap.size ≤ k ∧ w.heap.size ≤ b ∧ Below w.heap.size w w' := by
  refine (New_p w x hx).mono ?_
  rintro e w' ⟨h1, h2, h3⟩
  have := h.size
  exact ⟨_, _, h1, ⟨h2, ⟨by omega, by omega, h.trans (h3.mono h.size)⟩⟩, by omega, by omega, h3⟩
end Go.Proofs.Ytnokibjhkdaamaa
