/-
  Two states side by side.
-/
import Derived.Test.YtdoldohcimbdaaaSTimP
namespace Go.Proofs.Ytdoldohcimbdaaa
open Go.RowKit

structure T2 (w W : World) (s t : Nat) (k size slide a : Int) (fp fq : Nat → Prop) (M N : List Pn) : Prop where
  sa : SA W s k size slide a fp M
  ta : SA W t k size slide a fq N
  ns : ∀ i, fp i → w.heap.size ≤ i
  nt : ∀ i, fq i → w.heap.size ≤ i
  ap : ∀ i, fp i → ¬ fq i
  bl : Below w.heap.size w W
section
variable {w W W' : World} {s t : Nat} {k size slide a : Int} {fp fq fp' : Nat → Prop} {M N M' : List Pn}
theorem T2.swap (h : T2 w W s t k size slide a fp fq M N) : T2 w W t s k size slide a fq fp N M := ⟨h.ta, h.sa, h.nt, h.ns, fun i h1 h2 => h.ap i h2 h1, h.bl⟩
theorem T2.turn (h : T2 w W s t k size slide a fp fq M N) (hs : SA W' s k size slide a fp' M') (hf : FT fp fp' W W') : T2 w W' s t k size slide a fp' fq M' N := by
  have hz := h.bl.size
  have hap : ∀ i, fq i → ¬ fp i := fun i h1 h2 => h.ap i h2 h1
  exact ⟨hs, h.ta.beside hf hap, fun i hi => by
    rcases hf.sub i hi with e | e
    · exact h.ns i e
    · omega, h.nt, fun i h1 h2 => hf.apart h.ta.flt hap i h2 h1, h.bl.trans (hf.below hz h.ns)⟩
theorem T2.turn2 {N' : List Pn} {fq' : Nat → Prop} (h : T2 w W s t k size slide a fp fq M N) (hs : SA W' t k size slide a fq' N') (hf : FT fq fq' W W') : T2 w W' s t k size slide a fp fq' M N' := (h.swap.turn hs hf).swap
theorem T2.grow (h : T2 w W s t k size slide a fp fq M N) (hb : Below W.heap.size W W') : T2 w W' s t k size slide a fp fq M N :=
  ⟨h.sa.below hb, h.ta.below hb, h.ns, h.nt, h.ap, h.bl.trans (hb.mono h.bl.size)⟩
theorem SA.grown {W W' : World} {s : Nat} {k size slide a : Int} {fp : Nat → Prop} {M : List Pn} {r : Option Nat} (h : SA W s k size slide a fp M) (hg : W.grownBy W' r) (hn : ∀ g, r = some g → ¬ fp g) : SA W' s k size slide a fp M :=
  h.back (fun i hi => hg.block i (h.flt i hi) (fun e => hn i e.symm hi)) hg.size
theorem T2.grown {r : Option Nat} (h : T2 w W s t k size slide a fp fq M N) (hg : W.grownBy W' r) (hn : ∀ g, r = some g → ¬ fp g ∧ ¬ fq g) (hb : ∀ g, r = some g → w.heap.size ≤ g) : T2 w W' s t k size slide a fp fq M N :=
  ⟨h.sa.grown hg (fun g e => (hn g e).1), h.ta.grown hg (fun g e => (hn g e).2), h.ns, h.nt, h.ap, h.bl.grown hg h.bl.size hb⟩
end
theorem put_ok {W : World} {s : Nat} {k size slide a : Int} {fp : Nat → Prop} {M L : List Pn} (h : SA W s k size slide a fp M) (hw : FitS k size slide a) (hs : In64 size) (hsl : In64 slide) (rk rt rv : Int) (hrk : In64 rk) (hrv : In64 rv) (ht : TimeOk rt) (hM : M.length ≤ 90000) (hc : Comes (sess k) (jn a) L M) :
    Calls Try.prog 13 #[.pointer (some ⟨s, 0, none⟩), .agg #[.int .i64 rk, .int .i64 rt, .int .i64 rv]] W fun e w' => e = .returned (.tuple #[]) ∧ ∃ fp' M', SA w' s k size slide a fp' M' ∧ FT fp fp' W w' ∧ Comes (sess k) (jn a) (L ++ frS k size slide a ⟨rk, rt, rv⟩) M' := by
  refine (Put_any h hs hsl ⟨rk, rt, rv⟩ hrk hrv (sps_fit hw ht) hM hc.2).mono ?_
  rintro e w' ⟨rfl, fp', M', h1, h2, h3⟩
  exact ⟨rfl, fp', M', h1, h2, (Comes.step hc h3).perm List.perm_append_comm (.refl _)⟩
theorem fire_ok {W : World} {s : Nat} {k size slide a : Int} {fp : Nat → Prop} {M : List Pn} (h : SA W s k size slide a fp M) (mk : Int) (hk : k ≠ 0) (hM : M.length ≤ 90000) :
    Calls Try.prog 24 #[.pointer (some ⟨s, 0, none⟩), .int .i64 mk] W fun e w' => ∃ u fp', e = .returned u ∧ OwnL 31 3 Rc.cs W.heap.size w' u (outF mk (srt (M.filter (ovr mk)))) ∧ SA w' s k size slide a fp' (leftF mk M) ∧ FT fp fp' W w' := by
  obtain ⟨m, o, fq, R, hst, hf⟩ := h
  refine (Fire_win hst mk hk hM).mono ?_
  rintro e w' ⟨u, E, rfl, h1, h2, h3⟩
  exact ⟨u, FP s m fq, rfl, h1, ⟨m, o, fq, E, h2, fun _ => Iff.rfl⟩, h3.congr hf (fun _ => Iff.rfl)⟩
theorem next_no {W : World} {s : Nat} {k size slide a : Int} {fp : Nat → Prop} (h : SA W s k size slide a fp []) : Calls Try.prog 26 #[.pointer (some ⟨s, 0, none⟩)] W fun e w' => e = .returned (.tuple #[.int .i64 0, .bool false]) ∧ Below W.heap.size W w' := Next_any h
theorem next_yes {W : World} {s : Nat} {k size slide a : Int} {fp : Nat → Prop} {M : List Pn} (h : SA W s k size slide a fp M) (hM : M ≠ []) : Calls Try.prog 26 #[.pointer (some ⟨s, 0, none⟩)] W fun e w' => e = .returned (.tuple #[.int .i64 (nextP M), .bool true]) ∧ Below W.heap.size W w' := by
  have h1 := Next_any h
  rw [if_neg hM, decide_eq_true hM] at h1
  exact h1
theorem len_nil {W : World} {s : Nat} {k size slide a : Int} {fp : Nat → Prop} (h : SA W s k size slide a fp []) : Calls Try.prog 27 #[.pointer (some ⟨s, 0, none⟩)] W fun e w' => e = .returned (.int .i64 0) ∧ w' = W := Len_any h
theorem panes_nil {W : World} {s : Nat} {k size slide a : Int} {fp : Nat → Prop} (h : SA W s k size slide a fp []) : Calls Try.prog 17 #[.pointer (some ⟨s, 0, none⟩)] W fun e w' => ∃ ua uc, e = .returned (.slice ua 0 uc) ∧ Below W.heap.size W w' := by
  refine (Panes_any h (by simp)).mono ?_
  rintro e w' ⟨u, rfl, h1, h2⟩
  obtain ⟨ua, uc, rfl⟩ := h1.shape
  exact ⟨ua, uc, rfl, h2⟩
end Go.Proofs.Ytdoldohcimbdaaa
