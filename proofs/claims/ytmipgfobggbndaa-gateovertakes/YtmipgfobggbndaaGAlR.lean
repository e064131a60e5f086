/-
  For GateAligns: the queues beside the gate; a bound for the rounds.
-/
import Derived.Test.YtmipgfobggbndaaGQueW
namespace Go.Proofs.Ytmipgfobggbndaa
open Go.RowKit

/-- How many rounds there were: after the first 200, six for each frame that was taken, and the last d took none. -/
def Bd (n tot L3 : Nat) (NR : Nat → Prop) (left i : Nat) : Prop := ∃ d, i ≤ 200 + 6 * (tot - left) + d ∧ d ≤ n ∧ d ≤ i ∧ (0 < d → L3 + d ≤ i) ∧ ∀ j, 1 ≤ j → j ≤ d → NR ((i - j) % n)
theorem Bd.tight {n tot L3 : Nat} {NR : Nat → Prop} {left i : Nat} (h : Bd n tot L3 NR left i) (hn : 1 ≤ n) (hr : ∃ c, c < n ∧ ¬ NR c) : ∃ d, i ≤ 200 + 6 * (tot - left) + d ∧ d < n ∧ d ≤ i ∧ (0 < d → L3 + d ≤ i) ∧ ∀ j, 1 ≤ j → j ≤ d → NR ((i - j) % n) := by
  obtain ⟨d, h1, h2, h3, h4, h5⟩ := h
  by_cases hd : d < n
  · exact ⟨d, h1, hd, h3, h4, h5⟩
  · obtain ⟨c, hc, hnr⟩ := hr
    obtain ⟨j, j1, j2, j3⟩ := residue hn (show n ≤ i by omega) hc
    exact absurd (j3 ▸ h5 j j1 (by omega)) hnr
theorem Bd.idle {n tot L3 : Nat} {NR : Nat → Prop} {left i c : Nat} (h : Bd n tot L3 NR left i) (hn : 1 ≤ n) (hL : L3 ≤ 200) (hr : ∃ c, c < n ∧ ¬ NR c) (hc : L3 ≤ i → c = i % n) (hnr : NR c) : Bd n tot L3 NR left (i + 1) := by
  obtain ⟨d, h1, h2, h3, h4, h5⟩ := h.tight hn hr
  by_cases hi : i < L3
  · exact ⟨0, by omega, by omega, by omega, by omega, fun j j1 j2 => by omega⟩
  · refine ⟨d + 1, by omega, by omega, by omega, fun _ => ?_, fun j j1 j2 => ?_⟩
    · by_cases h0 : 0 < d
      · have := h4 h0; omega
      · omega
    · by_cases hj : j = 1
      · subst hj
        rw [Nat.add_sub_cancel, ← hc (by omega)]; exact hnr
      · rw [show i + 1 - j = i - (j - 1) by omega]
        exact h5 (j - 1) (by omega) (by omega)
theorem Bd.taken {n tot L3 : Nat} {NR NR' : Nat → Prop} {left i : Nat} (h : Bd n tot L3 NR (left + 1) i) (hn : 1 ≤ n) (h6 : n ≤ 6) (ht : left + 1 ≤ tot) (hr : ∃ c, c < n ∧ ¬ NR c) : Bd n tot L3 NR' left (i + 1) := by
  obtain ⟨d, h1, h2, h3, h4, h5⟩ := h.tight hn hr
  exact ⟨0, by omega, by omega, by omega, by omega, fun j j1 j2 => by omega⟩
theorem Bd.le {n tot L3 : Nat} {NR : Nat → Prop} {left i : Nat} (h : Bd n tot L3 NR left i) (h6 : n ≤ 6) (ht : tot ≤ 66) : i ≤ 700 := by
  obtain ⟨d, h1, h2, _⟩ := h
  omega
theorem Bd.start (n tot L3 : Nat) (NR : Nat → Prop) (left : Nat) : Bd n tot L3 NR left 0 := ⟨0, by omega, by omega, by omega, by omega, fun j j1 j2 => by omega⟩
/-- The queues and the gate. -/
structure AW (w : World) (qb k b1 : Nat) (s : Gs) (vs : List Value) (Q : List (List Fr)) (W : World) : Prop where
  q : QA W qb w.heap.size vs Q
  bel : Below w.heap.size w W
  qge : w.heap.size ≤ qb
  qlt : qb < b1
  ble : b1 ≤ W.heap.size
  rlt : ∀ (c : Nat) (v : Value) (g : Nat), vs[c]? = some v → v.ownBlock = some g → g < b1
  g : ∃ fp, GA W k fp s ∧ ∀ i, fp i → b1 ≤ i
section
variable {w W W' : World} {qb k b1 : Nat} {s s' : Gs} {vs : List Value} {Q : List (List Fr)}
theorem AW.below (h : AW w qb k b1 s vs Q W) (hb : Below W.heap.size W W') : AW w qb k b1 s vs Q W' := by
  obtain ⟨fp, g1, g2⟩ := h.g
  exact ⟨h.q.below hb, h.bel.trans (hb.mono h.bel.size), h.qge, h.qlt, Nat.le_trans h.ble hb.size, h.rlt, fp, g1.below hb, g2⟩
theorem AW.new {fp : Nat → Prop} (h : QW w qb vs Q W) (g : GA W' k fp s) (b : Below W.heap.size W W') (l : ∀ i, fp i → W.heap.size ≤ i) : AW w qb k W.heap.size s vs Q W' :=
  ⟨h.1.below b, h.2.1.trans (b.mono h.2.1.size), h.2.2, h.1.box.lt, b.size, fun c v g hv e => by
    obtain ⟨xs, hx⟩ := get_of_lt (show c < Q.length by rw [← h.1.len]; exact lt_of_get hv)
    exact (h.1.row c v xs hv hx).lt g e, fp, g, l⟩
theorem AW.turn {fp fp' : Nat → Prop} (h : AW w qb k b1 s vs Q W) (hl : ∀ i, fp i → b1 ≤ i) (g : GA W' k fp' s') (t : FT fp fp' W W') : AW w qb k b1 s' vs Q W' := by
  have hkeep : ∀ i, i < b1 → W'.heap[i]? = W.heap[i]? := fun i hi => t.block i (Nat.lt_of_lt_of_le hi h.ble) (fun e => by have := hl i e; omega)
  refine ⟨h.q.back (hkeep qb h.qlt) (fun c v g hv e => hkeep g (h.rlt c v g hv e)), h.bel.trans (t.below h.bel.size (fun i e => by have := hl i e; have := h.qge; have := h.qlt; omega)), h.qge, h.qlt, Nat.le_trans h.ble t.size, h.rlt, fp', g, fun i hi => ?_⟩
  rcases t.sub i hi with e | e
  · exact hl i e
  · exact Nat.le_trans h.ble e
def AT (w : World) (qb k b1 : Nat) (s : Gs) (vs : List Value) (Q : List (List Fr)) (x : Sn) (er : Int) (e : Ending) (w' : World) : Prop := e = .returned (.tuple #[.agg #[.int .i64 x.kd, .int .i64 x.ke, .int .i64 x.ti, .int .i64 x.va, .int .i64 x.ma, .int .u64 x.n, .int .u64 x.fu], .int .i64 er]) ∧ AW w qb k b1 s vs Q w'
theorem AW.take (h : AW w qb k b1 s vs Q W) (ch : Int) (f : Fr) (hl : s.cp.length ≤ 100000) {x : Sn} {er : Int} (hs : s.tk ch f = s') (hx : s.tkS ch f = x) (he : s.tkE ch = er) : Calls Try.prog 13 #[.pointer (some ⟨k, 0, none⟩), .int .i64 ch, .agg #[.int .i64 f.kd, .int .i64 f.ke, .int .i64 f.ti, .int .i64 f.va, .int .i64 f.ma, .int .u64 f.n, .bool f.ov]] W (AT w qb k b1 s' vs Q x er) := by
  obtain ⟨fp, g1, g2⟩ := id h.g
  have hc := Take_any g1 ch f hl
  rw [hs, hx, he] at hc
  refine hc.mono ?_
  rintro e w' ⟨rfl, fp', g', t'⟩
  exact ⟨rfl, h.turn g2 g' t'⟩
theorem AW.blocked (h : AW w qb k b1 s vs Q W) (ch : Int) : Calls Try.prog 23 #[.pointer (some ⟨k, 0, none⟩), .int .i64 ch] W fun e w' => e = .returned (.bool (s.bl ch)) ∧ W = w' := by
  obtain ⟨fp, g1, g2⟩ := h.g
  exact Blocked_any g1 ch
/-- The first frame of channel c is gone. -/
theorem AW.pop (h : AW w qb k b1 s vs Q W) {c : Nat} {v v' : Value} {xs xs' : List Fr} (hv : vs[c]? = some v) (hx : Q[c]? = some xs) (hr : Row 37 7 Fr.cs w.heap.size W v' xs') (ho : ∀ g, v'.ownBlock = some g → v.ownBlock = some g) : AW w qb k b1 s (vs.set c v') (Q.set c xs') (W.setCell ⟨qb, c, none⟩ v') := by
  obtain ⟨fp, g1, g2⟩ := h.g
  have hnq : ¬ fp qb := fun e => by have := g2 qb e; have := h.qlt; omega
  refine ⟨h.q.app hv hr (grownBy_refl W v.ownBlock) (fun g e => .inl (ho g e)) hx, h.bel.setCell h.qge _, h.qge, h.qlt, by simpa using h.ble, fun c2 v2 g hv2 e => ?_, fp, g1.off hnq _ _, g2⟩
  by_cases hcc : c = c2
  · subst hcc
    rw [List.getElem?_set_self (lt_of_get hv)] at hv2
    cases hv2
    exact h.rlt c v g hv (ho g e)
  · rw [List.getElem?_set_ne hcc] at hv2
    exact h.rlt c2 v2 g hv2 e
end
/-- Not ready. -/
def NRd (C : List Bool) (X Y : List Nat) (c : Nat) : Prop := qs C X Y c = [] ∨ (C.getD c false && !C.all id) = true
theorem Pl.rdy {n A B : Nat} {C : List Bool} {X Y : List Nat} {told left : Nat} (h : Pl n A B C X Y told left) (hl : 0 < left) : ∃ c, c < n ∧ ¬ NRd C X Y c := by
  obtain ⟨c, h1, h2, h3⟩ := h.ready hl
  exact ⟨c, h1, fun e => by
    rcases e with e | e
    · exact h2 e
    · rw [h3] at e; cases e⟩
/-- A record ahead of its channel's barrier. -/
theorem Pl.ahead {n A B : Nat} {C : List Bool} {X Y : List Nat} {told left : Nat} (h : Pl n A B C X Y told left) {c x : Nat} (hx : X[c]? = some (x + 1)) (hc : C.getD c false = false) : Pl n A B C (X.set c x) Y (told + 1) (left - 1) ∧ 1 ≤ left := by
  have hs := sum_set hx
  have := h.tt
  have := h.lt
  refine ⟨⟨h.lc, by simpa using h.lx, h.ly, fun c2 h2 => ?_, h.yb, by omega, by omega⟩, by omega⟩
  by_cases e : c = c2
  · subst e; rw [hc] at h2; cases h2
  · rw [List.getD_eq_getElem?_getD, List.getElem?_set_ne e, ← List.getD_eq_getElem?_getD]; exact h.cx c2 h2
/-- A record behind. -/
theorem Pl.behind {n A B : Nat} {C : List Bool} {X Y : List Nat} {told left : Nat} (h : Pl n A B C X Y told left) {c y : Nat} (hy : Y[c]? = some (y + 1)) (ha : C.all id = true) : Pl n A B C X (Y.set c y) (told + 1) (left - 1) ∧ 1 ≤ left := by
  have hs := sum_set hy
  have := h.tt
  have := h.lt
  exact ⟨⟨h.lc, h.lx, by simpa using h.ly, h.cx, fun e => by (rw [ha] at e; cases e), by omega, by omega⟩, by omega⟩
/-- A barrier. -/
theorem Pl.barrier {n A B : Nat} {C : List Bool} {X Y : List Nat} {told left : Nat} (h : Pl n A B C X Y told left) {c : Nat} (hx : X[c]? = some 0) (hc : C[c]? = some false) : Pl n A B (C.set c true) X Y told (left - 1) ∧ 1 ≤ left ∧ ((C.set c true).all id = true → told = A) := by
  have hs := count_come hc
  have hlt := h.lt
  have htt := h.tt
  have hall : C.all id = false := by
    rw [all_count]
    exact decide_eq_false (by omega)
  have hyb := h.yb hall
  have hp : Pl n A B (C.set c true) X Y told (left - 1) := by
    refine ⟨by simpa using h.lc, h.lx, h.ly, fun c2 h2 => ?_, fun _ => hyb, htt, by omega⟩
    by_cases e : c = c2
    · subst e; rw [List.getD_eq_getElem?_getD, hx]; rfl
    · rw [List.getD_eq_getElem?_getD, List.getElem?_set_ne e, ← List.getD_eq_getElem?_getD] at h2; exact h.cx c2 h2
  exact ⟨hp, by omega, fun ha => by have := hp.all_X ha; omega⟩
theorem range_count {n c : Nat} (hn : n ≤ 6) (hc : c < n) : (List.range n).countP (fun x => x % n == c) = 1 := by
  have h : ((List.range 7).all fun n => (List.range n).all fun c => (List.range n).countP (fun x => x % n == c) == 1) = true := by decide
  simpa using all_range (all_range h (show n < 7 by omega)) hc
end Go.Proofs.Ytmipgfobggbndaa
