/-
  Rings whose things are messages (to whom, and what): how they lie, and what each step makes of them.
-/
import Derived.Test.YtnomoekbfclckaaRBase
namespace Go.Proofs.Ytnomoekbfclckaa
open Go.RowKit

/-- A row of messages: what lies at each of its places. -/
structure Prs {β : Type} (f : β → Value) (cs : Array Value) (n : Nat) (at_ : Nat → Nat) (q : List (Int × β)) : Prop where
  size : cs.size = n * 2
  each : ∀ (i : Nat) (p : Int × β), q[i]? = some p → cs[at_ i * 2]? = some (.int .u64 p.1) ∧ cs[at_ i * 2 + 1]? = some (f p.2)
/-- A ring of messages in box k, with its slots in block b. -/
structure R2X {β : Type} (T E : Nat) (f : β → Value) (w : World) (k b mo : Nat) (q : List (Int × β)) (L h : Nat) (so : Option Addr) : Prop where
  box : BoxT T w k #[.int .i64 mo, .slice so L L, .int .i64 h, .int .i64 q.length]
  le : q.length ≤ L
  big : L ≤ 262144
  pl : (L = 0 ∧ h = 0 ∧ so = none ∧ b = k) ∨ (h < L ∧ so = some ⟨b, 0, none⟩ ∧ k ≠ b ∧ ∃ cur, BoxT E w b cur ∧ Prs f cur L (fun i => (h + i) % L) q)
def R2 {β : Type} (T E : Nat) (f : β → Value) (w : World) (k b mo : Nat) (q : List (Int × β)) : Prop := ∃ L h so, R2X T E f w k b mo q L h so
section
variable {β : Type} {T E : Nat} {f : β → Value} {w w' : World} {k b mo L h : Nat} {so : Option Addr} {q : List (Int × β)}
theorem R2X.back (H : R2X T E f w k b mo q L h so) (hk : w'.heap[k]? = w.heap[k]?) (hb : b < w.heap.size → w'.heap[b]? = w.heap[b]?) : R2X T E f w' k b mo q L h so := by
  refine ⟨by have := H.box; unfold BoxT at *; rw [hk]; exact this, H.le, H.big, ?_⟩
  rcases H.pl with p | ⟨p1, p2, p3, cur, p4, p5⟩
  · exact .inl p
  · exact .inr ⟨p1, p2, p3, cur, by have := p4.lt; unfold BoxT at *; rw [hb this]; exact p4, p5⟩
theorem R2X.below (H : R2X T E f w k b mo q L h so) (hb : Below w.heap.size w w') : R2X T E f w' k b mo q L h so := H.back (hb.block k H.box.lt) (hb.block b)
theorem R2.back (H : R2 T E f w k b mo q) (hk : w'.heap[k]? = w.heap[k]?) (hb : b < w.heap.size → w'.heap[b]? = w.heap[b]?) : R2 T E f w' k b mo q := by
  obtain ⟨L, h, so, H⟩ := H
  exact ⟨L, h, so, H.back hk hb⟩
theorem R2.below (H : R2 T E f w k b mo q) (hb : Below w.heap.size w w') : R2 T E f w' k b mo q := by
  obtain ⟨L, h, so, H⟩ := H
  exact ⟨L, h, so, H.below hb⟩
theorem R2.lt (H : R2 T E f w k b mo q) : k < w.heap.size := by
  obtain ⟨L, h, so, H⟩ := H
  exact H.box.lt
end
/-- Two cells stored. -/
theorem BoxT.pair {t : Nat} {w : World} {g : Nat} {cs : Array Value} (h : BoxT t w g cs) (j : Nat) (u v : Value) : BoxT t ((w.setCell ⟨g, j, none⟩ u).setCell ⟨g, j + 1, none⟩ v) g ((cs.setIfInBounds j u).setIfInBounds (j + 1) v) := (h.set j u).set (j + 1) v
theorem set_self {cs : Array Value} {i : Nat} (u : Value) (h : i < cs.size) : (cs.setIfInBounds i u)[i]? = some u := by simp [h]
section
variable {β : Type} {T E : Nat} {f : β → Value}
theorem Prs.all {cs : Array Value} {n : Nat} {g : Nat → Nat} {q : List (Int × β)} (h : Prs f cs n g q) (j : Nat) (hj : j < n * 2) : ∃ u, cs[j]? = some u :=
  ⟨_, Array.getElem?_eq_getElem (by rw [h.size]; exact hj)⟩
theorem Prs.put {cs : Array Value} {n : Nat} {g : Nat → Nat} {q : List (Int × β)} (h : Prs f cs n g q) (s : Nat) (hs : s < n) (u : Int) (v : Value) (q' : List (Int × β)) (g' : Nat → Nat)
    (hq : ∀ i p, q'[i]? = some p → (g' i = s ∧ p.1 = u ∧ f p.2 = v) ∨ (g' i ≠ s ∧ ∃ j, g' i = g j ∧ q[j]? = some p)) : Prs f ((cs.setIfInBounds (s * 2) (.int .u64 u)).setIfInBounds (s * 2 + 1) v) n g' q' := by
  have hsz := h.size
  refine ⟨by simpa using hsz, fun i p hp => ?_⟩
  rcases hq i p hp with ⟨e, e1, e2⟩ | ⟨hne, j, e, hj⟩
  · rw [e, e1, e2]
    refine ⟨?_, set_self _ (by simp; omega)⟩
    rw [Array.getElem?_setIfInBounds_ne (by omega)]
    exact set_self _ (by omega)
  · obtain ⟨h1, h2⟩ := h.each j p hj
    rw [e] at hne ⊢
    refine ⟨?_, ?_⟩
    · rw [Array.getElem?_setIfInBounds_ne (by omega), Array.getElem?_setIfInBounds_ne (by omega)]; exact h1
    · rw [Array.getElem?_setIfInBounds_ne (by omega), Array.getElem?_setIfInBounds_ne (by omega)]; exact h2
/-- In the midst of inSlots: the first i are there. -/
structure InP (E : Nat) (f : β → Value) (w wr : World) (g : Nat) (q : List (Int × β)) (n i : Nat) : Prop where
  bel : Below w.heap.size w wr
  at_ : w.heap.size ≤ g
  box : ∃ cs : Array Value, BoxT E wr g cs ∧ Prs f cs n id (q.take i)
theorem InP.step {w wr w' : World} {g : Nat} {q : List (Int × β)} {n i : Nat} {p : Int × β} (h : InP E f w wr g q n i) (hb : Below wr.heap.size wr w') (hx : q[i]? = some p) (hn : q.length ≤ n) :
    InP E f w ((w'.setCell ⟨g, i * 2, none⟩ (.int .u64 p.1)).setCell ⟨g, i * 2 + 1, none⟩ (f p.2)) g q n (i + 1) := by
  obtain ⟨cs, h1, h2⟩ := h.box
  have h1' : BoxT E w' g cs := by have := h1.lt; unfold BoxT at *; rw [hb.block _ this]; exact h1
  have hi := (List.getElem?_eq_some_iff.1 hx).1
  refine ⟨((h.bel.trans (hb.mono h.bel.size)).setCell h.at_ _).setCell h.at_ _, h.at_, _, h1'.pair (i * 2) _ _, h2.put i (by omega) p.1 (f p.2) _ _ fun j y hy => ?_⟩
  rw [List.getElem?_take] at hy
  split at hy
  · rename_i hj
    by_cases e : j = i
    · subst e
      rw [hx] at hy
      cases hy
      exact .inl ⟨rfl, rfl, rfl⟩
    · exact .inr ⟨e, j, rfl, by rw [List.getElem?_take, if_pos (by omega)]; exact hy⟩
  · cases hy
theorem InP.moved {w w2 : World} {k b mo L h n : Nat} {so : Option Addr} {q : List (Int × β)} (H : R2X T E f w k b mo q L h so) (HI : InP E f w w2 w.heap.size q n q.length) (hq : q.length ≤ n) (hn : 0 < n) (hn2 : n ≤ 262144) :
    R2X T E f ((w2.setCell ⟨k, 1, none⟩ (.slice (some ⟨w.heap.size, 0, none⟩) n n)).setCell ⟨k, 2, none⟩ (.int .i64 0)) k w.heap.size mo q n 0 (some ⟨w.heap.size, 0, none⟩) ∧ Turned k b w ((w2.setCell ⟨k, 1, none⟩ (.slice (some ⟨w.heap.size, 0, none⟩) n n)).setCell ⟨k, 2, none⟩ (.int .i64 0)) := by
  obtain ⟨cs, h1, h2⟩ := HI.box
  rw [List.take_length] at h2
  have hk := H.box.lt
  have hb : BoxT T w2 k #[.int .i64 mo, .slice so L L, .int .i64 h, .int .i64 q.length] := by have := H.box; unfold BoxT at *; rw [HI.bel.block k hk]; exact this
  refine ⟨⟨?_, hq, hn2, .inr ⟨hn, rfl, by omega, cs, (h1.other 1 _ (by omega)).other 2 _ (by omega), h2.size, fun i x hx => ?_⟩⟩, ((Turned.below HI.bel).trans (Turned.set k b _ 1 _)).trans (Turned.set k b _ 2 _)⟩
  · simpa using (hb.set 1 (.slice (some ⟨w.heap.size, 0, none⟩) n n)).set 2 (.int .i64 0)
  · have hi := (List.getElem?_eq_some_iff.1 hx).1
    show cs[((0 + i) % n) * 2]? = _ ∧ cs[((0 + i) % n) * 2 + 1]? = _
    rw [Nat.zero_add, Nat.mod_eq_of_lt (by omega)]
    exact h2.each i x hx
/-- The first one gone. -/
theorem R2X.took {w w3 : World} {k b mo L h : Nat} {so : Option Addr} {q : List (Int × β)} {x : Int × β} (z : Value) (H : R2X T E f w k b mo (x :: q) L h so) (hb : Below ((w.setCell ⟨b, h * 2, none⟩ (.int .u64 0)).setCell ⟨b, h * 2 + 1, none⟩ z).heap.size ((w.setCell ⟨b, h * 2, none⟩ (.int .u64 0)).setCell ⟨b, h * 2 + 1, none⟩ z) w3) {s : Nat} (hs : (h + 1) % L = s) :
    R2X T E f ((w3.setCell ⟨k, 2, none⟩ (.int .i64 (s : Int))).setCell ⟨k, 3, none⟩ (.int .i64 (q.length : Int))) k b mo q L s so ∧ Turned k b w ((w3.setCell ⟨k, 2, none⟩ (.int .i64 (s : Int))).setCell ⟨k, 3, none⟩ (.int .i64 (q.length : Int))) := by
  have hle := H.le
  simp only [List.length_cons] at hle
  rcases H.pl with ⟨h0, _⟩ | ⟨p1, p2, p3, cur, p4, p5⟩
  · omega
  have hb1 := (H.box.other (h * 2) (.int .u64 0) (k' := b) p3).other (h * 2 + 1) z (k' := b) p3
  have hb2 := p4.pair (h * 2) (.int .u64 0) z
  have hk1 := hb1.lt
  have hk2 := hb2.lt
  have ha : BoxT T w3 k #[.int .i64 mo, .slice so L L, .int .i64 h, .int .i64 ((x :: q).length : Nat)] := by unfold BoxT at *; rw [hb.block k hk1]; exact hb1
  have hc : BoxT E w3 b ((cur.setIfInBounds (h * 2) (.int .u64 0)).setIfInBounds (h * 2 + 1) z) := by unfold BoxT at *; rw [hb.block b hk2]; exact hb2
  refine ⟨⟨?_, by omega, H.big, .inr ⟨by rw [← hs]; exact Nat.mod_lt _ (by omega), p2, p3, _, (hc.other 2 _ (fun e => p3 e.symm)).other 3 _ (fun e => p3 e.symm), p5.put h p1 0 z _ _ fun i p hp => .inr ⟨?_, i + 1, ?_, by simpa using hp⟩⟩⟩, ?_⟩
  · simpa using (ha.set 2 (.int .i64 (s : Int))).set 3 (.int .i64 (q.length : Int))
  · have hi := (List.getElem?_eq_some_iff.1 hp).1
    intro e2
    have e3 : (h + (i + 1)) % L = (h + 0) % L := by
      have e4 : (s + i) % L = (h + (i + 1)) % L := by rw [← hs, Nat.mod_add_mod]; congr 1; omega
      rw [← e4, Nat.add_zero, Nat.mod_eq_of_lt p1]
      exact e2
    have := mod_inj p1 (by omega) (by omega) e3
    omega
  · show (s + i) % L = (h + (i + 1)) % L
    rw [← hs, Nat.mod_add_mod]; congr 1; omega
  · exact ((((Turned.setB k b w _ _).trans (Turned.setB k b _ _ _)).trans (Turned.below hb)).trans (Turned.set k b _ 2 _)).trans (Turned.set k b _ 3 _)
/-- One more behind. -/
theorem R2X.push {w w3 : World} {k b mo L h : Nat} {so : Option Addr} {q : List (Int × β)} (H : R2X T E f w k b mo q L h so) (hlt : q.length < L) (x : Int × β) (hb : Below (w.setCell ⟨k, 3, none⟩ (.int .i64 ((q.length : Int) + 1))).heap.size (w.setCell ⟨k, 3, none⟩ (.int .i64 ((q.length : Int) + 1))) w3) {s : Nat} (hs : (h + q.length) % L = s) :
    R2X T E f ((w3.setCell ⟨b, s * 2, none⟩ (.int .u64 x.1)).setCell ⟨b, s * 2 + 1, none⟩ (f x.2)) k b mo (q ++ [x]) L h so ∧ Turned k b w ((w3.setCell ⟨b, s * 2, none⟩ (.int .u64 x.1)).setCell ⟨b, s * 2 + 1, none⟩ (f x.2)) := by
  rcases H.pl with ⟨h0, _⟩ | ⟨p1, p2, p3, cur, p4, p5⟩
  · omega
  have hb1 := H.box.set 3 (.int .i64 ((q.length : Int) + 1))
  have hb2 := p4.other 3 (.int .i64 ((q.length : Int) + 1)) (k' := k) (fun e => p3 e.symm)
  have hk1 := hb1.lt
  have hk2 := hb2.lt
  have ha : BoxT T w3 k #[.int .i64 mo, .slice so L L, .int .i64 h, .int .i64 ((q.length : Int) + 1)] := by unfold BoxT at *; rw [hb.block k hk1]; simpa using hb1
  have hc : BoxT E w3 b cur := by unfold BoxT at *; rw [hb.block b hk2]; exact hb2
  refine ⟨⟨?_, by simp; omega, H.big, .inr ⟨p1, p2, p3, _, hc.pair (s * 2) _ _, p5.put s (by rw [← hs]; exact Nat.mod_lt _ (by omega)) x.1 (f x.2) _ _ fun i y hy => ?_⟩⟩, ?_⟩
  · have := (ha.other (k' := b) (s * 2) (.int .u64 x.1) p3).other (k' := b) (s * 2 + 1) (f x.2) p3
    simpa using this
  · by_cases hi : i < q.length
    · rw [List.getElem?_append_left hi] at hy
      exact .inr ⟨fun e2 => by have := mod_inj p1 (by omega) (by omega) (hs.trans e2.symm); omega, i, rfl, hy⟩
    · have hi2 : i = q.length := by
        have := (List.getElem?_eq_some_iff.1 hy).1
        simp at this; omega
      subst hi2
      simp at hy
      subst hy
      exact .inl ⟨hs, rfl, rfl⟩
  · exact (((Turned.set k b w 3 _).trans (Turned.below hb)).trans (Turned.setB k b _ _ _)).trans (Turned.setB k b _ _ _)
/-- One more ahead. -/
theorem R2X.ahead {w w3 : World} {k b mo L h : Nat} {so : Option Addr} {q : List (Int × β)} (H : R2X T E f w k b mo q L h so) (hlt : q.length < L) (x : Int × β) (hb : Below (w.setCell ⟨k, 3, none⟩ (.int .i64 ((q.length : Int) + 1))).heap.size (w.setCell ⟨k, 3, none⟩ (.int .i64 ((q.length : Int) + 1))) w3) {s : Nat} (hs : (h + (L - 1)) % L = s) :
    R2X T E f ((((w3.setCell ⟨k, 2, none⟩ (.int .i64 (s : Int))).drew).setCell ⟨b, s * 2, none⟩ (.int .u64 x.1)).setCell ⟨b, s * 2 + 1, none⟩ (f x.2)) k b mo (x :: q) L s so ∧ Turned k b w ((((w3.setCell ⟨k, 2, none⟩ (.int .i64 (s : Int))).drew).setCell ⟨b, s * 2, none⟩ (.int .u64 x.1)).setCell ⟨b, s * 2 + 1, none⟩ (f x.2)) := by
  rcases H.pl with ⟨h0, _⟩ | ⟨p1, p2, p3, cur, p4, p5⟩
  · omega
  have hb1 := H.box.set 3 (.int .i64 ((q.length : Int) + 1))
  have hb2 := p4.other 3 (.int .i64 ((q.length : Int) + 1)) (k' := k) (fun e => p3 e.symm)
  have hk1 := hb1.lt
  have hk2 := hb2.lt
  have ha : BoxT T w3 k #[.int .i64 mo, .slice so L L, .int .i64 h, .int .i64 ((q.length : Int) + 1)] := by unfold BoxT at *; rw [hb.block k hk1]; simpa using hb1
  have hc : BoxT E w3 b cur := by unfold BoxT at *; rw [hb.block b hk2]; exact hb2
  have ha2 : BoxT T (w3.setCell ⟨k, 2, none⟩ (.int .i64 (s : Int))).drew k #[.int .i64 mo, .slice so L L, .int .i64 (s : Int), .int .i64 ((q.length : Int) + 1)] := by simpa using (ha.set 2 (.int .i64 (s : Int))).drew
  have hc2 : BoxT E (w3.setCell ⟨k, 2, none⟩ (.int .i64 (s : Int))).drew b cur := (hc.other 2 (.int .i64 (s : Int)) (fun e => p3 e.symm)).drew
  have hsl : s < L := by rw [← hs]; exact Nat.mod_lt _ (by omega)
  have hs2 : s + 1 = h ∨ (h = 0 ∧ s + 1 = L) := by
    rcases mod_two p1 (show L - 1 < L by omega) with ⟨a, c⟩ | ⟨a, c⟩ <;> rw [hs] at c <;> omega
  refine ⟨⟨?_, by simp; omega, H.big, .inr ⟨hsl, p2, p3, _, hc2.pair (s * 2) _ _, p5.put s hsl x.1 (f x.2) _ _ fun i y hy => ?_⟩⟩, ?_⟩
  · have := (ha2.other (k' := b) (s * 2) (.int .u64 x.1) p3).other (k' := b) (s * 2 + 1) (f x.2) p3
    simpa using this
  · match i, hy with
    | 0, hy =>
      simp at hy
      subst hy
      exact .inl ⟨by rw [Nat.add_zero, Nat.mod_eq_of_lt hsl], rfl, rfl⟩
    | i + 1, hy =>
      have hy : q[i]? = some y := by simpa using hy
      have hi := (List.getElem?_eq_some_iff.1 hy).1
      have e1 : (s + (i + 1)) % L = (h + i) % L := by
        rcases hs2 with hs2 | ⟨h1, hs2⟩
        · rw [← hs2]; congr 1; omega
        · rw [show s + (i + 1) = L + i by omega, h1, Nat.add_mod_left, Nat.zero_add]
      exact .inr ⟨fun e2 => by have := mod_inj p1 (show L - 1 < L by omega) (by omega) (hs.trans (e2.symm.trans e1)); omega, i, e1, hy⟩
  · exact ((((Turned.set k b w 3 _).trans (Turned.below hb)).trans ((Turned.set k b _ 2 _).trans (Turned.below ((Below.refl _ _).drew)))).trans (Turned.setB k b _ _ _)).trans (Turned.setB k b _ _ _)
end
theorem Turned.then {k b : Nat} {u v x : World} (h : Turned k b u v) (hb : Below u.heap.size v x) : Turned k b u x :=
  ⟨hb.os.trans h.os, hb.tape.trans h.tape, hb.output.trans h.output, Nat.le_trans h.size hb.size, fun i hi hk hb2 => (hb.block i hi).trans (h.block i hi hk hb2)⟩
theorem BoxT.turned {t k b g : Nat} {w w' : World} {cs : Array Value} (h : BoxT t w g cs) (ht : Turned k b w w') (h1 : g ≠ k) (h2 : g ≠ b) : BoxT t w' g cs := by
  have := h.lt
  unfold BoxT at *
  rw [ht.block g this h1 h2]; exact h
end Go.Proofs.Ytnomoekbfclckaa
