/-
  Walks over package ring: rings of pairs: Len, Room, Take.
-/
import Derived.Test.YtaoejpgjdoikiaaRMap
namespace Go.Proofs.Ytaoejpgjdoikiaa
open Go.RowKit

/-- A row of pairs: what lies at each of its places. -/
structure Prs (cs : Array Value) (n : Nat) (at_ : Nat → Nat) (q : List (Int × Int)) : Prop where
  size : cs.size = n * 2
  all : ∀ j : Nat, j < n * 2 → ∃ x : Int, cs[j]? = some (.int .i64 x)
  each : ∀ (i : Nat) (p : Int × Int), q[i]? = some p → cs[at_ i * 2]? = some (.int .i64 p.1) ∧ cs[at_ i * 2 + 1]? = some (.int .i64 p.2)
/-- A ring of pairs in box k, with its slots in block b. -/
structure R2X (w : World) (k b mo : Nat) (q : List (Int × Int)) (L h : Nat) (so : Option Addr) : Prop where
  box : BoxT 68 w k #[.int .i64 mo, .slice so L L, .int .i64 h, .int .i64 q.length]
  le : q.length ≤ L
  big : L ≤ 262144
  pl : (L = 0 ∧ h = 0) ∨ (h < L ∧ so = some ⟨b, 0, none⟩ ∧ k ≠ b ∧ ∃ cur, BoxT 39 w b cur ∧ Prs cur L (fun i => (h + i) % L) q)
def R2 (w : World) (k b mo : Nat) (q : List (Int × Int)) : Prop := ∃ L h so, R2X w k b mo q L h so
section
variable {w w' : World} {k b mo L h : Nat} {so : Option Addr} {q : List (Int × Int)}
theorem R2X.back (H : R2X w k b mo q L h so) (hk : w'.heap[k]? = w.heap[k]?) (hb : b < w.heap.size → w'.heap[b]? = w.heap[b]?) : R2X w' k b mo q L h so := by
  refine ⟨by have := H.box; unfold BoxT at *; rw [hk]; exact this, H.le, H.big, ?_⟩
  rcases H.pl with p | ⟨p1, p2, p3, cur, p4, p5⟩
  · exact .inl p
  · exact .inr ⟨p1, p2, p3, cur, by have := p4.lt; unfold BoxT at *; rw [hb this]; exact p4, p5⟩
theorem R2X.below (H : R2X w k b mo q L h so) (hb : Below w.heap.size w w') : R2X w' k b mo q L h so := H.back (hb.block k H.box.lt) (hb.block b)
theorem R2.back (H : R2 w k b mo q) (hk : w'.heap[k]? = w.heap[k]?) (hb : b < w.heap.size → w'.heap[b]? = w.heap[b]?) : R2 w' k b mo q := by
  obtain ⟨L, h, so, H⟩ := H
  exact ⟨L, h, so, H.back hk hb⟩
theorem R2.below (H : R2 w k b mo q) (hb : Below w.heap.size w w') : R2 w' k b mo q := by
  obtain ⟨L, h, so, H⟩ := H
  exact ⟨L, h, so, H.below hb⟩
theorem R2.lt (H : R2 w k b mo q) : k < w.heap.size := by
  obtain ⟨L, h, so, H⟩ := H
  exact H.box.lt
end
/-- Two cells stored. -/
theorem BoxT.pair {w : World} {g : Nat} {cs : Array Value} (h : BoxT 39 w g cs) (j : Nat) (u v : Value) : BoxT 39 ((w.setCell ⟨g, j, none⟩ u).setCell ⟨g, j + 1, none⟩ v) g ((cs.setIfInBounds j u).setIfInBounds (j + 1) v) := (h.set j u).set (j + 1) v
theorem set_self {cs : Array Value} {i : Nat} (u : Value) (h : i < cs.size) : (cs.setIfInBounds i u)[i]? = some u := by simp [h]
theorem Prs.put {cs : Array Value} {n : Nat} {f : Nat → Nat} {q : List (Int × Int)} (h : Prs cs n f q) (s : Nat) (hs : s < n) (u v : Int) (q' : List (Int × Int)) (f' : Nat → Nat)
    (hq : ∀ i p, q'[i]? = some p → (f' i = s ∧ p = (u, v)) ∨ (f' i ≠ s ∧ ∃ j, f' i = f j ∧ q[j]? = some p)) : Prs ((cs.setIfInBounds (s * 2) (.int .i64 u)).setIfInBounds (s * 2 + 1) (.int .i64 v)) n f' q' := by
  have hsz := h.size
  refine ⟨by simpa using hsz, fun j hj => ?_, fun i p hp => ?_⟩
  · by_cases h1 : s * 2 + 1 = j
    · subst h1; exact ⟨v, set_self _ (by simp; omega)⟩
    · rw [Array.getElem?_setIfInBounds_ne h1]
      by_cases h2 : s * 2 = j
      · subst h2; exact ⟨u, set_self _ (by omega)⟩
      · rw [Array.getElem?_setIfInBounds_ne h2]; exact h.all j hj
  · rcases hq i p hp with ⟨e, rfl⟩ | ⟨hne, j, e, hj⟩
    · rw [e]
      refine ⟨?_, set_self _ (by simp; omega)⟩
      rw [Array.getElem?_setIfInBounds_ne (by omega)]
      exact set_self _ (by omega)
    · obtain ⟨h1, h2⟩ := h.each j p hj
      rw [e] at hne ⊢
      refine ⟨?_, ?_⟩
      · rw [Array.getElem?_setIfInBounds_ne (by omega), Array.getElem?_setIfInBounds_ne (by omega)]; exact h1
      · rw [Array.getElem?_setIfInBounds_ne (by omega), Array.getElem?_setIfInBounds_ne (by omega)]; exact h2
/-- In the midst of inSlots, and of Map: the first i are there. -/
structure InP (w wr : World) (g : Nat) (q : List (Int × Int)) (n i : Nat) : Prop where
  bel : Below w.heap.size w wr
  at_ : w.heap.size ≤ g
  box : ∃ cs : Array Value, BoxT 39 wr g cs ∧ Prs cs n id (q.take i)
theorem InP.step {w wr w' : World} {g : Nat} {q : List (Int × Int)} {n i : Nat} {p : Int × Int} (h : InP w wr g q n i) (hb : Below wr.heap.size wr w') (hx : q[i]? = some p) (hn : q.length ≤ n) :
    InP w ((w'.setCell ⟨g, i * 2, none⟩ (.int .i64 p.1)).setCell ⟨g, i * 2 + 1, none⟩ (.int .i64 p.2)) g q n (i + 1) := by
  obtain ⟨cs, h1, h2⟩ := h.box
  have h1' : BoxT 39 w' g cs := by have := h1.lt; unfold BoxT at *; rw [hb.block _ this]; exact h1
  have hi := (List.getElem?_eq_some_iff.1 hx).1
  refine ⟨((h.bel.trans (hb.mono h.bel.size)).setCell h.at_ _).setCell h.at_ _, h.at_, _, h1'.pair (i * 2) _ _, h2.put i (by omega) p.1 p.2 _ _ fun j y hy => ?_⟩
  rw [List.getElem?_take] at hy
  split at hy
  · rename_i hj
    by_cases e : j = i
    · subst e
      rw [hx] at hy
      cases hy
      exact .inl ⟨rfl, rfl⟩
    · exact .inr ⟨e, j, rfl, by rw [List.getElem?_take, if_pos (by omega)]; exact hy⟩
  · cases hy
set_option maxHeartbeats 1000000 in
set_option maxRecDepth 100000 in
theorem inSlotsP {w : World} {k b mo L h n : Nat} {so : Option Addr} {q : List (Int × Int)} (H : R2X w k b mo q L h so) (hq : q.length ≤ n) (hn : n ≤ 300000) {vn : Int} (hvn : vn = (n : Int)) :
    Calls Try.prog 51 #[.pointer (some ⟨k, 0, none⟩), .int .i64 vn] w fun e w' => e = .returned (.slice (some ⟨w.heap.size, 0, none⟩) n n) ∧ InP w w' w.heap.size q n q.length := by
  subst hvn
  obtain ⟨cs, ⟨hcs, hcx⟩, hmk⟩ := makeP w n (by omega)
  have HB := hide H
  obtain ⟨c0, c1, c2, c3⟩ := (H.box.alloc (.cells cs 39)).cells4
  have hkw := H.box.lt
  have hI0 : Hid (InP w (w.alloc (.cells cs 39)) w.heap.size q n 0) := ⟨(Below.refl _ _).alloc (Nat.le_refl _) _, Nat.le_refl _, cs, BoxT.new _ _ _, hcs, hcx, fun i p hp => by simp at hp⟩
  clear H hcs hcx
  generalize hlq : q.length = m at *
  have HQ := hide hlq
  clear hlq
  generalize w.alloc (.cells cs 39) = w1 at *
  go_enter Try.func51, Try.ntmps51
  go_wp2_with fail
  go_loopw [13] (fun iv wr => ∃ i : Nat, i ≤ m ∧ iv = .int .i64 i ∧ Hid (InP w wr w.heap.size q n i)) (fun iv _ => m - (intOf iv).toNat)
  case atStart => exact ⟨0, Nat.zero_le _, rfl, hI0.out⟩
  case round =>
    obtain ⟨i, hi, rfl, HI⟩ := hrel
    by_cases hlt : i < m
    · obtain ⟨p, hx⟩ : ∃ x, q[i]? = some x := ⟨_, List.getElem?_eq_getElem (by rw [HQ.out]; exact hlt)⟩
      rcases HB.out.pl with ⟨hL0, _⟩ | ⟨hhL, hso, hkb, cur, hcur, hprs⟩
      · exact absurd HB.out.le (by rw [HQ.out]; omega)
      subst hso
      have hLb := HB.out.big
      have hLm : m ≤ L := by rw [← HQ.out]; exact HB.out.le
      obtain ⟨hcell, hcell2⟩ := hprs.each i p hx
      obtain ⟨s, hs⟩ : ∃ s, (h + i) % L = s := ⟨_, rfl⟩
      rw [hs] at hcell hcell2
      have hix : s < L := by rw [← hs]; exact Nat.mod_lt _ (by omega)
      have HSS := hide hs
      clear hs
      have hbxr : BoxT 68 wr k #[.int .i64 mo, .slice (some ⟨b, 0, none⟩) L L, .int .i64 h, .int .i64 q.length] := by
        have h1 := HB.out.box
        unfold BoxT at *
        rw [HI.out.bel.block k hkw]; exact h1
      have hcur2 : BoxT 39 wr b cur := by
        have h1 := hcur.lt
        unfold BoxT at *
        rw [HI.out.bel.block b h1]; exact hcur
      have y1 := hbxr.cells4.2.1
      have hw0 := HI.out.bel.size
      have hin : i < n := by omega
      have hbw : b < w.heap.size := hcur.lt
      have hn1 : ∀ j, (⟨w.heap.size, j, none⟩ : Addr) ≠ ⟨k, 1, none⟩ := fun j e => by have := congrArg Addr.block e; simp at this; omega
      have hn2 : ∀ j t, (⟨w.heap.size, j, none⟩ : Addr) ≠ ⟨b, t, none⟩ := fun j t e => by have := congrArg Addr.block e; simp at this; omega
      have HX := hide hx
      have HBX := hide hbxr
      have y2 := (hcur2.cellAt (s * 2)).trans hcell
      have y3 := (hcur2.cellAt (s * 2 + 1)).trans hcell2
      have hbl := hcur2.lt
      clear hcell hcell2 hbxr hcur2 hx hcur hprs
      obtain ⟨p1, p2⟩ := p
      dsimp only at y2 y3
      go_wp2_with fail
      go_region_held3 (fun w' => w'.cell? ⟨k, 1, none⟩ = some (.slice (some ⟨b, 0, none⟩) L L) ∧ w'.cell? ⟨b, s * 2, none⟩ = some (.int .i64 p1) ∧ w'.cell? ⟨b, s * 2 + 1, none⟩ = some (.int .i64 p2)) (first | go_keep | exact ⟨y1, y2, y3⟩ | exact ⟨z1, z2, z3⟩ | exact ⟨(World.cell?_setCell_other _ _ _ _ (hn1 _)).trans ((World.cell?_setCell_other _ _ _ _ (hn1 _)).trans z1), (World.cell?_setCell_other _ _ _ _ (hn2 _ _)).trans ((World.cell?_setCell_other _ _ _ _ (hn2 _ _)).trans z2), (World.cell?_setCell_other _ _ _ _ (hn2 _ _)).trans ((World.cell?_setCell_other _ _ _ _ (hn2 _ _)).trans z3)⟩)
        (first | (go_at_call 43; refine (slotP (L := L) (h := h) (i := i) HBX.out.drew (by omega) (by omega) (by omega) HSS.out rfl).mono ?_; rintro e w2 ⟨rfl, b2⟩; have B2 := hide (((Below.refl wr.heap.size wr).drew).trans b2); have z1 : w2.cell? ⟨k, 1, none⟩ = some (.slice (some ⟨b, 0, none⟩) L L) := (b2.cell (p := ⟨k, 1, none⟩) HBX.out.lt).trans y1; have z2 : w2.cell? ⟨b, s * 2, none⟩ = some (.int .i64 p1) := (b2.cell (p := ⟨b, s * 2, none⟩) hbl).trans y2; have z3 : w2.cell? ⟨b, s * 2 + 1, none⟩ = some (.int .i64 p2) := (b2.cell (p := ⟨b, s * 2 + 1, none⟩) hbl).trans y3; have HS := hide (HI.out.step B2.out HX.out (by rw [HQ.out]; exact hq)); have z4 : ∀ t, t < n * 2 → ∃ u, w2.cell? ⟨w.heap.size, t, none⟩ = some (.int .i64 u) := (by intro t ht; obtain ⟨cs, h1, h2⟩ := HI.out.box; obtain ⟨u, hu⟩ := h2.all t ht; exact ⟨u, (b2.cell (p := ⟨w.heap.size, t, none⟩) h1.lt).trans ((h1.cellAt _).trans hu)⟩); have z5 : ∀ t, w2.frozen? ⟨w.heap.size, t, none⟩ = false := (by obtain ⟨cs, h1, _⟩ := HI.out.box; have h5 : BoxT 39 w2 w.heap.size cs := (by have h6 := h1.lt; unfold BoxT at *; rw [b2.block _ h6]; exact h1); exact h5.free); obtain ⟨u4, z6⟩ := z4 (i * 2) (by omega); obtain ⟨u5, z7⟩ := z4 (i * 2 + 1) (by omega); clear b2 z4))
      go_wp2
      go_roundw
      case rel => exact ⟨i + 1, by omega, by go_num, HS.out⟩
      case measure => simp [intOf]; omega
    · obtain rfl : i = m := by omega
      go_wp2
      go_ret
      exact ⟨rfl, HI.out⟩
end Go.Proofs.Ytaoejpgjdoikiaa
