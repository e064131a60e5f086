/-
  The document's readers: their box, their numbers.
-/
import Derived.Test.YtaajjejgjnlbgaaDoorRdSnap
import Derived.Test.YtaajjejgjnlbgaaDoorLawMan
namespace Go.Proofs.YtaajjejgjnlbgaaDoor
open Go.RowKit

/-- Block R is a reader that has the bytes l left. -/
def RdD (R : Nat) (w : World) (l : List Nat) (bad : Bool) : Prop := ∃ v, BoxT 113 w R #[v, .bool bad] ∧ SegB R w v l
theorem RdD.lt {R : Nat} {w : World} {l : List Nat} {bad : Bool} (h : RdD R w l bad) : R < w.heap.size := by obtain ⟨v, h, _⟩ := h; exact h.lt
def RdSD (R : Nat) (w : World) (s : List Nat × Bool) : Prop := RdD R w s.1 s.2 ∧ Byts s.1
theorem RdSD.lt {R : Nat} {w : World} {s : List Nat × Bool} (h : RdSD R w s) : R < w.heap.size := h.1.lt
/-- A reader that is told that something is wrong. -/
theorem RdSD.bad {R : Nat} {w : World} {s : List Nat × Bool} (h : RdSD R w s) : RdSD R (w.setCell ⟨R, 1, none⟩ (.bool true)) (s.1, true) := by
  obtain ⟨⟨v, hbx, hsg⟩, hb⟩ := h
  exact ⟨⟨v, hbx.set 1 (.bool true), hsg.grown (grownBy_set w R 1 _) (by have := hbx.lt; omega)⟩, hb⟩
theorem RdSD.cells {R : Nat} {w : World} {s : List Nat × Bool} (h : RdSD R w s) : ∃ ao cap, w.cell? ⟨R, 0, none⟩ = some (.slice ao s.1.length cap) ∧ w.cell? ⟨R, 1, none⟩ = some (.bool s.2) ∧ w.frozen? ⟨R, 1, none⟩ = false := by
  obtain ⟨⟨v, hbx, ao, cap, rfl, _⟩, hb⟩ := h
  exact ⟨ao, cap, hbx.cells2.1, hbx.cells2.2, hbx.free 1⟩
theorem RdSD.keep {R : Nat} {w w' : World} {s : List Nat × Bool} (h : RdSD R w s) (hb : ∀ i, i ≤ R → w'.heap[i]? = w.heap[i]?) : RdSD R w' s := by
  obtain ⟨⟨v, hbx, ao, cap, rfl, h1, h2, h3, h4⟩, hbs⟩ := h
  refine ⟨⟨_, ?_, ao, cap, rfl, h1, h2, h3, ?_⟩, hbs⟩
  · unfold BoxT at *; rw [hb R (Nat.le_refl _)]; exact hbx
  · rcases h4 with h4 | ⟨b, off, h5, h6, h7⟩
    · exact .inl h4
    · exact .inr ⟨b, off, h5, h6, fun i x hi => (World.cell?_of_block (hb b (by omega))).trans (h7 i x hi)⟩
theorem RdSD.alloc {R : Nat} {w : World} {s : List Nat × Bool} (h : RdSD R w s) (o : Obj) : RdSD R (w.alloc o) s := h.keep fun i hi => Below.heap_alloc w o i (by have := h.lt; omega)
theorem RdSD.set {R : Nat} {w : World} {s : List Nat × Bool} (h : RdSD R w s) (k j : Nat) (u : Value) (hk : R < k) : RdSD R (w.setCell ⟨k, j, none⟩ u) s := h.keep fun i hi => Below.heap_setCell w ⟨k, j, none⟩ u i (by show i ≠ k; omega)
/-- In the midst of readFrame: the reader, the frame's box kF, the result's box. -/
structure RFD (R : Nat) (w0 w : World) (kF : Nat) (cs : Array Value) (s : List Nat × Bool) : Prop where
  rd : RdSD R w s
  bF : BoxT 26 w kF cs
  bA : ∃ a0 a1 a2 a3 a4 a5 a6, BoxT 26 w w0.heap.size #[a0, a1, a2, a3, a4, a5, a6]
  gr : w0.grownBy w (some R)
  kl : w0.heap.size < kF
  rl : R < w0.heap.size
theorem RFD.call {R : Nat} {w0 w w' : World} {kF : Nat} {cs : Array Value} {s s' : List Nat × Bool} (h : RFD R w0 w kF cs s) (hr : RdSD R w' s') (hg : w.grownBy w' (some R)) : RFD R w0 w' kF cs s' := by
  have := h.kl
  have := h.rl
  obtain ⟨a0, a1, a2, a3, a4, a5, a6, hA⟩ := h.bA
  exact ⟨hr, h.bF.grown hg (by omega), ⟨a0, a1, a2, a3, a4, a5, a6, hA.grown hg (by omega)⟩, grownBy_trans h.gr hg, h.kl, h.rl⟩
theorem RFD.set {R : Nat} {w0 w : World} {kF : Nat} {cs : Array Value} {s : List Nat × Bool} (h : RFD R w0 w kF cs s) (j : Nat) (u : Value) : RFD R w0 (w.setCell ⟨kF, j, none⟩ u) kF (cs.setIfInBounds j u) s := by
  have := h.kl
  have := h.rl
  obtain ⟨a0, a1, a2, a3, a4, a5, a6, hA⟩ := h.bA
  exact ⟨h.rd.set _ _ _ (by omega), h.bF.set _ _, ⟨a0, a1, a2, a3, a4, a5, a6, hA.other _ _ (by omega)⟩, grown_set h.gr _ _ _ (by omega), h.kl, h.rl⟩
theorem RFD.bad {R : Nat} {w0 w : World} {kF : Nat} {cs : Array Value} {s : List Nat × Bool} (h : RFD R w0 w kF cs s) : RFD R w0 (w.setCell ⟨R, 1, none⟩ (.bool true)) kF cs (s.1, true) :=
  h.call h.rd.bad (grownBy_set _ _ _ _)
theorem RFD.cells {R : Nat} {w0 w : World} {kF : Nat} {c0 c1 c2 c3 c4 c5 c6 : Value} {s : List Nat × Bool} (h : RFD R w0 w kF #[c0, c1, c2, c3, c4, c5, c6] s) :
    (w.cell? ⟨kF, 0, none⟩ = some c0 ∧ w.cell? ⟨kF, 1, none⟩ = some c1 ∧ w.cell? ⟨kF, 2, none⟩ = some c2 ∧ w.cell? ⟨kF, 3, none⟩ = some c3 ∧ w.cell? ⟨kF, 4, none⟩ = some c4 ∧ w.cell? ⟨kF, 5, none⟩ = some c5 ∧ w.cell? ⟨kF, 6, none⟩ = some c6) ∧
      ∀ j, w.frozen? ⟨kF, j, none⟩ = false := ⟨h.bF.cells7, fun j => h.bF.free j⟩
theorem RFD.start {R : Nat} {w0 w1 : World} {ca cs : Array Value} {s : List Nat × Bool} (hca : ∃ a0 a1 a2 a3 a4 a5 a6, ca = #[a0, a1, a2, a3, a4, a5, a6]) (hR : R < w0.heap.size) (hr : RdSD R w1 s) (hg : (w0.alloc (.cells ca 26)).grownBy w1 (some R)) :
    RFD R w0 (w1.alloc (.cells cs 26)) w1.heap.size cs s := by
  obtain ⟨a0, a1, a2, a3, a4, a5, a6, rfl⟩ := hca
  have hz := hg.size
  simp only [World.size_alloc] at hz
  exact ⟨hr.alloc _, BoxT.new _ _ _, ⟨a0, a1, a2, a3, a4, a5, a6, ((BoxT.new 26 w0 _).grown hg (by omega)).alloc _⟩, grown_alloc (grownBy_trans (grownBy_alloc' _ _ _) hg) _, by omega, hR⟩
/-- The frame is stored into the result's box. -/
theorem RFD.fin {R : Nat} {w0 w : World} {kF : Nat} {cs : Array Value} {s : List Nat × Bool} (h : RFD R w0 w kF cs s) (v0 v1 v2 v3 v4 v5 v6 : Value) (W : World)
    (hW : W = (((((((w.setCell ⟨w0.heap.size, 0, none⟩ v0).setCell ⟨w0.heap.size, 1, none⟩ v1).setCell ⟨w0.heap.size, 2, none⟩ v2).setCell ⟨w0.heap.size, 3, none⟩ v3).setCell ⟨w0.heap.size, 4, none⟩ v4).setCell ⟨w0.heap.size, 5, none⟩ v5).setCell ⟨w0.heap.size, 6, none⟩ v6)) :
    RdSD R W s ∧ w0.grownBy W (some R) ∧ BoxT 26 W w0.heap.size #[v0, v1, v2, v3, v4, v5, v6] := by
  subst hW
  have hR := h.rl
  obtain ⟨a0, a1, a2, a3, a4, a5, a6, hA⟩ := h.bA
  refine ⟨((((((h.rd.set _ _ _ hR).set _ _ _ hR).set _ _ _ hR).set _ _ _ hR).set _ _ _ hR).set _ _ _ hR).set _ _ _ hR, ?_, ?_⟩
  · exact grown_set (grown_set (grown_set (grown_set (grown_set (grown_set (grown_set h.gr _ _ _ (Nat.le_refl _)) _ _ _ (Nat.le_refl _)) _ _ _ (Nat.le_refl _)) _ _ _ (Nat.le_refl _)) _ _ _ (Nat.le_refl _)) _ _ _ (Nat.le_refl _)) _ _ _ (Nat.le_refl _)
  · have h0 : BoxT 26 _ _ #[v0, a1, a2, a3, a4, a5, a6] := hA.set 0 v0
    have h1 : BoxT 26 _ _ #[v0, v1, a2, a3, a4, a5, a6] := h0.set 1 v1
    have h2 : BoxT 26 _ _ #[v0, v1, v2, a3, a4, a5, a6] := h1.set 2 v2
    have h3 : BoxT 26 _ _ #[v0, v1, v2, v3, a4, a5, a6] := h2.set 3 v3
    have h4 : BoxT 26 _ _ #[v0, v1, v2, v3, v4, a5, a6] := h3.set 4 v4
    have h5 : BoxT 26 _ _ #[v0, v1, v2, v3, v4, v5, a6] := h4.set 5 v5
    exact h5.set 6 v6
theorem RdSD.start {w : World} {v : Value} {l : List Nat} (h : Seg w v l) (hb : Byts l) : RdSD w.heap.size (w.alloc (.cells #[v, .bool false] 113)) (l, false) := by
  refine ⟨⟨v, BoxT.new _ _ _, ?_⟩, hb⟩
  obtain ⟨ao, cap, h1, h2, h3, h3', h4⟩ := h
  refine ⟨ao, cap, h1, h2, h3, h3', ?_⟩
  rcases h4 with h4 | ⟨b, off, h5, h6, h7⟩
  · exact .inl h4
  · exact .inr ⟨b, off, h5, h6, fun i x hi => by rw [← h7 i x hi]; exact World.cell?_of_block (Below.heap_alloc w _ b h6)⟩
theorem RdSD.start_at {w : World} {v : Value} {l : List Nat} {k : Nat} (hk : k = w.heap.size) (h : Seg w v l) (hb : Byts l) : RdSD k (w.alloc (.cells #[v, .bool false] 113)) (l, false) := by subst hk; exact RdSD.start h hb
/-- In the midst of a reader that fills a box of type t: its own box is the second that it made, the result's the first. -/
structure RBD (t n R : Nat) (w0 w : World) (cs : Array Value) (s : List Nat × Bool) : Prop where
  rd : RdSD R w s
  bF : BoxT t w (w0.heap.size + 1) cs
  bA : ∃ ca : Array Value, ca.size = n ∧ BoxT t w w0.heap.size ca
  gr : w0.grownBy w (some R)
  rl : R < w0.heap.size
section
variable {t n R : Nat} {w0 w w' : World} {cs : Array Value} {s s' : List Nat × Bool}
theorem RBD.call (h : RBD t n R w0 w cs s) (hr : RdSD R w' s') (hg : w.grownBy w' (some R)) : RBD t n R w0 w' cs s' := by
  have := h.rl
  obtain ⟨ca, hn, hA⟩ := h.bA
  exact ⟨hr, h.bF.grown hg (by omega), ⟨ca, hn, hA.grown hg (by omega)⟩, grownBy_trans h.gr hg, h.rl⟩
theorem RBD.set (h : RBD t n R w0 w cs s) (j : Nat) (u : Value) : RBD t n R w0 (w.setCell ⟨w0.heap.size + 1, j, none⟩ u) (cs.setIfInBounds j u) s := by
  have := h.rl
  obtain ⟨ca, hn, hA⟩ := h.bA
  exact ⟨h.rd.set _ _ _ (by omega), h.bF.set j u, ⟨ca, hn, hA.other _ _ (by omega)⟩, grown_set h.gr _ _ _ (by omega), h.rl⟩
theorem RBD.start {ca : Array Value} (hn : ca.size = n) (hr : RdSD R w0 s) : RBD t n R w0 ((w0.alloc (.cells ca t)).alloc (.cells cs t)) cs s :=
  ⟨(hr.alloc _).alloc _, BoxT.new_at (by simp), ⟨ca, hn, (BoxT.new t w0 _).alloc _⟩, grown_alloc (grownBy_alloc' _ _ _) _, hr.lt⟩
end
theorem RdSD.setAll {R k : Nat} {s : List Nat × Bool} (hk : R < k) (vs : List Value) : ∀ {w : World} {j : Nat}, RdSD R w s → RdSD R (setAll w k j vs) s := by
  induction vs with
  | nil => intro w j h; exact h
  | cons v vs ih => intro w j h; exact ih (h.set k j v hk)
section
variable {α : Type} {t sz : Nat} {cs : α → List Value} {base : Nat} {w w' : World} {v : Value} {xs : List α}
theorem OwnL.rdD {R : Nat} {s : List Nat × Bool} (h : RdSD R w s) (ho : OwnL t sz cs base w v xs) (hg : w.grownBy w' v.ownBlock) (hR : R < base) : RdSD R w' s :=
  h.keep fun i hi => hg.block i (by have := h.lt; omega) (fun e => by have := (World.ownsRow.lt ho i e.symm).1; omega)
end

/-- What the document's num reads. -/
def numD (k : Nat) (s : List Nat × Bool) : Nat × (List Nat × Bool) := if s.2 = false ∧ k ≤ s.1.length then (val (s.1.take k), (s.1.drop k, false)) else (0, (s.1, true))
theorem numD_lt {k : Nat} {s : List Nat × Bool} (hb : Byts s.1) : (numD k s).1 < 256 ^ k := by
  unfold numD
  split
  · rename_i h; exact val_lt _ hb k h.2
  · exact Nat.pow_pos (by omega)

set_option maxHeartbeats 400000 in
set_option maxRecDepth 100000 in
theorem numD_no (R : Nat) (w : World) (l : List Nat) (size : Nat) (h : RdD R w l false) (hs : l.length < size) :
    Calls Tryd.prog 64 #[.pointer (some ⟨R, 0, none⟩), .int .i64 size] w fun e w' => e = .returned (.int .u64 0) ∧ RdD R w' l true ∧ w.grownBy w' (some R) := by
  obtain ⟨v, hbx, hsg⟩ := h
  have hbx' := hbx.set 1 (.bool true)
  have hg := grownBy_set w R 1 (.bool true)
  have hsg' := hsg.grown hg (by have := hbx.lt; omega)
  obtain ⟨ao, cap, rfl, hlc, hcm, hlm, hseg⟩ := hsg
  have HR : Hid (RdD R (w.setCell ⟨R, 1, none⟩ (.bool true)) l true) := ⟨_, hbx', hsg'⟩
  obtain ⟨c0, c1⟩ := hbx.cells2
  have f0 := hbx.free 0
  have f1 := hbx.free 1
  clear hseg hsg' hbx'
  go_enter Tryd.func64, Tryd.ntmps64
  go_wp2
  go_ret
  exact ⟨rfl, HR.out, hg⟩

set_option maxHeartbeats 400000 in
set_option maxRecDepth 100000 in
theorem numD_bad (R : Nat) (w : World) (l : List Nat) (size : Nat) (h : RdD R w l true) :
    Calls Tryd.prog 64 #[.pointer (some ⟨R, 0, none⟩), .int .i64 size] w fun e w' => e = .returned (.int .u64 0) ∧ RdD R w' l true ∧ w.grownBy w' (some R) := by
  obtain ⟨v, hbx, hsg⟩ := h
  have hbx' := hbx.set 1 (.bool true)
  have hg := grownBy_set w R 1 (.bool true)
  have hsg' := hsg.grown hg (by have := hbx.lt; omega)
  obtain ⟨ao, cap, rfl, hlc, hcm, hlm, hseg⟩ := hsg
  have HR : Hid (RdD R (w.setCell ⟨R, 1, none⟩ (.bool true)) l true) := ⟨_, hbx', hsg'⟩
  obtain ⟨c0, c1⟩ := hbx.cells2
  have f0 := hbx.free 0
  have f1 := hbx.free 1
  clear hseg hsg' hbx'
  go_enter Tryd.func64, Tryd.ntmps64
  go_wp2
  go_ret
  exact ⟨rfl, HR.out, hg⟩

set_option maxHeartbeats 1000000 in
set_option maxRecDepth 100000 in
theorem numD_yes (R : Nat) (w : World) (l : List Nat) (size : Nat) (h : RdD R w l false) (hs : size ≤ l.length) (h8 : size ≤ 8) (h0 : 0 < size) (hb : Byts l) :
    Calls Tryd.prog 64 #[.pointer (some ⟨R, 0, none⟩), .int .i64 size] w fun e w' => e = .returned (.int .u64 (val (l.take size))) ∧ RdD R w' (l.drop size) false ∧ w.grownBy w' (some R) := by
  obtain ⟨v, hbx, hsg⟩ := h
  have hR := hbx.lt
  have HBX : Hid (BoxT 113 w R #[v, .bool false]) := hbx
  obtain ⟨ao, cap, rfl, hlc, hcm, hlm, hseg⟩ := hsg
  rcases hseg with hseg | ⟨b, off, rfl, hb1, hcell⟩
  · rw [hseg] at hs; simp at hs; omega
  have HC : Hid (∀ (i x : Nat), l[i]? = some x → w.cell? ⟨b, off + i, none⟩ = some (.int .u8 (x : Int))) := hcell
  have HB : Hid (Byts l) := hb
  have key : ∀ (a : Option Addr) (c : Nat), (l.length = size ∧ c ≤ 9223372036854775807 ∨ a = some ⟨b, off + size, none⟩ ∧ l.length - size ≤ c ∧ c ≤ 9223372036854775807) → RdD R (w.setCell ⟨R, 0, none⟩ (.slice a (l.length - size) c)) (l.drop size) false := by
    intro a c hac
    have hg := grownBy_set w R 0 (.slice a (l.length - size) c)
    refine ⟨_, HBX.out.set 0 _, ?_⟩
    refine SegB.grown ?_ hg (by omega)
    refine ⟨a, c, by rw [List.length_drop], by rw [List.length_drop]; omega, by omega, by rw [List.length_drop]; omega, ?_⟩
    rcases hac with ⟨hac, _⟩ | ⟨hac, _⟩
    · exact .inl (List.drop_eq_nil_of_le (by omega))
    · refine .inr ⟨b, off + size, hac, hb1, fun i x hx => ?_⟩
      rw [List.getElem?_drop] at hx
      rw [Nat.add_assoc]
      exact HC.out _ x hx
  have KEY := hide key
  obtain ⟨c0, c1⟩ := hbx.cells2
  have f0 := hbx.free 0
  have f1 := hbx.free 1
  clear hcell hb key hbx
  go_enter Tryd.func64, Tryd.ntmps64
  go_wp2
  go_loopw [5, 6] (fun n i wr => ∃ k : Nat, k ≤ size ∧ i = .int .i64 k ∧ n = .int .u64 (val (l.take k)) ∧ wr = w) (fun _ i _ => size - (intOf i).toNat)
  case atStart => exact ⟨0, Nat.zero_le _, rfl, rfl, rfl⟩
  case round =>
    obtain ⟨k, hk, rfl, rfl, rfl⟩ := hrel
    by_cases hlt : k < size
    · obtain ⟨x, hx⟩ : ∃ x : Nat, l[k]? = some x := ⟨_, List.getElem?_eq_getElem (by omega)⟩
      have hx256 : x < 256 := HB.out k x hx
      have hc := HC.out k x hx
      have HX : Hid (l[k]? = some x) := hx
      have hkl : k < l.length := by omega
      clear hx
      go_wp2
      go_roundw
      case rel =>
        refine ⟨k + 1, by omega, by go_num, ?_, trivial⟩
        rw [val_take l k x HX.out, step_u64 _ _ ?_ hx256]
        exact Nat.lt_of_lt_of_le (val_lt l HB.out k (by omega)) (Nat.pow_le_pow_right (by omega) (by omega))
      case measure => simp [intOf]; omega
    · obtain rfl : k = size := by omega
      go_wp2
      · go_ret
        exact ⟨rfl, KEY.out _ _ (by first | (left; omega) | (right; exact ⟨rfl, by omega, by omega⟩)), grownBy_set _ _ _ _⟩
      · go_ret
        exact ⟨rfl, KEY.out _ _ (by first | (left; omega) | (right; exact ⟨rfl, by omega, by omega⟩)), grownBy_set _ _ _ _⟩

theorem numD_any {R : Nat} {w : World} {s : List Nat × Bool} {sz : Int} (h : RdSD R w s) (h1 : 0 < sz) (h8 : sz ≤ 8) :
    Calls Tryd.prog 64 #[.pointer (some ⟨R, 0, none⟩), .int .i64 sz] w fun e w' => e = .returned (.int .u64 ((numD sz.toNat s).1 : Nat)) ∧ RdSD R w' (numD sz.toNat s).2 ∧ w.grownBy w' (some R) := by
  obtain ⟨k, rfl⟩ := Int.eq_ofNat_of_zero_le (show 0 ≤ sz by omega)
  show Calls Tryd.prog 64 _ w fun e w' => e = .returned (.int .u64 ((numD k s).1 : Nat)) ∧ RdSD R w' (numD k s).2 ∧ w.grownBy w' (some R)
  obtain ⟨l, b⟩ := s
  unfold numD
  cases b
  · by_cases hk : k ≤ l.length
    · rw [if_pos ⟨rfl, hk⟩]
      refine (numD_yes R w l k h.1 hk (by omega) (by omega) h.2).mono ?_
      rintro e w' ⟨rfl, hr, hg⟩
      exact ⟨rfl, ⟨hr, h.2.drop _⟩, hg⟩
    · rw [if_neg (fun h => hk h.2)]
      refine (numD_no R w l k h.1 (by omega)).mono ?_
      rintro e w' ⟨rfl, hr, hg⟩
      exact ⟨rfl, ⟨hr, h.2⟩, hg⟩
  · rw [if_neg (fun h => by cases h.1)]
    refine (numD_bad R w l k h.1).mono ?_
    rintro e w' ⟨rfl, hr, hg⟩
    exact ⟨rfl, ⟨hr, h.2⟩, hg⟩
end Go.Proofs.YtaajjejgjnlbgaaDoor
