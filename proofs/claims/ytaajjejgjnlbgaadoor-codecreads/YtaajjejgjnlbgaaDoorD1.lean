/-
  The document's readers: their box, their numbers, frames, control messages.
-/
import Derived.Test.YtaajjejgjnlbgaaDoorRdSnap
import Derived.Test.YtaajjejgjnlbgaaDoorLawMan
import Derived.Test.YtaajjejgjnlbgaaDoorCtl2
namespace Go.Proofs.YtaajjejgjnlbgaaDoor
open Go.RowKit

/-- Block R is a reader that has the bytes l left. -/
def RdD (R : Nat) (w : World) (l : List Nat) (bad : Bool) : Prop := ∃ v, BoxT 113 w R #[v, .bool bad] ∧ SegB R w v l
theorem RdD.lt {R : Nat} {w : World} {l : List Nat} {bad : Bool} (h : RdD R w l bad) : R < w.heap.size := by obtain ⟨v, h, _⟩ := h; exact h.lt
def RdSD (R : Nat) (w : World) (s : List Nat × Bool) : Prop := RdD R w s.1 s.2 ∧ Byts s.1
theorem RdSD.lt {R : Nat} {w : World} {s : List Nat × Bool} (h : RdSD R w s) : R < w.heap.size := h.1.lt
/-- A reader that is told that something is wrong. -/
theorem RdSD.bad {R : Nat} {w : World} {s : List Nat × Bool} (h : RdSD R w s) : RdSD R (w.setCell ⟨R, 1, none⟩ (.bool true)) (s.1, true) := by
  obtain ⟨⟨v, hbx, hsg⟩, hb⟩ := h
  exact ⟨⟨v, hbx.set 1 (.bool true), hsg.grown (grownBy_set w R 1 _) (by have := hbx.lt; omega)⟩, hb⟩
theorem RdSD.cells {R : Nat} {w : World} {s : List Nat × Bool} (h : RdSD R w s) : ∃ ao cap, w.cell? ⟨R, 0, none⟩ = some (.slice ao s.1.length cap) ∧ w.cell? ⟨R, 1, none⟩ = some (.bool s.2) ∧ w.frozen? ⟨R, 1, none⟩ = false := by
  obtain ⟨⟨v, hbx, ao, cap, rfl, _⟩, hb⟩ := h
  exact ⟨ao, cap, hbx.cells2.1, hbx.cells2.2, hbx.free 1⟩
theorem RdSD.keep {R : Nat} {w w' : World} {s : List Nat × Bool} (h : RdSD R w s) (hb : ∀ i, i ≤ R → w'.heap[i]? = w.heap[i]?) : RdSD R w' s := by
  obtain ⟨⟨v, hbx, ao, cap, rfl, h1, h2, h3, h4⟩, hbs⟩ := h
  refine ⟨⟨_, ?_, ao, cap, rfl, h1, h2, h3, ?_⟩, hbs⟩
  · unfold BoxT at *; rw [hb R (Nat.le_refl _)]; exact hbx
  · rcases h4 with h4 | ⟨b, off, h5, h6, h7⟩
    · exact .inl h4
    · exact .inr ⟨b, off, h5, h6, fun i x hi => (World.cell?_of_block (hb b (by omega))).trans (h7 i x hi)⟩
theorem RdSD.alloc {R : Nat} {w : World} {s : List Nat × Bool} (h : RdSD R w s) (o : Obj) : RdSD R (w.alloc o) s := h.keep fun i hi => Below.heap_alloc w o i (by have := h.lt; omega)
theorem RdSD.set {R : Nat} {w : World} {s : List Nat × Bool} (h : RdSD R w s) (k j : Nat) (u : Value) (hk : R < k) : RdSD R (w.setCell ⟨k, j, none⟩ u) s := h.keep fun i hi => Below.heap_setCell w ⟨k, j, none⟩ u i (by show i ≠ k; omega)
/-- In the midst of readFrame: the reader, the frame's box kF, the result's box. -/
structure RFD (R : Nat) (w0 w : World) (kF : Nat) (cs : Array Value) (s : List Nat × Bool) : Prop where
  rd : RdSD R w s
  bF : BoxT 26 w kF cs
  bA : ∃ a0 a1 a2 a3 a4 a5 a6, BoxT 26 w w0.heap.size #[a0, a1, a2, a3, a4, a5, a6]
  gr : w0.grownBy w (some R)
  kl : w0.heap.size < kF
  rl : R < w0.heap.size
theorem RFD.call {R : Nat} {w0 w w' : World} {kF : Nat} {cs : Array Value} {s s' : List Nat × Bool} (h : RFD R w0 w kF cs s) (hr : RdSD R w' s') (hg : w.grownBy w' (some R)) : RFD R w0 w' kF cs s' := by
  have := h.kl
  have := h.rl
  obtain ⟨a0, a1, a2, a3, a4, a5, a6, hA⟩ := h.bA
  exact ⟨hr, h.bF.grown hg (by omega), ⟨a0, a1, a2, a3, a4, a5, a6, hA.grown hg (by omega)⟩, grownBy_trans h.gr hg, h.kl, h.rl⟩
theorem RFD.set {R : Nat} {w0 w : World} {kF : Nat} {cs : Array Value} {s : List Nat × Bool} (h : RFD R w0 w kF cs s) (j : Nat) (u : Value) : RFD R w0 (w.setCell ⟨kF, j, none⟩ u) kF (cs.setIfInBounds j u) s := by
  have := h.kl
  have := h.rl
  obtain ⟨a0, a1, a2, a3, a4, a5, a6, hA⟩ := h.bA
  exact ⟨h.rd.set _ _ _ (by omega), h.bF.set _ _, ⟨a0, a1, a2, a3, a4, a5, a6, hA.other _ _ (by omega)⟩, grown_set h.gr _ _ _ (by omega), h.kl, h.rl⟩
theorem RFD.bad {R : Nat} {w0 w : World} {kF : Nat} {cs : Array Value} {s : List Nat × Bool} (h : RFD R w0 w kF cs s) : RFD R w0 (w.setCell ⟨R, 1, none⟩ (.bool true)) kF cs (s.1, true) :=
  h.call h.rd.bad (grownBy_set _ _ _ _)
theorem RFD.cells {R : Nat} {w0 w : World} {kF : Nat} {c0 c1 c2 c3 c4 c5 c6 : Value} {s : List Nat × Bool} (h : RFD R w0 w kF #[c0, c1, c2, c3, c4, c5, c6] s) :
    (w.cell? ⟨kF, 0, none⟩ = some c0 ∧ w.cell? ⟨kF, 1, none⟩ = some c1 ∧ w.cell? ⟨kF, 2, none⟩ = some c2 ∧ w.cell? ⟨kF, 3, none⟩ = some c3 ∧ w.cell? ⟨kF, 4, none⟩ = some c4 ∧ w.cell? ⟨kF, 5, none⟩ = some c5 ∧ w.cell? ⟨kF, 6, none⟩ = some c6) ∧
      ∀ j, w.frozen? ⟨kF, j, none⟩ = false := ⟨h.bF.cells7, fun j => h.bF.free j⟩
theorem RFD.start {R : Nat} {w0 w1 : World} {ca cs : Array Value} {s : List Nat × Bool} (hca : ∃ a0 a1 a2 a3 a4 a5 a6, ca = #[a0, a1, a2, a3, a4, a5, a6]) (hR : R < w0.heap.size) (hr : RdSD R w1 s) (hg : (w0.alloc (.cells ca 26)).grownBy w1 (some R)) :
    RFD R w0 (w1.alloc (.cells cs 26)) w1.heap.size cs s := by
  obtain ⟨a0, a1, a2, a3, a4, a5, a6, rfl⟩ := hca
  have hz := hg.size
  simp only [World.size_alloc] at hz
  exact ⟨hr.alloc _, BoxT.new _ _ _, ⟨a0, a1, a2, a3, a4, a5, a6, ((BoxT.new 26 w0 _).grown hg (by omega)).alloc _⟩, grown_alloc (grownBy_trans (grownBy_alloc' _ _ _) hg) _, by omega, hR⟩
/-- The frame is stored into the result's box. -/
theorem RFD.fin {R : Nat} {w0 w : World} {kF : Nat} {cs : Array Value} {s : List Nat × Bool} (h : RFD R w0 w kF cs s) (v0 v1 v2 v3 v4 v5 v6 : Value) (W : World)
    (hW : W = (((((((w.setCell ⟨w0.heap.size, 0, none⟩ v0).setCell ⟨w0.heap.size, 1, none⟩ v1).setCell ⟨w0.heap.size, 2, none⟩ v2).setCell ⟨w0.heap.size, 3, none⟩ v3).setCell ⟨w0.heap.size, 4, none⟩ v4).setCell ⟨w0.heap.size, 5, none⟩ v5).setCell ⟨w0.heap.size, 6, none⟩ v6)) :
    RdSD R W s ∧ w0.grownBy W (some R) ∧ BoxT 26 W w0.heap.size #[v0, v1, v2, v3, v4, v5, v6] := by
  subst hW
  have hR := h.rl
  obtain ⟨a0, a1, a2, a3, a4, a5, a6, hA⟩ := h.bA
  refine ⟨((((((h.rd.set _ _ _ hR).set _ _ _ hR).set _ _ _ hR).set _ _ _ hR).set _ _ _ hR).set _ _ _ hR).set _ _ _ hR, ?_, ?_⟩
  · exact grown_set (grown_set (grown_set (grown_set (grown_set (grown_set (grown_set h.gr _ _ _ (Nat.le_refl _)) _ _ _ (Nat.le_refl _)) _ _ _ (Nat.le_refl _)) _ _ _ (Nat.le_refl _)) _ _ _ (Nat.le_refl _)) _ _ _ (Nat.le_refl _)) _ _ _ (Nat.le_refl _)
  · have h0 : BoxT 26 _ _ #[v0, a1, a2, a3, a4, a5, a6] := hA.set 0 v0
    have h1 : BoxT 26 _ _ #[v0, v1, a2, a3, a4, a5, a6] := h0.set 1 v1
    have h2 : BoxT 26 _ _ #[v0, v1, v2, a3, a4, a5, a6] := h1.set 2 v2
    have h3 : BoxT 26 _ _ #[v0, v1, v2, v3, a4, a5, a6] := h2.set 3 v3
    have h4 : BoxT 26 _ _ #[v0, v1, v2, v3, v4, a5, a6] := h3.set 4 v4
    have h5 : BoxT 26 _ _ #[v0, v1, v2, v3, v4, v5, a6] := h4.set 5 v5
    exact h5.set 6 v6
theorem RdSD.start {w : World} {v : Value} {l : List Nat} (h : Seg w v l) (hb : Byts l) : RdSD w.heap.size (w.alloc (.cells #[v, .bool false] 113)) (l, false) := by
  refine ⟨⟨v, BoxT.new _ _ _, ?_⟩, hb⟩
  obtain ⟨ao, cap, h1, h2, h3, h3', h4⟩ := h
  refine ⟨ao, cap, h1, h2, h3, h3', ?_⟩
  rcases h4 with h4 | ⟨b, off, h5, h6, h7⟩
  · exact .inl h4
  · exact .inr ⟨b, off, h5, h6, fun i x hi => by rw [← h7 i x hi]; exact World.cell?_of_block (Below.heap_alloc w _ b h6)⟩
theorem RdSD.start_at {w : World} {v : Value} {l : List Nat} {k : Nat} (hk : k = w.heap.size) (h : Seg w v l) (hb : Byts l) : RdSD k (w.alloc (.cells #[v, .bool false] 113)) (l, false) := by subst hk; exact RdSD.start h hb
/-- In the midst of a reader that fills a box of type t: its own box is the second that it made, the result's the first. -/
structure RBD (t n R : Nat) (w0 w : World) (cs : Array Value) (s : List Nat × Bool) : Prop where
  rd : RdSD R w s
  bF : BoxT t w (w0.heap.size + 1) cs
  bA : ∃ ca : Array Value, ca.size = n ∧ BoxT t w w0.heap.size ca
  gr : w0.grownBy w (some R)
  rl : R < w0.heap.size
section
variable {t n R : Nat} {w0 w w' : World} {cs : Array Value} {s s' : List Nat × Bool}
theorem RBD.call (h : RBD t n R w0 w cs s) (hr : RdSD R w' s') (hg : w.grownBy w' (some R)) : RBD t n R w0 w' cs s' := by
  have := h.rl
  obtain ⟨ca, hn, hA⟩ := h.bA
  exact ⟨hr, h.bF.grown hg (by omega), ⟨ca, hn, hA.grown hg (by omega)⟩, grownBy_trans h.gr hg, h.rl⟩
theorem RBD.set (h : RBD t n R w0 w cs s) (j : Nat) (u : Value) : RBD t n R w0 (w.setCell ⟨w0.heap.size + 1, j, none⟩ u) (cs.setIfInBounds j u) s := by
  have := h.rl
  obtain ⟨ca, hn, hA⟩ := h.bA
  exact ⟨h.rd.set _ _ _ (by omega), h.bF.set j u, ⟨ca, hn, hA.other _ _ (by omega)⟩, grown_set h.gr _ _ _ (by omega), h.rl⟩
theorem RBD.start {ca : Array Value} (hn : ca.size = n) (hr : RdSD R w0 s) : RBD t n R w0 ((w0.alloc (.cells ca t)).alloc (.cells cs t)) cs s :=
  ⟨(hr.alloc _).alloc _, BoxT.new_at (by simp), ⟨ca, hn, (BoxT.new t w0 _).alloc _⟩, grown_alloc (grownBy_alloc' _ _ _) _, hr.lt⟩
end
theorem RdSD.setAll {R k : Nat} {s : List Nat × Bool} (hk : R < k) (vs : List Value) : ∀ {w : World} {j : Nat}, RdSD R w s → RdSD R (setAll w k j vs) s := by
  induction vs with
  | nil => intro w j h; exact h
  | cons v vs ih => intro w j h; exact ih (h.set k j v hk)
section
variable {α : Type} {t sz : Nat} {cs : α → List Value} {base : Nat} {w w' : World} {v : Value} {xs : List α}
theorem OwnL.rdD {R : Nat} {s : List Nat × Bool} (h : RdSD R w s) (ho : OwnL t sz cs base w v xs) (hg : w.grownBy w' v.ownBlock) (hR : R < base) : RdSD R w' s :=
  h.keep fun i hi => hg.block i (by have := h.lt; omega) (fun e => by have := (World.ownsRow.lt ho i e.symm).1; omega)
end

/-- What the document's num reads. -/
def numD (k : Nat) (s : List Nat × Bool) : Nat × (List Nat × Bool) := if s.2 = false ∧ k ≤ s.1.length then (val (s.1.take k), (s.1.drop k, false)) else (0, (s.1, true))
theorem numD_lt {k : Nat} {s : List Nat × Bool} (hb : Byts s.1) : (numD k s).1 < 256 ^ k := by
  unfold numD
  split
  · rename_i h; exact val_lt _ hb k h.2
  · exact Nat.pow_pos (by omega)

set_option maxHeartbeats 400000 in
set_option maxRecDepth 100000 in
theorem numD_no (R : Nat) (w : World) (l : List Nat) (size : Nat) (h : RdD R w l false) (hs : l.length < size) :
    Calls Tryd.prog 64 #[.pointer (some ⟨R, 0, none⟩), .int .i64 size] w fun e w' => e = .returned (.int .u64 0) ∧ RdD R w' l true ∧ w.grownBy w' (some R) := by
  obtain ⟨v, hbx, hsg⟩ := h
  have hbx' := hbx.set 1 (.bool true)
  have hg := grownBy_set w R 1 (.bool true)
  have hsg' := hsg.grown hg (by have := hbx.lt; omega)
  obtain ⟨ao, cap, rfl, hlc, hcm, hlm, hseg⟩ := hsg
  have HR : Hid (RdD R (w.setCell ⟨R, 1, none⟩ (.bool true)) l true) := ⟨_, hbx', hsg'⟩
  obtain ⟨c0, c1⟩ := hbx.cells2
  have f0 := hbx.free 0
  have f1 := hbx.free 1
  clear hseg hsg' hbx'
  go_enter Tryd.func64, Tryd.ntmps64
  go_wp2
  go_ret
  exact ⟨rfl, HR.out, hg⟩

set_option maxHeartbeats 400000 in
set_option maxRecDepth 100000 in
theorem numD_bad (R : Nat) (w : World) (l : List Nat) (size : Nat) (h : RdD R w l true) :
    Calls Tryd.prog 64 #[.pointer (some ⟨R, 0, none⟩), .int .i64 size] w fun e w' => e = .returned (.int .u64 0) ∧ RdD R w' l true ∧ w.grownBy w' (some R) := by
  obtain ⟨v, hbx, hsg⟩ := h
  have hbx' := hbx.set 1 (.bool true)
  have hg := grownBy_set w R 1 (.bool true)
  have hsg' := hsg.grown hg (by have := hbx.lt; omega)
  obtain ⟨ao, cap, rfl, hlc, hcm, hlm, hseg⟩ := hsg
  have HR : Hid (RdD R (w.setCell ⟨R, 1, none⟩ (.bool true)) l true) := ⟨_, hbx', hsg'⟩
  obtain ⟨c0, c1⟩ := hbx.cells2
  have f0 := hbx.free 0
  have f1 := hbx.free 1
  clear hseg hsg' hbx'
  go_enter Tryd.func64, Tryd.ntmps64
  go_wp2
  go_ret
  exact ⟨rfl, HR.out, hg⟩

set_option maxHeartbeats 1000000 in
set_option maxRecDepth 100000 in
theorem numD_yes (R : Nat) (w : World) (l : List Nat) (size : Nat) (h : RdD R w l false) (hs : size ≤ l.length) (h8 : size ≤ 8) (h0 : 0 < size) (hb : Byts l) :
    Calls Tryd.prog 64 #[.pointer (some ⟨R, 0, none⟩), .int .i64 size] w fun e w' => e = .returned (.int .u64 (val (l.take size))) ∧ RdD R w' (l.drop size) false ∧ w.grownBy w' (some R) := by
  obtain ⟨v, hbx, hsg⟩ := h
  have hR := hbx.lt
  have HBX : Hid (BoxT 113 w R #[v, .bool false]) := hbx
  obtain ⟨ao, cap, rfl, hlc, hcm, hlm, hseg⟩ := hsg
  rcases hseg with hseg | ⟨b, off, rfl, hb1, hcell⟩
  · rw [hseg] at hs; simp at hs; omega
  have HC : Hid (∀ (i x : Nat), l[i]? = some x → w.cell? ⟨b, off + i, none⟩ = some (.int .u8 (x : Int))) := hcell
  have HB : Hid (Byts l) := hb
  have key : ∀ (a : Option Addr) (c : Nat), (l.length = size ∧ c ≤ 9223372036854775807 ∨ a = some ⟨b, off + size, none⟩ ∧ l.length - size ≤ c ∧ c ≤ 9223372036854775807) → RdD R (w.setCell ⟨R, 0, none⟩ (.slice a (l.length - size) c)) (l.drop size) false := by
    intro a c hac
    have hg := grownBy_set w R 0 (.slice a (l.length - size) c)
    refine ⟨_, HBX.out.set 0 _, ?_⟩
    refine SegB.grown ?_ hg (by omega)
    refine ⟨a, c, by rw [List.length_drop], by rw [List.length_drop]; omega, by omega, by rw [List.length_drop]; omega, ?_⟩
    rcases hac with ⟨hac, _⟩ | ⟨hac, _⟩
    · exact .inl (List.drop_eq_nil_of_le (by omega))
    · refine .inr ⟨b, off + size, hac, hb1, fun i x hx => ?_⟩
      rw [List.getElem?_drop] at hx
      rw [Nat.add_assoc]
      exact HC.out _ x hx
  have KEY := hide key
  obtain ⟨c0, c1⟩ := hbx.cells2
  have f0 := hbx.free 0
  have f1 := hbx.free 1
  clear hcell hb key hbx
  go_enter Tryd.func64, Tryd.ntmps64
  go_wp2
  go_loopw [5, 6] (fun n i wr => ∃ k : Nat, k ≤ size ∧ i = .int .i64 k ∧ n = .int .u64 (val (l.take k)) ∧ wr = w) (fun _ i _ => size - (intOf i).toNat)
  case atStart => exact ⟨0, Nat.zero_le _, rfl, rfl, rfl⟩
  case round =>
    obtain ⟨k, hk, rfl, rfl, rfl⟩ := hrel
    by_cases hlt : k < size
    · obtain ⟨x, hx⟩ : ∃ x : Nat, l[k]? = some x := ⟨_, List.getElem?_eq_getElem (by omega)⟩
      have hx256 : x < 256 := HB.out k x hx
      have hc := HC.out k x hx
      have HX : Hid (l[k]? = some x) := hx
      have hkl : k < l.length := by omega
      clear hx
      go_wp2
      go_roundw
      case rel =>
        refine ⟨k + 1, by omega, by go_num, ?_, trivial⟩
        rw [val_take l k x HX.out, step_u64 _ _ ?_ hx256]
        exact Nat.lt_of_lt_of_le (val_lt l HB.out k (by omega)) (Nat.pow_le_pow_right (by omega) (by omega))
      case measure => simp [intOf]; omega
    · obtain rfl : k = size := by omega
      go_wp2
      · go_ret
        exact ⟨rfl, KEY.out _ _ (by first | (left; omega) | (right; exact ⟨rfl, by omega, by omega⟩)), grownBy_set _ _ _ _⟩
      · go_ret
        exact ⟨rfl, KEY.out _ _ (by first | (left; omega) | (right; exact ⟨rfl, by omega, by omega⟩)), grownBy_set _ _ _ _⟩

theorem numD_any {R : Nat} {w : World} {s : List Nat × Bool} {sz : Int} (h : RdSD R w s) (h1 : 0 < sz) (h8 : sz ≤ 8) :
    Calls Tryd.prog 64 #[.pointer (some ⟨R, 0, none⟩), .int .i64 sz] w fun e w' => e = .returned (.int .u64 ((numD sz.toNat s).1 : Nat)) ∧ RdSD R w' (numD sz.toNat s).2 ∧ w.grownBy w' (some R) := by
  obtain ⟨k, rfl⟩ := Int.eq_ofNat_of_zero_le (show 0 ≤ sz by omega)
  show Calls Tryd.prog 64 _ w fun e w' => e = .returned (.int .u64 ((numD k s).1 : Nat)) ∧ RdSD R w' (numD k s).2 ∧ w.grownBy w' (some R)
  obtain ⟨l, b⟩ := s
  unfold numD
  cases b
  · by_cases hk : k ≤ l.length
    · rw [if_pos ⟨rfl, hk⟩]
      refine (numD_yes R w l k h.1 hk (by omega) (by omega) h.2).mono ?_
      rintro e w' ⟨rfl, hr, hg⟩
      exact ⟨rfl, ⟨hr, h.2.drop _⟩, hg⟩
    · rw [if_neg (fun h => hk h.2)]
      refine (numD_no R w l k h.1 (by omega)).mono ?_
      rintro e w' ⟨rfl, hr, hg⟩
      exact ⟨rfl, ⟨hr, h.2⟩, hg⟩
  · rw [if_neg (fun h => by cases h.1)]
    refine (numD_bad R w l k h.1).mono ?_
    rintro e w' ⟨rfl, hr, hg⟩
    exact ⟨rfl, ⟨hr, h.2⟩, hg⟩

theorem RdSD.told {R : Nat} {w : World} {s : List Nat × Bool} (h : RdSD R w s) (b : Bool) : RdSD R (w.setCell ⟨R, 1, none⟩ (.bool b)) (s.1, b) := by
  obtain ⟨⟨v, hbx, hsg⟩, hb⟩ := h
  exact ⟨⟨v, hbx.set 1 (.bool b), hsg.grown (grownBy_set w R 1 _) (by have := hbx.lt; omega)⟩, hb⟩
theorem RFD.told {R : Nat} {w0 w : World} {kF : Nat} {cs : Array Value} {s : List Nat × Bool} (h : RFD R w0 w kF cs s) (b : Bool) : RFD R w0 (w.setCell ⟨R, 1, none⟩ (.bool b)) kF cs (s.1, b) :=
  h.call (h.rd.told b) (grownBy_set _ _ _ _)
def rFlagD (s : List Nat × Bool) : Bool × (List Nat × Bool) := (decide ((numD 1 s).1 = 1), ((numD 1 s).2.1, (numD 1 s).2.2 || decide (1 < (numD 1 s).1)))
/-- What the document's frame reads. -/
def rFrameD (s : List Nat × Bool) : Frm × (List Nat × Bool) :=
  if (numD 1 s).1 = 1 then (⟨1, i64of (numD 8 (numD 1 s).2).1, i64of (numD 8 (numD 8 (numD 1 s).2).2).1, i64of (numD 8 (numD 8 (numD 8 (numD 1 s).2).2).2).1, 0, 0, false⟩, (numD 8 (numD 8 (numD 8 (numD 1 s).2).2).2).2)
  else if (numD 1 s).1 = 2 then (⟨2, 0, 0, 0, i64of (numD 8 (numD 1 s).2).1, 0, false⟩, (numD 8 (numD 1 s).2).2)
  else if (numD 1 s).1 = 3 then (⟨3, 0, 0, 0, 0, (numD 8 (numD 1 s).2).1, (rFlagD (numD 8 (numD 1 s).2).2).1⟩, (rFlagD (numD 8 (numD 1 s).2).2).2)
  else (⟨(numD 1 s).1, 0, 0, 0, 0, 0, false⟩, ((numD 1 s).2.1, true))

set_option maxHeartbeats 4000000 in
set_option maxRecDepth 100000 in
theorem frameD_any {R : Nat} {w : World} {s : List Nat × Bool} (h : RdSD R w s) :
    Calls Tryd.prog 63 #[.pointer (some ⟨R, 0, none⟩)] w fun e w' => e = .returned (rFrameD s).1.val ∧ RdSD R w' (rFrameD s).2 ∧ w.grownBy w' (some R) := by
  have hR := h.lt
  have n0 := fun o => numD_any (sz := 1) (h.alloc o) (by omega) (by omega)
  rw [show (1 : Int).toNat = 1 from rfl] at n0
  unfold rFrameD
  have hb0 := numD_lt (k := 1) h.2
  generalize numD 1 s = p0 at *
  obtain ⟨kd, s0⟩ := p0
  simp only at *
  have N0 := n0
  clear n0
  by_cases h1 : kd = 1
  · subst h1
    simp only [if_true]
    generalize hp1 : numD 8 s0 = p1
    obtain ⟨x1, s1⟩ := p1
    have HP1 := hide hp1
    clear hp1
    dsimp only
    generalize hp2 : numD 8 s1 = p2
    obtain ⟨x2, s2⟩ := p2
    have HP2 := hide hp2
    clear hp2
    dsimp only
    generalize hp3 : numD 8 s2 = p3
    obtain ⟨x3, s3⟩ := p3
    have HP3 := hide hp3
    clear hp3
    dsimp only
    generalize hk1 : i64of x1 = k1
    generalize hk2 : i64of x2 = k2
    generalize hk3 : i64of x3 = k3
    have HK := hide (And.intro hk1 (And.intro hk2 hk3))
    have e1 : wrap64 (x1 : Int) = k1 := hk1
    have e2 : wrap64 (x2 : Int) = k2 := hk2
    have e3 : wrap64 (x3 : Int) = k3 := hk3
    clear hk1 hk2 hk3
    go_enter Tryd.func63, Tryd.ntmps63
    go_wp2_with fail
    refine (N0 _).mono ?_
    rintro e w1 ⟨rfl, hr1, hg1⟩
    have q := RFD.start (cs := #[.int .i64 1, .int .i64 0, .int .i64 0, .int .i64 0, .int .i64 0, .int .u64 0, .bool false]) ⟨_, _, _, _, _, _, _, rfl⟩ hR hr1 hg1
    clear N0 hg1 hr1
    have N1 := numD_any (sz := 8) q.rd (by omega) (by omega)
    rw [show (8 : Int).toNat = 8 from rfl, HP1.out] at N1
    go_wp2_with fail
    refine N1.mono ?_
    rintro e w2 ⟨rfl, hr, hg⟩
    have q := q.call hr hg
    clear hg hr N1
    have N2 := numD_any (sz := 8) q.rd (by omega) (by omega)
    rw [show (8 : Int).toNat = 8 from rfl, HP2.out] at N2
    go_wp2_with fail
    refine N2.mono ?_
    rintro e w3 ⟨rfl, hr, hg⟩
    have q := q.call hr hg
    clear hg hr N2
    have N3 := numD_any (sz := 8) q.rd (by omega) (by omega)
    rw [show (8 : Int).toNat = 8 from rfl, HP3.out] at N3
    go_wp2_with fail
    refine N3.mono ?_
    rintro e w4 ⟨rfl, hr, hg⟩
    have q := q.call hr hg
    clear hg hr N3
    obtain ⟨⟨c0, c1, c2, c3, c4, c5, c6⟩, fr⟩ := q.cells
    have q := ((q.set 1 (.int .i64 k1)).set 2 (.int .i64 k2)).set 3 (.int .i64 k3)
    obtain ⟨⟨e0, e1', e2', e3', e4, e5, e6⟩, fr'⟩ := q.cells
    obtain ⟨a0, a1, a2, a3, a4, a5, a6, bA⟩ := q.bA
    obtain ⟨d0, d1, d2, d3, d4, d5, d6⟩ := bA.cells7
    have fa := bA.free
    go_wp2
    obtain ⟨hrd, hgr, bx⟩ := q.fin (.int .i64 1) (.int .i64 k1) (.int .i64 k2) (.int .i64 k3) (.int .i64 0) (.int .u64 0) (.bool false) _ rfl
    obtain ⟨x0, x1, x2, x3, x4, x5, x6⟩ := bx.cells7
    exact bodyPost_ret (v := Frm.val ⟨1, k1, k2, k3, 0, 0, false⟩) (by simp [results, Tryd.results63, go_sem, x0, x1, x2, x3, x4, x5, x6, Frm.val, Frm.cs]) rfl ⟨rfl, hrd, hgr⟩
  by_cases h2 : kd = 2
  · subst h2
    simp only [if_true, show ¬ (2 : Nat) = 1 from by decide, if_false]
    generalize hp1 : numD 8 s0 = p1
    obtain ⟨x1, s1⟩ := p1
    have HP1 := hide hp1
    clear hp1
    dsimp only
    generalize hk1 : i64of x1 = k1
    have e1 : wrap64 (x1 : Int) = k1 := hk1
    clear hk1
    go_enter Tryd.func63, Tryd.ntmps63
    go_wp2_with fail
    refine (N0 _).mono ?_
    rintro e w1 ⟨rfl, hr1, hg1⟩
    have q := RFD.start (cs := #[.int .i64 2, .int .i64 0, .int .i64 0, .int .i64 0, .int .i64 0, .int .u64 0, .bool false]) ⟨_, _, _, _, _, _, _, rfl⟩ hR hr1 hg1
    clear N0 hg1 hr1
    have N1 := numD_any (sz := 8) q.rd (by omega) (by omega)
    rw [show (8 : Int).toNat = 8 from rfl, HP1.out] at N1
    go_wp2_with fail
    refine N1.mono ?_
    rintro e w2 ⟨rfl, hr, hg⟩
    have q := q.call hr hg
    clear hg hr N1
    obtain ⟨⟨c0, c1, c2, c3, c4, c5, c6⟩, fr⟩ := q.cells
    have q := q.set 4 (.int .i64 k1)
    clear c0 c1 c2 c3 c5 c6
    obtain ⟨⟨e0, e1', e2, e3, e4, e5, e6⟩, fr'⟩ := q.cells
    obtain ⟨a0, a1, a2, a3, a4, a5, a6, bA⟩ := q.bA
    obtain ⟨d0, d1, d2, d3, d4, d5, d6⟩ := bA.cells7
    have fa := bA.free
    go_wp2
    obtain ⟨hrd, hgr, bx⟩ := q.fin (.int .i64 2) (.int .i64 0) (.int .i64 0) (.int .i64 0) (.int .i64 k1) (.int .u64 0) (.bool false) _ rfl
    obtain ⟨x0, x1, x2, x3, x4, x5, x6⟩ := bx.cells7
    exact bodyPost_ret (v := Frm.val ⟨2, 0, 0, 0, k1, 0, false⟩) (by simp [results, Tryd.results63, go_sem, x0, x1, x2, x3, x4, x5, x6, Frm.val, Frm.cs]) rfl ⟨rfl, hrd, hgr⟩
  by_cases h3 : kd = 3
  · subst h3
    simp only [if_true, show ¬ (3 : Nat) = 1 from by decide, show ¬ (3 : Nat) = 2 from by decide, if_false]
    unfold rFlagD
    generalize hp1 : numD 8 s0 = p1
    obtain ⟨x1, s1⟩ := p1
    have HP1 := hide hp1
    clear hp1
    dsimp only
    generalize hp2 : numD 1 s1 = p2
    obtain ⟨x2, l2, bad2⟩ := p2
    have HP2 := hide hp2
    clear hp2
    dsimp only
    generalize hov : decide (x2 = 1) = ov
    have e1 : ((x2 : Int) == 1) = ov := by rw [← hov, Bool.eq_iff_iff]; simp; omega
    generalize hbg : (bad2 || decide (1 < x2)) = bg
    have HBG := hide hbg
    clear hov hbg
    go_enter Tryd.func63, Tryd.ntmps63
    go_wp2_with fail
    refine (N0 _).mono ?_
    rintro e w1 ⟨rfl, hr1, hg1⟩
    have q := RFD.start (cs := #[.int .i64 3, .int .i64 0, .int .i64 0, .int .i64 0, .int .i64 0, .int .u64 0, .bool false]) ⟨_, _, _, _, _, _, _, rfl⟩ hR hr1 hg1
    clear N0 hg1 hr1
    have N1 := numD_any (sz := 8) q.rd (by omega) (by omega)
    rw [show (8 : Int).toNat = 8 from rfl, HP1.out] at N1
    go_wp2_with fail
    refine N1.mono ?_
    rintro e w2 ⟨rfl, hr, hg⟩
    have q := q.call hr hg
    clear hg hr N1
    obtain ⟨⟨c0, c1, c2, c3, c4, c5, c6⟩, fr⟩ := q.cells
    have q := q.set 5 (.int .u64 x1)
    have N2 := numD_any (sz := 1) q.rd (by omega) (by omega)
    rw [show (1 : Int).toNat = 1 from rfl, HP2.out] at N2
    go_wp2_with fail
    refine N2.mono ?_
    rintro e w3 ⟨rfl, hr, hg⟩
    have q := q.call hr hg
    clear hg hr N2 c0 c1 c2 c3 c4 c5 c6 fr
    obtain ⟨⟨c0, c1, c2, c3, c4, c5, c6⟩, fr⟩ := q.cells
    have q := q.set 6 (.bool ov)
    obtain ⟨ao, cap, r0, r1, rf⟩ := q.rd.cells
    have q := q.told bg
    clear c0 c1 c2 c3 c4 c5
    obtain ⟨⟨e0, e1', e2, e3, e4, e5, e6⟩, fr'⟩ := q.cells
    obtain ⟨a0, a1, a2, a3, a4, a5, a6, bA⟩ := q.bA
    obtain ⟨d0, d1, d2, d3, d4, d5, d6⟩ := bA.cells7
    have fa := bA.free
    simp only at r0 r1
    cases bad2
    · have hx2 : decide ((1 : Int) < (x2 : Int)) = bg := by rw [← HBG.out, Bool.false_or, Bool.eq_iff_iff]; simp; omega
      clear r0
      cases bg
      · have hx3 : ¬ ((1 : Int) < (x2 : Int)) := of_decide_eq_false hx2
        go_wp2
        obtain ⟨hrd, hgr, bx⟩ := q.fin (.int .i64 3) (.int .i64 0) (.int .i64 0) (.int .i64 0) (.int .i64 0) (.int .u64 x1) (.bool ov) _ rfl
        obtain ⟨x0, x1, x2, x3, x4, x5, x6⟩ := bx.cells7
        exact bodyPost_ret (v := Frm.val ⟨3, 0, 0, 0, 0, _, ov⟩) (by simp [results, Tryd.results63, go_sem, x0, x1, x2, x3, x4, x5, x6, Frm.val, Frm.cs]) rfl ⟨rfl, hrd, hgr⟩
      · have hx3 : (1 : Int) < (x2 : Int) := of_decide_eq_true hx2
        go_wp2
        obtain ⟨hrd, hgr, bx⟩ := q.fin (.int .i64 3) (.int .i64 0) (.int .i64 0) (.int .i64 0) (.int .i64 0) (.int .u64 x1) (.bool ov) _ rfl
        obtain ⟨x0, x1, x2, x3, x4, x5, x6⟩ := bx.cells7
        exact bodyPost_ret (v := Frm.val ⟨3, 0, 0, 0, 0, _, ov⟩) (by simp [results, Tryd.results63, go_sem, x0, x1, x2, x3, x4, x5, x6, Frm.val, Frm.cs]) rfl ⟨rfl, hrd, hgr⟩
    · obtain rfl : bg = true := by rw [← HBG.out]; rfl
      clear r0
      go_wp2
      obtain ⟨hrd, hgr, bx⟩ := q.fin (.int .i64 3) (.int .i64 0) (.int .i64 0) (.int .i64 0) (.int .i64 0) (.int .u64 x1) (.bool ov) _ rfl
      obtain ⟨x0, x1, x2, x3, x4, x5, x6⟩ := bx.cells7
      exact bodyPost_ret (v := Frm.val ⟨3, 0, 0, 0, 0, _, ov⟩) (by simp [results, Tryd.results63, go_sem, x0, x1, x2, x3, x4, x5, x6, Frm.val, Frm.cs]) rfl ⟨rfl, hrd, hgr⟩
  · simp only [if_neg h1, if_neg h2, if_neg h3]
    have hw : wrap64 (kd : Int) = kd := by unfold wrap64; omega
    have i1 : ((kd : Int) == 1) = false := by simp; omega
    have i2 : ((kd : Int) == 2) = false := by simp; omega
    have i3 : ((kd : Int) == 3) = false := by simp; omega
    go_enter Tryd.func63, Tryd.ntmps63
    go_wp2_with fail
    refine (N0 _).mono ?_
    rintro e w1 ⟨rfl, hr1, hg1⟩
    have q := RFD.start (cs := #[.int .i64 kd, .int .i64 0, .int .i64 0, .int .i64 0, .int .i64 0, .int .u64 0, .bool false]) ⟨_, _, _, _, _, _, _, rfl⟩ hR hr1 hg1
    clear N0 hg1 hr1
    obtain ⟨ao, cap, r0, r1, rf⟩ := q.rd.cells
    have q := q.told true
    obtain ⟨⟨e0, e1', e2, e3, e4, e5, e6⟩, fr'⟩ := q.cells
    obtain ⟨a0, a1, a2, a3, a4, a5, a6, bA⟩ := q.bA
    obtain ⟨d0, d1, d2, d3, d4, d5, d6⟩ := bA.cells7
    have fa := bA.free
    clear r0
    go_wp2
    obtain ⟨hrd, hgr, bx⟩ := q.fin (.int .i64 kd) (.int .i64 0) (.int .i64 0) (.int .i64 0) (.int .i64 0) (.int .u64 0) (.bool false) _ rfl
    obtain ⟨x0, x1, x2, x3, x4, x5, x6⟩ := bx.cells7
    exact bodyPost_ret (v := Frm.val ⟨kd, 0, 0, 0, 0, 0, false⟩) (by simp [results, Tryd.results63, go_sem, x0, x1, x2, x3, x4, x5, x6, Frm.val, Frm.cs]) rfl ⟨rfl, hrd, hgr⟩

set_option maxHeartbeats 1600000 in
set_option maxRecDepth 100000 in
theorem OpenFrameD_any (v : Value) (l : List Nat) (w : World) (h : Seg w v l) (hb : Byts l) :
    Calls Tryd.prog 27 #[v] w fun e w' => e = .returned (.tuple (if done (rFrameD (l, false)).2 then #[(rFrameD (l, false)).1.val, .int .i64 0] else #[Frm.zero.val, .int .i64 10])) ∧ Below w.heap.size w w' := by
  have hrf := fun o => frameD_any (RdSD.start_at (k := w.heap.size + 1) (by simp) (h.alloc o) hb)
  obtain ⟨ao, cap, rfl, h2, h3, h3', h4⟩ := h
  generalize rFrameD (l, false) = p at *
  obtain ⟨⟨kd, ke, ti, va, ma, n, ov⟩, s1, bad⟩ := p
  simp only [Frm.val, Frm.cs, Frm.zero] at *
  have HR := hrf
  clear h4 hrf
  cases bad
  · rcases s1 with _ | ⟨x, s1⟩
    · rw [show done ([], false) = true from rfl, if_pos rfl]
      go_enter Tryd.func27, Tryd.ntmps27
      go_wp2_with fail
      refine (HR _).mono ?_
      rintro e w1 ⟨rfl, hr, hg⟩
      clear HR
      obtain ⟨ao', cap', r0, r1, rf⟩ := hr.cells
      have bA := ((BoxT.new 26 w _).alloc (.cells #[.slice ao l.length cap, .bool false] 113) |>.grown hg (by omega)).alloc (.cells #[.int .i64 kd, .int .i64 ke, .int .i64 ti, .int .i64 va, .int .i64 ma, .int .u64 n, .bool ov] 26)
      have hbel := Below.trans (((Below.refl w.heap.size w).alloc (Nat.le_refl _) _).alloc (by simp) _) (Below.of_grown hg (B := w.heap.size) (by omega) (by simp; omega))
      obtain ⟨d0, d1, d2, d3, d4, d5, d6⟩ := bA.cells7
      have fa := bA.free
      have hz := hbel.size
      have hR := hr.lt
      clear hg
      go_wp2
      obtain ⟨hW, hx⟩ := fin7 bA (.int .i64 kd) (.int .i64 ke) (.int .i64 ti) (.int .i64 va) (.int .i64 ma) (.int .u64 n) (.bool ov) _ rfl
      obtain ⟨x0, x1, x2, x3, x4, x5, x6⟩ := hx.cells7
      exact bodyPost_ret (v := .tuple #[.agg #[.int .i64 kd, .int .i64 ke, .int .i64 ti, .int .i64 va, .int .i64 ma, .int .u64 n, .bool ov], .int .i64 0]) (by simp [results, Tryd.results27, go_sem, x0, x1, x2, x3, x4, x5, x6]) rfl ⟨rfl, (hbel.alloc (by omega) _).trans hW⟩
    · rw [show done (x :: s1, false) = false from rfl, if_neg (by decide)]
      go_enter Tryd.func27, Tryd.ntmps27
      go_wp2_with fail
      refine (HR _).mono ?_
      rintro e w1 ⟨rfl, hr, hg⟩
      clear HR
      obtain ⟨ao', cap', r0, r1, rf⟩ := hr.cells
      have bA := ((BoxT.new 26 w _).alloc (.cells #[.slice ao l.length cap, .bool false] 113) |>.grown hg (by omega)).alloc (.cells #[.int .i64 kd, .int .i64 ke, .int .i64 ti, .int .i64 va, .int .i64 ma, .int .u64 n, .bool ov] 26)
      have hbel := Below.trans (((Below.refl w.heap.size w).alloc (Nat.le_refl _) _).alloc (by simp) _) (Below.of_grown hg (B := w.heap.size) (by omega) (by simp; omega))
      obtain ⟨d0, d1, d2, d3, d4, d5, d6⟩ := bA.cells7
      have fa := bA.free
      have hz := hbel.size
      have hR := hr.lt
      have hpos : (0 : Int) < (s1.length : Int) + 1 := by omega
      clear hg
      go_wp2
      obtain ⟨hW, hx⟩ := fin7 bA (.int .i64 0) (.int .i64 0) (.int .i64 0) (.int .i64 0) (.int .i64 0) (.int .u64 0) (.bool false) _ rfl
      obtain ⟨x0, x1, x2, x3, x4, x5, x6⟩ := hx.cells7
      exact bodyPost_ret (v := .tuple #[.agg #[.int .i64 0, .int .i64 0, .int .i64 0, .int .i64 0, .int .i64 0, .int .u64 0, .bool false], .int .i64 10]) (by simp [results, Tryd.results27, go_sem, x0, x1, x2, x3, x4, x5, x6]) rfl ⟨rfl, (hbel.alloc (by omega) _).trans hW⟩
  · rw [show done (s1, true) = false from rfl, if_neg (by decide)]
    go_enter Tryd.func27, Tryd.ntmps27
    go_wp2_with fail
    refine (HR _).mono ?_
    rintro e w1 ⟨rfl, hr, hg⟩
    clear HR
    obtain ⟨ao', cap', r0, r1, rf⟩ := hr.cells
    have bA := ((BoxT.new 26 w _).alloc (.cells #[.slice ao l.length cap, .bool false] 113) |>.grown hg (by omega)).alloc (.cells #[.int .i64 kd, .int .i64 ke, .int .i64 ti, .int .i64 va, .int .i64 ma, .int .u64 n, .bool ov] 26)
    have hbel := Below.trans (((Below.refl w.heap.size w).alloc (Nat.le_refl _) _).alloc (by simp) _) (Below.of_grown hg (B := w.heap.size) (by omega) (by simp; omega))
    obtain ⟨d0, d1, d2, d3, d4, d5, d6⟩ := bA.cells7
    have fa := bA.free
    have hz := hbel.size
    have hR := hr.lt
    clear hg
    go_wp2
    obtain ⟨hW, hx⟩ := fin7 bA (.int .i64 0) (.int .i64 0) (.int .i64 0) (.int .i64 0) (.int .i64 0) (.int .u64 0) (.bool false) _ rfl
    obtain ⟨x0, x1, x2, x3, x4, x5, x6⟩ := hx.cells7
    exact bodyPost_ret (v := .tuple #[.agg #[.int .i64 0, .int .i64 0, .int .i64 0, .int .i64 0, .int .i64 0, .int .u64 0, .bool false], .int .i64 10]) (by simp [results, Tryd.results27, go_sem, x0, x1, x2, x3, x4, x5, x6]) rfl ⟨rfl, (hbel.alloc (by omega) _).trans hW⟩

/-- What the document reads of a control message, ahead of its look at the whole. -/
def rControlD (s : List Nat × Bool) : Ctl × (List Nat × Bool) :=
  (⟨(numD 1 s).1, (numD 8 (numD 1 s).2).1, (numD 8 (numD 8 (numD 1 s).2).2).1, (numD 2 (numD 8 (numD 8 (numD 1 s).2).2).2).1⟩, (numD 2 (numD 8 (numD 8 (numD 1 s).2).2).2).2)
theorem RefPost.two {w w' : World} {b : Bool} {l : List Nat} {e : Ending} (h : RefPost w b l e w') : ∃ v' er, e = .returned (.tuple #[v', .int .i64 er]) ∧ Hid (er = if b then 0 else 10) ∧ Below w.heap.size w w' := by
  rcases h with ⟨rfl, v', rfl, ho, hb⟩ | ⟨rfl, rfl, hb⟩
  · exact ⟨v', 0, rfl, rfl, hb⟩
  · exact ⟨_, 10, rfl, rfl, hb⟩

set_option maxHeartbeats 1600000 in
set_option maxRecDepth 100000 in
theorem OpenControlD_any (v : Value) (l : List Nat) (w : World) (h : Seg w v l) (hb : Byts l) :
    Calls Tryd.prog 28 #[v] w fun e w' => e = .returned (.tuple (if (done (rControlD (l, false)).2 && cfits (rControlD (l, false)).1.kd (rControlD (l, false)).1.tk) = true then #[(rControlD (l, false)).1.val, .int .i64 0] else #[Ctl.zero.val, .int .i64 10])) ∧ Below w.heap.size w w' := by
  have hr0 := fun o => RdSD.start_at (k := w.heap.size + 1) (by simp) (h.alloc o) hb
  obtain ⟨ao, cap, rfl, h2, h3, h3', h4⟩ := h
  unfold rControlD
  have hb0 := numD_lt (k := 1) (s := (l, false)) hb
  generalize hp0 : numD 1 (l, false) = p0 at hb0 ⊢
  obtain ⟨kd, s0⟩ := p0
  have HP0 := hide hp0
  clear hp0
  dsimp only at hb0 ⊢
  generalize hp1 : numD 8 s0 = p1
  obtain ⟨ep, s1⟩ := p1
  have HP1 := hide hp1
  clear hp1
  dsimp only
  generalize hp2 : numD 8 s1 = p2
  obtain ⟨n, s2⟩ := p2
  have HP2 := hide hp2
  clear hp2
  dsimp only
  generalize hp3 : numD 2 s2 = p3
  obtain ⟨tk, l3, bad⟩ := p3
  have HP3 := hide hp3
  clear hp3
  dsimp only
  have hw : wrap64 (kd : Int) = kd := by unfold wrap64; omega
  simp only [Ctl.val, Ctl.cs, Ctl.zero] at *
  have HR := hr0
  clear h4 hr0
  generalize hcf : cfits (kd : Int) (tk : Int) = cf
  have HCF := hide hcf
  clear hcf
  cases bad
  · rcases l3 with _ | ⟨x, l3⟩
    · rw [show done ([], false) = true from rfl, Bool.true_and]
      cases cf
      · rw [if_neg (by decide)]
        go_enter Tryd.func28, Tryd.ntmps28
        have q := HR (.cells #[.int .i64 0, .int .u64 0, .int .u64 0, .int .i64 0] 28)
        have N0 := numD_any (sz := 1) q (by omega) (by omega)
        rw [show (1 : Int).toNat = 1 from rfl, HP0.out] at N0
        have bA := (BoxT.new 28 w #[.int .i64 0, .int .u64 0, .int .u64 0, .int .i64 0]).alloc (.cells #[.slice ao l.length cap, .bool false] 113)
        have hbel := ((Below.refl w.heap.size w).alloc (Nat.le_refl _) (.cells #[.int .i64 0, .int .u64 0, .int .u64 0, .int .i64 0] 28)).alloc (by simp) (.cells #[.slice ao l.length cap, .bool false] 113)
        go_wp2_with fail
        refine N0.mono ?_
        rintro e w1 ⟨rfl, hr, hg⟩
        have bA := bA.grown hg (by omega)
        have hbel := hbel.trans (Below.of_grown hg (B := w.heap.size) (by omega) (by simp; omega))
        clear hg N0 HR q
        have N1 := numD_any (sz := 8) hr (by omega) (by omega)
        rw [show (8 : Int).toNat = 8 from rfl, HP1.out] at N1
        go_wp2_with fail
        refine N1.mono ?_
        rintro e w2 ⟨rfl, hr, hg⟩
        have bA := bA.grown hg (by omega)
        have hbel := hbel.trans (Below.of_grown hg (B := w.heap.size) (by omega) hbel.size)
        clear hg N1
        have N2 := numD_any (sz := 8) hr (by omega) (by omega)
        rw [show (8 : Int).toNat = 8 from rfl, HP2.out] at N2
        go_wp2_with fail
        refine N2.mono ?_
        rintro e w3 ⟨rfl, hr, hg⟩
        have bA := bA.grown hg (by omega)
        have hbel := hbel.trans (Below.of_grown hg (B := w.heap.size) (by omega) hbel.size)
        clear hg N2
        have N3 := numD_any (sz := 2) hr (by omega) (by omega)
        have hb3 := numD_lt (k := 2) hr.2
        rw [HP3.out] at hb3
        rw [show (2 : Int).toNat = 2 from rfl, HP3.out] at N3
        have hw3 : wrap64 (tk : Int) = tk := by unfold wrap64; dsimp only at hb3; omega
        go_wp2_with fail
        refine N3.mono ?_
        rintro e w4 ⟨rfl, hr, hg⟩
        have bA := (bA.grown hg (by omega)).alloc (.cells #[.int .i64 kd, .int .u64 ep, .int .u64 n, .int .i64 tk] 28)
        have hbel := (hbel.trans (Below.of_grown hg (B := w.heap.size) (by omega) hbel.size))
        have hz := hbel.size
        have hbel := hbel.alloc hz (.cells #[.int .i64 kd, .int .u64 ep, .int .u64 n, .int .i64 tk] 28)
        have hrr := hr.lt
        have hr := hr.alloc (.cells #[.int .i64 kd, .int .u64 ep, .int .u64 n, .int .i64 tk] 28)
        have bC := BoxT.new 28 w4 #[.int .i64 kd, .int .u64 ep, .int .u64 n, .int .i64 tk]
        clear hg N3 hb3
        have hcall := refControl_any (kd : Int) (ep : Int) (n : Int) (tk : Int) (w4.alloc (.cells #[.int .i64 kd, .int .u64 ep, .int .u64 n, .int .i64 tk] 28)) (by omega) (by omega)
        rw [HCF.out] at hcall
        go_wp2_with fail
        refine hcall.mono ?_
        intro e w5 hp
        obtain ⟨v5, er, rfl, HER, hb5⟩ := hp.two
        have bA := bA.kept (base := 0) (Kept.of_below hb5) (by decide)
        have bC := bC.kept (base := 0) (Kept.of_below hb5) (by decide)
        have hbel := hbel.trans (hb5.mono (by simp; omega))
        have hr : RdSD (w.heap.size + 1) w5 ([], false) := hr.keep fun i hi => hb5.block i (by simp; omega)
        obtain ⟨ao', cap', r0, r1, rf⟩ := hr.cells
        obtain ⟨c0, c1, c2, c3⟩ := bC.cells4
        obtain ⟨d0, d1, d2, d3⟩ := bA.cells4
        have fa := bA.free
        simp only at r0 r1
        clear hcall hp hb5 hr bC
        obtain rfl : er = 10 := HER.out
        go_wp2
        obtain ⟨hW, hx⟩ := fin4 bA (.int .i64 0) (.int .u64 0) (.int .u64 0) (.int .i64 0) _ rfl
        obtain ⟨x0, x1, x2, x3⟩ := hx.cells4
        exact bodyPost_ret (v := .tuple #[.agg #[.int .i64 0, .int .u64 0, .int .u64 0, .int .i64 0], .int .i64 10]) (by simp [results, Tryd.results28, go_sem, x0, x1, x2, x3]) rfl ⟨rfl, hbel.trans hW⟩
      · rw [if_pos rfl]
        go_enter Tryd.func28, Tryd.ntmps28
        have q := HR (.cells #[.int .i64 0, .int .u64 0, .int .u64 0, .int .i64 0] 28)
        have N0 := numD_any (sz := 1) q (by omega) (by omega)
        rw [show (1 : Int).toNat = 1 from rfl, HP0.out] at N0
        have bA := (BoxT.new 28 w #[.int .i64 0, .int .u64 0, .int .u64 0, .int .i64 0]).alloc (.cells #[.slice ao l.length cap, .bool false] 113)
        have hbel := ((Below.refl w.heap.size w).alloc (Nat.le_refl _) (.cells #[.int .i64 0, .int .u64 0, .int .u64 0, .int .i64 0] 28)).alloc (by simp) (.cells #[.slice ao l.length cap, .bool false] 113)
        go_wp2_with fail
        refine N0.mono ?_
        rintro e w1 ⟨rfl, hr, hg⟩
        have bA := bA.grown hg (by omega)
        have hbel := hbel.trans (Below.of_grown hg (B := w.heap.size) (by omega) (by simp; omega))
        clear hg N0 HR q
        have N1 := numD_any (sz := 8) hr (by omega) (by omega)
        rw [show (8 : Int).toNat = 8 from rfl, HP1.out] at N1
        go_wp2_with fail
        refine N1.mono ?_
        rintro e w2 ⟨rfl, hr, hg⟩
        have bA := bA.grown hg (by omega)
        have hbel := hbel.trans (Below.of_grown hg (B := w.heap.size) (by omega) hbel.size)
        clear hg N1
        have N2 := numD_any (sz := 8) hr (by omega) (by omega)
        rw [show (8 : Int).toNat = 8 from rfl, HP2.out] at N2
        go_wp2_with fail
        refine N2.mono ?_
        rintro e w3 ⟨rfl, hr, hg⟩
        have bA := bA.grown hg (by omega)
        have hbel := hbel.trans (Below.of_grown hg (B := w.heap.size) (by omega) hbel.size)
        clear hg N2
        have N3 := numD_any (sz := 2) hr (by omega) (by omega)
        have hb3 := numD_lt (k := 2) hr.2
        rw [HP3.out] at hb3
        rw [show (2 : Int).toNat = 2 from rfl, HP3.out] at N3
        have hw3 : wrap64 (tk : Int) = tk := by unfold wrap64; dsimp only at hb3; omega
        go_wp2_with fail
        refine N3.mono ?_
        rintro e w4 ⟨rfl, hr, hg⟩
        have bA := (bA.grown hg (by omega)).alloc (.cells #[.int .i64 kd, .int .u64 ep, .int .u64 n, .int .i64 tk] 28)
        have hbel := (hbel.trans (Below.of_grown hg (B := w.heap.size) (by omega) hbel.size))
        have hz := hbel.size
        have hbel := hbel.alloc hz (.cells #[.int .i64 kd, .int .u64 ep, .int .u64 n, .int .i64 tk] 28)
        have hrr := hr.lt
        have hr := hr.alloc (.cells #[.int .i64 kd, .int .u64 ep, .int .u64 n, .int .i64 tk] 28)
        have bC := BoxT.new 28 w4 #[.int .i64 kd, .int .u64 ep, .int .u64 n, .int .i64 tk]
        clear hg N3 hb3
        have hcall := refControl_any (kd : Int) (ep : Int) (n : Int) (tk : Int) (w4.alloc (.cells #[.int .i64 kd, .int .u64 ep, .int .u64 n, .int .i64 tk] 28)) (by omega) (by omega)
        rw [HCF.out] at hcall
        go_wp2_with fail
        refine hcall.mono ?_
        intro e w5 hp
        obtain ⟨v5, er, rfl, HER, hb5⟩ := hp.two
        have bA := bA.kept (base := 0) (Kept.of_below hb5) (by decide)
        have bC := bC.kept (base := 0) (Kept.of_below hb5) (by decide)
        have hbel := hbel.trans (hb5.mono (by simp; omega))
        have hr : RdSD (w.heap.size + 1) w5 ([], false) := hr.keep fun i hi => hb5.block i (by simp; omega)
        obtain ⟨ao', cap', r0, r1, rf⟩ := hr.cells
        obtain ⟨c0, c1, c2, c3⟩ := bC.cells4
        obtain ⟨d0, d1, d2, d3⟩ := bA.cells4
        have fa := bA.free
        simp only at r0 r1
        clear hcall hp hb5 hr bC
        obtain rfl : er = 0 := HER.out
        go_wp2
        obtain ⟨hW, hx⟩ := fin4 bA (.int .i64 kd) (.int .u64 ep) (.int .u64 n) (.int .i64 tk) _ rfl
        obtain ⟨x0, x1, x2, x3⟩ := hx.cells4
        exact bodyPost_ret (v := .tuple #[.agg #[.int .i64 kd, .int .u64 ep, .int .u64 n, .int .i64 tk], .int .i64 0]) (by simp [results, Tryd.results28, go_sem, x0, x1, x2, x3]) rfl ⟨rfl, hbel.trans hW⟩
    · rw [show done (x :: l3, false) = false from rfl, Bool.false_and, if_neg (by decide)]
      have hpos : (0 : Int) < (l3.length : Int) + 1 := by omega
      go_enter Tryd.func28, Tryd.ntmps28
      have q := HR (.cells #[.int .i64 0, .int .u64 0, .int .u64 0, .int .i64 0] 28)
      have N0 := numD_any (sz := 1) q (by omega) (by omega)
      rw [show (1 : Int).toNat = 1 from rfl, HP0.out] at N0
      have bA := (BoxT.new 28 w #[.int .i64 0, .int .u64 0, .int .u64 0, .int .i64 0]).alloc (.cells #[.slice ao l.length cap, .bool false] 113)
      have hbel := ((Below.refl w.heap.size w).alloc (Nat.le_refl _) (.cells #[.int .i64 0, .int .u64 0, .int .u64 0, .int .i64 0] 28)).alloc (by simp) (.cells #[.slice ao l.length cap, .bool false] 113)
      go_wp2_with fail
      refine N0.mono ?_
      rintro e w1 ⟨rfl, hr, hg⟩
      have bA := bA.grown hg (by omega)
      have hbel := hbel.trans (Below.of_grown hg (B := w.heap.size) (by omega) (by simp; omega))
      clear hg N0 HR q
      have N1 := numD_any (sz := 8) hr (by omega) (by omega)
      rw [show (8 : Int).toNat = 8 from rfl, HP1.out] at N1
      go_wp2_with fail
      refine N1.mono ?_
      rintro e w2 ⟨rfl, hr, hg⟩
      have bA := bA.grown hg (by omega)
      have hbel := hbel.trans (Below.of_grown hg (B := w.heap.size) (by omega) hbel.size)
      clear hg N1
      have N2 := numD_any (sz := 8) hr (by omega) (by omega)
      rw [show (8 : Int).toNat = 8 from rfl, HP2.out] at N2
      go_wp2_with fail
      refine N2.mono ?_
      rintro e w3 ⟨rfl, hr, hg⟩
      have bA := bA.grown hg (by omega)
      have hbel := hbel.trans (Below.of_grown hg (B := w.heap.size) (by omega) hbel.size)
      clear hg N2
      have N3 := numD_any (sz := 2) hr (by omega) (by omega)
      have hb3 := numD_lt (k := 2) hr.2
      rw [HP3.out] at hb3
      rw [show (2 : Int).toNat = 2 from rfl, HP3.out] at N3
      have hw3 : wrap64 (tk : Int) = tk := by unfold wrap64; dsimp only at hb3; omega
      go_wp2_with fail
      refine N3.mono ?_
      rintro e w4 ⟨rfl, hr, hg⟩
      have bA := (bA.grown hg (by omega)).alloc (.cells #[.int .i64 kd, .int .u64 ep, .int .u64 n, .int .i64 tk] 28)
      have hbel := (hbel.trans (Below.of_grown hg (B := w.heap.size) (by omega) hbel.size))
      have hz := hbel.size
      have hbel := hbel.alloc hz (.cells #[.int .i64 kd, .int .u64 ep, .int .u64 n, .int .i64 tk] 28)
      have hrr := hr.lt
      have hr := hr.alloc (.cells #[.int .i64 kd, .int .u64 ep, .int .u64 n, .int .i64 tk] 28)
      have bC := BoxT.new 28 w4 #[.int .i64 kd, .int .u64 ep, .int .u64 n, .int .i64 tk]
      clear hg N3 hb3
      have hcall := refControl_any (kd : Int) (ep : Int) (n : Int) (tk : Int) (w4.alloc (.cells #[.int .i64 kd, .int .u64 ep, .int .u64 n, .int .i64 tk] 28)) (by omega) (by omega)
      rw [HCF.out] at hcall
      go_wp2_with fail
      refine hcall.mono ?_
      intro e w5 hp
      obtain ⟨v5, er, rfl, HER, hb5⟩ := hp.two
      have bA := bA.kept (base := 0) (Kept.of_below hb5) (by decide)
      have bC := bC.kept (base := 0) (Kept.of_below hb5) (by decide)
      have hbel := hbel.trans (hb5.mono (by simp; omega))
      have hr : RdSD (w.heap.size + 1) w5 (x :: l3, false) := hr.keep fun i hi => hb5.block i (by simp; omega)
      obtain ⟨ao', cap', r0, r1, rf⟩ := hr.cells
      obtain ⟨c0, c1, c2, c3⟩ := bC.cells4
      obtain ⟨d0, d1, d2, d3⟩ := bA.cells4
      have fa := bA.free
      simp only at r0 r1
      clear hcall hp hb5 hr bC
      go_wp2
      obtain ⟨hW, hx⟩ := fin4 bA (.int .i64 0) (.int .u64 0) (.int .u64 0) (.int .i64 0) _ rfl
      obtain ⟨x0, x1, x2, x3⟩ := hx.cells4
      exact bodyPost_ret (v := .tuple #[.agg #[.int .i64 0, .int .u64 0, .int .u64 0, .int .i64 0], .int .i64 10]) (by simp [results, Tryd.results28, go_sem, x0, x1, x2, x3]) rfl ⟨rfl, hbel.trans hW⟩
  · rw [show done (l3, true) = false from rfl, Bool.false_and, if_neg (by decide)]
    go_enter Tryd.func28, Tryd.ntmps28
    have q := HR (.cells #[.int .i64 0, .int .u64 0, .int .u64 0, .int .i64 0] 28)
    have N0 := numD_any (sz := 1) q (by omega) (by omega)
    rw [show (1 : Int).toNat = 1 from rfl, HP0.out] at N0
    have bA := (BoxT.new 28 w #[.int .i64 0, .int .u64 0, .int .u64 0, .int .i64 0]).alloc (.cells #[.slice ao l.length cap, .bool false] 113)
    have hbel := ((Below.refl w.heap.size w).alloc (Nat.le_refl _) (.cells #[.int .i64 0, .int .u64 0, .int .u64 0, .int .i64 0] 28)).alloc (by simp) (.cells #[.slice ao l.length cap, .bool false] 113)
    go_wp2_with fail
    refine N0.mono ?_
    rintro e w1 ⟨rfl, hr, hg⟩
    have bA := bA.grown hg (by omega)
    have hbel := hbel.trans (Below.of_grown hg (B := w.heap.size) (by omega) (by simp; omega))
    clear hg N0 HR q
    have N1 := numD_any (sz := 8) hr (by omega) (by omega)
    rw [show (8 : Int).toNat = 8 from rfl, HP1.out] at N1
    go_wp2_with fail
    refine N1.mono ?_
    rintro e w2 ⟨rfl, hr, hg⟩
    have bA := bA.grown hg (by omega)
    have hbel := hbel.trans (Below.of_grown hg (B := w.heap.size) (by omega) hbel.size)
    clear hg N1
    have N2 := numD_any (sz := 8) hr (by omega) (by omega)
    rw [show (8 : Int).toNat = 8 from rfl, HP2.out] at N2
    go_wp2_with fail
    refine N2.mono ?_
    rintro e w3 ⟨rfl, hr, hg⟩
    have bA := bA.grown hg (by omega)
    have hbel := hbel.trans (Below.of_grown hg (B := w.heap.size) (by omega) hbel.size)
    clear hg N2
    have N3 := numD_any (sz := 2) hr (by omega) (by omega)
    have hb3 := numD_lt (k := 2) hr.2
    rw [HP3.out] at hb3
    rw [show (2 : Int).toNat = 2 from rfl, HP3.out] at N3
    have hw3 : wrap64 (tk : Int) = tk := by unfold wrap64; dsimp only at hb3; omega
    go_wp2_with fail
    refine N3.mono ?_
    rintro e w4 ⟨rfl, hr, hg⟩
    have bA := (bA.grown hg (by omega)).alloc (.cells #[.int .i64 kd, .int .u64 ep, .int .u64 n, .int .i64 tk] 28)
    have hbel := (hbel.trans (Below.of_grown hg (B := w.heap.size) (by omega) hbel.size))
    have hz := hbel.size
    have hbel := hbel.alloc hz (.cells #[.int .i64 kd, .int .u64 ep, .int .u64 n, .int .i64 tk] 28)
    have hrr := hr.lt
    have hr := hr.alloc (.cells #[.int .i64 kd, .int .u64 ep, .int .u64 n, .int .i64 tk] 28)
    have bC := BoxT.new 28 w4 #[.int .i64 kd, .int .u64 ep, .int .u64 n, .int .i64 tk]
    clear hg N3 hb3
    have hcall := refControl_any (kd : Int) (ep : Int) (n : Int) (tk : Int) (w4.alloc (.cells #[.int .i64 kd, .int .u64 ep, .int .u64 n, .int .i64 tk] 28)) (by omega) (by omega)
    rw [HCF.out] at hcall
    go_wp2_with fail
    refine hcall.mono ?_
    intro e w5 hp
    obtain ⟨v5, er, rfl, HER, hb5⟩ := hp.two
    have bA := bA.kept (base := 0) (Kept.of_below hb5) (by decide)
    have bC := bC.kept (base := 0) (Kept.of_below hb5) (by decide)
    have hbel := hbel.trans (hb5.mono (by simp; omega))
    have hr : RdSD (w.heap.size + 1) w5 (l3, true) := hr.keep fun i hi => hb5.block i (by simp; omega)
    obtain ⟨ao', cap', r0, r1, rf⟩ := hr.cells
    obtain ⟨c0, c1, c2, c3⟩ := bC.cells4
    obtain ⟨d0, d1, d2, d3⟩ := bA.cells4
    have fa := bA.free
    simp only at r0 r1
    clear hcall hp hb5 hr bC
    go_wp2
    obtain ⟨hW, hx⟩ := fin4 bA (.int .i64 0) (.int .u64 0) (.int .u64 0) (.int .i64 0) _ rfl
    obtain ⟨x0, x1, x2, x3⟩ := hx.cells4
    exact bodyPost_ret (v := .tuple #[.agg #[.int .i64 0, .int .u64 0, .int .u64 0, .int .i64 0], .int .i64 10]) (by simp [results, Tryd.results28, go_sem, x0, x1, x2, x3]) rfl ⟨rfl, hbel.trans hW⟩
end Go.Proofs.YtaajjejgjnlbgaaDoor
