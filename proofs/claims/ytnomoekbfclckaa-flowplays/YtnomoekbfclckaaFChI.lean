/-
  A channel of whole numbers as it lies.
-/
import Derived.Test.YtnomoekbfclckaaNLkI
import Derived.Test.YtnomoekbfclckaaNLkMI
import Derived.Test.YtnomoekbfclckaaFPure
namespace Go.Proofs.Ytnomoekbfclckaa
open Go.RowKit

/-- A channel in box K: its links, its ring, and that they are apart. -/
structure CxI (w : World) (K cr : Nat) (eb em : Int) (B : List Int) (M : List (Int × Int)) (W : List Int) (s r mo : Int) (kb km kw bw : Nat) (fb fm : List Nat) : Prop where
  box : BoxT 62 w K #[.pointer (some ⟨kb, 0, none⟩), .pointer (some ⟨km, 0, none⟩), .pointer (some ⟨kw, 0, none⟩), .int .u64 s, .int .u64 r, .int .i64 mo]
  lb : LkI w fb kb eb B
  lm : LkMI w fm km em M
  ring : Rg 85 3 (Value.int .i64) w kw bw cr W
  k1 : K ∉ fb
  k2 : K ∉ fm
  k3 : K ≠ kw
  k4 : K ≠ bw
  r1 : kw ∉ fb
  r2 : kw ∉ fm
  r3 : bw ∉ fb
  r4 : bw ∉ fm
  d : ∀ i ∈ fb, i ∉ fm
def fpC (K kw bw : Nat) (fb fm : List Nat) : List Nat := K :: kw :: bw :: (fb ++ fm)
section
variable {w w' : World} {K cr : Nat} {eb em eb' em' : Int} {B B' : List Int} {M M' : List (Int × Int)} {W W' : List Int} {s r mo : Int} {kb km kw bw bw' : Nat} {fb fm fb' fm' : List Nat}
theorem CxI.lt (H : CxI w K cr eb em B M W s r mo kb km kw bw fb fm) : ∀ i ∈ fpC K kw bw fb fm, i < w.heap.size := by
  intro i hi
  simp only [fpC, List.mem_cons, List.mem_append] at hi
  rcases hi with rfl | rfl | rfl | h | h
  · exact H.box.lt
  · exact H.ring.lt
  · exact H.ring.blkI
  · exact H.lb.lt i h
  · exact H.lm.lt i h
theorem CxI.back (H : CxI w K cr eb em B M W s r mo kb km kw bw fb fm) (hs : w.heap.size ≤ w'.heap.size) (hb : ∀ i ∈ fpC K kw bw fb fm, w'.heap[i]? = w.heap[i]?) : CxI w' K cr eb em B M W s r mo kb km kw bw fb fm := by
  simp only [fpC, List.mem_cons, List.mem_append] at hb
  exact ⟨by have := H.box; unfold BoxT at *; rw [hb K (.inl rfl)]; exact this, H.lb.back hs (fun i hi => hb i (.inr (.inr (.inr (.inl hi))))), H.lm.back hs (fun i hi => hb i (.inr (.inr (.inr (.inr hi))))), H.ring.back (hb _ (.inr (.inl rfl))) (fun _ => hb _ (.inr (.inr (.inl rfl)))), H.k1, H.k2, H.k3, H.k4, H.r1, H.r2, H.r3, H.r4, H.d⟩
theorem CxI.turnB (H : CxI w K cr eb em B M W s r mo kb km kw bw fb fm) (hl : LkI w' fb' kb eb' B') (ht : TurnedL fb w w') (hg : Grew fb fb' w) :
    CxI w' K cr eb' em B' M W s r mo kb km kw bw fb' fm ∧ TurnedL (fpC K kw bw fb fm) w w' ∧ Grew (fpC K kw bw fb fm) (fpC K kw bw fb' fm) w := by
  have n1 : ∀ i, i < w.heap.size → i ∉ fb → i ∉ fb' := fun i hi hn hm => by rcases hg i hm with h | h; exact hn h; omega
  have l1 := H.box.lt
  have l2 := H.ring.lt
  have l3 := H.ring.blkI
  refine ⟨⟨H.box.turnedL ht H.k1, hl, H.lm.back ht.size (fun i hi => ht.block i (H.lm.lt i hi) (fun h => H.d i h hi)), H.ring.back (ht.block _ l2 H.r1) (fun h => ht.block _ h H.r3), n1 _ l1 H.k1, H.k2, H.k3, H.k4, n1 _ l2 H.r1, H.r2, n1 _ l3 H.r3, H.r4, fun i hi hm => ?_⟩, ?_, ?_⟩
  · rcases hg i hi with h | h
    · exact H.d i h hm
    · have := H.lm.lt i hm; omega
  · exact ⟨ht.os, ht.tape, ht.output, ht.size, fun i hi hn => ht.block i hi (fun h => hn (by simp [fpC, h]))⟩
  · intro i hi
    simp only [fpC, List.mem_cons, List.mem_append] at hi ⊢
    rcases hi with h | h | h | h | h
    · exact .inl (.inl h)
    · exact .inl (.inr (.inl h))
    · exact .inl (.inr (.inr (.inl h)))
    · exact (hg i h).imp (fun h => .inr (.inr (.inr (.inl h)))) id
    · exact .inl (.inr (.inr (.inr (.inr h))))
theorem CxI.turnM (H : CxI w K cr eb em B M W s r mo kb km kw bw fb fm) (hl : LkMI w' fm' km em' M') (ht : TurnedL fm w w') (hg : Grew fm fm' w) :
    CxI w' K cr eb em' B M' W s r mo kb km kw bw fb fm' ∧ TurnedL (fpC K kw bw fb fm) w w' ∧ Grew (fpC K kw bw fb fm) (fpC K kw bw fb fm') w := by
  have n1 : ∀ i, i < w.heap.size → i ∉ fm → i ∉ fm' := fun i hi hn hm => by rcases hg i hm with h | h; exact hn h; omega
  have l1 := H.box.lt
  have l2 := H.ring.lt
  have l3 := H.ring.blkI
  refine ⟨⟨H.box.turnedL ht H.k2, H.lb.back ht.size (fun i hi => ht.block i (H.lb.lt i hi) (H.d i hi)), hl, H.ring.back (ht.block _ l2 H.r2) (fun h => ht.block _ h H.r4), H.k1, n1 _ l1 H.k2, H.k3, H.k4, H.r1, n1 _ l2 H.r2, H.r3, n1 _ l3 H.r4, fun i hi => n1 i (H.lb.lt i hi) (H.d i hi)⟩, ?_, ?_⟩
  · exact ⟨ht.os, ht.tape, ht.output, ht.size, fun i hi hn => ht.block i hi (fun h => hn (by simp [fpC, h]))⟩
  · intro i hi
    simp only [fpC, List.mem_cons, List.mem_append] at hi ⊢
    rcases hi with h | h | h | h | h
    · exact .inl (.inl h)
    · exact .inl (.inr (.inl h))
    · exact .inl (.inr (.inr (.inl h)))
    · exact .inl (.inr (.inr (.inr (.inl h))))
    · exact (hg i h).imp (fun h => .inr (.inr (.inr (.inr h)))) id
theorem CxI.turnR (H : CxI w K cr eb em B M W s r mo kb km kw bw fb fm) (hr : Rg 85 3 (Value.int .i64) w' kw bw' cr W') (ht : Turned kw bw w w') (hb : bw' = bw ∨ w.heap.size ≤ bw' ∨ bw' = kw) :
    CxI w' K cr eb em B M W' s r mo kb km kw bw' fb fm ∧ TurnedL (fpC K kw bw fb fm) w w' ∧ Grew (fpC K kw bw fb fm) (fpC K kw bw' fb fm) w := by
  have l1 := H.box.lt
  have ne : ∀ i ∈ fb, i ≠ kw ∧ i ≠ bw := fun i hi => ⟨fun e => H.r1 (e ▸ hi), fun e => H.r3 (e ▸ hi)⟩
  have ne2 : ∀ i ∈ fm, i ≠ kw ∧ i ≠ bw := fun i hi => ⟨fun e => H.r2 (e ▸ hi), fun e => H.r4 (e ▸ hi)⟩
  refine ⟨⟨H.box.turned ht H.k3 H.k4, H.lb.back ht.size (fun i hi => ht.block i (H.lb.lt i hi) (ne i hi).1 (ne i hi).2), H.lm.back ht.size (fun i hi => ht.block i (H.lm.lt i hi) (ne2 i hi).1 (ne2 i hi).2), hr, H.k1, H.k2, H.k3, ?_, H.r1, H.r2, ?_, ?_, H.d⟩, ?_, ?_⟩
  · rcases hb with rfl | hb | rfl
    · exact H.k4
    · omega
    · exact H.k3
  · rcases hb with rfl | hb | rfl
    · exact H.r3
    · exact fun h => by have := H.lb.lt _ h; omega
    · exact H.r1
  · rcases hb with rfl | hb | rfl
    · exact H.r4
    · exact fun h => by have := H.lm.lt _ h; omega
    · exact H.r2
  · exact TurnedL.of_turned ht (.inl (by simp [fpC])) (.inl (by simp [fpC]))
  · intro i hi
    simp only [fpC, List.mem_cons, List.mem_append] at hi ⊢
    rcases hi with h | h | h | h | h
    · exact .inl (.inl h)
    · exact .inl (.inr (.inl h))
    · rcases hb with e | hb | e
      · exact .inl (.inr (.inr (.inl (h.trans e))))
      · exact .inr (h ▸ hb)
      · exact .inl (.inr (.inl (h.trans e)))
    · exact .inl (.inr (.inr (.inr (.inl h))))
    · exact .inl (.inr (.inr (.inr (.inr h))))
theorem CxI.set (H : CxI w K cr eb em B M W s r mo kb km kw bw fb fm) (j : Nat) (u : Value) {s' r' mo' : Int}
    (hj : (#[.pointer (some ⟨kb, 0, none⟩), .pointer (some ⟨km, 0, none⟩), .pointer (some ⟨kw, 0, none⟩), .int .u64 s, .int .u64 r, .int .i64 mo] : Array Value).setIfInBounds j u = #[.pointer (some ⟨kb, 0, none⟩), .pointer (some ⟨km, 0, none⟩), .pointer (some ⟨kw, 0, none⟩), .int .u64 s', .int .u64 r', .int .i64 mo']) :
    CxI (w.setCell ⟨K, j, none⟩ u) K cr eb em B M W s' r' mo' kb km kw bw fb fm ∧ TurnedL (fpC K kw bw fb fm) w (w.setCell ⟨K, j, none⟩ u) := by
  have hn : ∀ i, i ≠ K → (w.setCell ⟨K, j, none⟩ u).heap[i]? = w.heap[i]? := fun i h => Below.heap_setCell w ⟨K, j, none⟩ u i h
  have hsz : w.heap.size ≤ (w.setCell ⟨K, j, none⟩ u).heap.size := by simp
  have hb := H.box.set j u
  rw [hj] at hb
  exact ⟨⟨hb, H.lb.back hsz (fun i hi => hn i (fun e => H.k1 (e ▸ hi))), H.lm.back hsz (fun i hi => hn i (fun e => H.k2 (e ▸ hi))), H.ring.back (hn _ (fun e => H.k3 e.symm)) (fun _ => hn _ (fun e => H.k4 e.symm)), H.k1, H.k2, H.k3, H.k4, H.r1, H.r2, H.r3, H.r4, H.d⟩, TurnedL.set (by simp [fpC]) _ _ _⟩
theorem CxI.cells (H : CxI w K cr eb em B M W s r mo kb km kw bw fb fm) : w.cell? ⟨K, 0, none⟩ = some (.pointer (some ⟨kb, 0, none⟩)) ∧ w.cell? ⟨K, 1, none⟩ = some (.pointer (some ⟨km, 0, none⟩)) ∧ w.cell? ⟨K, 2, none⟩ = some (.pointer (some ⟨kw, 0, none⟩)) ∧ w.cell? ⟨K, 3, none⟩ = some (.int .u64 s) ∧ w.cell? ⟨K, 4, none⟩ = some (.int .u64 r) ∧ w.cell? ⟨K, 5, none⟩ = some (.int .i64 mo) :=
  ⟨(H.box.cellAt 0).trans rfl, (H.box.cellAt 1).trans rfl, (H.box.cellAt 2).trans rfl, (H.box.cellAt 3).trans rfl, (H.box.cellAt 4).trans rfl, (H.box.cellAt 5).trans rfl⟩
end
/-- A channel: its blocks fp, its state S. -/
def ChI (w : World) (fp : List Nat) (K cr : Nat) (S : FS Int) : Prop := S.wait.length ≤ cr ∧ cr ≤ 64 ∧ ∃ kb km kw bw fb fm, fp = fpC K kw bw fb fm ∧ CxI w K cr S.e S.e S.back S.mov S.wait S.s S.r S.mo kb km kw bw fb fm
section
variable {w w' : World} {fp : List Nat} {K cr : Nat} {S : FS Int}
theorem ChI.lt (H : ChI w fp K cr S) : ∀ i ∈ fp, i < w.heap.size := by
  obtain ⟨_, _, kb, km, kw, bw, fb, fm, rfl, H⟩ := H
  exact H.lt
theorem ChI.back (H : ChI w fp K cr S) (hs : w.heap.size ≤ w'.heap.size) (hb : ∀ i ∈ fp, w'.heap[i]? = w.heap[i]?) : ChI w' fp K cr S := by
  obtain ⟨h1, h2, kb, km, kw, bw, fb, fm, rfl, H⟩ := H
  exact ⟨h1, h2, kb, km, kw, bw, fb, fm, rfl, H.back hs hb⟩
theorem ChI.below (H : ChI w fp K cr S) (hb : Below w.heap.size w w') : ChI w' fp K cr S := H.back hb.size (fun i hi => hb.block i (H.lt i hi))
end
end Go.Proofs.Ytnomoekbfclckaa
