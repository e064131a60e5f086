/-
  Walks over package ring: Map.
-/
import Derived.Test.YtaoejpgjdoikiaaRPair2
import Derived.Test.YtaoejpgjdoikiaaRLawP
namespace Go.Proofs.Ytaoejpgjdoikiaa
open Go.RowKit

def pr (x : Int) : Int × Int := (x, ng x)
set_option maxHeartbeats 2000000 in
set_option maxRecDepth 100000 in
theorem Map_any {w : World} {k b mo : Nat} {q : List Int} (H : Rg 64 3 (Value.int .i64) w k b mo q) (hq : q.length ≤ 200000) :
    Calls Try.prog 18 #[.pointer (some ⟨k, 0, none⟩), .func (.func 19) #[] #[]] w fun e w' => ∃ k2 b2, e = .returned (.pointer (some ⟨k2, 0, none⟩)) ∧ R2 w' k2 b2 mo (q.map pr) ∧ w.heap.size ≤ k2 ∧ w.heap.size ≤ b2 ∧ b2 < w'.heap.size ∧ Below w.heap.size w w' := by
  have hall := AllI H hq
  have HR := hide H
  clear H
  go_enter Try.func18, Try.ntmps18
  go_wp2_with fail
  go_at_call 16
  refine hall.mono ?_
  rintro e w1 ⟨rfl, a1, b1⟩
  clear hall
  obtain ⟨L, h, so, H1⟩ := HR.out.below b1
  obtain ⟨c0, c1, c2, c3⟩ := H1.box.cells4
  have HA := hide a1
  have B1 := hide b1
  have hz1 := b1.size
  have hkw := H1.box.lt
  clear a1 b1
  obtain ⟨cs, ⟨hcs, hcx⟩, hmk⟩ := makeP w1.drew q.length (by omega)
  have HCS := hide (And.intro hcs hcx)
  clear hcs hcx
  have f0 := (H1.box.drew.alloc (.cells cs 39)).cells4.1
  clear c1 c2 c3
  go_wp2
  go_region
  have bel2 : Below w1.heap.size w1 ((w1.alloc (.cells cs 39)).alloc (.cells #[.int .i64 mo, .slice (some ⟨w1.heap.size, 0, none⟩) q.length q.length, .int .i64 0, .int .i64 q.length] 68)).drew := (((Below.refl _ _).alloc (Nat.le_refl _) _).alloc (by simp) _).drew
  have HI0 : Hid (InP w1 ((w1.alloc (.cells cs 39)).alloc (.cells #[.int .i64 mo, .slice (some ⟨w1.heap.size, 0, none⟩) q.length q.length, .int .i64 0, .int .i64 q.length] 68)).drew w1.heap.size (q.map pr) q.length 0 ∧ BoxT 68 ((w1.alloc (.cells cs 39)).alloc (.cells #[.int .i64 mo, .slice (some ⟨w1.heap.size, 0, none⟩) q.length q.length, .int .i64 0, .int .i64 q.length] 68)).drew (w1.heap.size + 1) #[.int .i64 mo, .slice (some ⟨w1.heap.size, 0, none⟩) q.length q.length, .int .i64 0, .int .i64 q.length]) :=
    ⟨⟨bel2, Nat.le_refl _, cs, (BoxT.new 39 w1 cs).alloc _, HCS.out.1, HCS.out.2, fun i p hp => by simp at hp⟩, (BoxT.new_at (by simp))⟩
  clear bel2 hmk f0 c0
  generalize ((w1.alloc (.cells cs 39)).alloc (.cells #[.int .i64 mo, .slice (some ⟨w1.heap.size, 0, none⟩) q.length q.length, .int .i64 0, .int .i64 q.length] 68)).drew = w2 at *
  obtain ⟨g, hg⟩ : ∃ g, g = w1.heap.size := ⟨_, rfl⟩
  have HG := hide hg
  rw [← hg] at HI0 hz1 hkw ⊢
  clear hg
  generalize hlq : q.length = m at *
  have HQ := hide hlq
  clear hlq
  go_wp2_with fail
  go_loopw [24] (fun iv wr => ∃ i : Nat, i ≤ m ∧ iv = .int .i64 i ∧ Hid (InP w1 wr g (q.map pr) m i ∧ BoxT 68 wr (g + 1) #[.int .i64 mo, .slice (some ⟨g, 0, none⟩) m m, .int .i64 0, .int .i64 m])) (fun iv _ => m - (intOf iv).toNat)
  case atStart => exact ⟨0, Nat.zero_le _, rfl, HI0.out⟩
  case round =>
    clear HI0
    obtain ⟨i, hi, rfl, HI⟩ := hrel
    by_cases hlt : i < m
    · obtain ⟨x, hx⟩ : ∃ x, q[i]? = some x := ⟨_, List.getElem?_eq_getElem (by rw [HQ.out]; exact hlt)⟩
      have hx2 : (q.map pr)[i]? = some (pr x) := by rw [List.getElem?_map, hx]; rfl
      have hl : wr.cell? ⟨w.heap.size, i, none⟩ = some (.int .i64 x) := by
        obtain ⟨cl, l1, l2, l3, l4⟩ := HA.out.box
        exact (HI.out.1.bel.cell (p := ⟨w.heap.size, i, none⟩) (by have := l1.lt; exact this)).trans ((l1.cellAt i).trans (l4 i x hx))
      have y1 := HI.out.2.cells4.2.1
      have HX := hide hx2
      have hgs : (g + 1) < wr.heap.size := HI.out.2.lt
      clear hx hx2
      have hn1 : ∀ j, (⟨g, j, none⟩ : Addr) ≠ ⟨g + 1, 1, none⟩ := fun j e => by have := congrArg Addr.block e; simp at this
      go_wp2_with fail
      go_region_held3 (fun w' => w'.cell? ⟨g + 1, 1, none⟩ = some (.slice (some ⟨g, 0, none⟩) m m)) (first | go_keep | exact y1 | exact z1 | exact (World.cell?_setCell_other _ _ _ _ (hn1 _)).trans ((World.cell?_setCell_other _ _ _ _ (hn1 _)).trans z1))
        (first | (go_at_call 42; refine (Of_any wr.drew x).mono ?_; rintro e w3 ⟨rfl, b3⟩; have B3 := hide (((Below.refl wr.heap.size wr).drew).trans b3); have z1 : w3.cell? ⟨g + 1, 1, none⟩ = some (.slice (some ⟨g, 0, none⟩) m m) := (b3.cell (p := ⟨g + 1, 1, none⟩) hgs).trans y1; have HS := hide (HI.out.1.step B3.out HX.out (by rw [List.length_map, HQ.out]; exact Nat.le_refl _)); have HK := (show Hid (BoxT 68 ((w3.setCell ⟨g, i * 2, none⟩ (.int .i64 (pr x).1)).setCell ⟨g, i * 2 + 1, none⟩ (.int .i64 (pr x).2)) (g + 1) #[.int .i64 mo, .slice (some ⟨g, 0, none⟩) m m, .int .i64 0, .int .i64 m]) from (by have h5 : BoxT 68 w3 (g + 1) #[.int .i64 mo, .slice (some ⟨g, 0, none⟩) m m, .int .i64 0, .int .i64 m] := (by have h6 := HI.out.2; unfold BoxT at *; rw [b3.block _ hgs]; exact h6); exact (h5.other _ _ (by omega)).other _ _ (by omega))); have z4 : ∀ t, t < m * 2 → ∃ u, w3.cell? ⟨g, t, none⟩ = some (.int .i64 u) := (by intro t ht; obtain ⟨cs, h1, h2⟩ := HI.out.1.box; obtain ⟨u, hu⟩ := h2.all t ht; exact ⟨u, (b3.cell (p := ⟨g, t, none⟩) h1.lt).trans ((h1.cellAt _).trans hu)⟩); have z5 : ∀ t, w3.frozen? ⟨g, t, none⟩ = false := (by obtain ⟨cs, h1, _⟩ := HI.out.1.box; have h5 : BoxT 39 w3 g cs := (by have h6 := h1.lt; unfold BoxT at *; rw [b3.block _ h6]; exact h1); exact h5.free); obtain ⟨u4, z6⟩ := z4 (i * 2) (by omega); obtain ⟨u5, z7⟩ := z4 (i * 2 + 1) (by omega); clear b3 z4))
      go_wp2
      go_roundw
      case rel => exact ⟨i + 1, by omega, by go_num, HS.out, HK.out⟩
      case measure => simp [intOf]; omega
    · obtain rfl : i = m := by omega
      go_wp2
      go_ret
      obtain ⟨⟨b6, g6, cs6, k6, p6⟩, x6⟩ := HI.out
      have hlm : (q.map pr).length = i := by rw [List.length_map, HQ.out]
      rw [List.take_of_length_le (by omega)] at p6
      refine ⟨g + 1, g, rfl, ⟨i, 0, some ⟨g, 0, none⟩, by rw [hlm]; exact x6, by omega, by omega, ?_⟩, by omega, by omega, k6.lt, B1.out.trans (b6.mono (by rw [← HG.out]; omega))⟩
      by_cases h0 : i = 0
      · exact .inl ⟨h0, rfl⟩
      · refine .inr ⟨by omega, rfl, by omega, cs6, k6, p6.size, p6.all, fun j p hp => ?_⟩
        have hj := (List.getElem?_eq_some_iff.1 hp).1
        rw [Nat.zero_add, Nat.mod_eq_of_lt (by omega)]
        exact p6.each j p hp
end Go.Proofs.Ytaoejpgjdoikiaa
