/-
  Check of an expression whose operands lie in rows that bear no mark.
-/
import Derived.Test.YtjdefmjcnpgjiaaDoorEThr
namespace Go.Proofs.YtjdefmjcnpgjiaaDoor
open Go.RowKit

theorem Free.places {w : World} {e : Ex} (h : Free w e) : ∀ p ∈ places e, Pl w p := by
  intro p hp
  obtain ⟨y, hy, hp⟩ := List.mem_flatMap.1 hp
  obtain ⟨i, hi, rfl⟩ := List.mem_map.1 hp
  have hi' := List.mem_range.1 hi
  obtain ⟨b, o, cur, t, h1, h2⟩ := h y hy (by intro e; rw [e] at hi'; simp at hi')
  refine ⟨cur, t, ?_⟩
  unfold place
  rw [h1]
  exact h2
set_option maxHeartbeats 1000000 in
set_option maxRecDepth 100000 in
theorem check_any {w : World} (e : Ex) (hin : In w e) (hfr : Free w e) (hsm : (places e).length ≤ 100000) :
    Calls Tryd.prog 11 #[e.val] w fun r w' => r = .returned (.int .i64 (chk e)) ∧ Below w.heap.size w w' := by
  by_cases hn : (cnt e 1 0).2 = 71
  · have hb0 := below1 w (.cells #[.int .i64 e.op, .int .i64 e.n, .slice e.a e.l.length e.c] 24)
    have hct := hide (count_any e _ 1 0 (hin.below hb0) (by omega) (by omega) (by omega) (by omega))
    have HTH : Hid (∀ w', Below w.heap.size w w' → Calls Tryd.prog 25 #[e.val] w' fun r w'' => r = .returned (.bool (formed e)) ∧ Below w'.heap.size w' w'') := fun w' hw' => by
      have hw2 : Below w.heap.size w w' := hw'
      exact thr_any e w' (hin.below hw2) (fun p hp => (hfr.places p hp).below hw2) hsm
    have HB := hide hb0
    have hc : chk e = if formed e then 71 else 70 := by
      rcases chk_of e with ⟨h1, h2⟩ | ⟨h1, h2⟩ | ⟨h1, h2⟩
      · rw [h1] at hn; cases hn
      · rw [h1] at hn; cases hn
      · exact h2
    rw [hc]
    rw [hn] at hct
    clear hc hb0 hin hfr hsm hn
    obtain ⟨eo, en, ea, ec, el⟩ := e
    unfold Ex.val at hct HTH ⊢
    simp only at hct HB HTH ⊢
    generalize formed ⟨eo, en, ea, ec, el⟩ = fm at *
    generalize (cnt ⟨eo, en, ea, ec, el⟩ 1 0).1 = cn at *
    cases fm
    · go_enter Tryd.func11, Tryd.ntmps11
      go_wp2_with (first | (go_at_call 24; refine hct.out.mono ?_; rintro e w2 ⟨rfl, hb2⟩; have HB2 := hide (HB.out.trans (hb2.mono HB.out.size)); have hb20 := hb2.cell (p := ⟨w.heap.size, 0, none⟩) (by simp); have hb21 := hb2.cell (p := ⟨w.heap.size, 1, none⟩) (by simp); have hb22 := hb2.cell (p := ⟨w.heap.size, 2, none⟩) (by simp); simp at hb20 hb21 hb22; clear hb2) | (go_at_call 25; refine (HTH.out _ HB2.out).mono ?_; rintro e w3 ⟨rfl, hb3⟩))
      go_ret
      exact ⟨rfl, HB2.out.trans (hb3.mono HB2.out.size)⟩
    · go_enter Tryd.func11, Tryd.ntmps11
      go_wp2_with (first | (go_at_call 24; refine hct.out.mono ?_; rintro e w2 ⟨rfl, hb2⟩; have HB2 := hide (HB.out.trans (hb2.mono HB.out.size)); have hb20 := hb2.cell (p := ⟨w.heap.size, 0, none⟩) (by simp); have hb21 := hb2.cell (p := ⟨w.heap.size, 1, none⟩) (by simp); have hb22 := hb2.cell (p := ⟨w.heap.size, 2, none⟩) (by simp); simp at hb20 hb21 hb22; clear hb2) | (go_at_call 25; refine (HTH.out _ HB2.out).mono ?_; rintro e w3 ⟨rfl, hb3⟩))
      go_ret
      exact ⟨rfl, HB2.out.trans (hb3.mono HB2.out.size)⟩
  · exact check_few e hin hn
end Go.Proofs.YtjdefmjcnpgjiaaDoor
