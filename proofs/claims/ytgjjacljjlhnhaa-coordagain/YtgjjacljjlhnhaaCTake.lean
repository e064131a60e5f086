/-
  Take that does nothing.
-/
import Derived.Test.YtgjjacljjlhnhaaCTick
namespace Go.Proofs.Ytgjjacljjlhnhaa
open Go.RowKit

theorem Take_at {w W w1 : World} {m : Ct} (hb : Below w.heap.size w W) (hx : BoxT 32 W w.heap.size #[.int .i64 m.kind, .int .u64 (m.ep : Int), .int .u64 (m.n : Int), .int .i64 m.task]) {k : Nat} {P : Sh} {s : Cd} (h : CX w k P s) (h1 : Below W.heap.size W w1) : CX w1 k P s ∧ w1.cell? ⟨w.heap.size, 3, none⟩ = some (.int .i64 m.task) := ⟨(h.below hb).below h1, (hx.below h1).cells4.2.2.2⟩
theorem CX.far {w w1 w2 : World} {k : Nat} {P : Sh} {s s2 : Cd} (h : CX w k P s) {m : Ct} (hx : BoxT 32 w1 w.heap.size #[.int .i64 m.kind, .int .u64 (m.ep : Int), .int .u64 (m.n : Int), .int .i64 m.task]) (c : CP w1 w2 k P s2) : w2.cell? ⟨w.heap.size, 3, none⟩ = some (.int .i64 m.task) := by
  have hn : ¬ Mu P k w.heap.size := fun hm => by
    have := h.flt _ (.inl hm)
    omega
  exact (hx.back (c.f.block _ hx.lt hn)).cells4.2.2.2
set_option maxHeartbeats 4000000 in
set_option maxRecDepth 100000 in
theorem Take_old {w : World} {k : Nat} {P : Sh} {s : Cd} (h : CX w k P s) (m : Ct) (he : m.ep ≠ s.ep) :
    Calls Try.prog 16 #[.pointer (some ⟨k, 0, none⟩), .agg #[.int .i64 m.kind, .int .u64 (m.ep : Int), .int .u64 (m.n : Int), .int .i64 m.task]] w fun r w' => r = .returned (.tuple #[.int .u64 0, .slice none 0 0]) ∧ CP w w' k P s := by
  obtain ⟨W, hW⟩ : ∃ W, W = w.alloc (.cells #[.int .i64 m.kind, .int .u64 (m.ep : Int), .int .u64 (m.n : Int), .int .i64 m.task] 32) := ⟨_, rfl⟩
  have hb1 : Below w.heap.size w W := by rw [hW]; exact below_box w _
  have hx1 : BoxT 32 W w.heap.size #[.int .i64 m.kind, .int .u64 (m.ep : Int), .int .u64 (m.n : Int), .int .i64 m.task] := by rw [hW]; exact BoxT.new _ _ _
  obtain ⟨b0, b1, b2, b3⟩ := hx1.cells4
  have z3 := (h.below hb1).c3
  have z4 := (h.below hb1).c4
  have z5 := (h.below hb1).c5
  have HW := hide hW
  have HB := hide hb1
  have HX := hide hx1
  have H := hide h
  have bq : ¬ ((m.ep : Int) = (s.ep : Int)) := by omega
  clear h hW hb1 hx1 z4 z5 b2 b3 he
  go_enter Try.func16, Try.ntmps16
  go_wp2_with fail
  rw [← HW.out]
  go_quiet (fail)
  go_wp2_with fail
  refine bodyPost_ret (v := .tuple #[.int .u64 0, .slice none 0 0]) (by simp [results, Try.results16, go_sem]) rfl ⟨rfl, H.out.cp.below (HB.out.trans ((below_drewN (Below.refl _ _) _).mono HB.out.size))⟩
set_option maxHeartbeats 4000000 in
set_option maxRecDepth 100000 in
theorem Take_none {w : World} {k : Nat} {P : Sh} {s : Cd} (h : CX w k P s) (m : Ct) (he : m.ep = s.ep) (h6 : ¬ (m.kind = 6 ∧ m.n = s.du)) (h4 : ¬ (m.kind = 4 ∧ m.n = s.du)) (h2 : ¬ (m.kind = 2 ∧ m.n = s.un ∧ 0 < s.un)) :
    Calls Try.prog 16 #[.pointer (some ⟨k, 0, none⟩), .agg #[.int .i64 m.kind, .int .u64 (m.ep : Int), .int .u64 (m.n : Int), .int .i64 m.task]] w fun r w' => r = .returned (.tuple #[.int .u64 0, .slice none 0 0]) ∧ CP w w' k P s := by
  obtain ⟨W, hW⟩ : ∃ W, W = w.alloc (.cells #[.int .i64 m.kind, .int .u64 (m.ep : Int), .int .u64 (m.n : Int), .int .i64 m.task] 32) := ⟨_, rfl⟩
  have hb1 : Below w.heap.size w W := by rw [hW]; exact below_box w _
  have hx1 : BoxT 32 W w.heap.size #[.int .i64 m.kind, .int .u64 (m.ep : Int), .int .u64 (m.n : Int), .int .i64 m.task] := by rw [hW]; exact BoxT.new _ _ _
  obtain ⟨b0, b1, b2, b3⟩ := hx1.cells4
  have z3 := (h.below hb1).c3
  have z4 := (h.below hb1).c4
  have z5 := (h.below hb1).c5
  have HW := hide hW
  have HB := hide hb1
  have HX := hide hx1
  have H := hide h
  rw [he] at b1
  obtain ⟨kd, hk⟩ : ∃ kd, m.kind = kd := ⟨_, rfl⟩
  obtain ⟨mn, hn⟩ : ∃ mn, m.n = mn := ⟨_, rfl⟩
  obtain ⟨mt, ht⟩ : ∃ mt, m.task = mt := ⟨_, rfl⟩
  obtain ⟨me, hme⟩ : ∃ me, m.ep = me := ⟨_, rfl⟩
  rw [hk] at h6 h4 h2 b0 HW
  rw [hn] at h6 h4 h2 b2 HW
  rw [ht] at b3 HW
  rw [hme] at he HW
  rw [hk, hn, ht, hme]
  clear h hW hb1 hx1 HX hk hn ht hme
  subst he
  by_cases k6 : kd = 6
  · subst k6
    have bq : ¬ ((mn : Int) = (s.du : Int)) := by intro e; exact h6 ⟨rfl, by omega⟩
    clear h6 h4 h2
    go_enter Try.func16, Try.ntmps16
    go_wp2_with fail
    rw [← HW.out]
    go_quiet (fail)
    go_wp2_with fail
    go_quiet (fail)
    go_wp2_with fail
    go_quiet (fail)
    go_wp2_with fail
    go_quiet (fail)
    go_wp2_with fail
    refine bodyPost_ret (v := .tuple #[.int .u64 0, .slice none 0 0]) (by simp [results, Try.results16, go_sem]) rfl ⟨rfl, H.out.cp.below (HB.out.trans ((below_drewN (below_drewN (below_drewN (below_drewN (Below.refl _ _) _) _) _) _).mono HB.out.size))⟩
  · by_cases k4 : kd = 4
    · subst k4
      have bq : ¬ ((mn : Int) = (s.du : Int)) := by intro e; exact h4 ⟨rfl, by omega⟩
      clear h6 h4 h2
      go_enter Try.func16, Try.ntmps16
      go_wp2_with fail
      rw [← HW.out]
      go_quiet (fail)
      go_wp2_with fail
      go_quiet (fail)
      go_wp2_with fail
      go_quiet (fail)
      go_wp2_with fail
      go_quiet (fail)
      go_wp2_with fail
      refine bodyPost_ret (v := .tuple #[.int .u64 0, .slice none 0 0]) (by simp [results, Try.results16, go_sem]) rfl ⟨rfl, H.out.cp.below (HB.out.trans ((below_drewN (below_drewN (below_drewN (below_drewN (Below.refl _ _) _) _) _) _).mono HB.out.size))⟩
    · by_cases k2 : kd = 2
      · subst k2
        by_cases hu : mn = s.un
        · subst hu
          have hz : s.un = 0 := by
            rcases Nat.eq_zero_or_pos s.un with e | e
            · exact e
            · exact absurd ⟨rfl, rfl, e⟩ h2
          clear h6 h4 h2
          have bq : ¬ ((s.un : Int) > 0) := by omega
          clear hz
          go_enter Try.func16, Try.ntmps16
          go_wp2_with fail
          rw [← HW.out]
          go_quiet (fail)
          go_wp2_with fail
          go_quiet (fail)
          go_wp2_with fail
          go_quiet (fail)
          go_wp2_with fail
          go_quiet (fail)
          go_wp2_with fail
          refine bodyPost_ret (v := .tuple #[.int .u64 0, .slice none 0 0]) (by simp [results, Try.results16, go_sem]) rfl ⟨rfl, H.out.cp.below (HB.out.trans ((below_drewN (below_drewN (below_drewN (below_drewN (Below.refl _ _) _) _) _) _).mono HB.out.size))⟩
        · have bq : ¬ ((mn : Int) = (s.un : Int)) := by omega
          clear h6 h4 h2
          go_enter Try.func16, Try.ntmps16
          go_wp2_with fail
          rw [← HW.out]
          go_quiet (fail)
          go_wp2_with fail
          go_quiet (fail)
          go_wp2_with fail
          go_quiet (fail)
          go_wp2_with fail
          go_quiet (fail)
          go_wp2_with fail
          refine bodyPost_ret (v := .tuple #[.int .u64 0, .slice none 0 0]) (by simp [results, Try.results16, go_sem]) rfl ⟨rfl, H.out.cp.below (HB.out.trans ((below_drewN (below_drewN (below_drewN (below_drewN (Below.refl _ _) _) _) _) _).mono HB.out.size))⟩
      · clear h6 h4 h2
        go_enter Try.func16, Try.ntmps16
        go_wp2_with fail
        rw [← HW.out]
        go_quiet (fail)
        go_wp2_with fail
        go_quiet (fail)
        go_wp2_with fail
        go_quiet (fail)
        go_wp2_with fail
        go_quiet (fail)
        go_wp2_with fail
        refine bodyPost_ret (v := .tuple #[.int .u64 0, .slice none 0 0]) (by simp [results, Try.results16, go_sem]) rfl ⟨rfl, H.out.cp.below (HB.out.trans ((below_drewN (below_drewN (below_drewN (below_drewN (Below.refl _ _) _) _) _) _).mono HB.out.size))⟩

end Go.Proofs.Ytgjjacljjlhnhaa
