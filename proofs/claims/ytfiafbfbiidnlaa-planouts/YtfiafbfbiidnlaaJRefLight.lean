/-
  The document's light: of a job in a row.
-/
import Derived.Test.YtfiafbfbiidnlaaJRefNode
namespace Go.Proofs.Ytfiafbfbiidnlaa
open Go.RowKit

/-- A job in a row, as a law makes it. -/
structure InRow (ns : List Nd) : Prop where
  l1 : 1 ≤ ns.length
  l2 : ns.length ≤ 12
  shp : ∀ n ∈ ns, Shp n
  ok : ∀ n ∈ ns, InOk ns n
  ch : Chain (ns.map Nd.ins)
theorem InRow.ordR {ns : List Nd} (h : InRow ns) : Go.Proofs.Ytfiafbfbiidnlaa.ordR (ns.map Nd.ins) (ns.length + 1) (List.replicate ns.length false) = List.range ns.length := by
  have := ordR_chain h.ch ns.length 0 (ns.length + 1) (by simp) (by omega)
  rw [List.length_map, upTo_zero] at this
  rw [this, List.range_eq_range']
theorem InRow.ordC {ns : List Nd} (h : InRow ns) : Go.Proofs.Ytfiafbfbiidnlaa.ordC (ns.map Nd.ins) = List.range ns.length := by
  rw [ordC_chain h.ch, List.length_map]
set_option maxHeartbeats 8000000 in
set_option maxRecDepth 100000 in
theorem rlight_any {w : World} {v : Value} {ns : List Nd} (hr : InRow ns) (hj : JobIn w.heap.size w v ns) :
    Calls Try.prog 39 #[.agg #[v]] w fun e w' => e = .returned (.int .i64 0) ∧ Below w.heap.size w w' := by
  obtain ⟨na, ncp, rfl⟩ := hj.shape
  have hb : Below w.heap.size w (w.alloc (.cells #[.slice na ns.length ncp] 24)) := (Below.refl _ _).alloc (Nat.le_refl _) _
  have HB := hide hb
  have HX := hide (BoxT.new 24 w #[.slice na ns.length ncp])
  have HJ := hide hj
  have HR := hide hr
  have l1 : (ns.length : Int) ≤ 12 := by have := hr.l2; omega
  have l2 : ((ns.length : Int) == 0) = false := by have := hr.l1; rw [beq_eq_false_iff_ne]; omega
  clear hb hj hr
  go_enter Try.func39, Try.ntmps39
  go_wp2_with fail
  go_loopg [3] (ns.length + 1) (fun g iv wr => ∃ t : Nat, iv = .int .i64 (t : Int) ∧ t ≤ ns.length ∧ ns.length + 1 ≤ g + t ∧ Hid (Below w.heap.size w wr) ∧ Hid (BoxT 24 wr w.heap.size #[.slice na ns.length ncp]))
  case atStart => exact ⟨0, rfl, by omega, by omega, HB, HX⟩
  case round =>
    obtain ⟨t, rfl, ht, hg, GB, GX⟩ := hrel
    obtain ⟨go, rfl⟩ : ∃ go, gk = go + 1 := ⟨gk - 1, by omega⟩
    have cx : wr.cell? ⟨w.heap.size, 0, none⟩ = some (.slice na ns.length ncp) := by rw [GX.out.cellAt]; rfl
    by_cases hlt : t < ns.length
    · obtain ⟨n, hn⟩ := get_of_lt hlt
      have bt : (t : Int) < (ns.length : Int) := by omega
      obtain ⟨nb, no, rfl, nlt, d0, d1, d2, d3, d4, d5, d6, d7, d8, d9⟩ := (HJ.out.below GB.out).at_ hn
      have hmem := List.mem_of_getElem? hn
      have HN : Hid (Calls Try.prog 49 #[.agg #[.slice (some ⟨nb, no, none⟩) ns.length ncp], n.val] wr.drew fun e w' => e = .returned (.int .i64 0) ∧ Below wr.heap.size wr.drew w') :=
        node_any (B := w.heap.size) (w := wr.drew) n (HR.out.shp n hmem) (HR.out.ok n hmem) (HJ.out.below GB.out.drew) ((HJ.out.ins n hmem).below GB.out.drew) GB.out.size
      clear hn hmem nlt
      obtain ⟨kd, ia, icp, ins, par, ⟨eo, en, ea, ec, el⟩, ag, wk, ws, wl⟩ := n
      unfold Nd.val at HN
      simp only at d0 d1 d2 d3 d4 d5 d6 d7 d8 d9 HN
      go_wp2_with fail
      go_region_law (go_simp; go_at_call 49; refine HN.out.mono ?_; rintro e w1 ⟨rfl, b1⟩)
      all_goals
        go_wp2_with fail
        go_roundg go
        case rel => exact ⟨t + 1, by go_num, by omega, by omega, GB.out.drew.trans (b1.mono GB.out.size), GX.out.drew.below b1⟩
        case measure => omega
    · have bt : ¬ (t : Int) < (ns.length : Int) := by omega
      have HO : Hid (Calls Try.prog 50 #[.agg #[.slice na ns.length ncp]] wr.drew fun e w' => ∃ rv, e = .returned rv ∧ OwnN wr.heap.size w' rv (List.range ns.length) ∧ Below wr.heap.size wr.drew w') := by
        have := RefOrder_any (w := wr.drew) ((HJ.out.below GB.out.drew).mono GB.out.size) (by have := HR.out.l2; omega)
        rw [HR.out.ordR] at this
        exact this
      have GX2 : Hid (BoxT 24 wr.drew w.heap.size #[.slice na ns.length ncp]) := GX.out.drew
      go_wp2_with fail
      go_region_law (go_simp; go_at_call 50; refine HO.out.mono ?_; rintro e w1 ⟨rv, rfl, o1, b1⟩; obtain ⟨ra, rc, hrv⟩ := o1.shape; rw [List.length_range] at hrv; subst hrv; have cy : w1.cell? ⟨w.heap.size, 0, none⟩ = some (.slice na ns.length ncp) := (by rw [(GX2.out.below b1).cellAt]; rfl); clear o1)
      all_goals
        go_wp2_with fail
        go_ret
        exact ⟨rfl, GB.out.drew.trans (b1.mono GB.out.size)⟩
end Go.Proofs.Ytfiafbfbiidnlaa
