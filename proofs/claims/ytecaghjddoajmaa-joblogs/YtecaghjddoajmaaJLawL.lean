/-
  JobLogs walked.
-/
import Derived.Test.YtecaghjddoajmaaJWhole
import Derived.Test.YtecaghjddoajmaaJKnown
namespace Go.Proofs.Ytecaghjddoajmaa
open Go.RowKit

set_option maxHeartbeats 8000000 in
set_option maxRecDepth 100000 in
theorem JobLogs_walk {w : World} {v u : Value} {ns : List Nd} {ls : List En} (hj : JobIn w.heap.size w v ns) (hE : ExIn w ns) (hl : LogIn w.heap.size w u ls) :
    Calls Try.prog 4 #[.agg #[v], u] w fun e w' => e = .returned (.bool true) ∧ Below w.heap.size w w' := by
  obtain ⟨na, ncp, rfl⟩ := hj.shape
  obtain ⟨la, lcp, rfl⟩ := hl.seg.shape
  have hlen := hl.seg.len
  have hb : Below w.heap.size w (w.alloc (.cells #[.slice na ns.length ncp] 24)) := (Below.refl _ _).alloc (Nat.le_refl _) _
  have HB := hide hb
  have HX := hide (BoxT.new 24 w #[.slice na ns.length ncp])
  have HJ := hide hj
  have HE := hide hE
  have HL := hide hl
  have HK := hide (known_any (w.alloc (.cells #[.slice na ns.length ncp] 24)))
  clear hb hj hE hl
  go_enter Try.func4, Try.ntmps4
  go_wp2_with (go_at_call 8; refine HK.out.mono ?_; rintro e w1 ⟨rfl, b1⟩; have B1 := hide (HB.out.trans (b1.mono HB.out.size)); have X1 := hide (HX.out.below b1); have c1 : w1.cell? ⟨w.heap.size, 0, none⟩ = some (.slice na ns.length ncp) := (by rw [X1.out.cellAt]; rfl); clear b1 HK)
  refine (light_any ((HJ.out.below B1.out).mono B1.out.size) (HE.out.below B1.out)).mono ?_
  rintro e w2 ⟨lv, rfl, hlg, b2⟩
  have B2 := hide (B1.out.trans (b2.mono B1.out.size))
  have X2 := hide (X1.out.below b2)
  clear b2 X1 B1 c1
  rcases hlg with rfl | ⟨rfl, h40, -⟩
  · go_wp2_with fail
    go_ret
    exact ⟨rfl, B2.out⟩
  by_cases hl40 : ls.length ≤ 40
  · have cl : (ls.length : Int) ≤ 40 := by omega
    go_wp2_with fail
    go_loopg [5, 6] (ls.length + 1) (fun g nv iv wr => ∃ t : Nat, iv = .int .i64 (t : Int) ∧ nv = .int .i64 ((((ls.take t).map fun e => itemsP e.pts).sum : Nat) : Int) ∧ t ≤ ls.length ∧ ls.length + 1 ≤ g + t ∧ ((ls.take t).map fun e => itemsP e.pts).sum ≤ 20000 ∧ w2 = wr)
    case atStart => exact ⟨0, rfl, rfl, by omega, by omega, by simp, rfl⟩
    case round =>
      obtain ⟨t, rfl, rfl, ht, hg, hle, rfl⟩ := hrel
      obtain ⟨go, rfl⟩ : ∃ go, gk = go + 1 := ⟨gk - 1, by omega⟩
      by_cases hlt : t < ls.length
      · obtain ⟨e, he⟩ := get_of_lt hlt
        have bt : (t : Int) < (ls.length : Int) := by omega
        obtain ⟨lb, lo, rfl, llt, e0⟩ := LSeg.one (f := fun e : En => Value.slice e.a e.pts.length e.c) (HL.out.below B2.out).seg he
        have HP := hide ((HL.out.below B2.out).pts e (List.mem_of_getElem? he))
        have hplen := HP.out.seg.len
        have hst := hide (sum_take (f := fun e : En => itemsP e.pts) he)
        clear he
        obtain ⟨ya, yc, yp⟩ := e
        simp only at e0 HP hplen hst
        obtain ⟨q, hq⟩ : ∃ q, ((ls.take t).map fun e : En => itemsP e.pts).sum = q := ⟨_, rfl⟩
        rw [hq] at hst hle ⊢
        clear hq
        by_cases hp40 : yp.length ≤ 40
        · have cp : (yp.length : Int) ≤ 40 := by omega
          go_wp2_with fail
          go_loopg [5, 7] (yp.length + 1) (fun g nv iv wi => ∃ s : Nat, iv = .int .i64 (s : Int) ∧ nv = .int .i64 (((q + ((yp.take s).map fun p => p.its.length).sum : Nat)) : Int) ∧ s ≤ yp.length ∧ yp.length + 1 ≤ g + s ∧ q + ((yp.take s).map fun p => p.its.length).sum ≤ 20000 ∧ w2 = wi)
          case atStart => exact ⟨0, rfl, rfl, by omega, by omega, by simpa using hle, rfl⟩
          case round =>
            obtain ⟨s, rfl, rfl, hs, hgs, hle2, rfl⟩ := hrel
            obtain ⟨gi, rfl⟩ : ∃ gi, gk = gi + 1 := ⟨gk - 1, by omega⟩
            by_cases hls : s < yp.length
            · obtain ⟨x, hx⟩ := get_of_lt hls
              have bs : (s : Int) < (yp.length : Int) := by omega
              obtain ⟨pb, po, rfl, -, d0⟩ := LSeg.one (f := fun p : Pt => Value.slice p.a p.its.length p.c) HP.out.seg hx
              have hil := (HP.out.its x (List.mem_of_getElem? hx)).len
              have hst2 := hide (sum_take (f := fun p : Pt => p.its.length) hx)
              clear hx
              obtain ⟨xa, xc, xi⟩ := x
              simp only at d0 hst2 hil
              obtain ⟨r, hr⟩ : ∃ r, ((yp.take s).map fun p : Pt => p.its.length).sum = r := ⟨_, rfl⟩
              rw [hr] at hst2 hle2 ⊢
              clear hr
              push_cast
              by_cases h2 : q + r + xi.length ≤ 20000
              · have c2 : (q : Int) + (r : Int) + (xi.length : Int) ≤ 20000 := by omega
                go_wp2_with fail
                go_roundg gi
                case rel => exact ⟨s + 1, by go_num, by rw [hst2.out]; go_num, by omega, by omega, by rw [hst2.out]; omega, rfl⟩
                case measure => omega
              · have c2 : ¬ (q : Int) + (r : Int) + (xi.length : Int) ≤ 20000 := by omega
                go_wp2_with fail
                go_ret
                exact ⟨rfl, B2.out⟩
            · have bs : ¬ (s : Int) < (yp.length : Int) := by omega
              have hse : ((yp.take s).map fun p : Pt => p.its.length).sum = itemsP yp := by rw [List.take_of_length_le (by omega)]; rfl
              rw [hse, ← hst.out] at hle2
              rw [hse, ← hst.out]
              clear hse
              go_wp2_with fail
              go_roundg go
              case rel => exact ⟨t + 1, by go_num, by rw [List.map_take], by omega, by omega, hle2, rfl⟩
              case measure => omega
        · have cp : ¬ (yp.length : Int) ≤ 40 := by omega
          go_wp2_with fail
          go_ret
          exact ⟨rfl, B2.out⟩
      · have bt : ¬ (t : Int) < (ls.length : Int) := by omega
        have hse : ((ls.take t).map fun e : En => itemsP e.pts).sum = itemsN ls := by rw [List.take_of_length_le (by omega)]; rfl
        rw [hse] at hle ⊢
        clear hse
        have HLE := hide hle
        have c2 : w2.cell? ⟨w.heap.size, 0, none⟩ = some (.slice na ns.length ncp) := by rw [X2.out.cellAt]; rfl
        obtain ⟨N, hN⟩ : ∃ N, itemsN ls = N := ⟨_, rfl⟩
        have HN := hide hN
        rw [hN]
        clear hN hle
        have BD := hide B2.out.drew
        have XD : Hid (BoxT 24 w2.drew w.heap.size #[.slice na ns.length ncp]) := X2.out
        have H17 := hide (Logs_any (w := w2.drew) ((HJ.out.below BD.out).mono BD.out.size) ((HL.out.below BD.out).mono BD.out.size))
        have H18 : Hid (∀ W, Below w.heap.size w W → Calls Try.prog 18 #[.agg #[.slice na ns.length ncp], .slice la ls.length lcp] W fun e w' => e = .returned (.int .i64 (logE ns ls)) ∧ Below W.heap.size W w') := fun W hW => LogsOf_any ((HJ.out.below hW).mono hW.size) ((HL.out.below hW).mono hW.size)
        have H19 : Hid (∀ W, Below w.heap.size w W → Calls Try.prog 19 #[.slice la ls.length lcp] W fun e w' => e = .returned (.bool (wholeB ls)) ∧ Below W.heap.size W w') := fun W hW => Whole_any ((HL.out.below hW).mono hW.size)
        have H20 : Hid (∀ W, Below w.heap.size w W → Calls Try.prog 20 #[.slice la ls.length lcp] W fun e w' => e = .returned (.bool (wholeB ls)) ∧ W = w') := fun W hW => RefWhole_any ((HL.out.below hW).mono hW.size)
        have H21 : Hid (∀ W, Below w.heap.size w W → Calls Try.prog 21 #[.slice la ls.length lcp] W fun e w' => e = .returned (.int .i64 (N : Int)) ∧ W = w') := fun W hW => by
          have := Items_any ((HL.out.below hW).mono hW.size) (by have := HLE.out; omega)
          rw [HN.out] at this
          exact this
        generalize logE ns ls = le at *
        generalize wholeB ls = wb at *
        clear c2
        have zz : w2.drew.cell? ⟨w.heap.size, 0, none⟩ = some (.slice na ns.length ncp) := by rw [XD.out.cellAt]; rfl
        go_wp2_with fail
        go_region_held3 (fun w' => w'.cell? ⟨w.heap.size, 0, none⟩ = some (.slice na ns.length ncp)) (first | go_keep | exact zz | exact z3 | exact z4 | exact z5)
          (first | (go_at_call 17; refine H17.out.mono ?_; rintro e w3 ⟨rfl, b3⟩; have B3 := hide (BD.out.trans (b3.mono BD.out.size)); have X3 := hide (XD.out.below b3); have z3 : w3.cell? ⟨w.heap.size, 0, none⟩ = some (.slice na ns.length ncp) := (by rw [X3.out.cellAt]; rfl); clear b3)
                 | (go_at_call 18; refine (H18.out _ B3.out).mono ?_; rintro e w4 ⟨rfl, b4⟩; have B4 := hide (B3.out.trans (b4.mono B3.out.size)); have X4 := hide (X3.out.below b4); have z4 : w4.cell? ⟨w.heap.size, 0, none⟩ = some (.slice na ns.length ncp) := (by rw [X4.out.cellAt]; rfl); clear b4)
                 | (go_at_call 19; refine (H19.out _ B4.out).mono ?_; rintro e w5 ⟨rfl, b5⟩; have B5 := hide (B4.out.trans (b5.mono B4.out.size)); have X5 := hide (X4.out.below b5); have z5 : w5.cell? ⟨w.heap.size, 0, none⟩ = some (.slice na ns.length ncp) := (by rw [X5.out.cellAt]; rfl); clear b5)
                 | (go_at_call 20; refine (H20.out _ B5.out).mono ?_; rintro e w6 ⟨rfl, rfl⟩)
                 | (go_at_call 21; refine (H21.out _ B5.out).mono ?_; rintro e w7 ⟨rfl, rfl⟩))
        all_goals
          go_wp2_with fail
          go_ret
          exact ⟨ret_bool (by simp), B5.out⟩
  · have cl : ¬ (ls.length : Int) ≤ 40 := by omega
    go_wp2_with fail
    go_ret
    exact ⟨rfl, B2.out⟩
end Go.Proofs.Ytecaghjddoajmaa
