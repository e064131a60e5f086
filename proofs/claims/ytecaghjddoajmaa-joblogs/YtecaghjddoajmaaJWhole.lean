/-
  The document's Whole.
-/
import Derived.Test.YtecaghjddoajmaaJLogRef
namespace Go.Proofs.Ytecaghjddoajmaa
open Go.RowKit

theorem anyP_take {α : Type} {f : α → Bool} {l : List α} {t : Nat} {x : α} (hx : l[t]? = some x) : (l.take (t + 1)).any f = ((l.take t).any f || f x) := by
  have hl := lt_of_get hx
  rw [List.getElem?_eq_getElem hl] at hx
  cases hx
  rw [List.take_succ_eq_append_getElem hl, List.any_append]
  simp
set_option maxHeartbeats 8000000 in
set_option maxRecDepth 100000 in
theorem RefWhole_any {w : World} {u : Value} {ls : List En} (hl : LogIn w.heap.size w u ls) :
    Calls Try.prog 20 #[u] w fun e w' => e = .returned (.bool (wholeB ls)) ∧ w = w' := by
  obtain ⟨la, lcp, rfl⟩ := hl.seg.shape
  have hlen := hl.seg.len
  have HL := hide hl
  clear hl
  obtain ⟨R, hR⟩ : ∃ R, wholeB ls = R := ⟨_, rfl⟩
  rw [hR]
  unfold wholeB at hR
  have HR := hide hR
  clear hR
  go_enter Try.func20, Try.ntmps20
  go_wp2_with fail
  go_loopg [3] (ls.length + 1) (fun g iv wr => ∃ t : Nat, iv = .int .i64 (t : Int) ∧ t ≤ ls.length ∧ ls.length + 1 ≤ g + t ∧ Hid (((ls.take t).all fun e => e.pts.all wholeP) = true) ∧ w = wr)
  case atStart => exact ⟨0, rfl, by omega, by omega, rfl, rfl⟩
  case round =>
    obtain ⟨t, rfl, ht, hg, GA, rfl⟩ := hrel
    obtain ⟨go, rfl⟩ : ∃ go, gk = go + 1 := ⟨gk - 1, by omega⟩
    by_cases hlt : t < ls.length
    · obtain ⟨e, he⟩ := get_of_lt hlt
      have bt : (t : Int) < (ls.length : Int) := by omega
      obtain ⟨lb, lo, rfl, llt, e0⟩ := LSeg.one (f := fun e : En => Value.slice e.a e.pts.length e.c) HL.out.seg he
      have HP := hide (HL.out.pts e (List.mem_of_getElem? he))
      have hplen := HP.out.seg.len
      have hall := hide (allP_take (f := fun e : En => e.pts.all wholeP) he GA.out)
      have hnot : Hid (e.pts.all wholeP = false → R = false) := fun h => HR.out.symm.trans (allP_not (f := fun e : En => e.pts.all wholeP) he h)
      clear he
      obtain ⟨ya, yc, yp⟩ := e
      simp only at e0 HP hplen hall hnot
      obtain ⟨Q, hQ⟩ : ∃ Q, yp.all wholeP = Q := ⟨_, rfl⟩
      rw [hQ] at hall hnot
      have HQ := hide hQ
      have hn2 : Hid (Q = false → R = false) := hnot
      clear hQ hnot
      go_wp2_with fail
      go_loopg [4] (yp.length + 1) (fun g iv wi => ∃ s : Nat, iv = .int .i64 (s : Int) ∧ s ≤ yp.length ∧ yp.length + 1 ≤ g + s ∧ Hid ((yp.take s).all wholeP = true) ∧ w = wi)
      case atStart => exact ⟨0, rfl, by omega, by omega, rfl, rfl⟩
      case round =>
        obtain ⟨s, rfl, hs, hgs, GS, rfl⟩ := hrel
        obtain ⟨gi, rfl⟩ : ∃ gi, gk = gi + 1 := ⟨gk - 1, by omega⟩
        by_cases hls : s < yp.length
        · obtain ⟨x, hx⟩ := get_of_lt hls
          have bs : (s : Int) < (yp.length : Int) := by omega
          obtain ⟨pb, po, rfl, -, d0⟩ := LSeg.one (f := fun p : Pt => Value.slice p.a p.its.length p.c) HP.out.seg hx
          have HXI := hide (HP.out.its x (List.mem_of_getElem? hx))
          have hil := HXI.out.len
          have hal2 := hide (allP_take (f := wholeP) hx GS.out)
          have hno2 : Hid (wholeP x = false → R = false) := fun h => hn2.out (HQ.out.symm.trans (allP_not hx h))
          have hpk : wholeP x = x.its.any endB := rfl
          rw [hpk] at hal2 hno2
          clear hpk hx
          obtain ⟨xa, xc, xi⟩ := x
          simp only at d0 hal2 hno2 HXI hil
          obtain ⟨b, hb⟩ : ∃ b, xi.any endB = b := ⟨_, rfl⟩
          rw [hb] at hal2 hno2
          have HBB := hide hb
          have hal3 : Hid (b = true → (yp.take (s + 1)).all wholeP = true) := fun h => hal2.out.trans h
          have hno3 : Hid (b = false → R = false) := hno2
          clear hb hal2 hno2
          go_wp2_with fail
          go_loopg [5, 6] (xi.length + 1) (fun g ev iv wi => ∃ q : Nat, iv = .int .i64 (q : Int) ∧ ev = .bool ((xi.take q).any endB) ∧ q ≤ xi.length ∧ xi.length + 1 ≤ g + q ∧ w = wi)
          case atStart => exact ⟨0, rfl, rfl, by omega, by omega, rfl⟩
          case round =>
            obtain ⟨q, rfl, rfl, hq, hgq, rfl⟩ := hrel
            obtain ⟨gq, rfl⟩ : ∃ gq, gk = gq + 1 := ⟨gk - 1, by omega⟩
            by_cases hlq : q < xi.length
            · obtain ⟨y, hy⟩ := get_of_lt hlq
              have bq : (q : Int) < (xi.length : Int) := by omega
              obtain ⟨ib, io, rfl, -, f0, f1, f2, f3, f4⟩ := HXI.out.item hy
              have hany := hide (anyP_take (f := endB) hy)
              clear hy
              obtain ⟨c, hc⟩ : ∃ c, (xi.take q).any endB = c := ⟨_, rfl⟩
              rw [hc] at hany ⊢
              clear hc hal3 hno3
              obtain ⟨kd, ky, ti, va, mk⟩ := y
              unfold endB at hany
              simp only at f0 f1 f2 f3 f4 hany
              cases c with
              | true =>
                go_wp2_with fail
                go_roundg gq
                case rel => exact ⟨q + 1, by go_num, by rw [show (xi.take (q + 1)).any endB = true from hany.out], by omega, by omega, rfl⟩
                case measure => omega
              | false =>
                by_cases k2 : kd = 2
                · subst k2
                  by_cases m9 : mk = 9223372036854775807
                  · subst m9
                    have HA : Hid ((xi.take (q + 1)).any endB = true) := hany.out.trans (by simp [mkB9])
                    clear hany
                    go_wp2_with fail
                    go_roundg gq
                    case rel => exact ⟨q + 1, by go_num, by rw [HA.out], by omega, by omega, rfl⟩
                    case measure => omega
                  · have q9 : (mk == 9223372036854775807) = false := by simp [m9]
                    have HA : Hid ((xi.take (q + 1)).any endB = false) := hany.out.trans (by simp [mkB9, m9])
                    clear hany m9
                    go_wp2_with fail
                    go_roundg gq
                    case rel => exact ⟨q + 1, by go_num, by rw [HA.out], by omega, by omega, rfl⟩
                    case measure => omega
                · have q2 : (kd == 2) = false := by simp [k2]
                  have HA : Hid ((xi.take (q + 1)).any endB = false) := hany.out.trans (by simp [k2])
                  clear hany k2
                  go_wp2_with fail
                  go_roundg gq
                  case rel => exact ⟨q + 1, by go_num, by rw [HA.out], by omega, by omega, rfl⟩
                  case measure => omega
            · have bq : ¬ (q : Int) < (xi.length : Int) := by omega
              have hbe : (xi.take q).any endB = b := by rw [List.take_of_length_le (by omega)]; exact HBB.out
              rw [hbe]
              clear hbe
              cases b with
              | true =>
                have HA := hide (hal3.out rfl)
                clear hal3 hno3 HBB
                go_wp2_with fail
                go_roundg gi
                case rel => exact ⟨s + 1, by go_num, by omega, by omega, HA, rfl⟩
                case measure => omega
              | false =>
                have HN := hide (hno3.out rfl)
                clear hal3 hno3 HBB
                go_wp2_with fail
                go_ret
                exact ⟨ret_bool HN.out.symm, rfl⟩
        · have bs : ¬ (s : Int) < (yp.length : Int) := by omega
          have HA : Hid (((ls.take (t + 1)).all fun e => e.pts.all wholeP) = true) := by
            have := GS.out
            rw [List.take_of_length_le (by omega)] at this
            exact hall.out.trans (HQ.out.symm.trans this)
          clear hn2 hall
          go_wp2_with fail
          go_roundg go
          case rel => exact ⟨t + 1, by go_num, by omega, by omega, HA, rfl⟩
          case measure => omega
    · have bt : ¬ (t : Int) < (ls.length : Int) := by omega
      have HT : Hid (R = true) := by
        have := GA.out
        rw [List.take_of_length_le (by omega)] at this
        exact HR.out.symm.trans this
      go_wp2_with fail
      go_ret
      exact ⟨ret_bool HT.out.symm, rfl⟩
end Go.Proofs.Ytecaghjddoajmaa
