/-
  Texts of the vault, in build order: VTidy.
-/
import Derived.Test.YtbfhcbihgleddaaGreatDoorM26
import Derived.Deep.RegionLaw
/-
  The vault's tidy.
-/
namespace Go.Proofs.YtbfhcbihgleddaaGreatDoor
open Go.RowKit

/-- What tidy does: it deletes the waste, till the power is gone. -/
def pTidy : Pd → List ByteArray → Pd × List ByteArray
  | p, [] => (p, [])
  | p, s :: ws => if (pDelete p (nm s)).2 = 23 then ((pDelete p (nm s)).1, s :: ws) else pTidy (pDelete p (nm s)).1 ws
def wlen (w : World) (V : Nat) : Nat := match w.cell? ⟨V, 3, none⟩ with | some (.slice _ n _) => n | _ => 0

theorem wlen_of {w : World} {V n c : Nat} {a : Option Addr} (h : w.cell? ⟨V, 3, none⟩ = some (.slice a n c)) : wlen w V = n := by unfold wlen; rw [h]
set_option maxHeartbeats 2000000 in
set_option maxRecDepth 100000 in
theorem tidy_any {w0 w : World} {V k b n : Nat} {p : Pd} {keep : Int} {vt vw : Value} {th : List SpV} {ws : List ByteArray} (h : VAt w0 w V k b n p keep vt vw th ws) (hs : ∀ s ∈ ws, s.size ≤ maxLen) (hws : ws.length ≤ 1000000) (p' : Pd) (ws' : List ByteArray) (hp : pTidy p ws = (p', ws')) :
    Calls Tryz.prog 38 #[.pointer (some ⟨V, 0, none⟩)] w fun e w' => e = .returned (.tuple #[]) ∧ ∃ vw', VAt w0 w' V k b n p' keep vt vw' th ws' ∧ VT V k b vw vw' w w' := by
  have H0 : Hid (∃ vw1 p1 ws1, VAt w0 w V k b n p1 keep vt vw1 th ws1 ∧ VT V k b vw vw1 w w ∧ pTidy p1 ws1 = (p', ws') ∧ (∀ s ∈ ws1, s.size ≤ maxLen) ∧ ws1.length ≤ 1000000) := ⟨vw, p, ws, h, VT.refl _ _ _ _ _, hp, hs, hws⟩
  clear h hs hp hws
  go_enter Tryz.func38, Tryz.ntmps38
  go_wp2
  go_loopw [] (fun wr => Hid (∃ vw1 p1 ws1, VAt w0 wr V k b n p1 keep vt vw1 th ws1 ∧ VT V k b vw vw1 w wr ∧ pTidy p1 ws1 = (p', ws') ∧ (∀ s ∈ ws1, s.size ≤ maxLen) ∧ ws1.length ≤ 1000000)) (fun wr => wlen wr V)
  case atStart => exact H0
  case round =>
    obtain ⟨vw1, p1, ws1, h1, t1, hp1, hs1, hl1⟩ := hrel.out
    have HV := hide h1
    have HT := hide t1
    have HP := hide hp1
    have HS := hide hs1
    obtain ⟨c0, c1, c2, c3⟩ := h1.box.cells4
    have cf := h1.box.free
    obtain ⟨aw, cw, hvw⟩ := h1.wr.shape
    subst hvw
    have HD := hide (h1.below ((Below.refl _ _).drew))
    obtain ⟨d0, d1, d2, d3⟩ := HD.out.box.cells4
    clear h1 t1 hp1 hs1 H0 hrel
    cases ws1 with
    | nil =>
      go_wp2_with fail
      go_region
      all_goals
        go_wp2
        have hpe : (p1, ([] : List ByteArray)) = (p', ws') := HP.out
        cases hpe
        go_end0
        exact ⟨rfl, _, HD.out, VT.trans HT.out (VT.below ((Below.refl _ _).drew))⟩
    | cons s ws2 =>
      have hsz := HS.out s (by simp)
      obtain ⟨p2, e2, hp2⟩ : ∃ p2 e2, pDelete p1 (nm s) = (p2, e2) := ⟨_, _, rfl⟩
      obtain ⟨g, off, rfl, -, hcap, -, -⟩ := HV.out.wr.tail (fun _ => rfl)
      obtain ⟨g', off', cap', e, hrd⟩ := HV.out.wr.read (i := 0) (x := s) (fun _ => rfl) rfl
      cases e
      have hs0 := hrd 0 _ rfl
      have hs1 : wr.drew.cell? ⟨g, off, none⟩ = some (.string s) := by simpa using hs0
      have hs2 : wr.cell? ⟨g, off, none⟩ = some (.string s) := by simpa using hs0
      clear hrd hs0
      go_wp2_with fail
      go_region_law (go_simp; go_at_call 29; refine (kDelete HD.out.st s hsz p2 e2 hp2).mono ?_; rintro e w2 ⟨rfl, h2, t2⟩)
      all_goals
        have HV2 := hide (HD.out.disk t2 h2)
        have HT2 := hide (VT.trans HT.out (VT.trans (VT.below ((Below.refl _ _).drew)) (VT.turned t2)))
        have C3 := hide c3
        clear h2 t2 HD d0 d1 d2 d3 c0 c1 c2 c3 cf hs1 hs2 HV HT
        obtain ⟨x0, x1, x2, x3⟩ := HV2.out.box.cells4
        have xf := HV2.out.box.free
        by_cases he : e2 = 23
        · subst he
          have hpe : (p2, s :: ws2) = (p', ws') := by
            have := HP.out
            rw [pTidy, hp2, if_pos rfl] at this; exact this
          have HPE := hide hpe
          clear hpe
          go_wp2
          cases HPE.out
          go_end0
          exact ⟨rfl, _, HV2.out, HT2.out⟩
        · have hpe : pTidy p2 ws2 = (p', ws') := by
            have := HP.out
            rw [pTidy, hp2, if_neg he] at this; exact this
          have HPE := hide hpe
          have he' : (e2 == 23) = false := by simpa using he
          clear hpe he
          obtain ⟨g2, off2, ea, -, -, hA, hB⟩ := HV2.out.wr.tail (fun _ => rfl)
          cases ea
          by_cases hc1 : cw = 1
          · subst hc1
            obtain ⟨hB1, hB2⟩ := hB rfl
            subst hB2
            have HN : Hid (VAt w0 (w2.setCell ⟨V, 3, none⟩ (.slice (some ⟨g, off, none⟩) 0 0)) V k b n p2 keep vt (.slice (some ⟨g, off, none⟩) 0 0) th [] ∧ VT V k b _ (.slice (some ⟨g, off, none⟩) 0 0) w2 (w2.setCell ⟨V, 3, none⟩ (.slice (some ⟨g, off, none⟩) 0 0))) := HV2.out.setWaste hB1 (grownBy_refl _ _) (fun _ e => .inl e)
            clear hA hB hB1
            go_wp2
            go_roundw
            case rel => exact ⟨_, p2, [], HN.out.1, VT.trans HT2.out HN.out.2, HPE.out, (fun z hz => by cases hz), by simp⟩
            case measure => rw [wlen_of HN.out.1.box.cells4.2.2.2, wlen_of C3.out]; simp
          · have hA1 := hA hc1
            have HN := hide (HV2.out.setWaste hA1 (grownBy_refl _ _) (fun _ e => .inl e))
            clear hA hB hA1
            go_wp2
            go_roundw
            case rel => exact ⟨_, p2, ws2, HN.out.1, VT.trans HT2.out HN.out.2, HPE.out, fun z hz => HS.out z (by simp [hz]), by simp at hl1; omega⟩
            case measure => rw [wlen_of HN.out.1.box.cells4.2.2.2, wlen_of C3.out]; simp
end Go.Proofs.YtbfhcbihgleddaaGreatDoor
