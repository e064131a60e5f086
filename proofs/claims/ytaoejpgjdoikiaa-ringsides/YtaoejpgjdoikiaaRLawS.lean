/-
  The law RingSides, walked.
-/
import Derived.Test.YtaoejpgjdoikiaaRLawR
import Derived.Test.YtaoejpgjdoikiaaROpen
import Derived.Test.YtaoejpgjdoikiaaRStr2
namespace Go.Proofs.Ytaoejpgjdoikiaa
open Go.RowKit

theorem strcs_len (x : ByteArray) : (strcs x).length = 1 := rfl
theorem strcs_one (x : ByteArray) : ∀ u ∈ strcs x, u.oneCell' = true := fun u hu => by simp [strcs] at hu; subst hu; rfl
theorem LSeg.str {B : Nat} {w : World} {xs : List ByteArray} {ao : Option Addr} {cap : Nat} (h : LSeg 1 strcs B w (.slice ao xs.length cap) xs) {i : Nat} {x : ByteArray} (hp : xs[i]? = some x) :
    ∃ b off, ao = some ⟨b, off, none⟩ ∧ b < B ∧ w.cell? ⟨b, off + i, none⟩ = some (.string x) := by
  obtain ⟨ao', cap', e, h2, h4⟩ := h
  cases e
  rcases h4 with h4 | ⟨b, off, h5, h6, h7⟩
  · subst h4; simp at hp
  · exact ⟨b, off, h5, h6, by simpa using h7 i x hp 0 _ rfl⟩

set_option maxHeartbeats 4000000 in
set_option maxRecDepth 100000 in
theorem RingSides_walk (w : World) (mo : Int) (fa ba : Option Addr) (fc bc : Nat) (fr bk : List ByteArray) (hf : Hid (LSeg 1 strcs w.heap.size w (.slice fa fr.length fc) fr)) (hb : Hid (LSeg 1 strcs w.heap.size w (.slice ba bk.length bc) bk)) :
    Calls Try.prog 6 #[.int .i64 mo, .slice fa fr.length fc, .slice ba bk.length bc] w fun e w' => e = .returned (.bool true) ∧ Below w.heap.size w w' := by
  have hknown := known_any w
  have hlenf : fr.length ≤ 140737488355328 := by obtain ⟨_, _, e, h2, _⟩ := hf.out; exact h2
  have hlenb : bk.length ≤ 140737488355328 := by obtain ⟨_, _, e, h2, _⟩ := hb.out; exact h2
  go_enter Try.func6, Try.ntmps6
  go_wp2_with fail
  refine hknown.mono ?_
  rintro e w1 ⟨rfl, hb1⟩
  clear hknown
  have HB1 := hide hb1
  clear hb1
  by_cases hl1 : fr.length ≤ 40
  rotate_left
  · have h40 : (40 : Int) < fr.length := by omega
    go_wp2
    go_ret
    exact ⟨rfl, HB1.out⟩
  have h40 : ¬ ((40 : Int) < fr.length) := by omega
  by_cases hl2 : bk.length ≤ 40
  rotate_left
  · have h41 : (40 : Int) < bk.length := by omega
    go_wp2
    go_ret
    exact ⟨rfl, HB1.out⟩
  have h41 : ¬ ((40 : Int) < bk.length) := by omega
  go_wp2_with fail
  go_at_call 23
  refine (Place_any w1 mo 100 (by omega) (by omega)).mono ?_
  rintro e w2 ⟨rfl, rfl⟩
  have ha0 : 0 ≤ mo % 100 := Int.emod_nonneg _ (by omega)
  have ha1 : mo % 100 < 100 := Int.emod_lt_of_pos _ (by omega)
  obtain ⟨m0, hm0⟩ : ∃ m : Nat, mo % 100 = (m : Int) := ⟨(mo % 100).toNat, by omega⟩
  rw [hm0] at ha0 ha1 ⊢
  clear hm0
  go_wp2_with fail
  go_at_call 28
  refine (NewS w2 _).mono ?_
  rintro e w3 ⟨rfl, r3, l3⟩
  have hsz := HB1.out.size
  have hz3 := r3.lt
  have hmm : (min (max (1 + (m0 : Int)) 1) 65536).toNat = m0 + 1 := by omega
  rw [hmm] at r3
  have HT : Hid (∃ b, RI 75 9 Value.string strcs w w3 w2.heap.size b (m0 + 1) (.slice none 0 0) [] []) :=
    ⟨_, r3, Row.nil _ _ _ _ _, HB1.out.trans (l3.mono hsz), hsz, hsz, hz3, fun g e => (by cases e)⟩
  clear r3 l3 hsz HB1 hmm hz3
  generalize w2.heap.size = k at *
  go_wp2_with fail
  go_loopw [8, 9] (fun qv iv wr => ∃ (i : Nat) (q : List ByteArray), i ≤ bk.length ∧ iv = .int .i64 i ∧ q.length = min i (m0 + 1) ∧ Hid (∃ b, RI 75 9 Value.string strcs w wr k b (m0 + 1) qv q q)) (fun _ iv _ => bk.length - (intOf iv).toNat)
  case atStart => exact ⟨0, [], Nat.zero_le _, rfl, by simp, HT.out⟩
  case round =>
    obtain ⟨i, q, hi, rfl, hq, b, HI⟩ := hrel
    obtain ⟨qa, qc, rfl⟩ := HI.row.shape
    have HI := hide HI
    have HQ := hide hq
    clear hq
    by_cases hlt : i < bk.length
    · obtain ⟨x, hx⟩ : ∃ x, bk[i]? = some x := ⟨_, List.getElem?_eq_getElem hlt⟩
      obtain ⟨bb, off, rfl, hbb, c0⟩ := (hb.out.below HI.out.bel).str hx
      clear hx
      go_wp2_with fail
      go_at_call 29
      refine (PutS HI.out.r (by omega) x).mono ?_
      rintro e w4 ⟨rfl, b4, r4, t4, h4⟩
      have B4 := hide (t4.toBelow HI.out.bel HI.out.bel.size HI.out.hk HI.out.hb)
      have H4 := hide (HI.out.turn r4 t4 h4)
      have hc4 : w4.cell? ⟨bb, off + i, none⟩ = some (.string x) := by
        have h5 := (hb.out.below B4.out).str (i := i) (x := x)
        have h6 := (hb.out.below HI.out.bel)
        refine Eq.trans (World.cell?_of_block ?_) c0
        exact (B4.out.block bb hbb).trans (HI.out.bel.block bb hbb).symm
      clear r4 t4 h4 c0
      by_cases hroom : q.length < m0 + 1
      · rw [if_pos hroom] at H4
        have hri : (i : Int) < 1 + (m0 : Int) := by have := HQ.out; omega
        obtain ⟨b5, H5⟩ := H4.out
        have ba : Below w4.heap.size w4 (w4.alloc (.cells #[.string x] 9)) := (Below.refl _ _).alloc (Nat.le_refl _) _
        have H6 := hide (H5.below ba)
        have hz6 := H6.out.bel.size
        clear HI ba H5 H4
        go_wp2_with (first | (at_builtin; refine app_row Try.info9' Try.underlying50 rfl (by decide) (by decide) strcs_len strcs_one rfl _ _ rfl w.heap.size _ q rfl H6.out.row ⟨w4.heap.size, 0, none⟩ 1 x rfl (fun j u hu => by match j, hu with | 0, hu => simp [strcs] at hu; subst hu; simp [Addr.add]) (by have := HQ.out; omega) hz6 ?_) | fail)
        intro v7 w7 hr7 hg7 hat7
        have H7 := hide (H6.out.rowed hr7 hg7 (fun g e => (hat7 g e).imp id (fun h => by simpa using h)))
        clear hr7 hg7 hat7 H6
        go_wp2
        go_roundw
        case rel => exact ⟨i + 1, q ++ [x], by omega, by go_num, by have := HQ.out; simp only [List.length_append, List.length_singleton]; omega, _, H7.out⟩
        case measure => simp [intOf]; omega
      · rw [if_neg hroom] at H4
        have hri : ¬ ((i : Int) < 1 + (m0 : Int)) := by have := HQ.out; omega
        clear HI
        go_wp2
        go_roundw
        case rel => exact ⟨i + 1, q, by omega, by go_num, by have := HQ.out; omega, H4.out⟩
        case measure => simp [intOf]; omega
    · obtain rfl : i = bk.length := by omega
      have hq1 : q.length ≤ 40 := by have := HQ.out; omega
      have H2 : Hid (∃ b, RI 75 9 Value.string strcs w wr k b (m0 + 1) (.slice qa q.length qc) q q) := ⟨b, HI.out⟩
      clear HQ HI
      go_wp2_with fail
      go_loopw [8, 10, 11] (fun qv iv _ wr => ∃ (i : Nat) (q : List ByteArray), i ≤ fr.length ∧ iv = .int .i64 i ∧ q.length ≤ 40 + i ∧ Hid (∃ b, RI 75 9 Value.string strcs w wr k b (m0 + 1) qv q q)) (fun _ iv _ _ => fr.length - (intOf iv).toNat)
      case atStart => exact ⟨0, q, Nat.zero_le _, rfl, by omega, H2.out⟩
      case round =>
        clear H2 hq1 hi hlt
        obtain ⟨i, q, hi, rfl, hq, b, HI⟩ := hrel
        obtain ⟨qa, qc, rfl⟩ := HI.row.shape
        have HI := hide HI
        by_cases hlt : i < fr.length
        · obtain ⟨x, hx⟩ : ∃ x, fr[i]? = some x := ⟨_, List.getElem?_eq_getElem hlt⟩
          obtain ⟨bb, off, rfl, hbb, c0⟩ := (hf.out.below HI.out.bel).str hx
          clear hx
          go_wp2_with fail
          go_at_call 30
          refine (FrontS HI.out.r (by omega) x).mono ?_
          rintro e w4 ⟨rfl, b4, r4, t4, h4⟩
          have B4 := hide (t4.toBelow HI.out.bel HI.out.bel.size HI.out.hk HI.out.hb)
          have H4 := hide (HI.out.turn r4 t4 h4)
          have hc4 : w4.cell? ⟨bb, off + i, none⟩ = some (.string x) :=
            Eq.trans (World.cell?_of_block ((B4.out.block bb hbb).trans (HI.out.bel.block bb hbb).symm)) c0
          clear r4 t4 h4 c0
          by_cases hroom : q.length < 2 * (m0 + 1)
          · rw [if_pos hroom] at H4
            have hri : (q.length : Int) < 2 * (1 + (m0 : Int)) := by omega
            obtain ⟨b5, H5⟩ := H4.out
            have H5 := hide H5
            clear HI H4
            go_wp2_with (first | (at_builtin; refine app_front (f := Value.string) (cs := strcs) (fun _ => rfl) (fun _ => rfl) Try.info9' Try.underlying50 rfl (by decide) rfl _ _ rfl x w.heap.size (.slice qa q.length qc) q rfl rfl H5.out.row (by omega) ?_) | fail)
            intro v7 w7 hr7 hb7
            have H7 := hide (H5.out.newRow hr7 hb7)
            clear hr7 hb7 H5
            go_wp2
            go_roundw
            case rel => exact ⟨i + 1, x :: q, by omega, by go_num, by simp only [List.length_cons]; omega, _, H7.out⟩
            case measure => simp [intOf]; omega
          · rw [if_neg hroom] at H4
            have hri : ¬ ((q.length : Int) < 2 * (1 + (m0 : Int))) := by omega
            clear HI
            go_wp2
            go_roundw
            case rel => exact ⟨i + 1, q, by omega, by go_num, by omega, H4.out⟩
            case measure => simp [intOf]; omega
        · obtain rfl : i = fr.length := by omega
          have hq1 : q.length ≤ 80 := by omega
          go_wp2_with fail
          have H3 : Hid (RI 75 9 Value.string strcs w wr k b (m0 + 1) (.slice qa q.length qc) q q) := HI
          go_loopw [12] (fun iv wr => ∃ (i : Nat), i ≤ q.length ∧ iv = .int .i64 i ∧ Hid (RI 75 9 Value.string strcs w wr k b (m0 + 1) (.slice qa q.length qc) q q)) (fun iv _ => q.length - (intOf iv).toNat)
          case atStart => exact ⟨0, Nat.zero_le _, rfl, H3.out⟩
          case round =>
            clear H3 HI hi hlt
            obtain ⟨i, hi, rfl, HI⟩ := hrel
            by_cases hlt : i < q.length
            · obtain ⟨j, hj⟩ : ∃ j : Nat, j + i + 1 = q.length := ⟨q.length - 1 - i, by omega⟩
              obtain ⟨x, hx⟩ : ∃ x, q[j]? = some x := ⟨_, List.getElem?_eq_getElem (by omega)⟩
              have hji : (q.length : Int) - 1 - i = (j : Int) := by omega
              go_wp2_with fail
              go_at_call 31
              refine (PeekS HI.out.r hx (by omega)).mono ?_
              rintro e w4 ⟨rfl, b4⟩
              have H4 := hide (HI.out.below b4)
              obtain ⟨g, off, cap, e, hc⟩ := H4.out.get (fun _ => rfl) hx
              cases e
              clear HI b4 hx
              have hjl : (j : Int) < q.length := by omega
              go_wp2
              go_roundw
              case rel => exact ⟨i + 1, by omega, by go_num, H4.out⟩
              case measure => simp [intOf]; omega
            · obtain rfl : i = q.length := by omega
              have H5 : Hid (∃ b, RI 75 9 Value.string strcs w wr k b (m0 + 1) (.slice qa q.length qc) (q.drop 0) q) := ⟨b, HI.out⟩
              clear HI
              go_wp2_with fail
              go_loopw [15] (fun iv wr => ∃ (i : Nat), i ≤ q.length ∧ iv = .int .i64 i ∧ Hid (∃ b, RI 75 9 Value.string strcs w wr k b (m0 + 1) (.slice qa q.length qc) (q.drop i) q)) (fun iv _ => q.length - (intOf iv).toNat)
              case atStart => exact ⟨0, Nat.zero_le _, rfl, H5.out⟩
              case round =>
                clear H5 hi hlt
                obtain ⟨i, hi, rfl, b, HI⟩ := hrel
                have HI := hide HI
                by_cases hlt : i < q.length
                · obtain ⟨x, hx⟩ : ∃ x, q[i]? = some x := ⟨_, List.getElem?_eq_getElem hlt⟩
                  have hdr : q.drop i = x :: q.drop (i + 1) := by
                    rw [List.drop_eq_getElem_cons hlt]
                    congr 1
                    rw [List.getElem?_eq_getElem hlt] at hx
                    exact Option.some.inj hx
                  rw [hdr] at HI
                  go_wp2_with fail
                  go_at_call 32
                  refine (TakeS HI.out.r).mono ?_
                  rintro e w4 ⟨rfl, b4, r4, t4, h4⟩
                  obtain ⟨b5, H4⟩ := HI.out.turn r4 t4 h4
                  obtain ⟨g, off, cap, e, hc⟩ := H4.get (fun _ => rfl) hx
                  cases e
                  have H4 := hide H4
                  clear HI r4 t4 h4 hx hdr
                  go_wp2
                  go_roundw
                  case rel => exact ⟨i + 1, by omega, by go_num, _, H4.out⟩
                  case measure => simp [intOf]; omega
                · obtain rfl : i = q.length := by omega
                  rw [List.drop_length] at HI
                  go_wp2_with fail
                  go_at_call 33
                  refine (LenS HI.out.r).mono ?_
                  rintro e w4 ⟨rfl, rfl⟩
                  go_wp2
                  go_ret
                  exact ⟨rfl, HI.out.bel⟩
end Go.Proofs.Ytaoejpgjdoikiaa
