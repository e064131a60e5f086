/-
  The law RingPlays, walked.
-/
import Derived.Test.YtaoejpgjdoikiaaRLawR
import Derived.Deep.CutBlock
import Derived.Deep.CutRange
namespace Go.Proofs.Ytaoejpgjdoikiaa
open Go.RowKit

set_option maxRecDepth 100000 in
theorem ClearI {w : World} {k b mo : Nat} {q : List Int} (H : Rg 64 3 (Value.int .i64) w k b mo q) :
    Calls Try.prog 13 #[.pointer (some ⟨k, 0, none⟩)] w fun e w' => e = .returned (.tuple #[]) ∧ Rg 64 3 (Value.int .i64) w' k b mo [] ∧ Turned k b w w' := by
  obtain ⟨L, h, so, H⟩ := H
  obtain ⟨c0, c1, c2, c3⟩ := H.box.cells4
  have cf := H.box.free
  have HB := hide H.box
  clear H
  go_enter Try.func13, Try.ntmps13
  go_wp2
  go_end0
  refine ⟨rfl, ⟨0, 0, none, ?_, Nat.le_refl _, by omega, .inl ⟨rfl, rfl, rfl⟩⟩, ((Turned.set k b _ 1 _).trans (Turned.set k b _ 2 _)).trans (Turned.set k b _ 3 _)⟩
  simpa using ((HB.out.set 1 (.slice none 0 0)).set 2 (.int .i64 0)).set 3 (.int .i64 0)
/-- A list that is the caller's, from block base on; whatever lies there may be written over. -/
structure Mine (base : Nat) (w : World) (g n : Nat) (xs : List Int) : Prop where
  at_ : base ≤ g
  box : ∃ cs : Array Value, BoxT 3 w g cs ∧ cs.size = n ∧ (∀ j : Nat, j < n → ∃ x : Int, cs[j]? = some (.int .i64 x)) ∧ ∀ (j : Nat) (x : Int), xs[j]? = some x → cs[j]? = some (.int .i64 x)
set_option maxHeartbeats 1000000 in
set_option maxRecDepth 100000 in
theorem AllI {w : World} {k b mo : Nat} {q : List Int} (H : Rg 64 3 (Value.int .i64) w k b mo q) (hq : q.length ≤ 200000) :
    Calls Try.prog 16 #[.pointer (some ⟨k, 0, none⟩)] w fun e w' => e = .returned (.slice (some ⟨w.heap.size, 0, none⟩) q.length q.length) ∧ Mine w.heap.size w' w.heap.size q.length q ∧ Below w.heap.size w w' := by
  obtain ⟨L, h, so, H⟩ := H
  obtain ⟨c0, c1, c2, c3⟩ := H.box.cells4
  have hin := inSlotsI (n := q.length) H (Nat.le_refl _) (by omega) rfl
  clear H
  go_enter Try.func16, Try.ntmps16
  go_wp2_with (first | (go_at_call 41; refine hin.mono ?_; rintro e w1 ⟨rfl, h1⟩) | fail)
  go_ret
  obtain ⟨cs, b1, b2, b3, b4⟩ := h1.box
  exact ⟨rfl, ⟨Nat.le_refl _, cs, b1, b2, b3, fun j x hx => b4 j x (List.getElem?_eq_some_iff.1 hx).1 hx⟩, h1.bel⟩
theorem Mine.lseg {base : Nat} {w : World} {g : Nat} {xs : List Int} (h : Mine base w g xs.length xs) (hx : xs.length ≤ 1000000) : LSeg 1 i64cs w.heap.size w (.slice (some ⟨g, 0, none⟩) xs.length xs.length) xs := by
  obtain ⟨cs, b1, b2, b3, b4⟩ := h.box
  refine ⟨_, _, rfl, by omega, .inr ⟨g, 0, rfl, b1.lt, fun i x hx j u hu => ?_⟩⟩
  have hj : j = 0 := by have := (List.getElem?_eq_some_iff.1 hu).1; simp [i64cs] at this; omega
  subst hj
  simp [i64cs] at hu
  subst hu
  rw [b1.cellAt]
  simpa using b4 i x hx
theorem Mine.below {base n : Nat} {w w' : World} {g : Nat} {xs : List Int} (h : Mine base w g n xs) (hb : Below w.heap.size w w') : Mine base w' g n xs := by
  obtain ⟨cs, b1, b2⟩ := h.box
  exact ⟨h.at_, cs, by have := b1.lt; unfold BoxT at *; rw [hb.block g this]; exact b1, b2⟩
theorem Mine.spoil {base n : Nat} {w : World} {g : Nat} {xs : List Int} (h : Mine base w g n xs) (j : Nat) (u : Int) (hj : j < n) : Mine base (w.setCell ⟨g, j, none⟩ (.int .i64 u)) g n [] := by
  obtain ⟨cs, b1, b2, b3, b4⟩ := h.box
  refine ⟨h.at_, _, b1.set j _, by simpa using b2, fun i hi => ?_, fun i x hx => by simp at hx⟩
  by_cases e : j = i
  · subst e; exact ⟨u, by simp [b2, hj]⟩
  · rw [Array.getElem?_setIfInBounds_ne e]; exact b3 i hi

set_option maxHeartbeats 16000000 in
set_option maxRecDepth 100000 in
theorem RingPlays_walk (w : World) (mo : Int) (ao : Option Addr) (cap : Nat) (xs : List Stp) (hs : Hid (LSeg 2 Stp.cs w.heap.size w (.slice ao xs.length cap) xs)) :
    Calls Try.prog 3 #[.int .i64 mo, .slice ao xs.length cap] w fun e w' => e = .returned (.bool true) ∧ Below w.heap.size w w' := by
  have hknown := known_any w
  have hlen : xs.length ≤ 140737488355328 := by obtain ⟨_, _, e, h2, _⟩ := hs.out; exact h2
  go_enter Try.func3, Try.ntmps3
  go_wp2_with fail
  refine hknown.mono ?_
  rintro e w1 ⟨rfl, hb1⟩
  clear hknown
  have HB1 := hide hb1
  clear hb1
  by_cases hl : xs.length ≤ 500
  rotate_left
  · go_wp2
    go_ret
    exact ⟨rfl, HB1.out⟩
  go_wp2_with fail
  go_at_call 8
  refine (NewI w1 mo).mono ?_
  rintro e w3 ⟨rfl, r3, l3⟩
  have hsz := HB1.out.size
  have hz3 := r3.lt
  obtain ⟨m, hm⟩ : ∃ m : Nat, (min (max mo 1) 65536).toNat = m := ⟨_, rfl⟩
  rw [hm] at r3
  have hmm : m ≤ 65536 := by omega
  have HT : Hid (∃ b, RI 64 3 (Value.int .i64) i64cs w w3 w1.heap.size b m (.slice none 0 0) [] []) :=
    ⟨_, r3, Row.nil _ _ _ _ _, HB1.out.trans (l3.mono hsz), hsz, hsz, hz3, fun g e => (by cases e)⟩
  obtain ⟨m', hm'⟩ : ∃ m' : Nat, (m' : Int) = max mo 1 := ⟨(max mo 1).toNat, by omega⟩
  have hmx : (if mo < 1 then (1 : Int) else mo) = (m' : Int) := by split <;> omega
  have hmn : (if (65536 : Int) < (m' : Int) then (65536 : Int) else (m' : Int)) = (m : Int) := by split <;> omega
  clear hm' r3 l3 hsz HB1 hz3 hm
  generalize w1.heap.size = k at *
  go_wp2_with fail
  clear hmx hmn
  go_loopw [6, 7] (fun qv iv wr => ∃ (i : Nat) (q : List Int), i ≤ xs.length ∧ iv = .int .i64 i ∧ q.length ≤ i ∧ Hid (∃ b, RI 64 3 (Value.int .i64) i64cs w wr k b m qv q q)) (fun _ iv _ => xs.length - (intOf iv).toNat)
  case atStart => exact ⟨0, [], Nat.zero_le _, rfl, by simp, HT.out⟩
  case round =>
    obtain ⟨i, q, hi, rfl, hq, b, HI⟩ := hrel
    obtain ⟨qa, qc, rfl⟩ := HI.row.shape
    replace HI := hide HI
    by_cases hlt : i < xs.length
    · obtain ⟨t, ht⟩ : ∃ t, xs[i]? = some t := ⟨_, List.getElem?_eq_getElem hlt⟩
      obtain ⟨bb, off, rfl, hbb, c0, d0⟩ := (hs.out.below HI.out.bel).stp ht
      obtain ⟨wh, x⟩ := t
      dsimp only at c0 d0
      clear ht
      go_upto_block 2 with fail
      go_cut [6, 9, 10, 11, 12, 13, 14, 15] from 44 to 155 (fun qv _ _ _ _ _ _ _ wx => ∃ (q2 : List Int) (b2 : Nat), q2.length ≤ i + 1 ∧ RI 64 3 (Value.int .i64) i64cs w wx k b2 m qv q2 q2)
      case rest =>
        clear HI c0 d0
        obtain ⟨q2, b2, hl2, H7⟩ := hcut
        obtain ⟨a7, c7, rfl⟩ := H7.row.shape
        replace H7 := hide H7
        have hrm : (if (0 : Int) < (m : Int) - (q2.length : Int) then (m : Int) - (q2.length : Int) else 0) = ((m - q2.length : Nat) : Int) := by split <;> omega
        go_wp2_with fail
        go_at_call 14
        refine (LenI H7.out.r).mono ?_
        rintro e w8 ⟨rfl, rfl⟩
        go_wp2_with fail
        go_at_call 15
        refine (RoomI H7.out.r hmm).mono ?_
        rintro e w9 ⟨rfl, b9⟩
        have H9 := hide (H7.out.below b9)
        clear H7 b9
        go_wp2
        go_roundw
        case rel => exact ⟨i + 1, q2, by omega, by go_num, hl2, _, H9.out⟩
        case measure => simp [intOf]; omega
      case first =>
      by_cases h0 : wh = 0
      · subst h0
        go_wp2_with fail
        go_at_call 9
        refine (PutI HI.out.r hmm x).mono ?_
        rintro e w4 ⟨rfl, b4, r4, t4, h4⟩
        have H4 := hide (HI.out.turn r4 t4 h4)
        clear r4 t4 h4 c0 d0
        by_cases hroom : q.length < m
        · rw [if_pos hroom] at H4
          have hri : (q.length : Int) < m := by omega
          obtain ⟨b5, H5⟩ := H4.out
          have ba : Below w4.heap.size w4 (w4.alloc (.cells #[.int .i64 x] 3)) := (Below.refl _ _).alloc (Nat.le_refl _) _
          have H6 := hide (H5.below ba)
          have hz6 := H6.out.bel.size
          clear HI ba H5 H4
          go_wp2_with (first | (at_builtin; refine app_row Try.info3' Try.underlying26 rfl (by decide) (by decide) i64cs_len i64cs_one rfl _ _ rfl w.heap.size _ q rfl H6.out.row ⟨w4.heap.size, 0, none⟩ 1 x rfl (fun j u hu => by match j, hu with | 0, hu => simp [i64cs] at hu; subst hu; simp [Addr.add]) (by omega) hz6 ?_) | fail)
          intro v7 w7 hr7 hg7 hat7
          have H7 := hide (H6.out.rowed hr7 hg7 (fun g e => (hat7 g e).imp id (fun h => by simpa using h)))
          have hl2 : (q ++ [x]).length ≤ i + 1 := by simp only [List.length_append, List.length_singleton]; omega
          obtain ⟨a7, c7, rfl⟩ := hr7.shape
          clear hr7 hg7 hat7 H6
          generalize q ++ [x] = q2 at *
          go_wp2
          go_meet
          exact ⟨q2, _, hl2, H7.out⟩
        · rw [if_neg hroom] at H4
          have hri : ¬ ((q.length : Int) < m) := by omega
          obtain ⟨b5, H5⟩ := H4.out
          have H7 := hide H5
          have hl2 : q.length ≤ i + 1 := by omega
          clear HI H4 H5
          generalize q = q2 at *
          go_wp2
          go_meet
          exact ⟨q2, _, hl2, H7.out⟩
      by_cases h1 : wh = 1
      · subst h1
        go_wp2_with fail
        go_at_call 9
        refine (PutI HI.out.r hmm x).mono ?_
        rintro e w4 ⟨rfl, b4, r4, t4, h4⟩
        have H4 := hide (HI.out.turn r4 t4 h4)
        clear r4 t4 h4 c0 d0
        by_cases hroom : q.length < m
        · rw [if_pos hroom] at H4
          have hri : (q.length : Int) < m := by omega
          obtain ⟨b5, H5⟩ := H4.out
          have ba : Below w4.heap.size w4 (w4.alloc (.cells #[.int .i64 x] 3)) := (Below.refl _ _).alloc (Nat.le_refl _) _
          have H6 := hide (H5.below ba)
          have hz6 := H6.out.bel.size
          clear HI ba H5 H4
          go_wp2_with (first | (at_builtin; refine app_row Try.info3' Try.underlying26 rfl (by decide) (by decide) i64cs_len i64cs_one rfl _ _ rfl w.heap.size _ q rfl H6.out.row ⟨w4.heap.size, 0, none⟩ 1 x rfl (fun j u hu => by match j, hu with | 0, hu => simp [i64cs] at hu; subst hu; simp [Addr.add]) (by omega) hz6 ?_) | fail)
          intro v7 w7 hr7 hg7 hat7
          have H7 := hide (H6.out.rowed hr7 hg7 (fun g e => (hat7 g e).imp id (fun h => by simpa using h)))
          have hl2 : (q ++ [x]).length ≤ i + 1 := by simp only [List.length_append, List.length_singleton]; omega
          obtain ⟨a7, c7, rfl⟩ := hr7.shape
          clear hr7 hg7 hat7 H6
          generalize q ++ [x] = q2 at *
          go_wp2
          go_meet
          exact ⟨q2, _, hl2, H7.out⟩
        · rw [if_neg hroom] at H4
          have hri : ¬ ((q.length : Int) < m) := by omega
          obtain ⟨b5, H5⟩ := H4.out
          have H7 := hide H5
          have hl2 : q.length ≤ i + 1 := by omega
          clear HI H4 H5
          generalize q = q2 at *
          go_wp2
          go_meet
          exact ⟨q2, _, hl2, H7.out⟩
      by_cases h2 : wh = 2
      · subst h2
        go_wp2_with fail
        go_at_call 9
        refine (PutI HI.out.r hmm x).mono ?_
        rintro e w4 ⟨rfl, b4, r4, t4, h4⟩
        have H4 := hide (HI.out.turn r4 t4 h4)
        clear r4 t4 h4 c0 d0
        by_cases hroom : q.length < m
        · rw [if_pos hroom] at H4
          have hri : (q.length : Int) < m := by omega
          obtain ⟨b5, H5⟩ := H4.out
          have ba : Below w4.heap.size w4 (w4.alloc (.cells #[.int .i64 x] 3)) := (Below.refl _ _).alloc (Nat.le_refl _) _
          have H6 := hide (H5.below ba)
          have hz6 := H6.out.bel.size
          clear HI ba H5 H4
          go_wp2_with (first | (at_builtin; refine app_row Try.info3' Try.underlying26 rfl (by decide) (by decide) i64cs_len i64cs_one rfl _ _ rfl w.heap.size _ q rfl H6.out.row ⟨w4.heap.size, 0, none⟩ 1 x rfl (fun j u hu => by match j, hu with | 0, hu => simp [i64cs] at hu; subst hu; simp [Addr.add]) (by omega) hz6 ?_) | fail)
          intro v7 w7 hr7 hg7 hat7
          have H7 := hide (H6.out.rowed hr7 hg7 (fun g e => (hat7 g e).imp id (fun h => by simpa using h)))
          have hl2 : (q ++ [x]).length ≤ i + 1 := by simp only [List.length_append, List.length_singleton]; omega
          obtain ⟨a7, c7, rfl⟩ := hr7.shape
          clear hr7 hg7 hat7 H6
          generalize q ++ [x] = q2 at *
          go_wp2
          go_meet
          exact ⟨q2, _, hl2, H7.out⟩
        · rw [if_neg hroom] at H4
          have hri : ¬ ((q.length : Int) < m) := by omega
          obtain ⟨b5, H5⟩ := H4.out
          have H7 := hide H5
          have hl2 : q.length ≤ i + 1 := by omega
          clear HI H4 H5
          generalize q = q2 at *
          go_wp2
          go_meet
          exact ⟨q2, _, hl2, H7.out⟩
      by_cases h3 : wh = 3
      · subst h3
        go_wp2_with fail
        go_at_call 10
        refine (FrontI HI.out.r hmm x).mono ?_
        rintro e w4 ⟨rfl, b4, r4, t4, h4⟩
        have H4 := hide (HI.out.turn r4 t4 h4)
        clear r4 t4 h4 c0 d0
        by_cases hroom : q.length < 2 * m
        · rw [if_pos hroom] at H4
          have hri : (q.length : Int) < 2 * (m : Int) := by omega
          obtain ⟨b5, H5⟩ := H4.out
          have H5 := hide H5
          clear HI H4
          go_wp2_with (first | (at_builtin; refine app_front (f := Value.int .i64) (cs := i64cs) (fun _ => rfl) (fun _ => rfl) Try.info3' Try.underlying26 rfl (by decide) rfl _ _ rfl x w.heap.size (.slice qa q.length qc) q rfl rfl H5.out.row (by omega) ?_) | fail)
          intro v7 w7 hr7 hb7
          have H7 := hide (H5.out.newRow hr7 hb7)
          have hl2 : (x :: q).length ≤ i + 1 := by simp only [List.length_cons]; omega
          obtain ⟨a7, c7, rfl⟩ := H7.out.row.shape
          clear hr7 hb7 H5
          generalize x :: q = q2 at *
          go_wp2
          go_meet
          exact ⟨q2, _, hl2, H7.out⟩
        · rw [if_neg hroom] at H4
          have hri : ¬ ((q.length : Int) < 2 * (m : Int)) := by omega
          obtain ⟨b5, H5⟩ := H4.out
          have H7 := hide H5
          have hl2 : q.length ≤ i + 1 := by omega
          clear HI H4 H5
          generalize q = q2 at *
          go_wp2
          go_meet
          exact ⟨q2, _, hl2, H7.out⟩
      by_cases h4 : wh = 4
      · subst h4
        match q, hq, HI with
        | [], hq, HI =>
          go_wp2_with fail
          go_at_call 11
          refine (TakeNI HI.out.r).mono ?_
          rintro e w4 ⟨rfl, rfl⟩
          have H7 := HI
          have hl2 : ([] : List Int).length ≤ i + 1 := by simp
          clear HI
          generalize hq2 : ([] : List Int) = q2 at *
          have hq20 : (q2.length : Int) = 0 := by rw [← hq2]; rfl
          clear hq2
          go_wp2
          go_meet
          exact ⟨q2, _, hl2, H7.out⟩
        | y :: q', hq, HI =>
          go_wp2_with fail
          go_at_call 11
          refine (TakeI HI.out.r).mono ?_
          rintro e w4 ⟨rfl, b4, r4, t4, h4⟩
          obtain ⟨b5, H5⟩ := HI.out.turn r4 t4 h4
          obtain ⟨g, off, rfl, -, hpc, hcell, hA, hB⟩ := H5.tail (fun _ => rfl)
          simp only [List.length_cons] at hq
          have HA := hide hA
          have HB := hide hB
          clear HI H5 r4 t4 h4 hA hB c0 d0
          by_cases hc1 : qc = 1
          · subst hc1
            obtain ⟨rfl, H6⟩ := HB.out rfl
            have H7 : Hid (RI 64 3 (Value.int .i64) i64cs w w4 k b5 m (.slice (some ⟨g, off, none⟩) ([] : List Int).length 0) [] []) := H6
            have hl2 : ([] : List Int).length ≤ i + 1 := by simp
            clear H6 HA HB
            generalize hq2 : ([] : List Int) = q2 at *
            have hq20 : (q2.length : Int) = 0 := by rw [← hq2]; rfl
            clear hq2
            go_wp2
            go_meet
            exact ⟨q2, _, hl2, H7.out⟩
          · have H7 := hide (HA.out hc1)
            have hl2 : q'.length ≤ i + 1 := by omega
            clear HA HB
            generalize q' = q2 at *
            go_wp2
            go_meet
            exact ⟨q2, _, hl2, H7.out⟩
      by_cases h5 : wh = 5
      · subst h5
        match q, hq, HI with
        | [], hq, HI =>
          go_wp2_with fail
          go_at_call 11
          refine (TakeNI HI.out.r).mono ?_
          rintro e w4 ⟨rfl, rfl⟩
          have H7 := HI
          have hl2 : ([] : List Int).length ≤ i + 1 := by simp
          clear HI
          generalize hq2 : ([] : List Int) = q2 at *
          have hq20 : (q2.length : Int) = 0 := by rw [← hq2]; rfl
          clear hq2
          go_wp2
          go_meet
          exact ⟨q2, _, hl2, H7.out⟩
        | y :: q', hq, HI =>
          go_wp2_with fail
          go_at_call 11
          refine (TakeI HI.out.r).mono ?_
          rintro e w4 ⟨rfl, b4, r4, t4, h4⟩
          obtain ⟨b5, H5⟩ := HI.out.turn r4 t4 h4
          obtain ⟨g, off, rfl, -, hpc, hcell, hA, hB⟩ := H5.tail (fun _ => rfl)
          simp only [List.length_cons] at hq
          have HA := hide hA
          have HB := hide hB
          clear HI H5 r4 t4 h4 hA hB c0 d0
          by_cases hc1 : qc = 1
          · subst hc1
            obtain ⟨rfl, H6⟩ := HB.out rfl
            have H7 : Hid (RI 64 3 (Value.int .i64) i64cs w w4 k b5 m (.slice (some ⟨g, off, none⟩) ([] : List Int).length 0) [] []) := H6
            have hl2 : ([] : List Int).length ≤ i + 1 := by simp
            clear H6 HA HB
            generalize hq2 : ([] : List Int) = q2 at *
            have hq20 : (q2.length : Int) = 0 := by rw [← hq2]; rfl
            clear hq2
            go_wp2
            go_meet
            exact ⟨q2, _, hl2, H7.out⟩
          · have H7 := hide (HA.out hc1)
            have hl2 : q'.length ≤ i + 1 := by omega
            clear HA HB
            generalize q' = q2 at *
            go_wp2
            go_meet
            exact ⟨q2, _, hl2, H7.out⟩
      by_cases h6 : wh = 6
      · subst h6
        have hw0 : IntKind.i64.wrap (x.tmod 9) = x.tmod 9 := by
          have h1 := Int.lt_tmod_of_pos x (show (0 : Int) < 9 by omega)
          have h2 := Int.tmod_lt_of_pos x (show (0 : Int) < 9 by omega)
          rw [IntKind.wrap_i64]; omega
        have hw1 : wrap64 (x.tmod 9) = x.tmod 9 := by
          have h1 := Int.lt_tmod_of_pos x (show (0 : Int) < 9 by omega)
          have h2 := Int.tmod_lt_of_pos x (show (0 : Int) < 9 by omega)
          unfold wrap64; omega
        by_cases hneg : x.tmod 9 < 0
        · have hneg2 : ¬ (0 ≤ x.tmod 9) := by omega
          have hpk : x.tmod 9 < 0 ∨ (q.length : Int) ≤ x.tmod 9 := .inl hneg
          go_wp2_with fail
          go_at_call 12
          refine (PeekNI HI.out.r _ hpk).mono ?_
          rintro e w4 ⟨rfl, rfl⟩
          have H7 := HI
          have hl2 : q.length ≤ i + 1 := by omega
          clear HI hpk
          generalize q = q2 at *
          go_wp2
          go_meet
          exact ⟨q2, _, hl2, H7.out⟩
        · have hneg2 : 0 ≤ x.tmod 9 := by omega
          by_cases hge : (q.length : Int) ≤ x.tmod 9
          · have hge2 : ¬ (x.tmod 9 < q.length) := by omega
            have hpk : x.tmod 9 < 0 ∨ (q.length : Int) ≤ x.tmod 9 := .inr hge
            go_wp2_with fail
            go_at_call 12
            refine (PeekNI HI.out.r _ hpk).mono ?_
            rintro e w4 ⟨rfl, rfl⟩
            have H7 := HI
            have hl2 : q.length ≤ i + 1 := by omega
            clear HI hpk
            generalize q = q2 at *
            go_wp2
            go_meet
            exact ⟨q2, _, hl2, H7.out⟩
          · obtain ⟨j, hj⟩ : ∃ j : Nat, x.tmod 9 = (j : Int) := ⟨(x.tmod 9).toNat, by omega⟩
            have hjl : j < q.length := by omega
            obtain ⟨y, hy⟩ : ∃ y, q[j]? = some y := ⟨_, List.getElem?_eq_getElem hjl⟩
            clear hneg hneg2 hge
            go_wp2_with fail
            go_at_call 12
            refine (PeekI HI.out.r hy (by omega)).mono ?_
            rintro e w4 ⟨rfl, b4⟩
            have H7 := hide (HI.out.below b4)
            obtain ⟨g, off, cap2, e, hc⟩ := H7.out.get (fun _ => rfl) hy
            cases e
            have hl2 : q.length ≤ i + 1 := by omega
            clear HI b4 hy c0 d0
            generalize q = q2 at *
            go_wp2
            go_meet
            exact ⟨q2, _, hl2, H7.out⟩
      by_cases h7 : wh = 7
      · subst h7
        go_wp2_with fail
        go_at_call 13
        refine (ClearI HI.out.r).mono ?_
        rintro e w4 ⟨rfl, r4, t4⟩
        obtain ⟨b5, H5⟩ := HI.out.turn r4 t4 (.inl rfl)
        have H7 : Hid (RI 64 3 (Value.int .i64) i64cs w w4 k b5 m (.slice none ([] : List Int).length 0) [] []) := H5.noRow
        have hl2 : ([] : List Int).length ≤ i + 1 := by simp
        clear HI H5 r4 t4 c0 d0
        generalize hq2 : ([] : List Int) = q2 at *
        have hq20 : (q2.length : Int) = 0 := by rw [← hq2]; rfl
        have hq21 : q2.length = 0 := by rw [← hq2]; rfl
        clear hq2
        rw [hq21] at H7
        go_wp2
        go_meet
        exact ⟨q2, _, hl2, H7.out⟩
      have H7 := HI
      have hl2 : q.length ≤ i + 1 := by omega
      clear HI
      generalize q = q2 at *
      go_wp2
      go_meet
      exact ⟨q2, _, hl2, H7.out⟩
    · obtain rfl : i = xs.length := by omega
      have hz := HI.out.bel.size
      go_wp2_with fail
      go_at_call 16
      refine (AllI HI.out.r (by omega)).mono ?_
      rintro e w4 ⟨rfl, a4, b4⟩
      have ra4 := HI.out.row.below b4
      have hz4 := b4.size
      go_wp2_with fail
      go_at_call 17
      refine (Ints_any (a4.lseg (by omega)) (ra4.lseg (by omega))).mono ?_
      rintro e w5 ⟨rfl, b5⟩
      have HM5 := hide (a4.below b5)
      have HB5 := hide (b4.trans (b5.mono hz4))
      clear a4 b4 ra4 b5
      have HMS : Hid (∃ ys, Mine wr.heap.size w5 wr.heap.size q.length ys) := ⟨q, HM5.out⟩
      have hgz : wr.heap.size ≤ wr.heap.size := Nat.le_refl _
      clear HM5
      generalize hgg : wr.heap.size = g at *
      have HG := hide hgg
      clear hgg
      go_wp2_with fail
      go_loopw [17] (fun iv wr2 => ∃ (j : Nat), j ≤ q.length ∧ iv = .int .i64 j ∧ Hid (∃ ys, Mine g wr2 g q.length ys ∧ Below g wr wr2)) (fun iv _ => q.length - (intOf iv).toNat)
      case atStart =>
        obtain ⟨ys, h⟩ := HMS.out
        exact ⟨0, Nat.zero_le _, rfl, ys, h, HB5.out⟩
      case round =>
        clear HMS HB5 hi hlt
        obtain ⟨j, hj, rfl, ys, HJ, HBJ⟩ := hrel
        have HJ := hide HJ
        have HBJ := hide HBJ
        by_cases hlt : j < q.length
        · obtain ⟨cs, e1, e2, e3, -⟩ := HJ.out.box
          obtain ⟨u, hu⟩ := e3 j hlt
          have hc := (e1.cellAt j).trans hu
          have hfz := e1.free j
          have H2 := hide (HJ.out.spoil j (-1) hlt)
          have HB2 := hide (HBJ.out.setCell (p := ⟨g, j, none⟩) (Nat.le_refl g) (.int .i64 (-1)))
          clear e1 e2 e3 hu
          go_wp2
          go_roundw
          case rel => exact ⟨j + 1, by omega, by go_num, _, H2.out, HB2.out⟩
          case measure => simp [intOf]; omega
        · obtain rfl : j = q.length := by omega
          have H6 := hide (HI.out.below (by rw [HG.out]; exact HBJ.out))
          clear HI HJ HBJ
          go_wp2_with fail
          go_at_call 16
          refine (AllI H6.out.r (by omega)).mono ?_
          rintro e w7 ⟨rfl, a7, b7⟩
          have H7 := hide (H6.out.below b7)
          clear b7 H6
          go_wp2_with fail
          go_at_call 17
          refine (Ints_any (a7.lseg (by omega)) (H7.out.row.lseg (by omega))).mono ?_
          rintro e w8 ⟨rfl, b8⟩
          go_wp2
          go_ret
          exact ⟨rfl, (H7.out.below b8).bel⟩
end Go.Proofs.Ytaoejpgjdoikiaa
