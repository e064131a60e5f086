/-
  The law TryPlays, walked.
-/
import Derived.Test.YtaoejpgjdoikiaaRLawTry
namespace Go.Proofs.Ytaoejpgjdoikiaa
open Go.RowKit

set_option maxHeartbeats 4000000 in
set_option maxRecDepth 100000 in
theorem TryPlays_walk (w : World) (a b : Int) (ao : Option Addr) (cap : Nat) (xs : List Stp) (hs : Hid (LSeg 2 Stp.cs w.heap.size w (.slice ao xs.length cap) xs)) :
    Calls Try.prog 5 #[.int .i64 a, .int .i64 b, .slice ao xs.length cap] w fun e w' => e = .returned (.bool true) ∧ Below w.heap.size w w' := by
  have hknown := known_any w
  have hlen : xs.length ≤ 140737488355328 := by obtain ⟨_, _, e, h2, _⟩ := hs.out; exact h2
  go_enter Try.func5, Try.ntmps5
  go_wp2_with fail
  refine hknown.mono ?_
  rintro e w1 ⟨rfl, hb1⟩
  clear hknown
  have HB1 := hide hb1
  clear hb1
  by_cases hl : xs.length ≤ 500
  rotate_left
  · go_wp2
    go_ret
    exact ⟨rfl, HB1.out⟩
  go_wp2_with fail
  go_at_call 23
  refine (Place_any w1 a 20 (by omega) (by omega)).mono ?_
  rintro e w2 ⟨rfl, rfl⟩
  have ha0 : 0 ≤ a % 20 := Int.emod_nonneg _ (by omega)
  have ha1 : a % 20 < 20 := Int.emod_lt_of_pos _ (by omega)
  generalize a % 20 = a at *
  go_wp2_with fail
  go_at_call 23
  refine (Place_any w2 b 20 (by omega) (by omega)).mono ?_
  rintro e w3 ⟨rfl, rfl⟩
  have hb0 : 0 ≤ b % 20 := Int.emod_nonneg _ (by omega)
  have hb1 : b % 20 < 20 := Int.emod_lt_of_pos _ (by omega)
  generalize b % 20 = b at *
  go_wp2_with fail
  go_at_call 24
  refine (NewTryI w3 a).mono ?_
  rintro e w4 ⟨rfl, t4, l4⟩
  have z4 := t4.box.lt
  go_wp2_with fail
  go_at_call 24
  refine (NewTryI w4 b).mono ?_
  rintro e w5 ⟨rfl, t5, l5⟩
  have hsz := HB1.out.size
  have HT : Hid (TI w w5 (w3.heap.size + 1) w3.heap.size (min (max a 1) 65536).toNat (w4.heap.size + 1) w4.heap.size (min (max b 1) 65536).toNat (.slice none 0 0) (.slice none 0 0) [] [] [] [] [] [] 0 0 0 0) :=
    ⟨t4.below l5, t5, Row.nil _ _ _ _ _, Row.nil _ _ _ _ _, (HB1.out.trans (l4.mono hsz)).trans (l5.mono (by omega)), by omega, by omega, by omega, fun g e => (by cases e), fun g e => (by cases e), fun g e => (by cases e), fun g e => (by cases e)⟩
  clear t4 t5 l4 l5 z4 hsz HB1
  generalize w3.heap.size + 1 = k1 at *
  generalize w3.heap.size = c1 at *
  generalize w4.heap.size + 1 = k2 at *
  generalize w4.heap.size = c2 at *
  obtain ⟨m1, hm1⟩ : ∃ m : Nat, (min (max a 1) 65536).toNat = m := ⟨_, rfl⟩
  obtain ⟨m2, hm2⟩ : ∃ m : Nat, (min (max b 1) 65536).toNat = m := ⟨_, rfl⟩
  rw [hm1, hm2] at HT
  have HM1 : (if a < 1 then (1 : Int) else a) = (m1 : Int) := by split <;> omega
  have HM2 : (if b < 1 then (1 : Int) else b) = (m2 : Int) := by split <;> omega
  have HMA := hide hm1
  have HMB := hide hm2
  clear hm1 hm2
  go_wp2_with fail
  go_loopw [9, 10, 11] (fun pv qv iv wr => ∃ (i : Nat) (p q : List Int), i ≤ xs.length ∧ iv = .int .i64 i ∧ p.length ≤ i ∧ q.length ≤ i ∧ Hid (∃ gs1 gs2 s1 r1 s2 r2, TI w wr k1 c1 m1 k2 c2 m2 pv qv p q p q gs1 gs2 s1 r1 s2 r2)) (fun _ _ iv _ => xs.length - (intOf iv).toNat)
  case atStart => exact ⟨0, [], [], Nat.zero_le _, rfl, Nat.le_refl _, Nat.le_refl _, _, _, _, _, _, _, HT.out⟩
  case round =>
    obtain ⟨i, p, q, hi, rfl, hp, hq, gs1, gs2, s1, r1, s2, r2, HI⟩ := hrel
    obtain ⟨pa, pc, rfl⟩ := HI.rp.shape
    obtain ⟨qa, qc, rfl⟩ := HI.rq.shape
    have HI := hide HI
    by_cases hlt : i < xs.length
    · obtain ⟨t, ht⟩ : ∃ t, xs[i]? = some t := ⟨_, List.getElem?_eq_getElem hlt⟩
      obtain ⟨bb, off, rfl, hbb, c0, d0⟩ := (hs.out.below HI.out.bel).stp ht
      obtain ⟨wh, x⟩ := t
      dsimp only at c0 d0
      clear ht
      by_cases h0 : wh = 0
      · subst h0
        go_wp2_with fail
        go_at_call 25
        refine (SendI HI.out.t1 x).mono ?_
        rintro e w2 ⟨rfl, ⟨s', h2⟩, t2⟩
        by_cases hroom : p.length < m1
        · rw [if_pos hroom, if_pos hroom] at h2
          have hri : (p.length : Int) < m1 := by omega
          have H2 := hide (HI.out.turn h2 t2 (fun g hg => by
            rcases List.mem_append.1 hg with h | h
            · exact .inl h
            · simp at h; exact .inr (by omega)))
          have ba : Below w2.heap.size w2 (w2.alloc (.cells #[.int .i64 x] 3)) := (Below.refl _ _).alloc (Nat.le_refl _) _
          have H3 := hide (H2.out.below ba)
          have hz3 := H3.out.bel.size
          clear HI h2 t2 ba c0 d0 H2
          go_wp2_with (first | (at_builtin; refine app_row Try.info3' Try.underlying26 rfl (by decide) (by decide) i64cs_len i64cs_one rfl _ _ rfl w.heap.size _ p rfl H3.out.rp ⟨w2.heap.size, 0, none⟩ 1 x rfl (fun j u hu => by match j, hu with | 0, hu => simp [i64cs] at hu; subst hu; simp [Addr.add]) (by omega) hz3 ?_) | fail)
          intro v4 w4 hr4 hg4 hat4
          have H4 := hide (H3.out.row hr4 hg4 (fun g e => (hat4 g e).imp id (fun h => by simpa using h)))
          clear hr4 hg4 hat4 H3
          go_wp2
          go_roundw
          case rel => exact ⟨i + 1, p ++ [x], q, by omega, by go_num, by (try simp only [List.length_append, List.length_singleton]); omega, by (try simp only [List.length_append, List.length_singleton]); omega, _, _, _, _, _, _, H4.out⟩
          case measure => simp [intOf]; omega
        · rw [if_neg hroom, if_neg hroom] at h2
          have hri : ¬ ((p.length : Int) < m1) := by omega
          have H2 := hide (HI.out.turn h2 t2 (fun g hg => .inl hg))
          clear HI h2 t2
          go_wp2
          go_roundw
          case rel => exact ⟨i + 1, p, q, by omega, by go_num, by omega, by omega, _, _, _, _, _, _, H2.out⟩
          case measure => simp [intOf]; omega
      by_cases h1 : wh = 1
      · subst h1
        go_wp2_with fail
        go_at_call 25
        refine (SendI HI.out.t1 x).mono ?_
        rintro e w2 ⟨rfl, ⟨s', h2⟩, t2⟩
        by_cases hroom : p.length < m1
        · rw [if_pos hroom, if_pos hroom] at h2
          have hri : (p.length : Int) < m1 := by omega
          have H2 := hide (HI.out.turn h2 t2 (fun g hg => by
            rcases List.mem_append.1 hg with h | h
            · exact .inl h
            · simp at h; exact .inr (by omega)))
          have ba : Below w2.heap.size w2 (w2.alloc (.cells #[.int .i64 x] 3)) := (Below.refl _ _).alloc (Nat.le_refl _) _
          have H3 := hide (H2.out.below ba)
          have hz3 := H3.out.bel.size
          clear HI h2 t2 ba c0 d0 H2
          go_wp2_with (first | (at_builtin; refine app_row Try.info3' Try.underlying26 rfl (by decide) (by decide) i64cs_len i64cs_one rfl _ _ rfl w.heap.size _ p rfl H3.out.rp ⟨w2.heap.size, 0, none⟩ 1 x rfl (fun j u hu => by match j, hu with | 0, hu => simp [i64cs] at hu; subst hu; simp [Addr.add]) (by omega) hz3 ?_) | fail)
          intro v4 w4 hr4 hg4 hat4
          have H4 := hide (H3.out.row hr4 hg4 (fun g e => (hat4 g e).imp id (fun h => by simpa using h)))
          clear hr4 hg4 hat4 H3
          go_wp2
          go_roundw
          case rel => exact ⟨i + 1, p ++ [x], q, by omega, by go_num, by (try simp only [List.length_append, List.length_singleton]); omega, by (try simp only [List.length_append, List.length_singleton]); omega, _, _, _, _, _, _, H4.out⟩
          case measure => simp [intOf]; omega
        · rw [if_neg hroom, if_neg hroom] at h2
          have hri : ¬ ((p.length : Int) < m1) := by omega
          have H2 := hide (HI.out.turn h2 t2 (fun g hg => .inl hg))
          clear HI h2 t2
          go_wp2
          go_roundw
          case rel => exact ⟨i + 1, p, q, by omega, by go_num, by omega, by omega, _, _, _, _, _, _, H2.out⟩
          case measure => simp [intOf]; omega
      by_cases h2 : wh = 2
      · subst h2
        go_wp2_with fail
        go_at_call 25
        refine (SendI HI.out.swap.t1 x).mono ?_
        rintro e w2 ⟨rfl, ⟨s', h2⟩, t2⟩
        by_cases hroom : q.length < m2
        · rw [if_pos hroom, if_pos hroom] at h2
          have hri : (q.length : Int) < m2 := by omega
          have H2 := hide (TI.swap (HI.out.swap.turn h2 t2 (fun g hg => by
            rcases List.mem_append.1 hg with h | h
            · exact .inl h
            · simp at h; exact .inr (by omega))))
          have ba : Below w2.heap.size w2 (w2.alloc (.cells #[.int .i64 x] 3)) := (Below.refl _ _).alloc (Nat.le_refl _) _
          have H3 := hide (H2.out.below ba)
          have hz3 := H3.out.bel.size
          clear HI h2 t2 ba c0 d0 H2
          go_wp2_with (first | (at_builtin; refine app_row Try.info3' Try.underlying26 rfl (by decide) (by decide) i64cs_len i64cs_one rfl _ _ rfl w.heap.size _ q rfl H3.out.swap.rp ⟨w2.heap.size, 0, none⟩ 1 x rfl (fun j u hu => by match j, hu with | 0, hu => simp [i64cs] at hu; subst hu; simp [Addr.add]) (by omega) hz3 ?_) | fail)
          intro v4 w4 hr4 hg4 hat4
          have H4 := hide (H3.out.swap.row hr4 hg4 (fun g e => (hat4 g e).imp id (fun h => by simpa using h))).swap
          clear hr4 hg4 hat4 H3
          go_wp2
          go_roundw
          case rel => exact ⟨i + 1, p, q ++ [x], by omega, by go_num, by (try simp only [List.length_append, List.length_singleton]); omega, by (try simp only [List.length_append, List.length_singleton]); omega, _, _, _, _, _, _, H4.out⟩
          case measure => simp [intOf]; omega
        · rw [if_neg hroom, if_neg hroom] at h2
          have hri : ¬ ((q.length : Int) < m2) := by omega
          have H2 := hide (HI.out.swap.turn h2 t2 (fun g hg => .inl hg)).swap
          clear HI h2 t2
          go_wp2
          go_roundw
          case rel => exact ⟨i + 1, p, q, by omega, by go_num, by omega, by omega, _, _, _, _, _, _, H2.out⟩
          case measure => simp [intOf]; omega
      by_cases h3 : wh = 3
      · subst h3
        go_wp2_with fail
        go_at_call 25
        refine (SendI HI.out.swap.t1 x).mono ?_
        rintro e w2 ⟨rfl, ⟨s', h2⟩, t2⟩
        by_cases hroom : q.length < m2
        · rw [if_pos hroom, if_pos hroom] at h2
          have hri : (q.length : Int) < m2 := by omega
          have H2 := hide (TI.swap (HI.out.swap.turn h2 t2 (fun g hg => by
            rcases List.mem_append.1 hg with h | h
            · exact .inl h
            · simp at h; exact .inr (by omega))))
          have ba : Below w2.heap.size w2 (w2.alloc (.cells #[.int .i64 x] 3)) := (Below.refl _ _).alloc (Nat.le_refl _) _
          have H3 := hide (H2.out.below ba)
          have hz3 := H3.out.bel.size
          clear HI h2 t2 ba c0 d0 H2
          go_wp2_with (first | (at_builtin; refine app_row Try.info3' Try.underlying26 rfl (by decide) (by decide) i64cs_len i64cs_one rfl _ _ rfl w.heap.size _ q rfl H3.out.swap.rp ⟨w2.heap.size, 0, none⟩ 1 x rfl (fun j u hu => by match j, hu with | 0, hu => simp [i64cs] at hu; subst hu; simp [Addr.add]) (by omega) hz3 ?_) | fail)
          intro v4 w4 hr4 hg4 hat4
          have H4 := hide (H3.out.swap.row hr4 hg4 (fun g e => (hat4 g e).imp id (fun h => by simpa using h))).swap
          clear hr4 hg4 hat4 H3
          go_wp2
          go_roundw
          case rel => exact ⟨i + 1, p, q ++ [x], by omega, by go_num, by (try simp only [List.length_append, List.length_singleton]); omega, by (try simp only [List.length_append, List.length_singleton]); omega, _, _, _, _, _, _, H4.out⟩
          case measure => simp [intOf]; omega
        · rw [if_neg hroom, if_neg hroom] at h2
          have hri : ¬ ((q.length : Int) < m2) := by omega
          have H2 := hide (HI.out.swap.turn h2 t2 (fun g hg => .inl hg)).swap
          clear HI h2 t2
          go_wp2
          go_roundw
          case rel => exact ⟨i + 1, p, q, by omega, by go_num, by omega, by omega, _, _, _, _, _, _, H2.out⟩
          case measure => simp [intOf]; omega
      by_cases h4 : wh = 4
      · subst h4
        match p, hp, HI with
        | [], hp, HI =>
          have hg0 : gs1 = [] := List.length_eq_zero_iff.1 HI.out.t1.len
          subst hg0
          go_wp2_with fail
          go_at_call 26
          refine (RecvNI HI.out.t1).mono ?_
          rintro e w2 ⟨rfl, rfl⟩
          go_wp2
          go_roundw
          case rel => exact ⟨i + 1, [], q, by omega, by go_num, by omega, by omega, _, _, _, _, _, _, HI.out⟩
          case measure => simp [intOf]; omega
        | y :: p', hp, HI =>
          match gs1, HI with
          | [], HI => exact absurd HI.out.t1.len (by simp)
          | g :: gs1, HI =>
            go_wp2_with fail
            go_at_call 26
            refine (RecvI HI.out.t1).mono ?_
            rintro e w2 ⟨rfl, h2, t2⟩
            have H2 := hide (HI.out.turn h2 t2 (fun g hg => .inl (List.mem_cons_of_mem _ hg)))
            obtain ⟨g, off, rfl, -, hpc, hcell, hA, hB⟩ := H2.out.tail
            simp only [List.length_cons] at hp H2
            have HA := hide hA
            have HB := hide hB
            clear HI h2 t2 hA hB
            by_cases hc1 : pc = 1
            · subst hc1
              obtain ⟨rfl, H5⟩ := HB.out rfl
              have H5 := hide H5
              go_wp2
              go_roundw
              case rel => exact ⟨i + 1, [], q, by omega, by go_num, by omega, by omega, _, _, _, _, _, _, H5.out⟩
              case measure => simp [intOf]; omega
            · have H5 := hide (HA.out hc1)
              go_wp2
              go_roundw
              case rel => exact ⟨i + 1, p', q, by omega, by go_num, by omega, by omega, _, _, _, _, _, _, H5.out⟩
              case measure => simp [intOf]; omega
      match p, hp, HI with
      | y :: p', hp, HI =>
        match gs1, HI with
        | [], HI => exact absurd HI.out.t1.len (by simp)
        | g :: gs1, HI =>
          go_wp2_with fail
          go_at_call 27
          refine (Either0I HI.out.t1 _).mono ?_
          rintro e w2 ⟨rfl, h2, t2⟩
          have H2 := hide (HI.out.turn h2 t2 (fun g hg => .inl (List.mem_cons_of_mem _ hg)))
          obtain ⟨g, off, rfl, -, hpc, hcell, hA, hB⟩ := H2.out.tail
          simp only [List.length_cons] at hp H2
          have HA := hide hA
          have HB := hide hB
          clear HI h2 t2 hA hB
          by_cases hc1 : pc = 1
          · subst hc1
            obtain ⟨rfl, H5⟩ := HB.out rfl
            have H5 := hide H5
            go_wp2
            go_roundw
            case rel => exact ⟨i + 1, [], q, by omega, by go_num, by omega, by omega, _, _, _, _, _, _, H5.out⟩
            case measure => simp [intOf]; omega
          · have H5 := hide (HA.out hc1)
            go_wp2
            go_roundw
            case rel => exact ⟨i + 1, p', q, by omega, by go_num, by omega, by omega, _, _, _, _, _, _, H5.out⟩
            case measure => simp [intOf]; omega
      | [], hp, HI =>
        have hg0 : gs1 = [] := List.length_eq_zero_iff.1 HI.out.t1.len
        subst hg0
        match q, hq, HI with
        | [], hq, HI =>
          have hg0 : gs2 = [] := List.length_eq_zero_iff.1 HI.out.t2.len
          subst hg0
          go_wp2_with fail
          go_at_call 27
          refine (EitherNI HI.out.t1 HI.out.t2).mono ?_
          rintro e w2 ⟨rfl, rfl⟩
          go_wp2
          go_roundw
          case rel => exact ⟨i + 1, [], [], by omega, by go_num, by omega, by omega, _, _, _, _, _, _, HI.out⟩
          case measure => simp [intOf]; omega
        | y :: q', hq, HI =>
          match gs2, HI with
          | [], HI => exact absurd HI.out.t2.len (by simp)
          | g :: gs2, HI =>
            go_wp2_with fail
            go_at_call 27
            refine (Either1I HI.out.t1 HI.out.t2).mono ?_
            rintro e w2 ⟨rfl, h2, t2⟩
            have H2 := hide (HI.out.swap.turn h2 t2 (fun g hg => .inl (List.mem_cons_of_mem _ hg)))
            obtain ⟨g, off, rfl, -, hpc, hcell, hA, hB⟩ := H2.out.tail
            simp only [List.length_cons] at hq H2
            have HA := hide hA
            have HB := hide hB
            clear HI h2 t2 hA hB
            by_cases hc1 : qc = 1
            · subst hc1
              obtain ⟨rfl, H5⟩ := HB.out rfl
              have H5 := hide H5
              go_wp2
              go_roundw
              case rel => exact ⟨i + 1, [], [], by omega, by go_num, by omega, by omega, _, _, _, _, _, _, H5.out.swap⟩
              case measure => simp [intOf]; omega
            · have H5 := hide (HA.out hc1)
              go_wp2
              go_roundw
              case rel => exact ⟨i + 1, [], q', by omega, by go_num, by omega, by omega, _, _, _, _, _, _, H5.out.swap⟩
              case measure => simp [intOf]; omega
    · obtain rfl : i = xs.length := by omega
      go_wp2
      go_ret
      exact ⟨rfl, HI.out.bel⟩
end Go.Proofs.Ytaoejpgjdoikiaa
