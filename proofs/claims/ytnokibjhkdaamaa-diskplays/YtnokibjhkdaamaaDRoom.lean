/-
  The statement DiskRoom, walked.
-/
import Derived.Test.YtnokibjhkdaamaaDArgs
namespace Go.Proofs.Ytnokibjhkdaamaa
open Go.RowKit Go.Maps

/-- The disk while the script runs. -/
structure RoomI (w0 wr : World) (k b i : Nat) (room : Int) (n : Nat) (p : Pd) : Prop where
  st : St w0 wr k b n p
  ni : n ≤ i
  room_ : p.room = room
  left : p.left = -1
  sum : (fSum p.l : Int) ≤ room

theorem write_cases {p : Pd} (s : List UInt8) (x : List Nat) (hl : p.left = -1) (hx : x.length ≤ 50000) :
    (okName s = false ∧ pWrite p s x = (p, 21)) ∨ (okName s = true ∧ p.room < (fSum p.l : Int) - (fWas s p.l : Int) + (x.length : Int) ∧ pWrite p s x = (p, 22)) ∨
    (okName s = true ∧ ¬ p.room < (fSum p.l : Int) - (fWas s p.l : Int) + (x.length : Int) ∧ pWrite p s x = ({ p with l := fPut ⟨s, x, 0⟩ p.l }, 0)) := by
  unfold pWrite
  rw [if_neg (by omega)]
  by_cases h1 : okName s = false
  · exact .inl ⟨h1, by rw [if_pos h1]⟩
  · rw [if_neg h1]
    have h1' : okName s = true := by simpa using h1
    by_cases h2 : p.room < (fSum p.l : Int) - (fWas s p.l : Int) + (x.length : Int)
    · exact .inr (.inl ⟨h1', h2, by rw [if_pos (.inr h2)]⟩)
    · refine .inr (.inr ⟨h1', h2, ?_⟩)
      rw [if_neg (by omega)]
      unfold Pd.done
      rw [hl]
      simp
theorem find_was (p : Pd) (s : List UInt8) (hl : p.left ≠ 0) : (fData (pFind p s).1).length = fWas s p.l := by
  unfold pFind fWas
  rw [if_neg hl]
  cases fGet s p.l <;> rfl
theorem delete_room {p : Pd} {n : Nat} (h : Ok p n) (s : List UInt8) (hl : p.left = -1) : (pDelete p s).1.room = p.room ∧ (pDelete p s).1.left = -1 ∧ fSum (pDelete p s).1.l ≤ fSum p.l := by
  unfold pDelete
  cases (pFind p s).1 with
  | none => exact ⟨rfl, hl, Nat.le_refl _⟩
  | some f =>
    refine ⟨rfl, ?_, ?_⟩
    · show (if 0 < p.left then _ else _) = _
      rw [hl]; simp
    · have := fSum_del h.rise s
      show fSum (fDel s p.l) ≤ _
      omega
theorem BoxT.cells6 {t : TypeId} {w : World} {k : Nat} {c0 c1 c2 c3 c4 c5 : Value} (h : BoxT t w k #[c0, c1, c2, c3, c4, c5]) :
    w.cell? ⟨k, 0, none⟩ = some c0 ∧ w.cell? ⟨k, 1, none⟩ = some c1 ∧ w.cell? ⟨k, 2, none⟩ = some c2 ∧ w.cell? ⟨k, 3, none⟩ = some c3 ∧ w.cell? ⟨k, 4, none⟩ = some c4 ∧ w.cell? ⟨k, 5, none⟩ = some c5 := by
  unfold BoxT at h
  simp [World.cell?, h]
theorem BoxT.turned {t : TypeId} {w w' : World} {k b i : Nat} {cs : Array Value} (h : BoxT t w i cs) (ht : Turned k b w w') (h1 : i ≠ k) (h2 : i ≠ b) : BoxT t w' i cs := by
  have hl := h.lt
  unfold BoxT at *
  rw [ht.block i hl h1 h2]; exact h
theorem BoxT.below {t : TypeId} {w w' : World} {i : Nat} {cs : Array Value} (h : BoxT t w i cs) (hb : Below w.heap.size w w') : BoxT t w' i cs := by
  have hl := h.lt
  unfold BoxT at *
  rw [hb.block i hl]; exact h
/-- Behind a step: all is as it should be. -/
theorem RoomI.next {w0 wr wr' : World} {k b i n : Nat} {room : Int} {p : Pd} (h : RoomI w0 wr k b i room n p) (hs : St w0 wr' k b n p) : RoomI w0 wr' k b (i + 1) room n p :=
  ⟨hs, Nat.le_succ_of_le h.ni, h.room_, h.left, h.sum⟩

set_option maxHeartbeats 4000000 in
set_option maxRecDepth 100000 in
theorem DiskRoom_walk (w : World) (room : Int) (ao : Option Addr) (cap : Nat) (xs : List Stp) (hs : Hid (Scr w (.slice ao xs.length cap) xs)) :
    Calls Try.prog 7 #[.int .i64 room, .slice ao xs.length cap] w fun e w' => e = .returned (.bool true) ∧ Below w.heap.size w w' := by
  have hknown := known_any w
  have hlen : xs.length ≤ 140737488355328 := by obtain ⟨_, _, e, h2, _⟩ := hs.out.s; exact h2
  go_enter Try.func7, Try.ntmps7
  go_wp2_with fail
  refine hknown.mono ?_
  rintro e w1 ⟨rfl, hb1⟩
  clear hknown
  have hli := light_any w.heap.size w1 ao cap xs (hs.out.s.below hb1) hs.out.wt
  have HB1 := hide hb1
  clear hb1
  go_wp2_with fail
  refine hli.mono ?_
  rintro e w2 ⟨rfl, q, rfl⟩
  clear hli
  by_cases hlight : xs.length ≤ 300 ∧ tot xs ≤ 50000
  rotate_left
  · have e0 : decide (xs.length ≤ 300 ∧ tot xs ≤ 50000) = false := decide_eq_false hlight
    rw [e0]
    clear hlight
    go_wp2
    go_ret
    exact ⟨rfl, below_drewN' HB1.out q⟩
  have e0 : decide (xs.length ≤ 300 ∧ tot xs ≤ 50000) = true := decide_eq_true hlight
  rw [e0]
  have HLT := hide hlight
  clear hlight e0
  have HB2 := hide (below_drewN' HB1.out q)
  generalize w1.drewN q = w2 at *
  clear HB1
  go_wp2_with fail
  refine (Place_any w2 room 200 (by omega) (by omega)).mono ?_
  rintro e w3 ⟨rfl, rfl⟩
  have hr0 : 0 ≤ room % 200 := Int.emod_nonneg _ (by omega)
  have hr1 : room % 200 < 200 := Int.emod_lt_of_pos _ (by omega)
  generalize room % 200 = rm at *
  go_wp2_with fail
  refine (kNew w w3 HB2.out rm (wf_in (by omega))).mono ?_
  rintro e w4 ⟨k, b, rfl, h4, -, -, -⟩
  have hmx : max rm 0 = rm := by omega
  rw [hmx] at h4
  have H4 : Hid (RoomI w w4 k b 0 rm 0 ⟨[], rm, -1⟩) := ⟨h4, Nat.le_refl _, rfl, rfl, by show ((0 : Nat) : Int) ≤ rm; omega⟩
  clear h4 hmx HB2
  go_wp2_with fail
  go_loopw [6] (fun iv wr => ∃ (i n : Nat) (p : Pd), i ≤ xs.length ∧ iv = .int .i64 i ∧ Hid (RoomI w wr k b i rm n p)) (fun iv _ => xs.length - (intOf iv).toNat)
  case atStart => exact ⟨0, 0, _, Nat.zero_le _, rfl, H4⟩
  case round =>
    obtain ⟨i, n, p, hi, rfl, HI⟩ := hrel
    by_cases hlt : i < xs.length
    · obtain ⟨t, ht⟩ : ∃ t, xs[i]? = some t := ⟨_, List.getElem?_eq_getElem hlt⟩
      have hmem := List.mem_of_getElem? ht
      obtain ⟨l1, l2, l3, l4⟩ := mem_wt hmem HLT.out.2
      have hok := (hs.out.o t hmem).below HI.out.st.since
      obtain ⟨bb, off, rfl, hbb, c0, c1, c2, c3, c4, c5⟩ := (hs.out.s.below HI.out.st.since).stp ht
      rw [Nat.add_zero] at c0
      have HO := hide hok
      have HM : Hid (t ∈ xs) := hmem
      clear ht hmem hok H4
      obtain ⟨wh, nn, nmm, to, ba, bl, bc, ka, kl, kc⟩ := t
      dsimp only at *
      by_cases hwr : wh = 0 ∨ wh = 1 ∨ wh = 2
      · have hsA := HI.out.st.alloc (.cells #[.int .i64 wh, .int .i64 nn, .string nmm, .string to, .slice ba bl.length bc, .slice ka kl.length kc] 38)
        have hrm := HI.out.room_
        have hsum := HI.out.sum
        have hus := HI.out.st.d.ok.used
        have hw0 := find_was p (nm nmm) (by rw [HI.out.left]; decide)
        have hwle := fWas_le (s := nm nmm) HI.out.st.d.ok.size
        have hwc := write_cases (p := p) (nm nmm) bl HI.out.left l1
        have hput : fSum (fPut ⟨nm nmm, bl, 0⟩ p.l) + fWas (nm nmm) p.l = fSum p.l + bl.length := fSum_put HI.out.st.d.ok.rise ⟨nm nmm, bl, 0⟩
        have hrd : ∀ (W : World) (N : Nat), Hid (St w W k b N p) → Calls Try.prog 27 #[.pointer (some ⟨k, 0, none⟩), .string nmm] W fun e w' => ∃ v, e = .returned (.tuple #[v, .int .i64 (pFind p (nm nmm)).2]) ∧ Seg w' v (fData (pFind p (nm nmm)).1) ∧ St w w' k b N p ∧ Below W.heap.size W w' := fun W N h => kRead h.out nmm (by unfold maxLen; omega) _ _ rfl
        have hnl : (nm nmm).length = nmm.size := nm_length nmm
        have hdl := fSum_del HI.out.st.d.ok.rise (nm nmm)
        generalize hfo : pFind p (nm nmm) = fo at *
        obtain ⟨o, er0⟩ := fo
        dsimp only at hrd hw0
        have HA := hide hsA
        have HRD := hide hrd
        generalize hwas : fWas (nm nmm) p.l = was at *
        rw [hrm] at hwc
        have hwu : wrap64 ((fSum p.l : Int) - (was : Int)) = (fSum p.l : Int) - (was : Int) := by unfold wrap64; omega
        have hwu2 : wrap64 ((fSum p.l : Int) - (was : Int) + (bl.length : Int)) = (fSum p.l : Int) - (was : Int) + (bl.length : Int) := by unfold wrap64; omega
        have HPT := hide hput
        have hsp : wr.heap.size < wr.heap.size + 1 := Nat.lt_succ_self _
        clear hsA hrd hput hdl
        have bX := BoxT.new 38 wr #[.int .i64 wh, .int .i64 nn, .string nmm, .string to, .slice ba bl.length bc, .slice ka kl.length kc]
        have hkX : wr.heap.size ≠ k ∧ wr.heap.size ≠ b := by
          have x1 := HI.out.st.d.at_.box.lt
          have x2 := HI.out.st.d.at_.map.lt
          omega
        have hSB := (HO.out.b.seg HI.out.st.since.size).alloc (.cells #[.int .i64 wh, .int .i64 nn, .string nmm, .string to, .slice ba bl.length bc, .slice ka kl.length kc] 38)
        have HX := hide (And.intro bX (And.intro hkX hSB))
        clear bX hkX hSB
        rcases hwr with rfl | rfl | rfl
        all_goals
          go_wp2_with fail
          refine (HRD.out _ _ HA).mono ?_
          rintro e w5 ⟨v5, rfl, g5, h5, b5⟩
          obtain ⟨bX, hkX, hSB⟩ := HX.out
          have bX5 := bX.below b5
          have HX5 := hide (And.intro bX5 (And.intro hkX (hSB.below b5)))
          have hg5 := g5
          obtain ⟨a5, q5, rfl, -⟩ := g5
          rw [hw0] at hg5 ⊢
          have HG5 : Hid (Seg w5 (.slice a5 was q5) (fData o)) := hg5
          clear hg5
          have H5 := hide h5
          obtain ⟨x0, x1, x2, x3, x4, x5⟩ := bX5.cells6
          clear bX hkX hSB bX5 HX h5 b5 c0 c1 c2 c3 c4 c5
          go_wp2_with fail
          refine (kUsed H5.out).mono ?_
          rintro e w6 ⟨rfl, rfl⟩
          go_wp2_with fail
          have hn1 : n + 1 ≤ 1000000 := by have := HI.out.ni; have := HLT.out.1; omega
          have hw5 : (pWrite p (nm nmm) bl = (p, 21) ∧ rm < (fSum p.l : Int) - (was : Int) + (bl.length : Int) ∧ nmm.size < 1) ∨ (pWrite p (nm nmm) bl = (p, 21) ∧ rm < (fSum p.l : Int) - (was : Int) + (bl.length : Int) ∧ 32 < nmm.size) ∨
              (pWrite p (nm nmm) bl = (p, 21) ∧ ¬ rm < (fSum p.l : Int) - (was : Int) + (bl.length : Int)) ∨ (pWrite p (nm nmm) bl = (p, 22) ∧ rm < (fSum p.l : Int) - (was : Int) + (bl.length : Int) ∧ 1 ≤ nmm.size ∧ nmm.size ≤ 32) ∨
              (pWrite p (nm nmm) bl = ({ p with l := fPut ⟨nm nmm, bl, 0⟩ p.l }, 0) ∧ ¬ rm < (fSum p.l : Int) - (was : Int) + (bl.length : Int) ∧ 1 ≤ nmm.size ∧ nmm.size ≤ 32) := by
            unfold okName at hwc
            rw [hnl] at hwc
            simp only [decide_eq_true_eq, decide_eq_false_iff_not] at hwc
            rcases hwc with ⟨e1, e2⟩ | ⟨e1, e3, e2⟩ | ⟨e1, e3, e2⟩
            · by_cases hf : rm < (fSum p.l : Int) - (was : Int) + (bl.length : Int)
              · by_cases h0 : nmm.size < 1
                · exact .inl ⟨e2, hf, h0⟩
                · exact .inr (.inl ⟨e2, hf, by omega⟩)
              · exact .inr (.inr (.inl ⟨e2, hf⟩))
            · exact .inr (.inr (.inr (.inl ⟨e2, e3, e1⟩)))
            · exact .inr (.inr (.inr (.inr ⟨by rw [e2, ← hrm], by omega, e1⟩)))
          clear hwc
          rcases hw5 with ⟨e2, e3, e4⟩ | ⟨e2, e3, e4⟩ | ⟨e2, e3⟩ | ⟨e2, e3, e4, e5⟩ | ⟨e2, e3, e4, e5⟩
          case' inr.inr.inr.inr =>
            have hwr := kWrite H5.out hn1 nmm (by unfold maxLen; omega) _ bl HX5.out.2.2 HO.out.byts { p with l := fPut ⟨nm nmm, bl, 0⟩ p.l } 0 e2
            generalize hpp : ({ p with l := fPut ⟨nm nmm, bl, 0⟩ p.l } : Pd) = p' at hwr
            have hr' : p'.room = rm ∧ p'.left = -1 ∧ (fSum p'.l : Int) ≤ rm := by
              subst hpp
              have := HPT.out
              refine ⟨hrm, HI.out.left, ?_⟩
              show (fSum (fPut ⟨nm nmm, bl, 0⟩ p.l) : Int) ≤ rm
              omega
            clear hpp
            have hrd' : ∀ (W : World) (N : Nat), Hid (St w W k b N p') → Calls Try.prog 27 #[.pointer (some ⟨k, 0, none⟩), .string nmm] W fun e w' => ∃ v, e = .returned (.tuple #[v, .int .i64 (pFind p' (nm nmm)).2]) ∧ Seg w' v (fData (pFind p' (nm nmm)).1) ∧ St w w' k b N p' ∧ Below W.heap.size W w' := fun W N h => kRead h.out nmm (by unfold maxLen; omega) _ _ rfl
            generalize pFind p' (nm nmm) = fo' at hrd'
            obtain ⟨o', er'⟩ := fo'
            have HRD' := hide hrd'
            have HR' := hide hr'
            have hsum' := hr'.2.2
            clear hrd' hr'
            refine hwr.mono ?_
            rintro e w7 ⟨rfl, h7, t7⟩
            have H7 := hide h7
            obtain ⟨bX, hkX, hSB⟩ := HX5.out
            have bX7 := bX.turned t7 hkX.1 hkX.2
            have HX7 := hide bX7
            obtain ⟨x0, x1, x2, x3, x4, x5⟩ := bX7.cells6
            clear h7 t7 bX hkX hSB bX7 HX5 HG5 H5 hwr
            go_wp2_with fail
            refine (HRD'.out _ _ H7).mono ?_
            rintro e w8 ⟨v8, rfl, -, h8, b8⟩
            obtain ⟨y0, y1, y2, y3, y4, y5⟩ := (HX7.out.below b8).cells6
            have H8 := hide h8
            clear h8 b8 H7 HX7 x0 x1 x2 x3 x4 x5 HRD'
            go_wp2_with fail
            refine (kUsed H8.out).mono ?_
            rintro e w11 ⟨rfl, rfl⟩
            go_wp2
            go_roundw
            case rel =>
              obtain ⟨r1, r2, r3⟩ := HR'.out
              exact ⟨i + 1, n + 1, p', by omega, by go_num, ⟨H8.out, by have := HI.out.ni; omega, r1, r2, r3⟩⟩
            case measure => simp [intOf]; omega
          all_goals
            refine (kWrite H5.out hn1 nmm (by unfold maxLen; omega) _ bl HX5.out.2.2 HO.out.byts p _ e2).mono ?_
            rintro e w7 ⟨rfl, h7, t7⟩
            have H7 := hide h7
            obtain ⟨bX, hkX, hSB⟩ := HX5.out
            have bX7 := bX.turned t7 hkX.1 hkX.2
            have HG7 : Hid (Seg w7 (.slice a5 was q5) (fData o)) := HG5.out.turned H5.out.d.at_ t7
            have HX7 := hide bX7
            obtain ⟨x0, x1, x2, x3, x4, x5⟩ := bX7.cells6
            clear h7 t7 bX hkX hSB bX7 HX5 HG5 H5
            go_wp2_with fail
            refine (HRD.out _ _ H7).mono ?_
            rintro e w8 ⟨v8, rfl, g8, h8, b8⟩
            obtain ⟨y0, y1, y2, y3, y4, y5⟩ := (HX7.out.below b8).cells6
            have HG8 := hide (And.intro g8 (HG7.out.below b8))
            have H8 := hide h8
            clear g8 h8 b8 HG7 H7 HX7 x0 x1 x2 x3 x4 x5
            go_wp2_with fail
            refine (Bytes_any _ _ _ _ w8 HG8.out.2 HG8.out.1).mono ?_
            rintro e w9 ⟨rfl, b9⟩
            have hdd : decide (fData o = fData o) = true := by simp
            rw [hdd]
            have H9 := hide (H8.out.below b9)
            clear b9 H8 HG8 hdd y0 y1 y2 y3 y4 y5
            go_wp2_with fail
            refine (kUsed H9.out).mono ?_
            rintro e w10 ⟨rfl, rfl⟩
            go_wp2_with fail
            refine (kUsed H9.out).mono ?_
            rintro e w11 ⟨rfl, rfl⟩
            go_wp2
            go_roundw
            case rel => exact ⟨i + 1, n + 1, p, by omega, by go_num, ⟨H9.out, by have := HI.out.ni; omega, hrm, HI.out.left, hsum⟩⟩
            case measure => simp [intOf]; omega
      · have n0 : (wh == 0) = false := by simp; omega
        have n1 : (wh == 1) = false := by simp; omega
        have n2 : (wh == 2) = false := by simp; omega
        have hsA := HI.out.st.alloc (.cells #[.int .i64 wh, .int .i64 nn, .string nmm, .string to, .slice ba bl.length bc, .slice ka kl.length kc] 38)
        have HA := hide hsA
        clear hsA
        by_cases hdl : wh = 5
        · subst hdl
          have hn := delete_room HI.out.st.d.ok (nm nmm) HI.out.left
          have hdl := kDelete HA.out nmm (by unfold maxLen; omega) (pDelete p (nm nmm)).1 (pDelete p (nm nmm)).2 rfl
          generalize pDelete p (nm nmm) = pe at *
          obtain ⟨p', er⟩ := pe
          dsimp only at hn hdl
          have HN := hide hn
          clear hn
          go_wp2_with fail
          refine hdl.mono ?_
          rintro e w5 ⟨rfl, h5, -⟩
          obtain ⟨g1, g2, g3⟩ := HN.out
          have hsum := HI.out.sum
          clear hdl
          have H5 : Hid (RoomI w w5 k b (i + 1) rm n p') := ⟨h5, Nat.le_succ_of_le HI.out.ni, g1.trans HI.out.room_, g2, by omega⟩
          clear h5 g1 g2 g3 hsum HN HA HI
          go_wp2_with fail
          refine (kUsed H5.out.st).mono ?_
          rintro e w6 ⟨rfl, rfl⟩
          have hle := H5.out.sum
          go_wp2
          go_roundw
          case rel => exact ⟨i + 1, n, _, by omega, by go_num, H5⟩
          case measure => simp [intOf]; omega
        · have n5 : (wh == 5) = false := by simp; omega
          go_wp2_with fail
          refine (kUsed HA.out).mono ?_
          rintro e w6 ⟨rfl, rfl⟩
          have hle := HI.out.sum
          go_wp2
          go_roundw
          case rel => exact ⟨i + 1, n, _, by omega, by go_num, HI.out.next HA.out⟩
          case measure => simp [intOf]; omega
    · have hie : i = xs.length := by omega
      subst hie
      clear H4
      go_wp2
      go_ret
      exact ⟨rfl, HI.out.st.since⟩
end Go.Proofs.Ytnokibjhkdaamaa
