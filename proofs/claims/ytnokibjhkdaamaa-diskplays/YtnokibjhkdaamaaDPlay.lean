/-
  Walks over the statements' own player of scripts: play.
-/
import Derived.Test.YtnokibjhkdaamaaDArgs
import Derived.Deep.RegionLaw
namespace Go.Proofs.Ytnokibjhkdaamaa
open Go.RowKit Go.Maps

def pStep (p : Pd) (t : Stp) : Pd × Int :=
  if t.wh = 0 ∨ t.wh = 1 ∨ t.wh = 2 then pWrite p (nm t.nm) t.bl
  else if t.wh = 3 then pSync p (nm t.nm)
  else if t.wh = 4 then pRename p (nm t.nm) (nm t.to)
  else if t.wh = 5 then pDelete p (nm t.nm)
  else (p, 1)
def pNext (s : Pd × Nat) (t : Stp) : Pd × Nat := ((pStep s.1 t).1, s.2 + if (pStep s.1 t).2 = 0 then 1 else 0)
def pPlay (p : Pd) (xs : List Stp) : Pd × Nat := xs.foldl pNext (p, 0)
theorem pPlay_succ {p : Pd} {xs : List Stp} {i : Nat} {t : Stp} (h : xs[i]? = some t) : pPlay p (xs.take (i + 1)) = pNext (pPlay p (xs.take i)) t := by
  obtain ⟨hi, rfl⟩ := List.getElem?_eq_some_iff.1 h
  unfold pPlay
  rw [List.take_succ_eq_append_getElem hi, List.foldl_append]
  rfl
theorem pNext_le (xs : List Stp) (s : Pd × Nat) : (xs.foldl pNext s).2 ≤ s.2 + xs.length := by
  induction xs generalizing s with
  | nil => simp
  | cons t r ih =>
    have := ih (pNext s t)
    have h2 : (pNext s t).2 ≤ s.2 + 1 := by unfold pNext; dsimp only; split <;> omega
    simp only [List.foldl_cons, List.length_cons]
    omega
theorem pPlay_le (p : Pd) (xs : List Stp) : (pPlay p xs).2 ≤ xs.length := by
  have := pNext_le xs (p, 0)
  unfold pPlay
  simpa using this

/-- A disk while a script runs. -/
structure PlayI (w0 w wr : World) (k b n : Nat) (p : Pd) (xs : List Stp) (i m : Nat) : Prop where
  cnt : m = (pPlay p (xs.take i)).2
  st : St w0 wr k b (n + i) (pPlay p (xs.take i)).1
  t : Turned k b w wr
theorem PlayI.next {w0 w wr wr' : World} {k b n : Nat} {p : Pd} {xs : List Stp} {i m : Nat} {t : Stp} {p' : Pd} {er : Int} (h : PlayI w0 w wr k b n p xs i m) (ht : xs[i]? = some t) (hp : pStep (pPlay p (xs.take i)).1 t = (p', er)) (hs : St w0 wr' k b (n + (i + 1)) p') (h2 : Turned k b wr wr') :
    PlayI w0 w wr' k b n p xs (i + 1) (m + if er = 0 then 1 else 0) := by
  have e := pPlay_succ (p := p) ht
  unfold pNext at e
  rw [hp] at e
  dsimp only at e
  refine ⟨?_, ?_, h.t.trans h2⟩
  · rw [e, h.cnt]
  · rw [e]; exact hs
theorem St.mono {w0 w : World} {k b n n' : Nat} {p : Pd} (h : St w0 w k b n p) (hn : n ≤ n') (h' : n' ≤ 1000000) : St w0 w k b n' p := ⟨h.d.mono hn h', h.s⟩

set_option maxHeartbeats 4000000 in
set_option maxRecDepth 100000 in
theorem play_p {w0 w : World} {k b n : Nat} {p : Pd} (h : St w0 w k b n p) (ao : Option Addr) (cap : Nat) (xs : List Stp) (hs : Hid (Scr w0 (.slice ao xs.length cap) xs)) (hl : xs.length ≤ 300) (ht : tot xs ≤ 50000) (hn : n + 300 ≤ 1000000) :
    Calls Try.prog 11 #[.pointer (some ⟨k, 0, none⟩), .slice ao xs.length cap] w fun e w' => e = .returned (.int .i64 (pPlay p xs).2) ∧ St w0 w' k b (n + xs.length) (pPlay p xs).1 ∧ Turned k b w w' := by
  have HH := hide h
  clear h
  go_enter Try.func11, Try.ntmps11
  go_wp2_with fail
  go_loopw [5, 6] (fun nv iv wr => ∃ i m : Nat, i ≤ xs.length ∧ m ≤ i ∧ iv = .int .i64 i ∧ nv = .int .i64 m ∧ Hid (PlayI w0 w wr k b n p xs i m)) (fun _ iv _ => xs.length - (intOf iv).toNat)
  case atStart => exact ⟨0, 0, Nat.zero_le _, Nat.le_refl _, rfl, rfl, ⟨rfl, HH.out, Turned.refl _ _ _⟩⟩
  case round =>
    obtain ⟨i, m, hi, hm, rfl, rfl, HI⟩ := hrel
    by_cases hlt : i < xs.length
    · obtain ⟨t, ht0⟩ : ∃ t, xs[i]? = some t := ⟨_, List.getElem?_eq_getElem hlt⟩
      have hmem := List.mem_of_getElem? ht0
      obtain ⟨l1, l2, l3, l4⟩ := mem_wt hmem ht
      have hok := (hs.out.o t hmem).below HI.out.st.since
      obtain ⟨bb, off, rfl, hbb, c0, c1, c2, c3, c4, c5⟩ := (hs.out.s.below HI.out.st.since).stp ht0
      rw [Nat.add_zero] at c0
      have HO := hide hok
      have HT := hide ht0
      clear ht0 hmem hok
      have hn1 : n + i + 1 ≤ 1000000 := by omega
      have hsd : St w0 wr.drew k b (n + i) (pPlay p (xs.take i)).1 := HI.out.st.below ((Below.refl _ _).drew)
      have htd : Turned k b wr wr.drew := Turned.below ((Below.refl _ _).drew)
      have hsg : Seg wr.drew (.slice t.ba t.bl.length t.bc) t.bl := (HO.out.b.seg HI.out.st.since.size).below ((Below.refl _ _).drew)
      have hwr := kWrite hsd hn1 t.nm (by unfold maxLen; omega) _ t.bl hsg HO.out.byts (pWrite (pPlay p (xs.take i)).1 (nm t.nm) t.bl).1 (pWrite (pPlay p (xs.take i)).1 (nm t.nm) t.bl).2 rfl
      have hsy := kSync HI.out.st hn1 t.nm (by unfold maxLen; omega) (pSync (pPlay p (xs.take i)).1 (nm t.nm)).1 (pSync (pPlay p (xs.take i)).1 (nm t.nm)).2 rfl
      have hre := kRename hsd hn1 t.nm t.to (by unfold maxLen; omega) (by unfold maxLen; omega) (pRename (pPlay p (xs.take i)).1 (nm t.nm) (nm t.to)).1 (pRename (pPlay p (xs.take i)).1 (nm t.nm) (nm t.to)).2 rfl
      have hde := kDelete HI.out.st t.nm (by unfold maxLen; omega) (pDelete (pPlay p (xs.take i)).1 (nm t.nm)).1 (pDelete (pPlay p (xs.take i)).1 (nm t.nm)).2 rfl
      have hps : pStep (pPlay p (xs.take i)).1 t = pStep (pPlay p (xs.take i)).1 t := rfl
      have HTD := hide htd
      clear hsd htd hsg
      by_cases hw3 : t.wh = 0 ∨ t.wh = 1 ∨ t.wh = 2
      · have hpe : pStep (pPlay p (xs.take i)).1 t = pWrite (pPlay p (xs.take i)).1 (nm t.nm) t.bl := by unfold pStep; rw [if_pos hw3]
        generalize pWrite (pPlay p (xs.take i)).1 (nm t.nm) t.bl = pe at *
        obtain ⟨p', er⟩ := pe
        have HPE := hide hpe
        dsimp only at hwr
        have HC := hide hwr
        clear hpe hwr hsy hre hde hps
        by_cases he0 : er = 0
        · subst he0
          rcases hw3 with hw3 | hw3 | hw3
          all_goals
            rw [hw3] at c0
            go_wp2_with fail
            go_region_law (go_simp; go_at_call 18; refine HC.out.mono ?_; rintro e w5 ⟨rfl, h5, t5⟩)
            all_goals
              have hnx := HI.out.next HT.out HPE.out (h5) (HTD.out.trans t5)
              rw [if_pos rfl] at hnx
              have H5 := hide hnx
              clear h5 t5 hnx HC HPE HI
              go_wp2
              go_roundw
              case rel => exact ⟨i + 1, m + 1, by omega, by omega, by go_num, by go_num, H5⟩
              case measure => simp [intOf]; omega
        · have he1 : (er == 0) = false := by simpa using he0
          rcases hw3 with hw3 | hw3 | hw3
          all_goals
            rw [hw3] at c0
            go_wp2_with fail
            go_region_law (go_simp; go_at_call 18; refine HC.out.mono ?_; rintro e w5 ⟨rfl, h5, t5⟩)
            all_goals
              have hnx := HI.out.next HT.out HPE.out (h5) (HTD.out.trans t5)
              rw [if_neg he0, Nat.add_zero] at hnx
              have H5 := hide hnx
              clear h5 t5 hnx HC HPE HI
              go_wp2
              go_roundw
              case rel => exact ⟨i + 1, m, by omega, by omega, by go_num, rfl, H5⟩
              case measure => simp [intOf]; omega
      · have hv0 := hw3
        clear hw3
        by_cases hw3 : t.wh = 3
        · have hpe : pStep (pPlay p (xs.take i)).1 t = pSync (pPlay p (xs.take i)).1 (nm t.nm) := by unfold pStep; rw [if_neg hv0]; rw [if_pos hw3]
          generalize pSync (pPlay p (xs.take i)).1 (nm t.nm) = pe at *
          obtain ⟨p', er⟩ := pe
          have HPE := hide hpe
          dsimp only at hsy
          have HC := hide hsy
          clear hpe hwr hsy hre hde hps
          by_cases he0 : er = 0
          · subst he0
            rw [hw3] at c0
            go_wp2_with fail
            refine HC.out.mono ?_
            rintro e w5 ⟨rfl, h5, t5⟩
            have hnx := HI.out.next HT.out HPE.out (h5) (t5)
            rw [if_pos rfl] at hnx
            have H5 := hide hnx
            clear h5 t5 hnx HC HPE HI
            go_wp2
            go_roundw
            case rel => exact ⟨i + 1, m + 1, by omega, by omega, by go_num, by go_num, H5⟩
            case measure => simp [intOf]; omega
          · have he1 : (er == 0) = false := by simpa using he0
            rw [hw3] at c0
            go_wp2_with fail
            refine HC.out.mono ?_
            rintro e w5 ⟨rfl, h5, t5⟩
            have hnx := HI.out.next HT.out HPE.out (h5) (t5)
            rw [if_neg he0, Nat.add_zero] at hnx
            have H5 := hide hnx
            clear h5 t5 hnx HC HPE HI
            go_wp2
            go_roundw
            case rel => exact ⟨i + 1, m, by omega, by omega, by go_num, rfl, H5⟩
            case measure => simp [intOf]; omega
        have hv3 := hw3
        clear hw3
        by_cases hw3 : t.wh = 4
        · have hpe : pStep (pPlay p (xs.take i)).1 t = pRename (pPlay p (xs.take i)).1 (nm t.nm) (nm t.to) := by unfold pStep; rw [if_neg hv0, if_neg hv3]; rw [if_pos hw3]
          generalize pRename (pPlay p (xs.take i)).1 (nm t.nm) (nm t.to) = pe at *
          obtain ⟨p', er⟩ := pe
          have HPE := hide hpe
          dsimp only at hre
          have HC := hide hre
          clear hpe hwr hsy hre hde hps
          by_cases he0 : er = 0
          · subst he0
            rw [hw3] at c0
            go_wp2_with fail
            go_region_law (go_simp; go_at_call 23; refine HC.out.mono ?_; rintro e w5 ⟨rfl, h5, t5⟩)
            all_goals
              have hnx := HI.out.next HT.out HPE.out (h5) (HTD.out.trans t5)
              rw [if_pos rfl] at hnx
              have H5 := hide hnx
              clear h5 t5 hnx HC HPE HI
              go_wp2
              go_roundw
              case rel => exact ⟨i + 1, m + 1, by omega, by omega, by go_num, by go_num, H5⟩
              case measure => simp [intOf]; omega
          · have he1 : (er == 0) = false := by simpa using he0
            rw [hw3] at c0
            go_wp2_with fail
            go_region_law (go_simp; go_at_call 23; refine HC.out.mono ?_; rintro e w5 ⟨rfl, h5, t5⟩)
            all_goals
              have hnx := HI.out.next HT.out HPE.out (h5) (HTD.out.trans t5)
              rw [if_neg he0, Nat.add_zero] at hnx
              have H5 := hide hnx
              clear h5 t5 hnx HC HPE HI
              go_wp2
              go_roundw
              case rel => exact ⟨i + 1, m, by omega, by omega, by go_num, rfl, H5⟩
              case measure => simp [intOf]; omega
        have hv4 := hw3
        clear hw3
        by_cases hw3 : t.wh = 5
        · have hpe : pStep (pPlay p (xs.take i)).1 t = pDelete (pPlay p (xs.take i)).1 (nm t.nm) := by unfold pStep; rw [if_neg hv0, if_neg hv3, if_neg hv4]; rw [if_pos hw3]
          generalize pDelete (pPlay p (xs.take i)).1 (nm t.nm) = pe at *
          obtain ⟨p', er⟩ := pe
          have HPE := hide hpe
          dsimp only at hde
          have HC := hide hde
          clear hpe hwr hsy hre hde hps
          by_cases he0 : er = 0
          · subst he0
            rw [hw3] at c0
            go_wp2_with fail
            refine HC.out.mono ?_
            rintro e w5 ⟨rfl, h5, t5⟩
            have hnx := HI.out.next HT.out HPE.out (h5.mono (by omega) (by omega)) (t5)
            rw [if_pos rfl] at hnx
            have H5 := hide hnx
            clear h5 t5 hnx HC HPE HI
            go_wp2
            go_roundw
            case rel => exact ⟨i + 1, m + 1, by omega, by omega, by go_num, by go_num, H5⟩
            case measure => simp [intOf]; omega
          · have he1 : (er == 0) = false := by simpa using he0
            rw [hw3] at c0
            go_wp2_with fail
            refine HC.out.mono ?_
            rintro e w5 ⟨rfl, h5, t5⟩
            have hnx := HI.out.next HT.out HPE.out (h5.mono (by omega) (by omega)) (t5)
            rw [if_neg he0, Nat.add_zero] at hnx
            have H5 := hide hnx
            clear h5 t5 hnx HC HPE HI
            go_wp2
            go_roundw
            case rel => exact ⟨i + 1, m, by omega, by omega, by go_num, rfl, H5⟩
            case measure => simp [intOf]; omega
        have hpe : pStep (pPlay p (xs.take i)).1 t = ((pPlay p (xs.take i)).1, 1) := by unfold pStep; rw [if_neg hv0, if_neg hv3, if_neg hv4, if_neg hw3]
        have hnx := HI.out.next HT.out hpe (HI.out.st.mono (by omega) (by omega)) (Turned.refl _ _ _)
        rw [if_neg (by decide), Nat.add_zero] at hnx
        have H5 := hide hnx
        have n0 : (t.wh == 0) = false := by simp; omega
        have n1 : (t.wh == 1) = false := by simp; omega
        have n2 : (t.wh == 2) = false := by simp; omega
        have n3 : (t.wh == 3) = false := by simp; omega
        have n4 : (t.wh == 4) = false := by simp; omega
        have n5 : (t.wh == 5) = false := by simp; omega
        clear hnx hpe hwr hsy hre hde hps HI
        go_wp2
        go_roundw
        case rel => exact ⟨i + 1, m, by omega, by omega, by go_num, rfl, H5⟩
        case measure => simp [intOf]; omega
    · have hie : i = xs.length := by omega
      subst hie
      have hI := HI.out
      have h1 := hI.cnt
      have h2 := hI.st
      rw [List.take_length] at h1 h2
      have HP := hide (And.intro h2 hI.t)
      have H1 := hide h1
      clear hI h2 HI h1
      go_wp2
      go_ret
      exact ⟨by rw [← H1.out]; rfl, HP.out⟩
end Go.Proofs.Ytnokibjhkdaamaa
