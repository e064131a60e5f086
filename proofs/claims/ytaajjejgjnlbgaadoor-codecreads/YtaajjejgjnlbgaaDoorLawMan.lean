/-
  The law of manifests, walked.
-/
import Derived.Test.YtaajjejgjnlbgaaDoorOpenMan
namespace Go.Proofs.YtaajjejgjnlbgaaDoor
open Go.RowKit

theorem rName_of (s : ByteArray) (l : List Nat) (h : s.size ≤ 32) : rName (nameb s ++ l, false) = (s, (l, false)) := by
  have e : nameb s ++ l = s.size :: (sb s ++ l) := rfl
  unfold rName
  rw [e, num_one]
  simp only [if_neg (show ¬ 32 < s.size by omega)]
  have ht : takeS s.size (sb s ++ l, false) = (sb s, (l, false)) := by
    unfold takeS
    rw [if_pos (by simp [sb_length])]
    have h1 : (sb s ++ l).take s.size = sb s := List.take_left' (sb_length s)
    have h2 : (sb s ++ l).drop s.size = l := List.drop_left' (sb_length s)
    simp only [h1, h2]
  rw [ht, strOf_sb]
theorem rListS_of (ss : List ByteArray) : (∀ s ∈ ss, s.size ≤ 32) → ∀ l, rListS ss.length (namesb ss ++ l, false) = (ss, (l, false)) := by
  induction ss with
  | nil => intro _ l; rfl
  | cons s ss ih =>
    intro h l
    have e : namesb (s :: ss) ++ l = nameb s ++ (namesb ss ++ l) := by simp [namesb]
    have h1 := rName_of s (namesb ss ++ l) (h s (by simp))
    rw [e, List.length_cons]
    unfold rListS
    rw [h1]
    simp only [Bool.false_eq_true, if_false, ih (fun t ht => h t (by simp [ht])) l]
theorem rMan_of (n ep : Int) (ss : List ByteArray) (l : List Nat) (h1 : U64 n) (h2 : U64 ep) (h : mfits ss = true) : rMan (manb n ep ss ++ l, false) = (⟨n.toNat, ep.toNat, ss⟩, (l, false)) := by
  unfold mfits at h
  rw [Bool.and_eq_true] at h
  have hl := of_decide_eq_true h.1
  have hs : ∀ s ∈ ss, s.size ≤ 32 := fun s hs => by have := List.all_eq_true.1 h.2 s hs; simpa using this
  have e : manb n ep ss ++ l = be 8 n.toNat ++ (be 8 ep.toNat ++ (be 2 ss.length ++ (namesb ss ++ l))) := by simp [manb]
  have b1 : n.toNat < 2 ^ (8 * 8) := by have := h1.2; omega
  have b2 : ep.toNat < 2 ^ (8 * 8) := by have := h2.2; omega
  have b3 : ss.length < 2 ^ (8 * 2) := by omega
  rw [e]
  unfold rMan
  simp only [num_be 8 _ _ _ b1, num_be 8 _ _ _ b2, num_be 2 _ _ _ b3, rListS_of ss hs l]
theorem namesb_byts (ss : List ByteArray) (h : ∀ s ∈ ss, s.size ≤ 32) : Byts (namesb ss) := by
  induction ss with
  | nil => exact Byts.nil
  | cons s ss ih =>
    have e : namesb (s :: ss) = nameb s ++ namesb ss := by simp [namesb]
    rw [e]
    exact (Byts.cons (by have := h s (by simp); omega) (sb_byts s)).app (ih (fun t ht => h t (by simp [ht])))
theorem manb_byts (n ep : Int) (ss : List ByteArray) (h : mfits ss = true) : Byts (manb n ep ss) := by
  unfold mfits at h
  rw [Bool.and_eq_true] at h
  have hs : ∀ s ∈ ss, s.size ≤ 32 := fun s hs => by have := List.all_eq_true.1 h.2 s hs; simpa using this
  exact (Byts.be _ _).app ((Byts.be _ _).app ((Byts.be _ _).app (namesb_byts ss hs)))

set_option maxHeartbeats 2000000 in
set_option maxRecDepth 100000 in
theorem same_eq (n ep : Int) (va vb : Value) (ss : List ByteArray) (w : World) (ha : SSeg w.heap.size w va ss) (hb : SSeg w.heap.size w vb ss) :
    Calls Tryd.prog 25 #[.agg #[.int .u64 n, .int .u64 ep, va], .agg #[.int .u64 n, .int .u64 ep, vb]] w fun e w' => e = .returned (.bool true) ∧ Below w.heap.size w w' := by
  obtain ⟨aa, ca, rfl, hla, h4⟩ := ha
  obtain ⟨ab, cb, rfl, hlb, k4⟩ := hb
  have en : (n != n) = false := by simp
  have ee : (ep != ep) = false := by simp
  have el : ((ss.length : Int) != (ss.length : Int)) = false := by simp
  have hb0 : Below w.heap.size w ((w.alloc (.cells #[.int .u64 n, .int .u64 ep, .slice aa ss.length ca] 57)).alloc (.cells #[.int .u64 n, .int .u64 ep, .slice ab ss.length cb] 57)) := ((Below.refl _ _).alloc (Nat.le_refl _) _).alloc (by simp) _
  have bx : BoxT 57 ((w.alloc (.cells #[.int .u64 n, .int .u64 ep, .slice aa ss.length ca] 57)).alloc (.cells #[.int .u64 n, .int .u64 ep, .slice ab ss.length cb] 57)) w.heap.size _ := (BoxT.new 57 w #[.int .u64 n, .int .u64 ep, .slice aa ss.length ca]).alloc _
  have by_ : BoxT 57 ((w.alloc (.cells #[.int .u64 n, .int .u64 ep, .slice aa ss.length ca] 57)).alloc (.cells #[.int .u64 n, .int .u64 ep, .slice ab ss.length cb] 57)) (w.heap.size + 1) _ := BoxT.new_at (by simp)
  by_cases h0 : ss = []
  · subst h0
    simp only [List.length_nil] at *
    clear h4 k4
    obtain ⟨c0, c1, c2⟩ := bx.cells3
    obtain ⟨d0, d1, d2⟩ := by_.cells3
    go_enter Tryd.func25, Tryd.ntmps25
    go_wp2
    refine wp_loop_rounds 1 ?_
    rw [rounds_succ]
    go_wp2
    go_ret
    exact ⟨rfl, hb0⟩
  rcases h4 with h4 | ⟨b1, o1, rfl, hb1, hc1⟩
  · exact absurd h4 h0
  rcases k4 with k4 | ⟨b2, o2, rfl, hb2, hc2⟩
  · exact absurd k4 h0
  have H1 : Hid (∀ (i : Nat) (s : ByteArray), ss[i]? = some s → w.cell? ⟨b1, o1 + i, none⟩ = some (.string s)) := hc1
  have H2 : Hid (∀ (i : Nat) (s : ByteArray), ss[i]? = some s → w.cell? ⟨b2, o2 + i, none⟩ = some (.string s)) := hc2
  have HBX : Hid (BoxT 57 _ w.heap.size _ ∧ BoxT 57 _ (w.heap.size + 1) _) := ⟨bx, by_⟩
  obtain ⟨c0, c1, c2⟩ := bx.cells3
  obtain ⟨d0, d1, d2⟩ := by_.cells3
  clear hc1 hc2 h0 bx by_
  go_enter Tryd.func25, Tryd.ntmps25
  go_wp2
  go_loopw [5] (fun i wr => ∃ k : Nat, k ≤ ss.length ∧ i = .int .i64 k ∧ Hid (BoxT 57 wr w.heap.size #[.int .u64 n, .int .u64 ep, .slice (some ⟨b1, o1, none⟩) ss.length ca] ∧ BoxT 57 wr (w.heap.size + 1) #[.int .u64 n, .int .u64 ep, .slice (some ⟨b2, o2, none⟩) ss.length cb]) ∧ Hid (Below w.heap.size w wr)) (fun i _ => ss.length - (intOf i).toNat)
  case atStart => exact ⟨0, Nat.zero_le _, rfl, HBX, hb0⟩
  case round =>
    obtain ⟨k, hk, rfl, HX, HB⟩ := hrel
    clear c0 c1 c2 d0 d1 d2 HBX hb0
    obtain ⟨c0, c1, c2⟩ := HX.out.1.cells3
    obtain ⟨d0, d1, d2⟩ := HX.out.2.cells3
    by_cases hlt : k < ss.length
    · obtain ⟨s, hs⟩ : ∃ s : ByteArray, ss[k]? = some s := ⟨_, List.getElem?_eq_getElem hlt⟩
      have e1 : wr.cell? ⟨b1, o1 + k, none⟩ = some (.string s) := (HB.out.cell (p := ⟨b1, o1 + k, none⟩) hb1).trans (H1.out k s hs)
      have e2 : wr.cell? ⟨b2, o2 + k, none⟩ = some (.string s) := (HB.out.cell (p := ⟨b2, o2 + k, none⟩) hb2).trans (H2.out k s hs)
      clear hs
      go_wp2
      go_quiet (fail)
      go_wp2
      go_roundw
      case rel => exact ⟨k + 1, by omega, by go_num, HX, below_drewN' HB.out nq⟩
      case measure => simp [intOf]; omega
    · go_wp2
      go_ret
      exact ⟨rfl, HB.out⟩

def nsum (ss : List ByteArray) : Nat := (ss.map fun s => s.size + 1).sum
theorem nsum_snoc (ss : List ByteArray) (k : Nat) (s : ByteArray) (h : ss[k]? = some s) : nsum (ss.take (k + 1)) = nsum (ss.take k) + (s.size + 1) := by
  unfold nsum
  rw [List.take_add_one, h, List.map_append, List.sum_append]; simp
theorem nsum_len (ss : List ByteArray) : ss.length ≤ nsum ss := by
  induction ss with
  | nil => simp
  | cons s ss ih => simp only [nsum, List.map_cons, List.sum_cons, List.length_cons] at *; omega
theorem nsum_names (ss : List ByteArray) : (namesb ss).length = nsum ss := by
  induction ss with
  | nil => rfl
  | cons s ss ih =>
    simp only [namesb, nsum, List.flatMap_cons, List.length_append, List.map_cons, List.sum_cons] at *
    rw [ih]; simp [nameb, sb_length]
theorem mOut_len (n ep : Int) (ss : List ByteArray) : (mOut n ep ss).length ≤ 18 + nsum ss := by
  unfold mOut
  split
  · simp only [manb, List.length_append, be_length, nsum_names]; omega
  · simp

/-- In the midst of the law: its box, and that what was there is as it was. -/
structure LM (w W : World) (mc : Array Value) : Prop where
  bm : BoxT 57 W w.heap.size mc
  bel : Below w.heap.size w W
  gl : Glob W
theorem LM.step {w W W' : World} {mc : Array Value} (h : LM w W mc) (hb : Below W.heap.size W W') : LM w W' mc :=
  ⟨h.bm.kept (base := 0) (Kept.of_below hb) (by decide), h.bel.trans (hb.mono h.bel.size), h.gl.below hb h.gl.1⟩
theorem LM.start (w : World) (mc : Array Value) (hg : Glob w) : LM w (w.alloc (.cells mc 57)) mc := by
  have hb : Below w.heap.size w (w.alloc (.cells mc 57)) := (Below.refl _ _).alloc (Nat.le_refl _) _
  exact ⟨BoxT.new 57 w mc, hb, hg.below hb hg.1⟩
theorem SSeg.lm {w W : World} {mc : Array Value} {v : Value} {ss : List ByteArray} (h : SSeg w.heap.size w v ss) (q : LM w W mc) : SSeg W.heap.size W v ss := (h.below q.bel).mono q.bel.size

set_option maxHeartbeats 4000000 in
set_option maxRecDepth 100000 in
theorem CodecManifest_walk (n ep : Int) (vs : Value) (ss : List ByteArray) (w : World) (h1 : U64 n) (h2 : U64 ep) (hsz : ∀ s ∈ ss, s.size ≤ 140737488355328) (hseg : SSeg w.heap.size w vs ss) (hg : Glob w) :
    Calls Tryd.prog 5 #[.agg #[.int .u64 n, .int .u64 ep, vs]] w fun e w' => e = .returned (.bool true) ∧ Below w.heap.size w w' := by
  have HSS : Hid (SSeg w.heap.size w vs ss) := hseg
  have HSZ : Hid (∀ s ∈ ss, s.size ≤ 140737488355328) := hsz
  obtain ⟨ao, cap, rfl, hlm, h4⟩ := hseg
  have H4 : Hid (ss = [] ∨ ∃ b off, ao = some ⟨b, off, none⟩ ∧ b < w.heap.size ∧ ∀ (i : Nat) (s : ByteArray), ss[i]? = some s → w.cell? ⟨b, off + i, none⟩ = some (.string s)) := h4
  have q := LM.start w #[.int .u64 n, .int .u64 ep, .slice ao ss.length cap] hg
  clear h4 hsz hg
  go_enter Tryd.func5, Tryd.ntmps5
  go_wp2_with fail
  refine (known_any _ q.gl).mono ?_
  rintro e w1 ⟨rfl, hb⟩
  have q := q.step hb
  clear hb
  obtain ⟨c0, c1, c2⟩ := q.bm.cells3
  go_wp2_with fail
  go_loop [3, 4] (fun m i => ∃ (k mm : Nat), k ≤ ss.length ∧ i = .int .i64 k ∧ m = .int .i64 mm ∧ Hid (nsum (ss.take k) = mm) ∧ mm ≤ 140737488370000) (fun _ i => ss.length - (intOf i).toNat)
  case atStart => exact ⟨0, 0, Nat.zero_le _, rfl, rfl, rfl, by omega⟩
  case round =>
    obtain ⟨k, mm, hk, rfl, rfl, HM, hmm⟩ := hrel
    by_cases hlt : k < ss.length
    · by_cases h6 : mm ≤ 6000
      · obtain ⟨s, hs⟩ : ∃ s : ByteArray, ss[k]? = some s := ⟨_, List.getElem?_eq_getElem hlt⟩
        have hss := HSZ.out s (List.mem_of_getElem? hs)
        have H4' : ∃ b off, ao = some ⟨b, off, none⟩ ∧ w1.cell? ⟨b, off + k, none⟩ = some (.string s) := by
          rcases H4.out with h | ⟨b, off, h5, h6, h7⟩
          · subst h; simp at hlt
          · exact ⟨b, off, h5, (q.bel.cell (p := ⟨b, off + k, none⟩) h6).trans (h7 k s hs)⟩
        obtain ⟨b, off, hao, hcs⟩ := H4'
        have HM' : Hid (nsum (ss.take (k + 1)) = mm + 1 + s.size) := by
          show _ = _
          rw [nsum_snoc ss k s hs, HM.out]; omega
        subst hao
        clear hs
        go_wp2
        go_round
        case rel => exact ⟨k + 1, mm + 1 + s.size, by omega, by go_num, by go_num, HM', by omega⟩
        case measure => simp [intOf]; omega
      · have hfin := q.bel
        go_wp2
        go_ret
        exact ⟨rfl, hfin⟩
    · by_cases h6 : mm ≤ 6000
      · have hk' : k = ss.length := by omega
        have hns : nsum ss ≤ 6000 := by
          have := HM.out
          rw [hk', List.take_length] at this
          omega
        have hl6 := nsum_len ss
        have HN : Hid (nsum ss ≤ 6000) := hns
        have hl6000 : ss.length ≤ 6000 := by omega
        clear hk' hns hl6
        go_wp2_with fail
        refine (Manifest_any n ep _ ss w1 h1.1 h2.1 (fun s hs => by have := HSZ.out s hs; omega) (HSS.out.lm q)).mono ?_
        rintro e w2 ⟨v2, rfl, ho2, hb⟩
        have q := q.step hb
        have HO2 : Hid (Own w1.heap.size w2 v2 (mOut n ep ss)) := ho2
        have hz := hb.size
        clear hb ho2 c0 c1 c2
        obtain ⟨c0, c1, c2⟩ := q.bm.cells3
        go_wp2_with fail
        refine (refManifest_any n ep _ ss w2 h1.1 h2.1 (fun s hs => by have := HSZ.out s hs; omega) (HSS.out.lm q)).mono ?_
        rintro e w3 ⟨v3, rfl, ho3, hb⟩
        have q := q.step hb
        have hlo := mOut_len n ep ss
        have HLO : Hid ((mOut n ep ss).length ≤ 6018) := by
          show _ ≤ _
          have := HN.out; omega
        have HS2 : Hid (Seg w3 v2 (mOut n ep ss)) := (HO2.out.below hb (Nat.le_refl _)).seg (by have := HLO.out; omega)
        have HS3 : Hid (Seg w3 v3 (mOut n ep ss)) := ho3.seg (by have := HLO.out; omega)
        clear hb ho3 HO2 hlo c0 c1 c2
        go_wp2_with fail
        refine (Bytes_any v2 v3 _ _ w3 HS2.out HS3.out).mono ?_
        rw [decide_eq_true rfl]
        rintro e w4 ⟨rfl, hb⟩
        have q := q.step hb
        have HS2 : Hid (Seg w4 v2 (mOut n ep ss)) := HS2.out.below hb
        clear hb HS3
        have ee : (mEr ss != mEr ss) = false := by simp
        rcases Bool.eq_false_or_eq_true (mfits ss) with hf | hf
        · have e0 : (mEr ss != 0) = false := by unfold mEr; rw [hf]; rfl
          have hmo : mOut n ep ss = manb n ep ss := by unfold mOut; rw [hf]; rfl
          have hrm := rMan_of n ep ss [] h1 h2 hf
          rw [List.append_nil] at hrm
          rw [hmo] at HS2
          have HF : Hid (mfits ss = true) := hf
          have HRM : Hid (rMan (manb n ep ss, false) = (⟨n.toNat, ep.toNat, ss⟩, ([], false))) := hrm
          have hn0 : ((n.toNat : Nat) : Int) = n := Int.toNat_of_nonneg h1.1
          have he0 : ((ep.toNat : Nat) : Int) = ep := Int.toNat_of_nonneg h2.1
          clear hmo hrm hf
          go_wp2_with fail
          refine (OpenManifest_any v2 _ w4 HS2.out (manb_byts n ep ss HF.out)).mono ?_
          rw [HRM.out, show done ([], false) = true from rfl]
          rintro e w5 ⟨v5, rfl, ho5, hb⟩
          simp only [if_true, hn0, he0] at ho5 ⊢
          have q := q.step hb
          obtain ⟨ao5, cap5, hv5⟩ := ho5.shape
          rw [hv5] at ho5 ⊢
          have q := q.step ((Below.refl w5.heap.size w5).alloc (Nat.le_refl _) (.cells #[.int .u64 n, .int .u64 ep, .slice ao5 ss.length cap5] 57))
          have hs5 := (ho5.alloc (.cells #[.int .u64 n, .int .u64 ep, .slice ao5 ss.length cap5] 57)).sseg (by omega) (Nat.le_refl _)
          have HS5 : Hid (SSeg _ _ (.slice ao5 ss.length cap5) ss) := hs5
          clear hb ho5 hs5 hv5
          obtain ⟨c0, c1, c2⟩ := q.bm.cells3
          go_wp2_with fail
          refine (same_eq n ep _ _ ss _ HS5.out (HSS.out.lm q)).mono ?_
          rintro e w6 ⟨rfl, hb⟩
          have hfin := (q.step hb).bel
          go_wp2
          go_ret
          exact ⟨rfl, hfin⟩
        · have e0 : (mEr ss != 0) = true := by unfold mEr; rw [hf]; rfl
          have hfin := q.bel
          clear hf
          go_wp2
          go_ret
          exact ⟨rfl, hfin⟩
      · have hfin := q.bel
        go_wp2
        go_ret
        exact ⟨rfl, hfin⟩
end Go.Proofs.YtaajjejgjnlbgaaDoor
