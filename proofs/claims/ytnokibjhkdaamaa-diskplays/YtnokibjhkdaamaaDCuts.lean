/-
  The statement DiskCuts, walked.
-/
import Derived.Test.YtnokibjhkdaamaaDPlay
namespace Go.Proofs.Ytnokibjhkdaamaa
open Go.RowKit Go.Maps

theorem pFind_left (A : Pd) (m : Int) (hA : A.left ≠ 0) (hm : m ≠ 0) (s : List UInt8) : pFind { A with left := m } s = pFind A s := by
  unfold pFind
  rw [if_neg hA, if_neg hm]
/-- A call does the same whatever is left, as long as anything is. -/
theorem pStep_left (A : Pd) (t : Stp) (m : Int) (hA : A.left = -1) (hm : 0 < m) : ∃ (L : List Fi) (er : Int), pStep A t = (⟨L, A.room, -1⟩, er) ∧ pStep { A with left := m } t = (⟨L, A.room, if er = 0 then m - 1 else m⟩, er) := by
  have h1 : A.left ≠ 0 := by omega
  have h2 : m ≠ 0 := by omega
  have hd1 : ∀ L : List Fi, ({ A with l := L } : Pd).done = ⟨L, A.room, -1⟩ := fun L => by unfold Pd.done; rw [hA]; rfl
  have hd2 : ∀ L : List Fi, (⟨L, A.room, m⟩ : Pd).done = ⟨L, A.room, m - 1⟩ := fun L => by unfold Pd.done; dsimp only; rw [if_pos hm]
  have hs : A = ⟨A.l, A.room, -1⟩ := by rw [← hA]
  have same : ∀ er : Int, er ≠ 0 → ∃ (L : List Fi) (er' : Int), (A, er) = ((⟨L, A.room, -1⟩ : Pd), er') ∧ ((({ A with left := m } : Pd), er) = ((⟨L, A.room, if er' = 0 then m - 1 else m⟩ : Pd), er')) := fun er he => ⟨A.l, er, by rw [← hs], by rw [if_neg he]⟩
  have did : ∀ L : List Fi, ∃ (L' : List Fi) (er' : Int), ((({ A with l := L } : Pd).done), (0 : Int)) = ((⟨L', A.room, -1⟩ : Pd), er') ∧ (((⟨L, A.room, m⟩ : Pd).done), (0 : Int)) = ((⟨L', A.room, if er' = 0 then m - 1 else m⟩ : Pd), er') := fun L => ⟨L, 0, by rw [hd1], by rw [hd2, if_pos rfl]⟩
  unfold pStep
  by_cases w0 : t.wh = 0 ∨ t.wh = 1 ∨ t.wh = 2
  · rw [if_pos w0, if_pos w0]
    unfold pWrite
    rw [if_neg h1, if_neg h2]
    by_cases o : okName (nm t.nm) = false
    · rw [if_pos o, if_pos o]; exact same 21 (by decide)
    · rw [if_neg o, if_neg o]
      dsimp only
      by_cases f : 1048576 < t.bl.length ∨ A.room < (fSum A.l : Int) - (fWas (nm t.nm) A.l : Int) + (t.bl.length : Int)
      · rw [if_pos f, if_pos f]; exact same 22 (by decide)
      · rw [if_neg f, if_neg f]; exact did _
  · rw [if_neg w0, if_neg w0]
    by_cases w3 : t.wh = 3
    · rw [if_pos w3, if_pos w3]
      unfold pSync
      rw [pFind_left A m h1 h2]
      cases e : (pFind A (nm t.nm)).1 with
      | none => exact same _ (pFind_none e)
      | some f => exact did _
    · rw [if_neg w3, if_neg w3]
      by_cases w4 : t.wh = 4
      · rw [if_pos w4, if_pos w4]
        unfold pRename
        rw [pFind_left A m h1 h2]
        cases e : (pFind A (nm t.nm)).1 with
        | none => exact same _ (pFind_none e)
        | some f =>
          dsimp only
          by_cases o : okName (nm t.to) = false
          · rw [if_pos o, if_pos o]; exact same 21 (by decide)
          · rw [if_neg o, if_neg o]; exact did _
      · rw [if_neg w4, if_neg w4]
        by_cases w5 : t.wh = 5
        · rw [if_pos w5, if_pos w5]
          unfold pDelete
          rw [pFind_left A m h1 h2]
          cases e : (pFind A (nm t.nm)).1 with
          | none => exact same _ (pFind_none e)
          | some f => exact did _
        · rw [if_neg w5, if_neg w5]; exact same 1 (by decide)
theorem pFind_dead {B : Pd} (h : B.left = 0) (s : List UInt8) : pFind B s = (none, 23) := by unfold pFind; rw [if_pos h]
theorem pStep_dead (B : Pd) (t : Stp) (h : B.left = 0) : ∃ er : Int, er ≠ 0 ∧ pStep B t = (B, er) := by
  unfold pStep pWrite pSync pRename pDelete
  rw [if_pos h, pFind_dead h]
  by_cases w0 : t.wh = 0 ∨ t.wh = 1 ∨ t.wh = 2
  · rw [if_pos w0]; exact ⟨23, by decide, rfl⟩
  · rw [if_neg w0]
    by_cases w3 : t.wh = 3
    · rw [if_pos w3]; exact ⟨23, by decide, rfl⟩
    · rw [if_neg w3]
      by_cases w4 : t.wh = 4
      · rw [if_pos w4]; exact ⟨23, by decide, rfl⟩
      · rw [if_neg w4]
        by_cases w5 : t.wh = 5
        · rw [if_pos w5]; exact ⟨23, by decide, rfl⟩
        · rw [if_neg w5]; exact ⟨1, by decide, rfl⟩
/-- How a run with a cut behind n calls stands to one without. -/
def CutR (n : Nat) (sa sb : Pd × Nat) : Prop :=
  sa.1.left = -1 ∧ ((sa.2 < n ∧ sb.1 = { sa.1 with left := (n : Int) - (sa.2 : Int) } ∧ sb.2 = sa.2) ∨ (n ≤ sa.2 ∧ sb.1.left = 0 ∧ sb.2 = n))
theorem CutR.step {n : Nat} {sa sb : Pd × Nat} (h : CutR n sa sb) (t : Stp) : CutR n (pNext sa t) (pNext sb t) := by
  obtain ⟨h0, h1 | h1⟩ := h
  · obtain ⟨h1, h2, h3⟩ := h1
    obtain ⟨L, er, e1, e2⟩ := pStep_left sa.1 t ((n : Int) - (sa.2 : Int)) h0 (by omega)
    unfold pNext
    rw [h2, e1, e2, h3]
    refine ⟨rfl, ?_⟩
    dsimp only
    by_cases he : er = 0
    · rw [if_pos he, if_pos he]
      by_cases hlt : sa.2 + 1 < n
      · exact .inl ⟨hlt, by congr 1; omega, rfl⟩
      · exact .inr ⟨by omega, by show (n : Int) - (sa.2 : Int) - 1 = 0; omega, by omega⟩
    · rw [if_neg he, if_neg he]
      exact .inl ⟨by omega, by rw [Nat.add_zero], rfl⟩
  · obtain ⟨h1, h2, h3⟩ := h1
    obtain ⟨er, he, e2⟩ := pStep_dead sb.1 t h2
    obtain ⟨L, er', e1, _⟩ := pStep_left sa.1 t 1 h0 (by omega)
    unfold pNext
    rw [e1, e2]
    refine ⟨rfl, .inr ⟨?_, h2, ?_⟩⟩
    · dsimp only; omega
    · dsimp only; rw [if_neg he, h3, Nat.add_zero]
theorem CutR.run {n : Nat} {sa sb : Pd × Nat} (h : CutR n sa sb) (xs : List Stp) : CutR n (xs.foldl pNext sa) (xs.foldl pNext sb) := by
  induction xs generalizing sa sb with
  | nil => exact h
  | cons t r ih => exact ih (h.step t)
theorem cut_play (xs : List Stp) (R : Int) (n : Nat) : CutR n (pPlay ⟨[], R, -1⟩ xs) (pPlay ⟨[], R, n⟩ xs) := by
  refine CutR.run ⟨rfl, ?_⟩ xs
  by_cases h : 0 < n
  · exact .inl ⟨h, by simp, rfl⟩
  · obtain rfl : n = 0 := by omega
    exact .inr ⟨Nat.le_refl _, rfl, rfl⟩

theorem St.other {w0 w w' : World} {k b n k' b' n' : Nat} {p p' : Pd} (h : St w0 w k b n p) (ht : Turned k' b' w w') (h' : St w0 w' k' b' n' p') (h1 : k ≠ k') (h2 : k ≠ b') (h3 : b ≠ k') (h4 : b ≠ b') : St w0 w' k b n p :=
  ⟨h.d.other ht h1 h2 h3 h4, ⟨h.s.lk, h.s.lb, h'.s.below⟩⟩
theorem kCut {w0 w : World} {k b n : Nat} {p : Pd} (h : St w0 w k b n p) (x : Int) (hx : (Lit.int .i64 x).wf = true) :
    Calls Try.prog 32 #[.pointer (some ⟨k, 0, none⟩), .int .i64 x] w fun e w' => e = .returned (.tuple #[]) ∧ St w0 w' k b n { p with left := if p.left = 0 then 0 else max x (-1) } ∧ Turned k b w w' :=
  (Cut_p h.d x hx).mono fun _ _ ⟨h1, h2, h3⟩ => ⟨h1, ⟨h2, h.s.step h3⟩, h3⟩
theorem kDead {w0 w : World} {k b n : Nat} {p : Pd} (h : St w0 w k b n p) : Calls Try.prog 39 #[.pointer (some ⟨k, 0, none⟩)] w fun e w' => e = .returned (.bool (p.left == 0)) ∧ w' = w := Dead_p h.d

set_option maxHeartbeats 4000000 in
set_option maxRecDepth 100000 in
theorem DiskCuts_walk (w : World) (ao : Option Addr) (cap : Nat) (xs : List Stp) (n0 : Int) (hs : Hid (Scr w (.slice ao xs.length cap) xs)) :
    Calls Try.prog 6 #[.slice ao xs.length cap, .int .i64 n0] w fun e w' => e = .returned (.bool true) ∧ Below w.heap.size w w' := by
  have hknown := known_any w
  go_enter Try.func6, Try.ntmps6
  go_wp2_with fail
  refine hknown.mono ?_
  rintro e w1 ⟨rfl, hb1⟩
  clear hknown
  have hli := light_any w.heap.size w1 ao cap xs (hs.out.s.below hb1) hs.out.wt
  have HB1 := hide hb1
  clear hb1
  go_wp2_with fail
  refine hli.mono ?_
  rintro e w2 ⟨rfl, q, rfl⟩
  clear hli
  by_cases hlight : xs.length ≤ 300 ∧ tot xs ≤ 50000
  rotate_left
  · have e0 : decide (xs.length ≤ 300 ∧ tot xs ≤ 50000) = false := decide_eq_false hlight
    rw [e0]
    clear hlight
    go_wp2
    go_ret
    exact ⟨rfl, below_drewN' HB1.out q⟩
  have e0 : decide (xs.length ≤ 300 ∧ tot xs ≤ 50000) = true := decide_eq_true hlight
  rw [e0]
  obtain ⟨hl3, htt⟩ := hlight
  clear e0
  have HB2 := hide (below_drewN' HB1.out q)
  generalize w1.drewN q = w2 at *
  clear HB1
  go_wp2_with fail
  refine (kNew w w2 HB2.out 65536 (by decide)).mono ?_
  rintro e w3 ⟨ka, ba, rfl, h3, -, -, -⟩
  have h3l := And.intro h3.d.at_.box.lt h3.d.at_.map.lt
  have H3 := hide h3
  clear h3 HB2
  go_wp2_with fail
  refine (kNew w w3 H3.out.since 65536 (by decide)).mono ?_
  rintro e w4 ⟨kb, bb, rfl, h4, g1, g2, b4⟩
  have HNE : Hid (ka ≠ kb ∧ ka ≠ bb ∧ ba ≠ kb ∧ ba ≠ bb) := by refine ⟨?_, ?_, ?_, ?_⟩ <;> omega
  have H4 : Hid (St w w4 ka ba 0 ⟨[], 65536, -1⟩ ∧ St w w4 kb bb 0 ⟨[], 65536, -1⟩) := ⟨H3.out.below b4, h4⟩
  clear h4 b4 g1 g2 h3l H3
  go_wp2_with fail
  refine (play_p H4.out.1 ao cap xs hs hl3 htt (by omega)).mono ?_
  rintro e w5 ⟨rfl, h5, t5⟩
  have H5 := hide (And.intro h5 (H4.out.2.other t5 h5 (by have := HNE.out; omega) (by have := HNE.out; omega) (by have := HNE.out; omega) (by have := HNE.out; omega)))
  clear h5 t5 H4
  go_wp2_with fail
  refine (Place_any w5 n0 400 (by omega) (by omega)).mono ?_
  rintro e w6 ⟨rfl, rfl⟩
  have hr0 : 0 ≤ n0 % 400 := Int.emod_nonneg _ (by omega)
  have hr1 : n0 % 400 < 400 := Int.emod_lt_of_pos _ (by omega)
  generalize n0 % 400 = rm at *
  obtain ⟨n, rfl⟩ := Int.eq_ofNat_of_zero_le hr0
  go_wp2_with fail
  refine (kCut H5.out.2 (n : Int) (wf_in (by omega))).mono ?_
  rintro e w7 ⟨rfl, h7, t7⟩
  have hmx : (if (⟨[], 65536, -1⟩ : Pd).left = 0 then (0 : Int) else max (n : Int) (-1)) = n := by rw [if_neg (by decide)]; omega
  rw [hmx] at h7
  have H7 := hide (And.intro (H5.out.1.other t7 h7 HNE.out.1 HNE.out.2.1 HNE.out.2.2.1 HNE.out.2.2.2) h7)
  clear h7 t7 hmx H5
  go_wp2_with fail
  refine (play_p H7.out.2 ao cap xs hs hl3 htt (by omega)).mono ?_
  rintro e w8 ⟨rfl, h8, t8⟩
  have H8 := hide (And.intro (H7.out.1.other t8 h8 HNE.out.1 HNE.out.2.1 HNE.out.2.2.1 HNE.out.2.2.2) h8)
  have hcp := cut_play xs 65536 n
  have hle := pPlay_le ⟨[], 65536, -1⟩ xs
  generalize pPlay ⟨[], 65536, -1⟩ xs = sa at *
  generalize pPlay ⟨[], 65536, (n : Int)⟩ xs = sb at *
  clear h8 t8 H7
  obtain ⟨hal, hcp⟩ := hcp
  rcases hcp with ⟨c1, c2, c3⟩ | ⟨c1, c2, c3⟩
  · have hd : (sb.1.left == 0) = false := by rw [c2]; simp; omega
    have hu : fSum sb.1.l = fSum sa.1.l := by rw [c2]
    rw [c3]
    have hmin : ¬ (n : Int) ≤ (sa.2 : Int) := by omega
    have hmin2 : (sa.2 : Int) < (n : Int) := by omega
    have hmin3 : min (sa.2 : Int) (n : Int) = (sa.2 : Int) := by omega
    clear c1 c2 c3 hal hle hr0 hr1
    have HD := hide hd
    have HU := hide hu
    clear hd hu
    generalize sa.2 = m at *
    go_wp2_with fail
    refine (kDead H8.out.2).mono ?_
    rintro e w9 ⟨rfl, rfl⟩
    rw [HD.out]
    go_wp2_with fail
    refine (kDead H8.out.2).mono ?_
    rintro e w10 ⟨rfl, rfl⟩
    rw [HD.out]
    go_wp2_with fail
    refine (kUsed H8.out.1).mono ?_
    rintro e w11 ⟨rfl, rfl⟩
    go_wp2_with fail
    refine (kUsed H8.out.2).mono ?_
    rintro e w12 ⟨rfl, rfl⟩
    rw [HU.out]
    have HE := hide H8.out.1.since
    clear H8
    go_wp2
    go_ret
    exact ⟨rfl, HE.out⟩
  · have hd : (sb.1.left == 0) = true := by rw [c2]; rfl
    rw [c3]
    have HC := hide c2
    have HD := hide hd
    have hcm : sa.2 = n ∨ n < sa.2 := by omega
    clear c2 c3 hal hle hr0 hr1 hd
    generalize sa.2 = m at *
    rcases hcm with hcm | hcm
    case' inr =>
      have hmin : (n : Int) < (m : Int) := by omega
      have hmin4 : (n : Int) ≤ (m : Int) := by omega
      have hmin3 : min (m : Int) (n : Int) = (n : Int) := by omega
      clear hcm c1
      generalize (m : Int) = mi at *
      generalize (n : Int) = ni at *
    case' inl =>
      subst hcm
      clear c1
      have hmm : ¬ (m : Int) < (m : Int) := Int.lt_irrefl _
      have hmm2 : (m : Int) ≤ (m : Int) := Int.le_refl _
      have hmm3 : ((m : Int) != (m : Int)) = false := by simp
      generalize (m : Int) = mi at *
    all_goals
      go_wp2_with fail
      refine (kDead H8.out.2).mono ?_
      rintro e w9 ⟨rfl, rfl⟩
      rw [HD.out]
      go_wp2_with fail
      refine (kDead H8.out.2).mono ?_
      rintro e w10 ⟨rfl, rfl⟩
      rw [HD.out]
      go_wp2_with fail
      refine (kRead H8.out.2 ⟨#[97]⟩ (by decide) none 23 (pFind_dead HC.out _)).mono ?_
      rintro e w11 ⟨v11, rfl, -, h11, -⟩
      have H11 := hide h11
      clear h11 H8
      go_wp2_with fail
      refine (kList H11.out [] (by unfold pList; rw [if_pos HC.out])).mono ?_
      rintro e w12 ⟨v12, rfl, n12, -, h12, -⟩
      obtain ⟨a12, q12, rfl, -⟩ := n12
      rw [List.length_nil]
      have H12 := hide h12
      clear h12 H11
      go_wp2_with fail
      refine (kDelete H12.out ⟨#[97]⟩ (by decide) sb.1 23 (by unfold pDelete; rw [pFind_dead HC.out])).mono ?_
      rintro e w13 ⟨rfl, h13, -⟩
      have H13 := hide h13
      clear h13 H12
      go_wp2_with fail
      refine (kWrite H13.out (by omega) ⟨#[97]⟩ (by decide) _ [] (Seg.nil _) Byts.nil sb.1 23 (by unfold pWrite; rw [if_pos HC.out])).mono ?_
      rintro e w14 ⟨rfl, h14, -⟩
      have HE := hide h14.since
      clear h14 H13
      go_wp2
      go_ret
      exact ⟨rfl, HE.out⟩
end Go.Proofs.Ytnokibjhkdaamaa
