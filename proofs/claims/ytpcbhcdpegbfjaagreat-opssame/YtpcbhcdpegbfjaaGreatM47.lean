/-
  Texts in build order: ZPRCheck.
-/
import Derived.Test.YtpcbhcdpegbfjaaGreatM46
import Derived.Test.YtpcbhcdpegbfjaaGreatM06
import Derived.Test.YtpcbhcdpegbfjaaGreatM04
/-
  The document's Check of any job, and fit: what they take the program takes too.
-/
namespace Go.Proofs.YtpcbhcdpegbfjaaGreat.J
open Go.RowKit

structure CkOk (ns : List Nd) : Prop where
  lt : LtOk ns
  wt : ∀ x ∈ wtsD ns, x ≤ 64
  sk : ∃ n ∈ ns, n.kind = 8
theorem wtsD_len (ns : List Nd) : (wtsD ns).length = ns.length := by
  unfold wtsD
  rw [wtsL_len, List.length_replicate]
set_option maxHeartbeats 4000000 in
set_option maxRecDepth 100000 in
theorem rcheckA {w : World} {v : Value} {ns : List Nd} (hj : JobIn w.heap.size w v ns) (hx : ExR w ns) :
    Calls Tryz.prog 26 #[.agg #[v]] w fun e w' => ∃ c : Int, e = .returned (.int .i64 c) ∧ (c = 0 → CkOk ns) ∧ Below w.heap.size w w' := by
  obtain ⟨na, ncp, rfl⟩ := hj.shape
  have hlen := hj.seg.len
  have hb := below_box w (.cells #[.slice na ns.length ncp] 62)
  have HB := hide hb
  have HX := hide (BoxT.new 62 w #[.slice na ns.length ncp])
  have HLI := hide (rlightA ((hj.below hb).mono hb.size) (hx.below hb))
  have HJ := hide hj
  have HEX := hide hx
  clear hj hb hx
  go_enter Tryz.func26, Tryz.ntmps26
  go_wp2_with fail
  refine HLI.out.mono ?_
  rintro e w1 ⟨c, rfl, hc, b1⟩
  have B1 := hide (HB.out.trans (b1.mono HB.out.size))
  have X1 := hide (HX.out.below b1)
  have cx1 : w1.cell? ⟨w.heap.size, 0, none⟩ = some (.slice na ns.length ncp) := by rw [X1.out.cellAt]; rfl
  by_cases hc0 : c = 0
  rotate_left
  · have hcn : (c != 0) = true := by simp [hc0]
    have HC0 := hide hc0
    clear hc hc0
    as_aux_lemma =>
    go_wp2_with fail
    go_ret
    exact ⟨c, rfl, (fun h => absurd h HC0.out), B1.out⟩
  subst hc0
  clear hc b1
  have HWT := hide (rwtsA ((HJ.out.below B1.out).mono B1.out.size) (HEX.out.below B1.out))
  go_wp2_with fail
  refine HWT.out.mono ?_
  rintro e w2 ⟨u, rfl, hu, b2⟩
  have B2 := hide (B1.out.trans (b2.mono B1.out.size))
  have X2 := hide (X1.out.below b2)
  clear b2 cx1
  rcases hu with rfl | ⟨hlt, G, rfl, hG⟩
  · as_aux_lemma =>
    go_wp2_with fail
    go_loopg [5, 6] 2 (fun g sv iv wr => iv = .int .i64 0 ∧ sv = .int .i64 0 ∧ 1 ≤ g ∧ w2 = wr)
    case atStart => exact ⟨rfl, rfl, by omega, rfl⟩
    case round =>
      obtain ⟨rfl, rfl, hg, rfl⟩ := hrel
      go_wp2_with fail
      go_ret
      exact ⟨80, rfl, (fun h => by cases h), B2.out⟩
  have hwl := wtsD_len ns
  obtain ⟨wl, hwd⟩ : ∃ l, wtsD ns = l := ⟨_, rfl⟩
  rw [hwd] at hG hwl
  have HOK : Hid ((∀ x ∈ wl, x ≤ 64) → (∃ n ∈ ns, n.kind = 8) → CkOk ns) := fun h1 h2 => ⟨hlt, by rw [hwd]; exact h1, h2⟩
  have HG := hide hG
  have hl12 := hlt.l2
  have HWL := hide hwl
  clear hG hwd hlt hwl
  as_aux_lemma =>
  go_wp2_with fail
  go_loopg [5, 6] (ns.length + 1) (fun g sv iv wr => ∃ t s : Nat, iv = .int .i64 (t : Int) ∧ sv = .int .i64 (s : Int) ∧ t ≤ ns.length ∧ s ≤ t ∧ ns.length + 1 ≤ g + t ∧ Hid (∀ j < t, ∀ x, wl[j]? = some x → x ≤ 64) ∧ Hid (0 < s → ∃ n ∈ ns, n.kind = 8) ∧ w2 = wr)
  case atStart => exact ⟨0, 0, rfl, rfl, by omega, by omega, by omega, (fun j hj => by omega), (fun h => by omega), rfl⟩
  case round =>
    obtain ⟨t, s, rfl, rfl, ht, hst, hg, GW, GS, rfl⟩ := hrel
    obtain ⟨go, rfl⟩ : ∃ go, gk = go + 1 := ⟨gk - 1, by omega⟩
    by_cases hlt : t < ns.length
    · obtain ⟨n, hn⟩ := get_of_lt hlt
      have bt : (t : Int) < (ns.length : Int) := by omega
      obtain ⟨x, hx⟩ := get_of_lt (l := wl) (i := t) (by rw [HWL.out]; exact hlt)
      have cw : w2.cell? ⟨G, t, none⟩ = some (.int .i64 (x : Int)) := by rw [HG.out.cellAt]; simp [hx]
      have cx : w2.cell? ⟨w.heap.size, 0, none⟩ = some (.slice na ns.length ncp) := by rw [X2.out.cellAt]; rfl
      obtain ⟨nb, no, hna, nlt, d0, -⟩ := (HJ.out.below B2.out).at_ hn
      subst hna
      have HN := hide (List.mem_of_getElem? hn)
      have HXX := hide hx
      clear hn hx
      by_cases h64 : (64 : Int) < (x : Int)
      · clear GW GS
        go_wp2_with fail
        go_ret
        exact ⟨88, rfl, (fun h => by cases h), B2.out⟩
      · have GW2 : Hid (∀ j < t + 1, ∀ x, wl[j]? = some x → x ≤ 64) := fun j hj y hy => by
          rcases Nat.lt_succ_iff_lt_or_eq.1 hj with h1 | h1
          · exact GW.out j h1 y hy
          · subst h1
            rw [HXX.out] at hy
            cases hy
            omega
        by_cases h8 : n.kind = 8
        · have g8 : (n.kind == 8) = true := by simp [h8]
          have GS2 : Hid (0 < s + 1 → ∃ n ∈ ns, n.kind = 8) := fun _ => ⟨n, HN.out, h8⟩
          clear h8 GW GS
          go_wp2_with fail
          go_roundg go
          case rel => exact ⟨t + 1, s + 1, by go_num, by go_num, by omega, by omega, by omega, GW2, GS2, rfl⟩
          case measure => omega
        · have g8 : (n.kind == 8) = false := by simp [h8]
          clear h8 GW
          go_wp2_with fail
          go_roundg go
          case rel => exact ⟨t + 1, s, by go_num, rfl, by omega, by omega, by omega, GW2, GS, rfl⟩
          case measure => omega
    · have bt : ¬ (t : Int) < (ns.length : Int) := by omega
      have hall : ∀ x ∈ wl, x ≤ 64 := fun x hx => by
        obtain ⟨j, hj⟩ := List.getElem?_of_mem hx
        exact GW.out j (by have := lt_of_get hj; rw [HWL.out] at this; omega) x hj
      have HA := hide hall
      clear hall GW
      by_cases hs0 : s = 0
      · have gs : ((s : Int) == 0) = true := by simp [hs0]
        clear hs0
        go_wp2_with fail
        go_ret
        exact ⟨80, rfl, (fun h => by cases h), B2.out⟩
      · have gs : ((s : Int) == 0) = false := by simp [hs0]
        have HF := hide (HOK.out HA.out (GS.out (by omega)))
        clear hs0
        go_wp2_with fail
        go_ret
        exact ⟨0, rfl, (fun _ => HF.out), B2.out⟩

theorem exR_of {w : World} {ns : List Nd} (h : ∀ n ∈ ns, lgOk n) (he : ExIn w ns) : ExR w ns := fun n hn w' hb => by
  have hl := h n hn
  have hk := (lgt_ok n.e 100 40 (by decide)).2.2 hl.2
  have h2 := hl.2
  exact rCheck_any n.e ((he n hn).below hb) (by omega) (by omega)
end Go.Proofs.YtpcbhcdpegbfjaaGreat.J
