/-
  The law FlowPlays, walked.
-/
import Derived.Test.YtnomoekbfclckaaFBoth
import Derived.Deep.CutBlock
import Derived.Deep.CutRange
namespace Go.Proofs.Ytnomoekbfclckaa
open Go.RowKit

/-- What FlowPlays keeps: both have one state. -/
structure PP (W w : World) (K R cr i B : Nat) (cs : Array Value) (S T : FS Int) : Prop where
  bo : BoE W w K R cr S T B cs
  nb : Nb i S
  bk : S.back.length ≤ i
  wl : T.wait.length ≤ 64
set_option maxHeartbeats 16000000 in
set_option maxRecDepth 100000 in
theorem FlowPlays_walk (w : World) (c ep0 : Int) (ao : Option Addr) (cap : Nat) (xs : List Stp) (hs : Hid (LSeg 4 Stp.cs w.heap.size w (.slice ao xs.length cap) xs)) :
    Calls Try.prog 4 #[.int .i64 c, .int .u64 ep0, .slice ao xs.length cap] w fun e w' => e = .returned (.bool true) ∧ Below w.heap.size w w' := by
  have hknown := known_any w
  have hlen : xs.length ≤ 140737488355328 := by obtain ⟨_, _, e, h2, _⟩ := hs.out; exact h2
  go_enter Try.func4, Try.ntmps4
  go_wp2_with fail
  refine hknown.mono ?_
  rintro e w1 ⟨rfl, hb1⟩
  clear hknown
  have HB1 := hide hb1
  clear hb1
  by_cases hl : xs.length ≤ 500
  rotate_left
  · go_wp2
    go_ret
    exact ⟨rfl, HB1.out⟩
  go_wp2_with fail
  go_at_call 9
  refine (cNewI w1 c ep0).mono ?_
  rintro r w2 ⟨K, fp2, rfl, h2, b2, n2⟩
  have H2 := hide (And.intro h2 (And.intro b2 n2))
  clear h2 b2 n2
  go_wp2_with fail
  go_at_call 19
  refine (rNew w2 c ep0).mono ?_
  rintro r w3 ⟨rfl, h3, b3⟩
  have hcr2 : (min (max c 1) 64).toNat ≤ 64 := by omega
  generalize (min (max c 1) 64).toNat = cr at *
  have H3 : Hid (∃ fp, ChI w3 fp K cr (pNew ep0) ∧ Re w3 [w2.heap.size] w2.heap.size cr (pNew ep0) ∧ Below w.heap.size w w3 ∧ (∀ i ∈ fp, w.heap.size ≤ i) ∧ w.heap.size ≤ w2.heap.size ∧ w2.heap.size ∉ fp) := by
    obtain ⟨c2, b2, n2⟩ := H2.out
    have s1 := HB1.out.size
    have s2 := b2.size
    exact ⟨fp2, c2.below b3, h3, (HB1.out.trans (b2.mono s1)).trans (b3.mono (by omega)), fun i hi => Nat.le_trans s1 (n2 i hi), by omega, fun h => Nat.lt_irrefl _ (c2.lt _ h)⟩
  clear h3 b3 H2 HB1
  generalize w2.heap.size = R at *
  go_wp2_with fail
  go_loopw [9] (fun iv wr => ∃ (i : Nat) (S : FS Int), i ≤ xs.length ∧ iv = .int .i64 i ∧ Hid (∃ fp fr, ChI wr fp K cr S ∧ Re wr fr R cr S ∧ Below w.heap.size w wr ∧ (∀ i ∈ fp, w.heap.size ≤ i) ∧ w.heap.size ≤ R ∧ R ∈ fr ∧ (∀ i ∈ fr, i ∉ fp) ∧ Nb i S ∧ S.back.length ≤ i)) (fun iv _ => xs.length - (intOf iv).toNat)
  case atStart =>
    obtain ⟨fp, h1, h2, h3, h4, h5, h6⟩ := H3.out
    exact ⟨0, pNew ep0, Nat.zero_le _, rfl, fp, _, h1, h2, h3, h4, h5, List.mem_singleton.2 rfl, fun i hi => by rw [List.mem_singleton.1 hi]; exact h6, Nb.new ep0, Nat.le_refl _⟩
  case round =>
    clear H3
    obtain ⟨i, S, hi, rfl, fp, fr, hc, hrf, hbel, hn1, hn2, hinR, hd, hnb, hbk⟩ := hrel
    by_cases hlt : i < xs.length
    rotate_left
    · clear hc hrf
      have HB := hide hbel
      clear hbel
      go_wp2
      go_ret
      exact ⟨rfl, HB.out⟩
    obtain ⟨t, ht⟩ : ∃ t, xs[i]? = some t := ⟨_, List.getElem?_eq_getElem hlt⟩
    obtain ⟨bb, off, rfl, hbb, c0, c1, c2, c3⟩ := (hs.out.below hbel).stp ht
    obtain ⟨wh, x, ep, sq⟩ := t
    dsimp only at c0 c1 c2 c3
    clear ht
    have ba : Below wr.heap.size wr (wr.alloc (.cells #[.int .i64 wh, .int .i64 x, .int .u64 ep, .int .u64 sq] 29)) := (Below.refl _ _).alloc (Nat.le_refl _) _
    have H1 : Hid (PP w (wr.alloc (.cells #[.int .i64 wh, .int .i64 x, .int .u64 ep, .int .u64 sq] 29)) K R cr i wr.heap.size #[.int .i64 wh, .int .i64 x, .int .u64 ep, .int .u64 sq] S S) :=
      ⟨⟨fp, fr, hc.below ba, hrf.below ba, hbel.trans (ba.mono hbel.size), hn1, hn2, hinR, hd, BoxT.new _ _ _, fun h => Nat.lt_irrefl _ (hc.lt _ h), fun h => Nat.lt_irrefl _ (hrf.lt _ h)⟩, hnb, hbk, Nat.le_trans hc.1 hc.2.1⟩
    clear hc hrf hbel hn1 hinR hd ba
    go_upto_block 2 with fail
    have x0 := (H1.out.bo.cell 0).trans rfl
    have x1 := (H1.out.bo.cell 1).trans rfl
    have x2 := (H1.out.bo.cell 2).trans rfl
    have x3 := (H1.out.bo.cell 3).trans rfl
    clear c0 c1 c2 c3
    generalize wr.alloc (.cells #[.int .i64 wh, .int .i64 x, .int .u64 ep, .int .u64 sq] 29) = wa at *
    generalize wr.heap.size = B at *
    go_cut [11, 12, 13, 14] from 42 to 129 (fun _ _ _ _ wx => ∃ (S2 : FS Int) (cs2 : Array Value), Hid (PP w wx K R cr (i + 1) B cs2 S2 S2))
    case rest =>
      clear H1 x0 x1 x2 x3
      obtain ⟨S2, cs2, H7⟩ := hcut
      obtain ⟨fp7, fr7, H8⟩ := H7.out.bo
      have hnb7 := H7.out.nb
      have hbk7 := H7.out.bk
      have hwl7 := H7.out.wl
      have m1 := hnb7.1
      obtain ⟨vB, vM, vW, vQ, HR⟩ := H8.rf
      obtain ⟨⟨aB, cB, rfl⟩, ⟨aM, cM, rfl⟩, ⟨aW, cW, rfl⟩, _⟩ := HR.shapes
      obtain ⟨r0, r1, r2, _, _, _, _, _, r8⟩ := HR.cells
      have hRl := HR.rf.box.lt
      have hD := H8.below ((Below.refl wc.heap.size wc).drew)
      have h1 := hide (cBacklogI hD.ch)
      have h2 := hide (cMovingI hD.ch)
      have h3 := hide (cWaitingI hD.ch)
      have h4 := hide (cCreditsI hD.ch (by omega))
      have HD := hide hD
      have HF := hide (And.intro H8 HR)
      clear hD HR H8 H7
      go_upto_region 41 with fail
      go_cut [180] from 130 to 179 (fun bv wx => bv = .bool false ∧ Hid (Below wc.heap.size wc wx))
      case first =>
        as_aux_lemma =>
          clear HF
          go_region_held3 (fun w' => w'.cell? ⟨R, 0, none⟩ = some (.slice aB S2.back.length cB) ∧ w'.cell? ⟨R, 1, none⟩ = some (.slice aM S2.mov.length cM) ∧ w'.cell? ⟨R, 2, none⟩ = some (.slice aW S2.wait.length cW) ∧ w'.cell? ⟨R, 8, none⟩ = some (.int .i64 S2.mo)) (first | go_keep | exact ⟨r0, r1, r2, r8⟩ | exact ⟨z0, z1, z2, z8⟩)
            (first
            | (go_at_call 15; refine h1.out.mono ?_; rintro r w4 ⟨rfl, rfl⟩)
            | (go_at_call 16; refine h2.out.mono ?_; rintro r w4 ⟨rfl, rfl⟩)
            | (go_at_call 17; refine h3.out.mono ?_; rintro r w4 ⟨rfl, rfl⟩)
            | (go_at_call 30; refine h4.out.mono ?_; rintro r w5 ⟨rfl, b5⟩; have H5 := hide (HD.out.below b5); have B5 := hide (((Below.refl wc.heap.size wc).drew).trans b5); have z0 := (b5.cell (p := ⟨R, 0, none⟩) hRl).trans r0; have z1 := (b5.cell (p := ⟨R, 1, none⟩) hRl).trans r1; have z2 := (b5.cell (p := ⟨R, 2, none⟩) hRl).trans r2; have z8 := (b5.cell (p := ⟨R, 8, none⟩) hRl).trans r8; have h5 := hide (rCredits H5.out.rf hcr2 (by omega) (by omega)); clear b5)
            | (go_at_call 31; refine h5.out.mono ?_; rintro r w6 ⟨rfl, b6⟩; have H6 := hide (H5.out.below b6); have B6 := hide (B5.out.trans (b6.mono B5.out.size)); clear z0 z1 z2 z8; have z0 := (B6.out.cell (p := ⟨R, 0, none⟩) hRl).trans r0; have z1 := (B6.out.cell (p := ⟨R, 1, none⟩) hRl).trans r1; have z2 := (B6.out.cell (p := ⟨R, 2, none⟩) hRl).trans r2; have z8 := (B6.out.cell (p := ⟨R, 8, none⟩) hRl).trans r8; have h6 := hide (cMostI H6.out.ch); have h7 := hide (cEpochI H6.out.ch); have h8 := hide (rEpoch H6.out.rf); clear b6)
            | (go_at_call 32; refine h6.out.mono ?_; rintro r w7 ⟨rfl, rfl⟩)
            | (go_at_call 18; refine h7.out.mono ?_; rintro r w7 ⟨rfl, rfl⟩)
            | (go_at_call 33; refine h8.out.mono ?_; rintro r w7 ⟨rfl, rfl⟩))
          go_wp2_with fail
          go_meet
          exact ⟨by simp, B6.out⟩
      case rest =>
        obtain ⟨rfl, HB8⟩ := hcut
        clear h1 h2 h3 h4 HD
        have H9 := hide (And.intro (HF.out.1.below HB8.out) (HF.out.2.below HB8.out))
        clear HF HB8 r0 r1 r2 r8
        have hWr := H9.out.2.rf.rW
        have HWR := hide hWr
        clear hWr
        obtain ⟨y0, y1, y2, _, _, _, _, _, y8⟩ := H9.out.2.cells
        have hRl9 := H9.out.2.rf.box.lt
        have hgl : ∀ g off, aW = some ⟨g, off, none⟩ → g < wc.heap.size := fun g off e => H9.out.2.lt g (H9.out.2.oW g (by rw [e]; rfl)).1
        have HGL := hide hgl
        clear hgl
        as_aux_lemma =>
          go_wp2_with fail
          go_loopw [15] (fun kv wr => ∃ k : Int, -1 ≤ k ∧ k ≤ S2.wait.length + 1 ∧ kv = .int .i64 k ∧ Hid (Below wc.heap.size wc wr)) (fun kv _ => ((S2.wait.length : Int) + 1 - intOf kv).toNat)
          case atStart => exact ⟨-1, by omega, by omega, rfl, Below.refl _ _⟩
          case round =>
            obtain ⟨k, hk1, hk2, rfl, HI⟩ := hrel
            have z2 := (HI.out.cell (p := ⟨R, 2, none⟩) hRl9).trans y2
            have HC := hide (H9.out.1.ch.below HI.out)
            by_cases hk3 : k ≤ S2.wait.length
            rotate_left
            · have HE := hide (H9.out.1.below HI.out)
              go_wp2
              go_roundw
              case rel => exact ⟨i + 1, S2, by omega, by go_num, fp7, fr7, HE.out.ch, HE.out.rf, HE.out.bel, HE.out.n1, HE.out.n2, HE.out.inR, HE.out.d, hnb7, hbk7⟩
              case measure => simp [intOf]; omega
            by_cases hk4 : k < 0
            · have hpk := hide (cPeekN HC.out k (.inl hk4))
              have hk5 : ¬ (0 ≤ k) := by omega
              go_wp2_with (first | (go_at_call 34; refine hpk.out.mono ?_; rintro r w7 ⟨rfl, rfl⟩) | fail)
              go_roundw
              case rel => exact ⟨k + 1, by omega, by omega, by go_num, HI.out⟩
              case measure => simp [intOf]; omega
            by_cases hk5 : k < S2.wait.length
            · obtain ⟨n, rfl⟩ : ∃ n : Nat, k = (n : Int) := ⟨k.toNat, by omega⟩
              have hn : n < S2.wait.length := by omega
              obtain ⟨v, hv⟩ : ∃ v, S2.wait[n]? = some v := ⟨_, List.getElem?_eq_getElem hn⟩
              have hpk := hide (cPeek HC.out hv)
              obtain ⟨g, off', cp, e, hcell⟩ := HWR.out.read i64cs_len hv
              cases e
              have f0 : wc.cell? ⟨g, off' + n, none⟩ = some (.int .i64 v) := by simpa using hcell 0 _ rfl
              have hg := HGL.out g off' rfl
              clear hcell hv
              go_wp2_with (first | (go_at_call 34; refine hpk.out.mono ?_; rintro r w7 ⟨rfl, b7⟩; have HI7 := hide (HI.out.trans (b7.mono HI.out.size)); have q2 := (HI7.out.cell (p := ⟨R, 2, none⟩) hRl9).trans y2; have q0 := (HI7.out.cell (p := ⟨g, off' + n, none⟩) hg).trans f0; clear b7) | fail)
              go_roundw
              case rel => exact ⟨(n : Int) + 1, by omega, by omega, by go_num, HI7.out⟩
              case measure => simp [intOf]; omega
            · have hpk := hide (cPeekN HC.out k (.inr (by omega)))
              go_wp2_with (first | (go_at_call 34; refine hpk.out.mono ?_; rintro r w7 ⟨rfl, rfl⟩) | fail)
              go_roundw
              case rel => exact ⟨k + 1, by omega, by omega, by go_num, HI.out⟩
              case measure => simp [intOf]; omega
    case first =>
    have hbo := H1.out.bo
    have hnb := H1.out.nb
    have hbk := H1.out.bk
    have hwl := H1.out.wl
    have HB := hide hbo
    clear hbo H1
    have m1 := hnb.1
    have m2 := hnb.2.1
    have m3 := hnb.2.2
    by_cases hk : wh = 0 ∨ wh = 1 ∨ wh = 2
    · as_aux_lemma =>
        have hof := hide (bOffer HB.out (by omega) x)
        have hN : Nb (i + 1) (pOffer S x) := (hnb.offer x).mono (by omega)
        have hL : (pOffer S x).back.length ≤ i + 1 := by simp [pOffer]; omega
        have hW : (pOffer S x).wait.length ≤ 64 := hwl
        rcases hk with rfl | rfl | rfl
        all_goals
          go_wp2_with (first
            | (go_at_call 10; refine hof.out.mono ?_; rintro r w4 ⟨rfl, h4⟩; have y1 := (h4.cell 1).trans rfl; have hof2 := hide (dOffer h4 (by omega) x); clear h4)
            | (go_at_call 20; refine hof2.out.mono ?_; rintro r w5 ⟨rfl, h5⟩; have H5 := hide h5; clear h5)
            | fail)
          go_meet
          exact ⟨_, _, H5.out, hN, hL, hW⟩
    by_cases hk2 : wh = 3 ∨ wh = 4 ∨ wh = 5
    · as_aux_lemma =>
        have hof := hide (bSend HB.out (by omega) (by omega) m2.1 (by omega))
        have hN := hnb.send hcr2
        have hL := back_send (cr := cr) (S := S)
        have hW : (pSend cr S).1.wait = S.wait := by rcases send_cases cr S with ⟨e, _⟩ | ⟨_, _, _, _, e⟩ <;> rw [e]
        obtain ⟨S1, r1, hp⟩ : ∃ S1 r1, pSend cr S = (S1, r1) := ⟨_, _, rfl⟩
        rw [hp] at hof hN hL hW
        dsimp only at hof hN hL hW
        have HP := hide hp
        clear hp
        rcases hk2 with rfl | rfl | rfl
        all_goals
          cases r1
          all_goals
            go_wp2_with (first
              | (go_at_call 11; refine hof.out.mono ?_; rintro r w4 ⟨rfl, h4⟩; have hof2 := dSend h4 (by omega) (by omega) (by omega) m2.1 (by omega); rw [HP.out] at hof2; dsimp only at hof2; have hof2 := hide hof2; clear h4)
              | (go_at_call 21; refine hof2.out.mono ?_; rintro r w5 ⟨rfl, h5⟩; have H5 := hide h5; clear h5)
              | fail)
            go_meet
            exact ⟨_, _, H5.out, hN, by omega, by rw [hW]; exact hwl⟩
    by_cases hk3 : wh = 6 ∨ wh = 7
    · as_aux_lemma =>
        have hof := hide (bDeliver HB.out (by omega) m3.1 (by omega))
        have hN := hnb.del (cr := cr)
        have hL := back_del (cr := cr) (S := S)
        obtain ⟨S1, r1, hp⟩ : ∃ S1 r1, pDel cr S = (S1, r1) := ⟨_, _, rfl⟩
        rw [hp] at hof hN hL
        dsimp only at hof hN hL
        have HP := hide hp
        clear hp
        rcases hk3 with rfl | rfl
        all_goals
          go_wp2_with (first
            | (go_at_call 12; refine hof.out.mono ?_; rintro r w4 ⟨rfl, h4⟩; have hof2 := dDeliver h4 (by omega) (by omega) m3.1 (by omega); rw [HP.out] at hof2; dsimp only at hof2; have hof2 := hide hof2; clear h4)
            | (go_at_call 22; refine hof2.out.mono ?_; rintro r w5 ⟨rfl, h5⟩; have H5 := hide h5; clear h5)
            | fail)
          go_meet
          exact ⟨_, _, H5.out, hN, by rw [hL]; omega, by have := H5.out.wl; omega⟩
    by_cases hk4 : wh = 8 ∨ wh = 9 ∨ wh = 10
    · as_aux_lemma =>
        cases hw : S.wait with
        | nil =>
          have hof := hide (bTakeN HB.out hw)
          have hof2 := hide (dTakeN HB.out hw)
          rcases hk4 with rfl | rfl | rfl
          all_goals
            go_wp2_with (first
              | (go_at_call 13; refine hof.out.mono ?_; rintro r w4 ⟨rfl, rfl⟩)
              | (go_at_call 23; refine hof2.out.mono ?_; rintro r w5 ⟨rfl, rfl⟩)
              | fail)
            go_meet
            exact ⟨_, _, HB.out, hnb.mono (by omega), by omega, hwl⟩
        | cons y L =>
          have hof := hide (bTake HB.out hw)
          have HW := hide hw
          have hW2 : (pTake S).wait.length ≤ 64 := by simp [pTake]; omega
          clear hw
          rcases hk4 with rfl | rfl | rfl
          all_goals
            go_wp2_with (first
              | (go_at_call 13; refine hof.out.mono ?_; rintro r w4 ⟨rfl, h4⟩; have hof2 := hide (dTake h4 HW.out (by omega)); clear h4)
              | (go_at_call 23; refine hof2.out.mono ?_; rintro r w5 ⟨rfl, h5⟩; have H5 := hide h5; clear h5)
              | fail)
            go_meet
            exact ⟨_, _, H5.out, hnb.take.mono (by omega), by simp [pTake]; omega, hW2⟩
    by_cases hk5 : wh = 11
    · as_aux_lemma =>
        subst hk5
        have hN := hnb.arr (cr := cr) ep sq x
        have hL := back_arr (cr := cr) (S := S) (e := ep) (q := sq) (x := x)
        have hof := bArrive (HB.out.below ((Below.refl _ _).drew)) m3.1 (by omega) ep sq x
        obtain ⟨S1, r1, hp⟩ : ∃ S1 r1, pArr cr S ep sq x = (S1, r1) := ⟨_, _, rfl⟩
        rw [hp] at hof hN hL
        dsimp only at hof hN hL
        have hof := hide hof
        have HP := hide hp
        clear hp
        go_wp2_with fail
        go_region_held3 (fun w' => w'.cell? ⟨B, 1, none⟩ = some (.int .i64 x) ∧ w'.cell? ⟨B, 2, none⟩ = some (.int .u64 ep) ∧ w'.cell? ⟨B, 3, none⟩ = some (.int .u64 sq)) (first | go_keep | exact ⟨x1, x2, x3⟩ | exact ⟨y1, y2, y3⟩)
          (first
            | (go_at_call 24; refine hof.out.mono ?_; rintro r w4 ⟨rfl, h4⟩; have y1 := (h4.cell 1).trans rfl; have y2 := (h4.cell 2).trans rfl; have y3 := (h4.cell 3).trans rfl; have hof2 := dArrive h4 (by omega) m3.1 (by omega) ep sq x; rw [HP.out] at hof2; dsimp only at hof2; have hof2 := hide hof2; clear h4)
            | (go_at_call 25; refine hof2.out.mono ?_; rintro r w5 ⟨rfl, h5⟩; clear y1 y2 y3; have y1 := (h5.cell 1).trans rfl; have y2 := (h5.cell 2).trans rfl; have y3 := (h5.cell 3).trans rfl; have H5 := hide h5; clear h5))
        go_wp2
        go_meet
        exact ⟨_, _, H5.out, hN, by rw [hL]; omega, by have := H5.out.wl; omega⟩
    by_cases hk6 : wh = 12
    · as_aux_lemma =>
        subst hk6
        have hof := hide (bDrain HB.out (by omega) (by omega))
        have hal : (pAll S).length ≤ 10000 := by rw [all_len]; omega
        go_wp2_with (first
          | (go_at_call 14; refine hof.out.mono ?_; rintro r w4 ⟨v4, rfl, o4, h4, r4⟩; have hof2 := hide (dDrain h4 (by omega) (by omega) (by omega) o4 r4 hal); obtain ⟨a4, e4, hv4⟩ := o4.shape; generalize (pAll S).length = n4 at hv4; subst hv4; clear h4 o4 r4)
          | (go_at_call 27; refine hof2.out.mono ?_; rintro r w5 ⟨v5, rfl, l5, l4, h5⟩; have hin := hide (Ints_any l4 l5); have H5 := hide h5; obtain ⟨a5, e5, hv5, _⟩ := l5; generalize (pAll S).length = n5 at hv5; subst hv5; clear h5 l4)
          | (go_at_call 26; refine hin.out.mono ?_; rintro r w6 ⟨rfl, b6⟩; have H6 := hide (H5.out.below b6); clear b6)
          | fail)
        go_meet
        exact ⟨_, _, H6.out, hnb.drain.mono (by omega), by simp [pDrain], by simp [pDrain]⟩
    by_cases hk7 : wh = 13
    · as_aux_lemma =>
        subst hk7
        have hof := hide (bKill HB.out ep)
        go_wp2_with (first
          | (go_at_call 28; refine hof.out.mono ?_; rintro r w4 ⟨rfl, h4⟩; have y2 := (h4.cell 2).trans rfl; have hof2 := hide (dKill h4 ep); clear h4)
          | (go_at_call 29; refine hof2.out.mono ?_; rintro r w5 ⟨rfl, h5⟩; have H5 := hide h5; clear h5)
          | fail)
        go_meet
        exact ⟨_, _, H5.out, Nb.kill S ep, by simp [pKill], by simp [pKill]⟩
    as_aux_lemma =>
      have n0 : ¬ wh = 0 := by omega
      have n1 : ¬ wh = 1 := by omega
      have n2 : ¬ wh = 2 := by omega
      have n3 : ¬ wh = 3 := by omega
      have n4 : ¬ wh = 4 := by omega
      have n5 : ¬ wh = 5 := by omega
      have n6 : ¬ wh = 6 := by omega
      have n7 : ¬ wh = 7 := by omega
      have n8 : ¬ wh = 8 := by omega
      have n9 : ¬ wh = 9 := by omega
      have n10 : ¬ wh = 10 := by omega
      clear hk hk2 hk3 hk4
      go_wp2
      go_meet
      exact ⟨_, _, HB.out, hnb.mono (by omega), by omega, hwl⟩
end Go.Proofs.Ytnomoekbfclckaa
