/-
  The document's readers: whole manifests.
-/
import Derived.Test.YtaajjejgjnlbgaaDoorD2
import Derived.Deep.RegionLaw
namespace Go.Proofs.YtaajjejgjnlbgaaDoor
open Go.RowKit

set_option maxHeartbeats 8000000 in
set_option maxRecDepth 100000 in
theorem OpenManifestD_any (v : Value) (l : List Nat) (w : World) (h : Seg w v l) (hb : Byts l) :
    Calls Tryd.prog 30 #[v] w (OMPost w (rManD l).isSome ((rManD l).getD ⟨0, 0, []⟩)) := by
  have hr0 := fun o => RdSD.start_at (k := w.heap.size + 1) (by simp) (h.alloc o) hb
  obtain ⟨ao, cap, rfl, h2, h3, h3', h4⟩ := h
  generalize hres : rManD l = res
  unfold rManD at hres
  generalize hp0 : numD 8 (l, false) = p0 at hres
  obtain ⟨n, s0⟩ := p0
  have HP0 := hide hp0
  clear hp0
  dsimp only at hres
  generalize hp1 : numD 8 s0 = p1 at hres
  obtain ⟨ep, s1⟩ := p1
  have HP1 := hide hp1
  clear hp1
  dsimp only at hres
  generalize hp2 : numD 2 s1 = p2 at hres
  obtain ⟨n2, s2⟩ := p2
  have HP2 := hide hp2
  clear hp2
  dsimp only at hres
  generalize hrest : rNamesD n2 s2 = rest at hres
  have HREST := hide hrest
  have NO : Hid (∀ (w' : World), (rest = none ∨ ∃ q, rest = some q ∧ done q.2 = false) → Below w.heap.size w w' → OMPost w res.isSome (res.getD ⟨0, 0, []⟩) (.returned (.tuple #[.agg #[.int .u64 0, .int .u64 0, .slice none 0 0], .int .i64 10])) w') := by
    intro w' hr hbw
    have : res = none := by
      rw [← hres]
      rcases hr with hr | ⟨q, hr, hd⟩
      · rw [hr]
      · rw [hr]; simp only [hd, Bool.false_eq_true, if_false]
    rw [this]
    exact OMPost.no hbw
  have YES : Hid (∀ (w' : World) (v' : Value) (ss : List ByteArray), rest = some (ss, ([], false)) → OwnS w.heap.size w' v' ss → Below w.heap.size w w' → OMPost w res.isSome (res.getD ⟨0, 0, []⟩) (.returned (.tuple #[.agg #[.int .u64 n, .int .u64 ep, v'], .int .i64 0])) w') := by
    intro w' v' ss hr ho hbw
    have : res = some ⟨n, ep, ss⟩ := by rw [← hres, hr]; rfl
    rw [this]
    exact OMPost.yes (m := ⟨n, ep, ss⟩) ho hbw
  clear hrest hres h4
  go_enter Tryd.func30, Tryd.ntmps30
  have q := hr0 (.cells #[.int .u64 0, .int .u64 0, .slice none 0 0] 57)
  have N0 := numD_any (sz := 8) q (by omega) (by omega)
  rw [show (8 : Int).toNat = 8 from rfl, HP0.out] at N0
  have bA := (BoxT.new 57 w #[.int .u64 0, .int .u64 0, .slice none 0 0]).alloc (.cells #[.slice ao l.length cap, .bool false] 113)
  have hbel := ((Below.refl w.heap.size w).alloc (Nat.le_refl _) (.cells #[.int .u64 0, .int .u64 0, .slice none 0 0] 57)).alloc (by simp) (.cells #[.slice ao l.length cap, .bool false] 113)
  go_wp2_with fail
  refine N0.mono ?_
  rintro e w1 ⟨rfl, hr, hg⟩
  have bA := bA.grown hg (by omega)
  have hbel := hbel.trans (Below.of_grown hg (B := w.heap.size) (by omega) (by simp; omega))
  clear hg N0 hr0 q
  have N1 := numD_any (sz := 8) hr (by omega) (by omega)
  rw [show (8 : Int).toNat = 8 from rfl, HP1.out] at N1
  go_wp2_with fail
  refine N1.mono ?_
  rintro e w2 ⟨rfl, hr, hg⟩
  have bA := (bA.grown hg (by omega)).alloc (.cells #[.int .u64 n, .int .u64 ep, .slice none 0 0] 57)
  have hbel := (hbel.trans (Below.of_grown hg (B := w.heap.size) (by omega) hbel.size))
  have hz := hbel.size
  have hbel := hbel.alloc hz (.cells #[.int .u64 n, .int .u64 ep, .slice none 0 0] 57)
  have hrl := hr.lt
  have q : MR w (w2.alloc (.cells #[.int .u64 n, .int .u64 ep, .slice none 0 0] 57)) w2.heap.size n ep (.slice none 0 0) s1 := ⟨hr.alloc _, BoxT.new _ _ _, bA, hbel, hrl⟩
  clear bA hbel hr hg N1
  have N2 := numD_any (sz := 2) q.rd (by omega) (by omega)
  have hb2 := numD_lt (k := 2) q.rd.2
  rw [HP2.out] at hb2
  rw [show (2 : Int).toNat = 2 from rfl, HP2.out] at N2
  generalize hM : w2.heap.size = M at *
  have hn2 : n2 < 65536 := hb2
  go_wp2_with fail
  refine N2.mono ?_
  rintro e w3 ⟨rfl, hr, hg⟩
  have q := q.call hr hg
  have Q3 := hide q
  clear hr hg N2 hb2 q hM
  go_wp2_with fail
  go_loopw [6, 7] (fun nn _ wr => ∃ (j : Nat) (sk : List Nat × Bool) (acc : List ByteArray) (vk : Value), j ≤ n2 ∧ nn = .int .u64 j ∧ Hid (MR w wr M n ep vk sk) ∧ Hid (OwnS (M + 1) wr vk acc) ∧ Hid (acc.length + j = n2) ∧ Hid (rest = (rNamesD j sk).map fun q => (acc ++ q.1, q.2))) (fun nn _ _ => (intOf nn).toNat)
  case atStart => exact ⟨n2, s2, [], .slice none 0 0, Nat.le_refl _, rfl, Q3, OwnS.nil _ _, by show _ = _; simp, by show _ = _; rw [← HREST.out]; simp⟩
  case round =>
    obtain ⟨j, ⟨lk, bad⟩, acc, vk, hj, rfl, HQ, HO, HL, HE⟩ := hrel
    have hmw := HQ.out.bm.lt
    have hlt := HQ.out.lt
    obtain ⟨ao1, cap1, r0, r1, rf⟩ := HQ.out.rd.cells
    dsimp only at r0 r1
    by_cases hj0 : j = 0
    · cases bad
      · rcases lk with _ | ⟨x, lk⟩
        · simp only [List.length_nil] at r0
          subst hj0
          obtain ⟨ao2, cap2, hvk⟩ := HO.out.shape
          have hO := HO.out
          have hQ := HQ.out
          rw [hvk] at hO hQ
          have bA := hQ.ba
          have bM := hQ.bm
          obtain ⟨d0, d1, d2⟩ := bA.cells3
          obtain ⟨e0, e1, e2⟩ := bM.cells3
          have fa := bA.free
          have HB := hide hQ.bel
          have HOO := hide hO
          have HRR : Hid (rest = some (acc, ([], false))) := by
            show _ = _
            rw [HE.out]; simp [rNamesD]
          have hMH : M ≠ w.heap.size := by omega
          clear hO hQ hvk bM
          go_wp2
          obtain ⟨hW, hx, hown⟩ := fin3 bA (.int .u64 n) (.int .u64 ep) (.slice ao2 acc.length cap2) _ rfl
          obtain ⟨x0, x1, x2⟩ := hx.cells3
          exact bodyPost_ret (v := .tuple #[.agg #[.int .u64 n, .int .u64 ep, .slice ao2 acc.length cap2], .int .i64 0]) (by simp [results, Tryd.results30, go_sem, x0, x1, x2]) rfl (YES.out _ _ _ HRR.out (hown _ _ _ (HOO.out.mono (by omega))) (HB.out.trans hW))
        · have hpos : (0 : Int) < (lk.length : Int) + 1 := by omega
          simp only [List.length_cons] at r0
          have bA := HQ.out.ba
          obtain ⟨d0, d1, d2⟩ := bA.cells3
          have fa := bA.free
          have HB := hide HQ.out.bel
          have HRR : Hid (rest = none ∨ ∃ q, rest = some q ∧ done q.2 = false) := .inr ⟨(acc, (x :: lk, false)), by rw [HE.out, hj0]; simp [rNamesD], rfl⟩
          subst hj0
          go_wp2
          obtain ⟨hW, hx, _⟩ := fin3 bA (.int .u64 0) (.int .u64 0) (.slice none 0 0) _ rfl
          obtain ⟨x0, x1, x2⟩ := hx.cells3
          exact bodyPost_ret (v := .tuple #[.agg #[.int .u64 0, .int .u64 0, .slice none 0 0], .int .i64 10]) (by simp [results, Tryd.results30, go_sem, x0, x1, x2]) rfl (NO.out _ HRR.out (HB.out.trans hW))
      · clear r0
        have bA := HQ.out.ba
        obtain ⟨d0, d1, d2⟩ := bA.cells3
        have fa := bA.free
        have HB := hide HQ.out.bel
        have HRR : Hid (rest = none ∨ ∃ q, rest = some q ∧ done q.2 = false) := .inr ⟨(acc, (lk, true)), by rw [HE.out, hj0]; simp [rNamesD], rfl⟩
        subst hj0
        go_wp2
        obtain ⟨hW, hx, _⟩ := fin3 bA (.int .u64 0) (.int .u64 0) (.slice none 0 0) _ rfl
        obtain ⟨x0, x1, x2⟩ := hx.cells3
        exact bodyPost_ret (v := .tuple #[.agg #[.int .u64 0, .int .u64 0, .slice none 0 0], .int .i64 10]) (by simp [results, Tryd.results30, go_sem, x0, x1, x2]) rfl (NO.out _ HRR.out (HB.out.trans hW))
    have hjp : (0 : Int) < (j : Int) := by omega
    cases bad
    rotate_left
    · clear r0
      have bA := HQ.out.ba
      obtain ⟨d0, d1, d2⟩ := bA.cells3
      have fa := bA.free
      have HB := hide HQ.out.bel
      have HRR : Hid (rest = none ∨ ∃ q, rest = some q ∧ done q.2 = false) := .inr ⟨(acc, (lk, true)), by rw [HE.out, rNamesD_bad]; simp, rfl⟩
      go_wp2
      obtain ⟨hW, hx, _⟩ := fin3 bA (.int .u64 0) (.int .u64 0) (.slice none 0 0) _ rfl
      obtain ⟨x0, x1, x2⟩ := hx.cells3
      exact bodyPost_ret (v := .tuple #[.agg #[.int .u64 0, .int .u64 0, .slice none 0 0], .int .i64 10]) (by simp [results, Tryd.results30, go_sem, x0, x1, x2]) rfl (NO.out _ HRR.out (HB.out.trans hW))
    have hb1 := numD_lt (k := 1) HQ.out.rd.2
    have HEE : Hid (rest = if (numD 1 (lk, false)).2.2 = true ∨ (numD 1 (lk, false)).2.1.length < (numD 1 (lk, false)).1 ∨ 32 < (numD 1 (lk, false)).1 then none
      else (rNamesD (j - 1) ((numD 1 (lk, false)).2.1.drop (numD 1 (lk, false)).1, false)).map fun q => (acc ++ (strOf ((numD 1 (lk, false)).2.1.take (numD 1 (lk, false)).1) :: q.1), q.2)) := by
      show rest = _
      rw [HE.out, show j = (j - 1) + 1 by omega]
      simp only [rNamesD, Bool.false_eq_true, if_false, Nat.add_sub_cancel]
      split
      · rfl
      · rw [Option.map_map]; rfl
    have N1 := numD_any (sz := 1) HQ.out.rd (by omega) (by omega)
    rw [show (1 : Int).toNat = 1 from rfl] at N1
    generalize numD 1 (lk, false) = p1 at hb1 HEE N1
    obtain ⟨k, l1, bad1⟩ := p1
    dsimp only at hb1 HEE N1
    have hk : k < 256 := hb1
    have hw : wrap64 (k : Int) = k := by unfold wrap64; omega
    clear r0 hb1 HE
    go_wp2_with fail
    refine N1.mono ?_
    rintro e w4 ⟨rfl, hr, hg⟩
    have q4 := HQ.out.call hr hg
    have ho4 : OwnS (M + 1) w4 vk acc := HO.out.grown hg (by omega)
    have Q4 := hide q4
    have HO4 := hide ho4
    clear hr hg N1 q4 ho4 r1 rf
    obtain ⟨ao4, cap4, r0, r1, rf⟩ := Q4.out.rd.cells
    dsimp only at r0 r1
    cases bad1
    rotate_left
    · clear r0
      have bA := Q4.out.ba
      obtain ⟨d0, d1, d2⟩ := bA.cells3
      have fa := bA.free
      have HB := hide Q4.out.bel
      have HRR : Hid (rest = none ∨ ∃ q, rest = some q ∧ done q.2 = false) := .inl (by rw [HEE.out, if_pos (.inl rfl)])
      go_wp2
      obtain ⟨hW, hx, _⟩ := fin3 bA (.int .u64 0) (.int .u64 0) (.slice none 0 0) _ rfl
      obtain ⟨x0, x1, x2⟩ := hx.cells3
      exact bodyPost_ret (v := .tuple #[.agg #[.int .u64 0, .int .u64 0, .slice none 0 0], .int .i64 10]) (by simp [results, Tryd.results30, go_sem, x0, x1, x2]) rfl (NO.out _ HRR.out (HB.out.trans hW))
    by_cases hkl : l1.length < k
    · have bA := Q4.out.ba
      obtain ⟨d0, d1, d2⟩ := bA.cells3
      have fa := bA.free
      have HB := hide Q4.out.bel
      have HRR : Hid (rest = none ∨ ∃ q, rest = some q ∧ done q.2 = false) := .inl (by rw [HEE.out, if_pos (.inr (.inl hkl))])
      go_wp2
      obtain ⟨hW, hx, _⟩ := fin3 bA (.int .u64 0) (.int .u64 0) (.slice none 0 0) _ rfl
      obtain ⟨x0, x1, x2⟩ := hx.cells3
      exact bodyPost_ret (v := .tuple #[.agg #[.int .u64 0, .int .u64 0, .slice none 0 0], .int .i64 10]) (by simp [results, Tryd.results30, go_sem, x0, x1, x2]) rfl (NO.out _ HRR.out (HB.out.trans hW))
    by_cases hk32 : 32 < k
    · have bA := Q4.out.ba
      obtain ⟨d0, d1, d2⟩ := bA.cells3
      have fa := bA.free
      have HB := hide Q4.out.bel
      have HRR : Hid (rest = none ∨ ∃ q, rest = some q ∧ done q.2 = false) := .inl (by rw [HEE.out, if_pos (.inr (.inr hk32))])
      go_wp2
      obtain ⟨hW, hx, _⟩ := fin3 bA (.int .u64 0) (.int .u64 0) (.slice none 0 0) _ rfl
      obtain ⟨x0, x1, x2⟩ := hx.cells3
      exact bodyPost_ret (v := .tuple #[.agg #[.int .u64 0, .int .u64 0, .slice none 0 0], .int .i64 10]) (by simp [results, Tryd.results30, go_sem, x0, x1, x2]) rfl (NO.out _ HRR.out (HB.out.trans hW))
    have hkl' : k ≤ l1.length := by omega
    have hEE : rest = (rNamesD (j - 1) (l1.drop k, false)).map fun q => (acc ++ (strOf (l1.take k) :: q.1), q.2) := by
      rw [HEE.out, if_neg (by simp; omega)]
    have HE' := hide hEE
    obtain ⟨ao5, cap5, hvk⟩ := HO4.out.shape
    rw [hvk] at HO4 Q4
    clear HEE hEE r0 r1 rf HQ HO hvk
    obtain ⟨aoR, capR, r0, hlc, hcm, f0, hnone, hcut⟩ := Q4.out.rd.cut k hkl'
    have hsegB : SegB (w.heap.size + 1) w4 (.slice aoR l1.length capR) l1 ∧ w4.cell? ⟨w.heap.size + 1, 1, none⟩ = some (.bool false) := by
      obtain ⟨⟨vx, hbx, hsg⟩, _⟩ := Q4.out.rd
      have hc := hbx.cells2
      rw [r0] at hc
      rw [← Option.some.inj hc.1] at hsg
      exact ⟨hsg, hc.2⟩
    have r1 := hsegB.2
    have HSG := hide hsegB.1
    obtain ⟨e0, e1, e2⟩ := Q4.out.bm.cells3
    have fM := Q4.out.bm.free 2
    have hm4 := Q4.out.bm.lt
    have HCUT := hide hcut
    have hkc : k ≤ capR := by omega
    generalize hst : strOf (l1.take k) = st at HE'
    have HST := hide hst
    have hcv : (convert 30 9 (.slice aoR k capR)).run Tryd.prog w4 = .ok (.string st) w4 := by
      rw [← hst]; exact seg_convert ((HSG.out.seg (by omega)).first k hkl')
    have hcv2 : (convert 30 9 (.slice aoR k capR)).run Tryd.prog w4.drew = .ok (.string st) w4.drew := by
      rw [← hst]; exact seg_convert (show Seg w4.drew _ _ from (HSG.out.seg (by omega)).first k hkl')
    have AFTER : Hid (∀ w5 : World, (w4.alloc (.cells #[.string st] 9)).grownBy w5 (Value.slice ao5 acc.length cap5).ownBlock → Below (M + 1) w4 w5 ∧ w5.cell? ⟨M, 2, none⟩ = some (.slice ao5 acc.length cap5) ∧ w5.frozen? ⟨M, 2, none⟩ = false) := by
      intro w5 hg5
      have hb := below_row (below_more (Below.refl (M + 1) w4) (by omega) _) HO4.out.at (by omega) hg5
      have q' := Q4.out.below hb
      exact ⟨hb, q'.bm.cells3.2.2, q'.bm.free 2⟩
    clear hst hsegB hcut
    go_wp2_with fail
    go_region_law (first
        | (refine step_ownS rfl _ _ rfl (M + 1) _ acc rfl ((HO4.out.alloc _).drew) ⟨w4.heap.size, 0, none⟩ 1 st rfl (by simp [Addr.add]) (by have := HL.out; omega) (by simp; omega) ?_; intro v5 w5 ho5 hg5; obtain ⟨ao6, cap6, rfl⟩ := ho5.shape; obtain ⟨bx, c5, f5⟩ := AFTER.out w5 (grown_undrew hg5))
        | (refine step_ownS rfl _ _ rfl (M + 1) _ acc rfl (HO4.out.alloc _) ⟨w4.heap.size, 0, none⟩ 1 st rfl (by simp [Addr.add]) (by have := HL.out; omega) (by simp; omega) ?_; intro v5 w5 ho5 hg5; obtain ⟨ao6, cap6, rfl⟩ := ho5.shape; obtain ⟨bx, c5, f5⟩ := AFTER.out w5 hg5))
    all_goals
      have q5 := (Q4.out.below bx).set (.slice ao6 (acc.length + 1) cap6)
      have ho6 := ho5.setBox (Q4.out.below bx).bm (by decide) 2 (.slice ao6 (acc.length + 1) cap6)
      rw [List.length_append, List.length_singleton] at ho6
      obtain ⟨ao7, cap7, s7, hlc7, hcm7, f7, hao7, hcut7⟩ := q5.rd.cut k hkl'
      have hwj : IntKind.u64.wrap ((j : Int) - 1) = ((j - 1 : Nat) : Int) := by rw [IntKind.wrap_u64]; omega
      have FIN : Hid (∀ (a : Option Addr) (c L : Nat), L = l1.length - k → (l1.length = k ∧ c ≤ 9223372036854775807 ∨ (∃ b off, ao7 = some ⟨b, off, none⟩ ∧ a = some ⟨b, off + k, none⟩) ∧ l1.length - k ≤ c ∧ c ≤ 9223372036854775807) →
          ∃ (j' : Nat) (sk : List Nat × Bool) (acc' : List ByteArray) (vk' : Value), j' ≤ n2 ∧ Value.int .u64 ((j - 1 : Nat) : Int) = .int .u64 j' ∧ Hid (MR w ((w5.setCell ⟨M, 2, none⟩ (.slice ao6 (acc.length + 1) cap6)).setCell ⟨w.heap.size + 1, 0, none⟩ (.slice a L c)) M n ep vk' sk) ∧ Hid (OwnS (M + 1) ((w5.setCell ⟨M, 2, none⟩ (.slice ao6 (acc.length + 1) cap6)).setCell ⟨w.heap.size + 1, 0, none⟩ (.slice a L c)) vk' acc') ∧ Hid (acc'.length + j' = n2) ∧ Hid (rest = (rNamesD j' sk).map fun q => (acc' ++ q.1, q.2))) := by
        intro a c L hL hac
        have hct := hcut7 a c hac
        rw [← hL] at hct
        have hg7 := grownBy_set (w5.setCell ⟨M, 2, none⟩ (.slice ao6 (acc.length + 1) cap6)) (w.heap.size + 1) 0 (.slice a L c)
        refine ⟨j - 1, (l1.drop k, false), acc ++ [st], .slice ao6 (acc.length + 1) cap6, by omega, rfl, q5.call hct hg7, ho6.grown hg7 (by omega), ?_, ?_⟩
        · show _ = _
          have := HL.out
          simp; omega
        · show rest = _
          rw [HE'.out]
          simp
      clear hg5 ho5 ho6 bx c5 f5 hcut7 q5 r0 r1 f0 hcv hcv2
      rcases hao7 with hl1 | ⟨b7, off7, rfl⟩
      · have hk0 : k = 0 := by rw [hl1] at hkl'; simpa using hkl'
        have hl0 : l1.length = 0 := by rw [hl1]; rfl
        rcases ao7 with _ | ad7
        · go_wp2
          all_goals
            go_roundw
            case rel => exact FIN.out _ _ _ (by omega) (by first | (left; exact ⟨by omega, by omega⟩) | (right; exact ⟨⟨_, _, rfl, rfl⟩, by omega, by omega⟩))
            case measure => simp [intOf]; omega
        · go_wp2
          all_goals
            go_roundw
            case rel => exact FIN.out _ _ _ (by omega) (by first | (left; exact ⟨by omega, by omega⟩) | (right; exact ⟨⟨_, _, rfl, rfl⟩, by omega, by omega⟩))
            case measure => simp [intOf]; omega
      · by_cases hck : cap7 = k
        · have hlk : l1.length = k := by omega
          go_wp2
          all_goals
            go_roundw
            case rel => exact FIN.out _ _ _ (by omega) (by first | (left; exact ⟨by omega, by omega⟩) | (right; exact ⟨⟨_, _, rfl, rfl⟩, by omega, by omega⟩))
            case measure => simp [intOf]; omega
        go_wp2
        all_goals
          go_roundw
          case rel => exact FIN.out _ _ _ (by omega) (by first | (left; exact ⟨by omega, by omega⟩) | (right; exact ⟨⟨_, _, rfl, rfl⟩, by omega, by omega⟩))
          case measure => simp [intOf]; omega
end Go.Proofs.YtaajjejgjnlbgaaDoor
