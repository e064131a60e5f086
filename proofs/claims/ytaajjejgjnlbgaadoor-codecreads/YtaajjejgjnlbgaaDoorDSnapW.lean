/-
  The document's readers: whole parts.
-/
import Derived.Test.YtaajjejgjnlbgaaDoorD3
import Derived.Deep.RegionLaw
import Derived.Deep.CutBlock
namespace Go.Proofs.YtaajjejgjnlbgaaDoor
open Go.RowKit

set_option maxHeartbeats 16000000 in
set_option maxRecDepth 100000 in
theorem OpenSnapD_any (v : Value) (l : List Nat) (w : World) (h : Seg w v l) (hb : Byts l) :
    Calls Tryd.prog 29 #[v] w (OSPost w (dSn (rSnapD l)) (dEr (rSnapD l))) := by
  have hr0 := fun o => RdSD.start_at (k := w.heap.size + 1) (by simp) (h.alloc o) hb
  obtain ⟨ao, cap, rfl, h2, h3, h3', h4⟩ := h
  generalize hres : rSnapD l = res
  unfold rSnapD at hres
  have hb0 := numD_lt (k := 2) (s := (l, false)) hb
  generalize hp0 : numD 2 (l, false) = p0 at hres hb0
  obtain ⟨ta, s0⟩ := p0
  have HP0 := hide hp0
  clear hp0
  dsimp only at hres hb0
  generalize hp1 : numD 2 s0 = p1 at hres
  obtain ⟨off, s1⟩ := p1
  have HP1 := hide hp1
  clear hp1
  dsimp only at hres
  generalize hp2 : numD 8 s1 = p2 at hres
  obtain ⟨mk, s2⟩ := p2
  have HP2 := hide hp2
  clear hp2
  dsimp only at hres
  generalize hmk : i64of mk = mark at hres
  have hwm : wrap64 (mk : Int) = mark := hmk
  generalize hp3 : numD 2 s2 = p3 at hres
  obtain ⟨nm, s3⟩ := p3
  have HP3 := hide hp3
  clear hp3 hmk
  dsimp only at hres
  generalize hq3 : rL rIntD nm s3 = q3 at hres
  obtain ⟨ms, t3⟩ := q3
  have HQ3 := hide hq3
  clear hq3
  dsimp only at hres
  generalize hp4 : numD 2 t3 = p4 at hres
  obtain ⟨np, s4⟩ := p4
  have HP4 := hide hp4
  clear hp4
  dsimp only at hres
  generalize hq4 : rL rPaneD np s4 = q4 at hres
  obtain ⟨ps, t4⟩ := q4
  have HQ4 := hide hq4
  clear hq4
  dsimp only at hres
  generalize hp5 : numD 2 t4 = p5 at hres
  obtain ⟨nc, s5⟩ := p5
  have HP5 := hide hp5
  clear hp5
  dsimp only at hres
  generalize hq5 : rL rOutD nc s5 = q5 at hres
  obtain ⟨os, t5⟩ := q5
  have HQ5 := hide hq5
  clear hq5
  dsimp only at hres
  have HRES := hide hres
  generalize hsn : dSn res = sn
  have HSN := hide hsn
  generalize her : dEr res = er
  have HER := hide her
  clear hres hsn her h4
  have hw0 : wrap64 (ta : Int) = ta := by unfold wrap64; omega
  go_enter Tryd.func29, Tryd.ntmps29
  have q := hr0 (.cells #[.int .i64 0, .int .i64 0, .int .i64 0, .slice none 0 0, .slice none 0 0, .slice none 0 0] 48)
  have N0 := numD_any (sz := 2) q (by omega) (by omega)
  rw [show (2 : Int).toNat = 2 from rfl, HP0.out] at N0
  have bA := (BoxT.new 48 w #[.int .i64 0, .int .i64 0, .int .i64 0, .slice none 0 0, .slice none 0 0, .slice none 0 0]).alloc (.cells #[.slice ao l.length cap, .bool false] 113)
  have hbel := ((Below.refl w.heap.size w).alloc (Nat.le_refl _) (.cells #[.int .i64 0, .int .i64 0, .int .i64 0, .slice none 0 0, .slice none 0 0, .slice none 0 0] 48)).alloc (by simp) (.cells #[.slice ao l.length cap, .bool false] 113)
  go_wp2_with fail
  refine N0.mono ?_
  rintro e w1 ⟨rfl, hr, hg⟩
  have bA := bA.grown hg (by omega)
  have hbel := hbel.trans (Below.of_grown hg (B := w.heap.size) (by omega) (by simp; omega))
  clear hg N0 hr0 q
  have N1 := numD_any (sz := 2) hr (by omega) (by omega)
  have hb1 := numD_lt (k := 2) hr.2
  rw [HP1.out] at hb1
  rw [show (2 : Int).toNat = 2 from rfl, HP1.out] at N1
  have hw1 : wrap64 (off : Int) = off := by unfold wrap64; dsimp only at hb1; omega
  go_wp2_with fail
  refine N1.mono ?_
  rintro e w2 ⟨rfl, hr, hg⟩
  have bA := bA.grown hg (by omega)
  have hbel := hbel.trans (Below.of_grown hg (B := w.heap.size) (by omega) hbel.size)
  clear hg N1 hb1
  have N2 := numD_any (sz := 8) hr (by omega) (by omega)
  rw [show (8 : Int).toNat = 8 from rfl, HP2.out] at N2
  go_wp2_with fail
  refine N2.mono ?_
  rintro e w3 ⟨rfl, hr, hg⟩
  have bA := (bA.grown hg (by omega)).alloc (.cells #[.int .i64 ta, .int .i64 off, .int .i64 mark, .slice none 0 0, .slice none 0 0, .slice none 0 0] 48)
  have hbel := (hbel.trans (Below.of_grown hg (B := w.heap.size) (by omega) hbel.size))
  have hz := hbel.size
  have hbel := hbel.alloc hz (.cells #[.int .i64 ta, .int .i64 off, .int .i64 mark, .slice none 0 0, .slice none 0 0, .slice none 0 0] 48)
  have hrl := hr.lt
  have q : SR w (w3.alloc (.cells #[.int .i64 ta, .int .i64 off, .int .i64 mark, .slice none 0 0, .slice none 0 0, .slice none 0 0] 48)) w3.heap.size #[.int .i64 ta, .int .i64 off, .int .i64 mark, .slice none 0 0, .slice none 0 0, .slice none 0 0] s2 := ⟨hr.alloc _, BoxT.new _ _ _, bA, hbel, hrl⟩
  clear bA hbel hr hg N2
  have N3 := numD_any (sz := 2) q.rd (by omega) (by omega)
  have hb3 := numD_lt (k := 2) q.rd.2
  rw [HP3.out] at hb3
  rw [show (2 : Int).toNat = 2 from rfl, HP3.out] at N3
  generalize hM : w3.heap.size = M at *
  have hnm : nm < 65536 := hb3
  go_wp2_with fail
  refine N3.mono ?_
  rintro e w4 ⟨rfl, hr, hg⟩
  have q := q.call hr hg
  have Q4 := hide q
  clear hr hg N3 hb3 q hM hz hrl
  go_upto_block 0 with fail

  go_cut [6] from 28 to 46 (fun _ wx => ∃ vm, Hid (SR w wx M #[.int .i64 ta, .int .i64 off, .int .i64 mark, vm, .slice none 0 0, .slice none 0 0] t3 ∧ OwnL 2 1 ics (M + 1) wx vm ms))
  case first =>
    go_wp2_with fail
    go_loopw [6] (fun nn wr => ∃ (j : Nat) (sk : List Nat × Bool) (acc : List Int) (vk : Value), j ≤ nm ∧ nn = .int .u64 j ∧ Hid (SR w wr M #[.int .i64 ta, .int .i64 off, .int .i64 mark, vk, .slice none 0 0, .slice none 0 0] sk) ∧ Hid (OwnL 2 1 ics (M + 1) wr vk acc) ∧ Hid (acc.length + j = nm) ∧ Hid ((ms, t3) = (acc ++ (rL rIntD j sk).1, (rL rIntD j sk).2))) (fun nn _ => (intOf nn).toNat)
    case atStart => exact ⟨nm, s3, [], .slice none 0 0, Nat.le_refl _, rfl, Q4, OwnL.nil _ _ _ _ _, by show _ = _; simp, by show _ = _; rw [← HQ3.out]; rfl⟩
    case round =>
      obtain ⟨j, ⟨lk, bad⟩, acc, vk, hj, rfl, HQ, HO, HL, HE⟩ := hrel
      have hmw := HQ.out.bm.lt
      have hlt := HQ.out.lt
      obtain ⟨ao1, cap1, r0, r1, rf⟩ := HQ.out.rd.cells
      dsimp only at r0 r1
      clear r0
      by_cases hj0 : j = 0
      · have HX : Hid (SR w wr M #[.int .i64 ta, .int .i64 off, .int .i64 mark, vk, .slice none 0 0, .slice none 0 0] t3 ∧ OwnL 2 1 ics (M + 1) wr vk ms) := by
          have he := HE.out
          rw [hj0] at he
          simp only [rL, List.append_nil, Prod.mk.injEq] at he
          rw [he.1, he.2]
          exact ⟨HQ.out, HO.out⟩
        subst hj0
        go_wp2
        go_meet
        case rel => exact ⟨vk, HX⟩
      have hjp : (0 : Int) < (j : Int) := by omega
      cases bad
      rotate_left
      · have HX : Hid (SR w wr M #[.int .i64 ta, .int .i64 off, .int .i64 mark, vk, .slice none 0 0, .slice none 0 0] t3 ∧ OwnL 2 1 ics (M + 1) wr vk ms) := by
          have he := HE.out
          rw [rL_bad] at he
          simp only [List.append_nil, Prod.mk.injEq] at he
          rw [he.1, he.2]
          exact ⟨HQ.out, HO.out⟩
        go_wp2
        go_meet
        case rel => exact ⟨vk, HX⟩
      obtain ⟨ak, ck, hvk⟩ := HO.out.shape
      rw [hvk] at HQ HO
      clear hvk
      generalize hx : numD 8 (lk, false) = px
      obtain ⟨x, sx⟩ := px
      have HX := hide hx
      generalize hk1 : i64of x = k1
      have hwk : wrap64 (x : Int) = k1 := hk1
      have hwk2 : IntKind.i64.wrap (x : Int) = k1 := by rw [i64of_w]; exact hk1
      have HEE : Hid ((ms, t3) = ((acc ++ [k1]) ++ (rL rIntD (j - 1) sx).1, (rL rIntD (j - 1) sx).2)) := by
        show _ = _
        rw [HE.out, show j = (j - 1) + 1 by omega]
        have e1 : rIntD (lk, false) = (k1, sx) := by unfold rIntD; rw [hx, ← hk1]
        simp [rL, e1]
      have N := numD_any (sz := 8) HQ.out.drew.rd (by omega) (by omega)
      rw [show (8 : Int).toNat = 8 from rfl, hx] at N
      have HN := hide N
      have AFTER1 : Hid (∀ w5 : World, RdSD (w.heap.size + 1) w5 sx → wr.drew.grownBy w5 (some (w.heap.size + 1)) → SR w w5 M #[.int .i64 ta, .int .i64 off, .int .i64 mark, .slice ak acc.length ck, .slice none 0 0, .slice none 0 0] sx ∧ OwnL 2 1 ics (M + 1) w5 (.slice ak acc.length ck) acc) := by
        intro w5 hr5 hg5
        exact ⟨HQ.out.drew.call hr5 hg5, HO.out.drew.grown hg5 (by omega)⟩
      have AFTER2 : Hid (∀ w5 w6 : World, SR w w5 M #[.int .i64 ta, .int .i64 off, .int .i64 mark, .slice ak acc.length ck, .slice none 0 0, .slice none 0 0] sx → OwnL 2 1 ics (M + 1) w5 (.slice ak acc.length ck) acc → (w5.alloc (.cells #[.int .i64 k1] 2)).grownBy w6 (Value.slice ak acc.length ck).ownBlock → Below (M + 1) w5 w6 ∧ w6.cell? ⟨M, 3, none⟩ = some (.slice ak acc.length ck) ∧ w6.frozen? ⟨M, 3, none⟩ = false) := by
        intro w5 w6 q5 o5 hg6
        have hb := below_row (below_more (Below.refl (M + 1) w5) q5.bm.lt _) o5.at q5.bm.lt hg6
        have q6 := q5.below hb
        exact ⟨hb, q6.bm.cells6.2.2.2.1, q6.bm.free 3⟩
      obtain ⟨c0, c1, c2, c3, c4, c5⟩ := HQ.out.bm.cells6
      have hla : acc.length ≤ 1000000 := by have := HL.out; omega
      have hwj : IntKind.u64.wrap ((j : Int) - 1) = ((j - 1 : Nat) : Int) := by rw [IntKind.wrap_u64]; omega
      clear hx hk1 N c0 c1 c2 c4 c5
      go_wp2_with fail
      go_region_law (first
        | (refine step_ownL Tryd.info2 Tryd.underlying44 rfl (by decide) (by decide) (fun _ => rfl) (fun y u hu => by simp [ics] at hu; subst hu; rfl) rfl _ _ rfl (M + 1) _ acc rfl (o5.alloc _) ⟨w5.heap.size, 0, none⟩ 1 k1 rfl (fun j u hu => by match j, hu with | 0, hu => simp [ics] at hu; subst hu; simp [Addr.add]) hla (by simp; omega) ?_; intro v6 w6 ho6 hg6; obtain ⟨ao6, cap6, rfl⟩ := ho6.shape; obtain ⟨bx, c6, f6⟩ := AFTER2.out w5 w6 q5 o5 hg6)
        | (go_simp; go_at_call 64; refine HN.out.mono ?_; rintro e w5 ⟨rfl, hr5, hg5⟩; obtain ⟨q5, o5⟩ := AFTER1.out w5 hr5 hg5; obtain ⟨e0, e1, e2, e3, e4, e5⟩ := q5.bm.cells6; have hm5 := q5.bm.lt; clear e0 e1 e2 e4 e5 hr5 hg5))
      all_goals
        have hf : (SR w (w6.setCell ⟨M, 3, none⟩ (.slice ao6 (acc.length + 1) cap6)) M #[.int .i64 ta, .int .i64 off, .int .i64 mark, .slice ao6 (acc.length + 1) cap6, .slice none 0 0, .slice none 0 0] sx) := (q5.below bx).set 3 _
        have hof := ho6.setBox (q5.below bx).bm (by decide) 3 (.slice ao6 (acc.length + 1) cap6)
        rw [List.length_append, List.length_singleton] at hof
        have HF := hide hf
        have HOF := hide hof
        clear hf hof hg6 ho6 bx c6 f6 q5 o5 e3 c3
        go_wp2
        go_roundw
        case rel => exact ⟨j - 1, sx, acc ++ [k1], .slice ao6 (acc.length + 1) cap6, by omega, by rfl, HF, HOF, by show _ = _; have := HL.out; simp; omega, HEE⟩
        case measure => simp [intOf]; omega
  case rest =>
  obtain ⟨vm, hsr⟩ := hcut
  obtain ⟨q, hm⟩ := hsr.out
  obtain ⟨am, cm, hvm⟩ := hm.shape
  rw [hvm] at q hm
  have HM := hide hm
  have N4 := numD_any (sz := 2) q.rd (by omega) (by omega)
  have hb4 := numD_lt (k := 2) q.rd.2
  rw [HP4.out] at hb4
  rw [show (2 : Int).toNat = 2 from rfl, HP4.out] at N4
  have hnp : np < 65536 := hb4
  clear hsr hb4 hm hvm
  go_wp2_with fail
  refine N4.mono ?_
  rintro e w5 ⟨rfl, hr, hg⟩
  have hlt := q.lt
  have Q5 := hide (q.call hr hg)
  have HM := hide (HM.out.grown hg (by omega))
  clear hr hg N4 q
  go_upto_block 2 with fail
  go_cut [8, 9] from 50 to 82 (fun _ _ wx => ∃ vp, Hid (SR w wx M #[.int .i64 ta, .int .i64 off, .int .i64 mark, .slice am ms.length cm, vp, .slice none 0 0] t4 ∧ OwnL 2 1 ics (M + 1) wx (.slice am ms.length cm) ms ∧ OwnL 100 4 Pn.cs (M + 1) wx vp ps))
  case first =>
    go_wp2_with fail
    go_loopw [8, 9] (fun nn _ wr => ∃ (j : Nat) (sk : List Nat × Bool) (acc : List Pn) (vk : Value), j ≤ np ∧ nn = .int .u64 j ∧ Hid (SR w wr M #[.int .i64 ta, .int .i64 off, .int .i64 mark, .slice am ms.length cm, vk, .slice none 0 0] sk) ∧ Hid (OwnL 2 1 ics (M + 1) wr (.slice am ms.length cm) ms) ∧ Hid (OwnL 100 4 Pn.cs (M + 1) wr vk acc) ∧ Hid (acc.length + j = np) ∧ Hid ((ps, t4) = (acc ++ (rL rPaneD j sk).1, (rL rPaneD j sk).2))) (fun nn _ _ => (intOf nn).toNat)
    case atStart => exact ⟨np, s4, [], .slice none 0 0, Nat.le_refl _, rfl, Q5, HM, OwnL.nil _ _ _ _ _, by show _ = _; simp, by show _ = _; rw [← HQ4.out]; rfl⟩
    case round =>
      obtain ⟨j, ⟨lk, bad⟩, acc, vk, hj, rfl, HQ, HMM, HO, HL, HE⟩ := hrel
      have hmw := HQ.out.bm.lt
      obtain ⟨ao1, cap1, r0, r1, rf⟩ := HQ.out.rd.cells
      dsimp only at r0 r1
      clear r0
      by_cases hj0 : j = 0
      · have HX : Hid (SR w wr M #[.int .i64 ta, .int .i64 off, .int .i64 mark, .slice am ms.length cm, vk, .slice none 0 0] t4 ∧ OwnL 2 1 ics (M + 1) wr (.slice am ms.length cm) ms ∧ OwnL 100 4 Pn.cs (M + 1) wr vk ps) := by
          have he := HE.out
          rw [hj0] at he
          simp only [rL, List.append_nil, Prod.mk.injEq] at he
          rw [he.1, he.2]
          exact ⟨HQ.out, HMM.out, HO.out⟩
        subst hj0
        go_wp2
        go_meet
        case rel => exact ⟨vk, HX⟩
      have hjp : (0 : Int) < (j : Int) := by omega
      cases bad
      rotate_left
      · have HX : Hid (SR w wr M #[.int .i64 ta, .int .i64 off, .int .i64 mark, .slice am ms.length cm, vk, .slice none 0 0] t4 ∧ OwnL 2 1 ics (M + 1) wr (.slice am ms.length cm) ms ∧ OwnL 100 4 Pn.cs (M + 1) wr vk ps) := by
          have he := HE.out
          rw [rL_bad] at he
          simp only [List.append_nil, Prod.mk.injEq] at he
          rw [he.1, he.2]
          exact ⟨HQ.out, HMM.out, HO.out⟩
        go_wp2
        go_meet
        case rel => exact ⟨vk, HX⟩
      obtain ⟨ak, ck, hvk⟩ := HO.out.shape
      rw [hvk] at HQ HO
      clear hvk
      generalize hx1 : numD 8 (lk, false) = px1
      obtain ⟨x1, sx1⟩ := px1
      generalize hx2 : numD 8 sx1 = px2
      obtain ⟨x2, sx2⟩ := px2
      generalize hx3 : numD 8 sx2 = px3
      obtain ⟨x3, sx3⟩ := px3
      generalize hx4 : numD 8 sx3 = px4
      obtain ⟨x4, sx4⟩ := px4
      have HX1 := hide hx1
      have HX2 := hide hx2
      have HX3 := hide hx3
      have HX4 := hide hx4
      generalize hk1 : i64of x1 = k1
      generalize hk2 : i64of x2 = k2
      generalize hk3 : i64of x3 = k3
      generalize hk4 : i64of x4 = k4
      have hw1' : wrap64 (x1 : Int) = k1 := hk1
      have hw2' : wrap64 (x2 : Int) = k2 := hk2
      have hw3' : wrap64 (x3 : Int) = k3 := hk3
      have hw4' : wrap64 (x4 : Int) = k4 := hk4
      have HEE : Hid ((ps, t4) = ((acc ++ [Pn.mk k1 k2 k3 k4]) ++ (rL rPaneD (j - 1) sx4).1, (rL rPaneD (j - 1) sx4).2)) := by
        show _ = _
        rw [HE.out, show j = (j - 1) + 1 by omega]
        have e1 : rPaneD (lk, false) = (⟨k1, k2, k3, k4⟩, sx4) := by unfold rPaneD; simp only [hx1, hx2, hx3, hx4, hk1, hk2, hk3, hk4]
        simp [rL, e1]
      have hla : acc.length ≤ 1000000 := by have := HL.out; omega
      have hwj : IntKind.u64.wrap ((j : Int) - 1) = ((j - 1 : Nat) : Int) := by rw [IntKind.wrap_u64]; omega
      clear hx1 hx2 hx3 hx4 hk1 hk2 hk3 hk4
      have N := numD_any (sz := 8) HQ.out.rd (by omega) (by omega)
      rw [show (8 : Int).toNat = 8 from rfl, HX1.out] at N
      go_wp2_with fail
      refine N.mono ?_
      rintro e w10 ⟨rfl, hr, hg⟩
      have q := PR2.start (HQ.out.call hr hg) (HMM.out.grown hg (by omega)) (HO.out.grown hg (by omega)) #[.int .i64 k1, .int .i64 0, .int .i64 0, .int .i64 0]
      clear N hr hg r1 rf
      generalize hkP : w10.heap.size = kP at *
      have N := numD_any (sz := 8) q.sr.rd (by omega) (by omega)
      rw [show (8 : Int).toNat = 8 from rfl, HX2.out] at N
      go_wp2_with fail
      refine N.mono ?_
      rintro e w11 ⟨rfl, hr, hg⟩
      have q := q.call hr hg
      clear N hr hg
      have N := numD_any (sz := 8) q.sr.rd (by omega) (by omega)
      rw [show (8 : Int).toNat = 8 from rfl, HX3.out] at N
      go_wp2_with fail
      refine N.mono ?_
      rintro e w12 ⟨rfl, hr, hg⟩
      have q := q.call hr hg
      clear N hr hg
      obtain ⟨c0, c1, c2, c3⟩ := q.pb.cells4
      have fp := q.pb.free
      have q := (q.set 1 (.int .i64 k2)).set 2 (.int .i64 k3)
      have N := numD_any (sz := 8) q.sr.rd (by omega) (by omega)
      rw [show (8 : Int).toNat = 8 from rfl, HX4.out] at N
      go_wp2_with fail
      refine N.mono ?_
      rintro e w13 ⟨rfl, hr, hg⟩
      have q := q.call hr hg
      clear N hr hg c0 c1 c2 c3 fp
      obtain ⟨c0, c1, c2, c3⟩ := q.pb.cells4
      have fp := q.pb.free
      have q := q.set 3 (.int .i64 k4)
      clear c0 c1 c2
      obtain ⟨e0, e1, e2, e3⟩ := q.pb.cells4
      obtain ⟨m0, m1, m2, m3, m4, m5⟩ := q.sr.bm.cells6
      have hMk := q.hM
      have hMw := q.sr.bm.lt
      have HQP := hide q
      have hop := q.op
      have HOP := hide hop
      clear hop q m0 m1 m2 m3 m5
      go_wp2_with (first | (at_builtin; refine app_ownL Tryd.info100 Tryd.underlying45 rfl (by decide) (by decide) (fun _ => rfl) (fun y u hu => by simp [Pn.cs] at hu; rcases hu with rfl | rfl | rfl | rfl <;> rfl) rfl _ _ rfl (M + 1) _ acc rfl (HOP.out.alloc _) ⟨w13.heap.size, 0, none⟩ 1 ⟨k1, k2, k3, k4⟩ rfl (fun j u hu => new4 _ _ (by simp) ⟨k1, k2, k3, k4⟩ j u hu) hla (by simp at hMw ⊢; omega) ?_) | fail)
      intro v6 w6 ho6 hg6
      obtain ⟨ao6, cap6, rfl⟩ := ho6.shape
      have hb6 := below_row (below_more (Below.refl (M + 1) _) hMw _) HOP.out.at hMw hg6
      have q6 := HQP.out.sr.below hb6
      have om6 := (HQP.out.om.alloc (.cells (Pn.cs ⟨k1, k2, k3, k4⟩).toArray 100)).other (HOP.out.alloc _) (by decide) hg6
      obtain ⟨m0, m1, m2, m3, m4', m5⟩ := q6.bm.cells6
      have fm := q6.bm.free 4
      have hf : SR w (w6.setCell ⟨M, 4, none⟩ (.slice ao6 (acc.length + 1) cap6)) M #[.int .i64 ta, .int .i64 off, .int .i64 mark, .slice am ms.length cm, .slice ao6 (acc.length + 1) cap6, .slice none 0 0] sx4 := q6.set 4 _
      have hom := om6.setBox q6.bm (by decide) 4 (.slice ao6 (acc.length + 1) cap6)
      have hof := ho6.setBox q6.bm (by decide) 4 (.slice ao6 (acc.length + 1) cap6)
      rw [List.length_append, List.length_singleton] at hof
      have HF := hide hf
      have HOM := hide hom
      have HOF := hide hof
      clear hf hom hof hg6 ho6 hb6 q6 om6 HQP HOP m0 m1 m2 m3 m5 m4
      go_wp2
      go_roundw
      case rel => exact ⟨j - 1, sx4, acc ++ [⟨k1, k2, k3, k4⟩], .slice ao6 (acc.length + 1) cap6, by omega, by rfl, HF, HOM, HOF, by show _ = _; have := HL.out; simp; omega, HEE⟩
      case measure => simp [intOf]; omega
  case rest =>
  obtain ⟨vp, hsr⟩ := hcut
  obtain ⟨q, hm, hp⟩ := hsr.out
  obtain ⟨ap, cp, hvp⟩ := hp.shape
  rw [hvp] at q hp
  have N5 := numD_any (sz := 2) q.rd (by omega) (by omega)
  have hb5 := numD_lt (k := 2) q.rd.2
  rw [HP5.out] at hb5
  rw [show (2 : Int).toNat = 2 from rfl, HP5.out] at N5
  have hnc : nc < 65536 := hb5
  have HM := hide hm
  have HP := hide hp
  clear hsr hb5 hm hp hvp Q5
  go_wp2_with fail
  refine N5.mono ?_
  rintro e w7 ⟨rfl, hr, hg⟩
  have Q7 := hide (q.call hr hg)
  have HM := hide (HM.out.grown hg (by omega))
  have HP := hide (HP.out.grown hg (by omega))
  clear hr hg N5 q
  go_upto_block 4 with fail
  go_cut [11, 12] from 86 to 109 (fun _ _ wx => ∃ vc, Hid (SR w wx M #[.int .i64 ta, .int .i64 off, .int .i64 mark, .slice am ms.length cm, .slice ap ps.length cp, vc] t5 ∧ OwnL 2 1 ics (M + 1) wx (.slice am ms.length cm) ms ∧ OwnL 100 4 Pn.cs (M + 1) wx (.slice ap ps.length cp) ps ∧ OwnL 94 8 Ot.cs (M + 1) wx vc os))
  case first =>
    go_wp2_with fail
    go_loopw [11, 12] (fun nn _ wr => ∃ (j : Nat) (sk : List Nat × Bool) (acc : List Ot) (vk : Value), j ≤ nc ∧ nn = .int .u64 j ∧ Hid (SR w wr M #[.int .i64 ta, .int .i64 off, .int .i64 mark, .slice am ms.length cm, .slice ap ps.length cp, vk] sk) ∧ Hid (OwnL 2 1 ics (M + 1) wr (.slice am ms.length cm) ms) ∧ Hid (OwnL 100 4 Pn.cs (M + 1) wr (.slice ap ps.length cp) ps) ∧ Hid (OwnL 94 8 Ot.cs (M + 1) wr vk acc) ∧ Hid (acc.length + j = nc) ∧ Hid ((os, t5) = (acc ++ (rL rOutD j sk).1, (rL rOutD j sk).2))) (fun nn _ _ => (intOf nn).toNat)
    case atStart => exact ⟨nc, s5, [], .slice none 0 0, Nat.le_refl _, rfl, Q7, HM, HP, OwnL.nil _ _ _ _ _, by show _ = _; simp, by show _ = _; rw [← HQ5.out]; rfl⟩
    case round =>
      obtain ⟨j, ⟨lk, bad⟩, acc, vk, hj, rfl, HQ, HMM, HPP, HO, HL, HE⟩ := hrel
      have hmw := HQ.out.bm.lt
      obtain ⟨ao1, cap1, r0, r1, rf⟩ := HQ.out.rd.cells
      dsimp only at r0 r1
      clear r0
      by_cases hj0 : j = 0
      · have HX : Hid (SR w wr M #[.int .i64 ta, .int .i64 off, .int .i64 mark, .slice am ms.length cm, .slice ap ps.length cp, vk] t5 ∧ OwnL 2 1 ics (M + 1) wr (.slice am ms.length cm) ms ∧ OwnL 100 4 Pn.cs (M + 1) wr (.slice ap ps.length cp) ps ∧ OwnL 94 8 Ot.cs (M + 1) wr vk os) := by
          have he := HE.out
          rw [hj0] at he
          simp only [rL, List.append_nil, Prod.mk.injEq] at he
          rw [he.1, he.2]
          exact ⟨HQ.out, HMM.out, HPP.out, HO.out⟩
        subst hj0
        go_wp2
        go_meet
        case rel => exact ⟨vk, HX⟩
      have hjp : (0 : Int) < (j : Int) := by omega
      cases bad
      rotate_left
      · have HX : Hid (SR w wr M #[.int .i64 ta, .int .i64 off, .int .i64 mark, .slice am ms.length cm, .slice ap ps.length cp, vk] t5 ∧ OwnL 2 1 ics (M + 1) wr (.slice am ms.length cm) ms ∧ OwnL 100 4 Pn.cs (M + 1) wr (.slice ap ps.length cp) ps ∧ OwnL 94 8 Ot.cs (M + 1) wr vk os) := by
          have he := HE.out
          rw [rL_bad] at he
          simp only [List.append_nil, Prod.mk.injEq] at he
          rw [he.1, he.2]
          exact ⟨HQ.out, HMM.out, HPP.out, HO.out⟩
        go_wp2
        go_meet
        case rel => exact ⟨vk, HX⟩
      obtain ⟨ak, ck, hvk⟩ := HO.out.shape
      rw [hvk] at HQ HO
      clear hvk
      have hbx := numD_lt (k := 2) HQ.out.rd.2
      generalize hx1 : numD 2 (lk, false) = px1 at hbx
      obtain ⟨ch, sx1⟩ := px1
      dsimp only at hbx
      generalize hx2 : rFrameD sx1 = px2
      obtain ⟨⟨kd, ke, ti, va, ma, n, ov⟩, sx2⟩ := px2
      have HX1 := hide hx1
      have HX2 := hide hx2
      have hwc : wrap64 (ch : Int) = ch := by unfold wrap64; omega
      have HEE : Hid ((os, t5) = ((acc ++ [Ot.mk ch ⟨kd, ke, ti, va, ma, n, ov⟩]) ++ (rL rOutD (j - 1) sx2).1, (rL rOutD (j - 1) sx2).2)) := by
        show _ = _
        rw [HE.out, show j = (j - 1) + 1 by omega]
        have e1 : rOutD (lk, false) = (⟨ch, ⟨kd, ke, ti, va, ma, n, ov⟩⟩, sx2) := by unfold rOutD; simp only [hx1, hx2]
        simp [rL, e1]
      have hla : acc.length ≤ 1000000 := by have := HL.out; omega
      have hwj : IntKind.u64.wrap ((j : Int) - 1) = ((j - 1 : Nat) : Int) := by rw [IntKind.wrap_u64]; omega
      clear hx1 hx2 hbx
      have N := numD_any (sz := 2) HQ.out.rd (by omega) (by omega)
      rw [show (2 : Int).toNat = 2 from rfl, HX1.out] at N
      go_wp2_with fail
      refine N.mono ?_
      rintro e w10 ⟨rfl, hr, hg⟩
      have q := PR3.start (HQ.out.call hr hg) (HMM.out.grown hg (by omega)) (HPP.out.grown hg (by omega)) (HO.out.grown hg (by omega)) #[.int .i64 ch, .int .i64 0, .int .i64 0, .int .i64 0, .int .i64 0, .int .i64 0, .int .u64 0, .bool false]
      clear N hr hg r1 rf
      generalize hkP : w10.heap.size = kP at *
      have N := frameD_any q.sr.rd
      rw [HX2.out] at N
      simp only [Frm.val, Frm.cs] at N
      go_wp2_with fail
      refine N.mono ?_
      rintro e w11 ⟨rfl, hr, hg⟩
      have q := q.call hr hg
      clear N hr hg
      obtain ⟨c0, c1, c2, c3, c4, c5, c6, c7⟩ := q.pb.cells8
      have fp := q.pb.free
      have q := ((((((q.set 1 (.int .i64 kd)).set 2 (.int .i64 ke)).set 3 (.int .i64 ti)).set 4 (.int .i64 va)).set 5 (.int .i64 ma)).set 6 (.int .u64 n)).set 7 (.bool ov)
      obtain ⟨e0, e1, e2, e3, e4, e5, e6, e7⟩ := q.pb.cells8
      obtain ⟨m0, m1, m2, m3, m4, m5⟩ := q.sr.bm.cells6
      have hMk := q.hM
      have hMw := q.sr.bm.lt
      have HQP := hide q
      have HOP := hide q.oc
      clear q m0 m1 m2 m3 m4
      go_wp2_with (first | (at_builtin; refine app_ownL Tryd.info94 Tryd.underlying46 rfl (by decide) (by decide) (fun _ => rfl) (fun y u hu => by simp [Ot.cs] at hu; rcases hu with rfl | rfl | rfl | rfl | rfl | rfl | rfl | rfl <;> rfl) rfl _ _ rfl (M + 1) _ acc rfl (HOP.out.alloc _) ⟨w11.heap.size, 0, none⟩ 1 ⟨ch, ⟨kd, ke, ti, va, ma, n, ov⟩⟩ rfl (fun j u hu => new8 _ _ (by simp) ⟨ch, ⟨kd, ke, ti, va, ma, n, ov⟩⟩ j u hu) hla (by simp at hMw ⊢; omega) ?_) | fail)
      intro v6 w6 ho6 hg6
      obtain ⟨ao6, cap6, rfl⟩ := ho6.shape
      have hb6 := below_row (below_more (Below.refl (M + 1) _) hMw _) HOP.out.at hMw hg6
      have q6 := HQP.out.sr.below hb6
      have om6 := (HQP.out.om.alloc (.cells (Ot.cs ⟨ch, ⟨kd, ke, ti, va, ma, n, ov⟩⟩).toArray 94)).other (HOP.out.alloc _) (by decide) hg6
      have op6 := (HQP.out.op.alloc (.cells (Ot.cs ⟨ch, ⟨kd, ke, ti, va, ma, n, ov⟩⟩).toArray 94)).other (HOP.out.alloc _) (by decide) hg6
      obtain ⟨m0, m1, m2, m3, m4, m5'⟩ := q6.bm.cells6
      have fm := q6.bm.free 5
      have hf : SR w (w6.setCell ⟨M, 5, none⟩ (.slice ao6 (acc.length + 1) cap6)) M #[.int .i64 ta, .int .i64 off, .int .i64 mark, .slice am ms.length cm, .slice ap ps.length cp, .slice ao6 (acc.length + 1) cap6] sx2 := q6.set 5 _
      have hom := om6.setBox q6.bm (by decide) 5 (.slice ao6 (acc.length + 1) cap6)
      have hop := op6.setBox q6.bm (by decide) 5 (.slice ao6 (acc.length + 1) cap6)
      have hof := ho6.setBox q6.bm (by decide) 5 (.slice ao6 (acc.length + 1) cap6)
      rw [List.length_append, List.length_singleton] at hof
      have HF := hide hf
      have HOM := hide hom
      have HOPP := hide hop
      have HOF := hide hof
      clear hf hom hop hof hg6 ho6 hb6 q6 om6 op6 HQP HOP m0 m1 m2 m3 m4 m5
      go_wp2
      go_roundw
      case rel => exact ⟨j - 1, sx2, acc ++ [⟨ch, ⟨kd, ke, ti, va, ma, n, ov⟩⟩], .slice ao6 (acc.length + 1) cap6, by omega, by rfl, HF, HOM, HOPP, HOF, by show _ = _; have := HL.out; simp; omega, HEE⟩
      case measure => simp [intOf]; omega
  case rest =>
  obtain ⟨vc, hsr⟩ := hcut
  obtain ⟨q, hm, hp, hc⟩ := hsr.out
  obtain ⟨ac, cc, hvc⟩ := hc.shape
  rw [hvc] at q hc
  have HM := hide hm
  have HP := hide hp
  have HC := hide hc
  have bA := q.ba
  obtain ⟨d0, d1, d2, d3, d4, d5⟩ := bA.cells6
  have fa := bA.free
  have HB := hide q.bel
  obtain ⟨ao9, cap9, r0, r1, rf⟩ := q.rd.cells
  have NOK : Hid (done t5 = false ∨ 4096 < np ∨ 4096 < nc → sn = Sn.nil ∧ er = 10) := by
    intro hx
    have hk : res.ok = false := by
      rw [← HRES.out]
      unfold SnD.ok
      simp only [Bool.and_eq_false_iff, decide_eq_false_iff_not]
      rcases hx with h | h | h
      · exact .inl h
      · exact .inr (.inl (by omega))
      · exact .inr (.inr (by omega))
    rw [← HSN.out, ← HER.out]
    unfold dSn dEr
    rw [hk]
    exact ⟨rfl, rfl⟩
  have YOK0 : Hid (done t5 = true → np ≤ 4096 → nc ≤ 4096 → sn = ⟨ta, off, mark, ms, ps, os⟩ ∧ er = 0) := by
    intro h1 h2 h3
    have hk : res.ok = true := by
      rw [← HRES.out]
      unfold SnD.ok
      simp only [h1, decide_eq_true h2, decide_eq_true h3, Bool.and_self]
    rw [← HSN.out, ← HER.out]
    unfold dSn dEr
    rw [hk, ← HRES.out]
    exact ⟨rfl, rfl⟩
  clear hsr hm hp hc hvc Q7
  obtain ⟨l5, bad5⟩ := t5
  dsimp only at r0 r1
  cases bad5
  rotate_left
  · have YOK := YOK0
    clear r0 YOK0
    obtain ⟨rfl, rfl⟩ : sn = Sn.nil ∧ er = 10 := NOK.out (.inl rfl)
    clear NOK YOK HRES HSN HER
    go_wp2
    have hx := bA.setAll (j := 0) [.int .i64 0, .int .i64 0, .int .i64 0, .slice none 0 0, .slice none 0 0, .slice none 0 0]
    have hW := below_setAll (Nat.le_refl w.heap.size) (j := 0) [.int .i64 0, .int .i64 0, .int .i64 0, .slice none 0 0, .slice none 0 0, .slice none 0 0] HB.out
    simp only [setAll, Nat.reduceAdd] at hx hW
    obtain ⟨x0, x1, x2, x3, x4, x5⟩ := BoxT.cells6 hx
    exact bodyPost_ret (v := .tuple #[.agg #[.int .i64 0, .int .i64 0, .int .i64 0, .slice none 0 0, .slice none 0 0, .slice none 0 0], .int .i64 10]) (by simp [results, Tryd.results29, go_sem, x0, x1, x2, x3, x4, x5]) rfl (OSPost.mk (OwnSn.nil _ _) hW)
  rcases l5 with _ | ⟨x, l5⟩
  rotate_left
  · have YOK := YOK0
    have hpos : (0 : Int) < (l5.length : Int) + 1 := by omega
    simp only [List.length_cons] at r0
    clear YOK0
    obtain ⟨rfl, rfl⟩ : sn = Sn.nil ∧ er = 10 := NOK.out (.inl rfl)
    clear NOK YOK HRES HSN HER
    go_wp2
    have hx := bA.setAll (j := 0) [.int .i64 0, .int .i64 0, .int .i64 0, .slice none 0 0, .slice none 0 0, .slice none 0 0]
    have hW := below_setAll (Nat.le_refl w.heap.size) (j := 0) [.int .i64 0, .int .i64 0, .int .i64 0, .slice none 0 0, .slice none 0 0, .slice none 0 0] HB.out
    simp only [setAll, Nat.reduceAdd] at hx hW
    obtain ⟨x0, x1, x2, x3, x4, x5⟩ := BoxT.cells6 hx
    exact bodyPost_ret (v := .tuple #[.agg #[.int .i64 0, .int .i64 0, .int .i64 0, .slice none 0 0, .slice none 0 0, .slice none 0 0], .int .i64 10]) (by simp [results, Tryd.results29, go_sem, x0, x1, x2, x3, x4, x5]) rfl (OSPost.mk (OwnSn.nil _ _) hW)
  simp only [List.length_nil] at r0
  by_cases hp4 : 4096 < np
  · have YOK := YOK0
    clear YOK0
    obtain ⟨rfl, rfl⟩ : sn = Sn.nil ∧ er = 10 := NOK.out (.inr (.inl hp4))
    clear NOK YOK HRES HSN HER
    go_wp2
    have hx := bA.setAll (j := 0) [.int .i64 0, .int .i64 0, .int .i64 0, .slice none 0 0, .slice none 0 0, .slice none 0 0]
    have hW := below_setAll (Nat.le_refl w.heap.size) (j := 0) [.int .i64 0, .int .i64 0, .int .i64 0, .slice none 0 0, .slice none 0 0, .slice none 0 0] HB.out
    simp only [setAll, Nat.reduceAdd] at hx hW
    obtain ⟨x0, x1, x2, x3, x4, x5⟩ := BoxT.cells6 hx
    exact bodyPost_ret (v := .tuple #[.agg #[.int .i64 0, .int .i64 0, .int .i64 0, .slice none 0 0, .slice none 0 0, .slice none 0 0], .int .i64 10]) (by simp [results, Tryd.results29, go_sem, x0, x1, x2, x3, x4, x5]) rfl (OSPost.mk (OwnSn.nil _ _) hW)
  by_cases hc4 : 4096 < nc
  · have YOK := YOK0
    clear YOK0
    obtain ⟨rfl, rfl⟩ : sn = Sn.nil ∧ er = 10 := NOK.out (.inr (.inr hc4))
    clear NOK YOK HRES HSN HER
    go_wp2
    have hx := bA.setAll (j := 0) [.int .i64 0, .int .i64 0, .int .i64 0, .slice none 0 0, .slice none 0 0, .slice none 0 0]
    have hW := below_setAll (Nat.le_refl w.heap.size) (j := 0) [.int .i64 0, .int .i64 0, .int .i64 0, .slice none 0 0, .slice none 0 0, .slice none 0 0] HB.out
    simp only [setAll, Nat.reduceAdd] at hx hW
    obtain ⟨x0, x1, x2, x3, x4, x5⟩ := BoxT.cells6 hx
    exact bodyPost_ret (v := .tuple #[.agg #[.int .i64 0, .int .i64 0, .int .i64 0, .slice none 0 0, .slice none 0 0, .slice none 0 0], .int .i64 10]) (by simp [results, Tryd.results29, go_sem, x0, x1, x2, x3, x4, x5]) rfl (OSPost.mk (OwnSn.nil _ _) hW)
  have YOK : Hid (np ≤ 4096 → nc ≤ 4096 → sn = ⟨ta, off, mark, ms, ps, os⟩ ∧ er = 0) := YOK0.out rfl
  clear YOK0
  obtain ⟨rfl, rfl⟩ : sn = ⟨ta, off, mark, ms, ps, os⟩ ∧ er = 0 := YOK.out (by omega) (by omega)
  clear NOK YOK HRES HSN HER
  obtain ⟨c0, c1, c2, c3, c4, c5⟩ := q.bm.cells6
  have hso : OwnSn w.heap.size wc (.slice am ms.length cm) (.slice ap ps.length cp) (.slice ac os.length cc) ⟨ta, off, mark, ms, ps, os⟩ := ⟨HM.out.mono (by omega), HP.out.mono (by omega), HC.out.mono (by omega)⟩
  have HSO := hide hso
  have hMH : M ≠ w.heap.size := by omega
  clear hso HM HP HC
  go_wp2
  have hx := bA.setAll (j := 0) [.int .i64 ta, .int .i64 off, .int .i64 mark, .slice am ms.length cm, .slice ap ps.length cp, .slice ac os.length cc]
  have hsn := HSO.out.setAll bA (j := 0) [.int .i64 ta, .int .i64 off, .int .i64 mark, .slice am ms.length cm, .slice ap ps.length cp, .slice ac os.length cc]
  have hW := below_setAll (Nat.le_refl w.heap.size) (j := 0) [.int .i64 ta, .int .i64 off, .int .i64 mark, .slice am ms.length cm, .slice ap ps.length cp, .slice ac os.length cc] HB.out
  simp only [setAll, Nat.reduceAdd] at hx hW hsn
  obtain ⟨x0, x1, x2, x3, x4, x5⟩ := BoxT.cells6 hx
  exact bodyPost_ret (v := .tuple #[.agg #[.int .i64 ta, .int .i64 off, .int .i64 mark, .slice am ms.length cm, .slice ap ps.length cp, .slice ac os.length cc], .int .i64 0]) (by simp [results, Tryd.results29, go_sem, x0, x1, x2, x3, x4, x5]) rfl (OSPost.mk (s := ⟨ta, off, mark, ms, ps, os⟩) hsn hW)
end Go.Proofs.YtaajjejgjnlbgaaDoor
