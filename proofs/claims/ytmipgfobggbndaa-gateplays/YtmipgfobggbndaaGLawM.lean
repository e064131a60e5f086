/-
  The law GateMarks.
-/
import Derived.Test.YtmipgfobggbndaaGLaw
import Derived.Test.YtmipgfobggbndaaGHelp
import Derived.Test.YtmipgfobggbndaaGPure
import Derived.Test.YtmipgfobggbndaaGStp
namespace Go.Proofs.Ytmipgfobggbndaa
open Go.RowKit

/-- A gate and a list of marks beside it. -/
def MW (w0 : World) (k mm : Nat) (s : Gs) (L : List Int) (w : World) : Prop := ∃ fp, GA w k fp s ∧ Below w0.heap.size w0 w ∧ (∀ i, fp i → w0.heap.size ≤ i) ∧ BoxT 2 w mm (i64s L) ∧ ¬ fp mm ∧ w0.heap.size ≤ mm
section
variable {w0 w w' : World} {k mm : Nat} {s s' : Gs} {L : List Int}
theorem MW.gw (h : MW w0 k mm s L w) : GW w0 k s w := by
  obtain ⟨fp, h1, h2, h3, _⟩ := h
  exact ⟨fp, h1, h2, h3⟩
theorem MW.bel (h : MW w0 k mm s L w) : Below w0.heap.size w0 w := h.gw.bel
theorem MW.box (h : MW w0 k mm s L w) : BoxT 2 w mm (i64s L) := by
  obtain ⟨fp, _, _, _, h4, _⟩ := h
  exact h4
theorem MW.below (h : MW w0 k mm s L w) (hb : Below w.heap.size w w') : MW w0 k mm s L w' := by
  obtain ⟨fp, h1, h2, h3, h4, h5⟩ := h
  exact ⟨fp, h1.below hb, h2.trans (hb.mono h2.size), h3, h4.below hb, h5⟩
theorem MW.new {w1 : World} (hb : Below w0.heap.size w0 w1) {fp : Nat → Prop} (g : GA w k fp s) (b : Below w1.heap.size w1 w) (l : ∀ i, fp i → w1.heap.size ≤ i) (L : List Int) : MW w0 k w.heap.size s L (w.alloc (.cells (i64s L) 2)) :=
  ⟨fp, g.below (below_box _ _), (hb.trans (b.mono hb.size)).alloc (Nat.le_trans hb.size b.size) _, fun i hi => Nat.le_trans hb.size (l i hi), BoxT.new _ _ _, fun e => by have := g.flt _ e; omega, Nat.le_trans hb.size b.size⟩
theorem MW.set (h : MW w0 k mm s L w) (i : Nat) (x : Int) : MW w0 k mm s (L.set i x) (w.setCell ⟨mm, i, none⟩ (.int .i64 x)) := by
  obtain ⟨fp, h1, h2, h3, h4, h5, h6⟩ := h
  refine ⟨fp, h1.off h5 _ _, ?_, h3, ?_, h5, h6⟩
  · exact h2.setCell h6 _
  · have := h4.set i (.int .i64 x)
    rw [i64s_set] at this
    exact this
def MT (w0 : World) (k mm : Nat) (s : Gs) (L : List Int) (x : Sn) (er : Int) (e : Ending) (w' : World) : Prop := e = .returned (.tuple #[.agg #[.int .i64 x.kd, .int .i64 x.ke, .int .i64 x.ti, .int .i64 x.va, .int .i64 x.ma, .int .u64 x.n, .int .u64 x.fu], .int .i64 er]) ∧ MW w0 k mm s L w'
theorem MW.take (h : MW w0 k mm s L w) (ch : Int) (f : Fr) (hl : s.cp.length ≤ 100000) {s' : Gs} {x : Sn} {er : Int} (hs : s.tk ch f = s') (hx : s.tkS ch f = x) (he : s.tkE ch = er) :
    Calls Try.prog 13 #[.pointer (some ⟨k, 0, none⟩), .int .i64 ch, .agg #[.int .i64 f.kd, .int .i64 f.ke, .int .i64 f.ti, .int .i64 f.va, .int .i64 f.ma, .int .u64 f.n, .bool f.ov]] w (MT w0 k mm s' L x er) := by
  obtain ⟨fp, h1, h2, h3, h4, h5, h6⟩ := h
  have hc := Take_any h1 ch f hl
  rw [hs, hx, he] at hc
  refine hc.mono ?_
  rintro e w' ⟨rfl, fp', g', t'⟩
  refine ⟨rfl, fp', g', h2.trans (t'.below h2.size h3), fun i hi => ?_, h4.back (t'.block _ h4.lt h5), fun e => ?_, h6⟩
  · rcases t'.sub i hi with e | e
    · exact h3 i e
    · exact Nat.le_trans h2.size e
  · rcases t'.sub _ e with e | e
    · exact h5 e
    · have := h4.lt; omega
theorem MW.seg (h : MW w0 k mm s L w) (hl : L.length ≤ 100000) : LSeg 1 i64cs w.heap.size w (.slice (some ⟨mm, 0, none⟩) L.length L.length) L := by
  have hb := h.box
  refine ⟨_, _, rfl, by omega, .inr ⟨mm, 0, rfl, hb.lt, fun i x hi j u hu => ?_⟩⟩
  match j, hu with
  | 0, hu =>
    obtain rfl : Value.int .i64 x = u := by simpa [i64cs] using hu
    rw [hb.cellAt, i64s_get]
    simpa using hi
  | j + 1, hu => simp [i64cs] at hu
theorem MW.cell (h : MW w0 k mm s L w) {i : Nat} {x : Int} (hx : L[i]? = some x) : w.cell? ⟨mm, i, none⟩ = some (.int .i64 x) := by
  rw [h.box.cellAt, i64s_get, hx]; rfl
end
theorem Stp.cells {B : Nat} {w : World} {ao : Option Addr} {n cap : Nat} {xs : List Stp} (h : LSeg 10 Stp.cs B w (.slice ao n cap) xs) {i : Nat} {x : Stp} (hx : xs[i]? = some x) : ∃ b o, ao = some ⟨b, o, none⟩ ∧ b < B ∧ w.cell? ⟨b, o + i * 10, none⟩ = some (.int .i64 x.ch) ∧ w.cell? ⟨b, o + i * 10 + 1, none⟩ = some (.int .i64 x.f.kd) ∧ w.cell? ⟨b, o + i * 10 + 2, none⟩ = some (.int .i64 x.f.ke) ∧ w.cell? ⟨b, o + i * 10 + 3, none⟩ = some (.int .i64 x.f.ti) ∧ w.cell? ⟨b, o + i * 10 + 4, none⟩ = some (.int .i64 x.f.va) ∧ w.cell? ⟨b, o + i * 10 + 5, none⟩ = some (.int .i64 x.f.ma) ∧ w.cell? ⟨b, o + i * 10 + 6, none⟩ = some (.int .u64 x.f.n) ∧ w.cell? ⟨b, o + i * 10 + 7, none⟩ = some (.bool x.f.ov) ∧ w.cell? ⟨b, o + i * 10 + 8, none⟩ = some (.bool x.ld) ∧ w.cell? ⟨b, o + i * 10 + 9, none⟩ = some x.mv := by
  obtain ⟨b, o, e, hb, _, d⟩ := h.readAt hx
  exact ⟨b, o, e, hb, d 0 _ rfl, d 1 _ rfl, d 2 _ rfl, d 3 _ rfl, d 4 _ rfl, d 5 _ rfl, d 6 _ rfl, d 7 _ rfl, d 8 _ rfl, d 9 _ rfl⟩
set_option maxHeartbeats 4000000 in
set_option maxRecDepth 100000 in
theorem GateMarks_walk (w : World) (n0 : Int) (ao : Option Addr) (cap : Nat) (xs : List Stp) (hv : LSeg 10 Stp.cs w.heap.size w (.slice ao xs.length cap) xs) : Calls Try.prog 6 #[.int .i64 n0, .slice ao xs.length cap] w fun e w' => e = .returned (.bool true) ∧ Below w.heap.size w w' := by
  have hxl : xs.length ≤ 140737488355328 := hv.len
  have HV := hide hv
  clear hv
  by_cases hbig : 300 < xs.length
  · have bb : (300 : Int) < (xs.length : Int) := by omega
    go_enter Try.func6, Try.ntmps6
    go_wp2_with (go_at_call 8; refine (known_any _).mono ?_; rintro e w1 ⟨rfl, b1⟩; have B1 := hide b1; clear b1)
    go_ret
    exact ⟨rfl, B1.out⟩
  have bb : ¬ (300 : Int) < (xs.length : Int) := by omega
  obtain ⟨q1, q2⟩ := plc_in (i := n0) (n := 8) (by omega)
  have HP1 := hide (fun w => hPlace_any w n0 (n := 8) (by omega) (by omega))
  generalize plc n0 8 = q at *
  obtain ⟨n, hn⟩ : ∃ n : Nat, (1 : Int) + q = (n : Int) := ⟨(1 + q).toNat, by omega⟩
  have hn2 : 1 ≤ n ∧ n ≤ 8 := by omega
  have hch : chans (n : Int) = n := by unfold chans; rw [if_neg (by omega), if_neg (by omega)]; omega
  have HNW := hide (fun w => New_any (w := w) (n : Int))
  rw [hch] at HNW
  clear hch
  have hI := fun w => madeI w n (by omega)
  go_enter Try.func6, Try.ntmps6
  go_upto_region 5 with (go_at_call 8; refine (known_any _).mono ?_; rintro e w1 ⟨rfl, b1⟩; have B1 := hide b1; clear b1)
  go_upto_region 6 with (go_at_call 25; refine (HP1.out _).mono ?_; rintro e w2 ⟨rfl, rfl⟩)
  go_upto_region 8 with (go_at_call 9; refine (HNW.out _).mono ?_; rintro e w2 ⟨k, fp, rfl, g1, g2, g3⟩; have HG := hide (MW.new B1.out g1 g2 g3 (List.replicate n 0)); clear g1 g2 g3)
  clear HP1 HNW q1 q2 hI
  have HQ := hide hn
  clear hn
  generalize hmm : w2.heap.size = mm at *
  refine wp_at (MW w k mm (Gs.new n) (List.replicate n 0)) HG.out ?_
  clear HG hmm
  intro W0 G0
  have HG0 := hide G0
  clear G0
  go_wp2_with fail
  go_loopg [7] (n + 1) (fun gh iv wr => ∃ i : Nat, iv = .int .i64 (i : Int) ∧ i ≤ n ∧ n + 1 ≤ gh + i ∧ Hid (MW w k mm (Gs.new n) (preM (List.replicate n 0) i) wr))
  case atStart => exact ⟨0, rfl, by omega, by omega, HG0⟩
  case round =>
    obtain ⟨i, rfl, hi, hg, HW⟩ := hrel
    obtain ⟨go, rfl⟩ : ∃ go, gk = go + 1 := ⟨gk - 1, by omega⟩
    by_cases hlt : i < n
    · have bt : (i : Int) < (n : Int) := by omega
      obtain ⟨y, hy⟩ := get_of_lt (show i < (preM (List.replicate n 0) i).length by rw [preM_len _ _ (by simp; omega)]; simp; omega)
      have e5 := HW.out.cell hy
      have fr := HW.out.box.free
      have HN : Hid (MW w k mm (Gs.new n) (preM (List.replicate n 0) (i + 1)) (wr.setCell ⟨mm, i, none⟩ (.int .i64 mn))) := by
        have := HW.out.set i mn
        rw [preM_step _ _ (by simp; omega)] at this
        exact this
      unfold mn at HN
      clear hy
      go_wp2_with fail
      go_roundg go
      case rel => exact ⟨i + 1, by go_num, by omega, by omega, HN⟩
      case measure => omega
    · have bt : ¬ (i : Int) < (n : Int) := by omega
      obtain rfl : n = i := by omega
      have HE : Hid (MW w k mm (Gs.new n) (Gs.new n).M wr) := by
        have := HW.out
        have e := preM_end (List.replicate n (0 : Int))
        rw [List.length_replicate] at e
        rw [e] at this
        exact this
      clear HW HG0
      go_wp2_with fail
      go_loopg [8, 9, 10, 11, 12, 13, 14] (xs.length + 1) (fun gh iv _ _ _ _ _ _ wr => ∃ (i : Nat) (s : Gs), iv = .int .i64 (i : Int) ∧ i ≤ xs.length ∧ xs.length + 1 ≤ gh + i ∧ s.M.length = n ∧ s.cp.length ≤ i ∧ Hid (MW w k mm s s.M wr))
      case atStart => exact ⟨0, Gs.new n, rfl, by omega, by omega, by simp [Gs.new], by simp [Gs.new], HE⟩
      case round =>
        clear hg
        obtain ⟨i, s, rfl, hi2, hg, hsn, hcp, HW⟩ := hrel
        obtain ⟨go, rfl⟩ : ∃ go, gk = go + 1 := ⟨gk - 1, by omega⟩
        by_cases hlt2 : i < xs.length
        · have bt2 : (i : Int) < (xs.length : Int) := by omega
          obtain ⟨x, hx⟩ := get_of_lt hlt2
          obtain ⟨sb, so, rfl, hsb, -⟩ := Stp.cells HV.out hx
          have HRD : Hid (∀ W', Below w.heap.size w W' → W'.cell? ⟨sb, so + i * 10, none⟩ = some (.int .i64 x.ch) ∧ W'.cell? ⟨sb, so + i * 10 + 1, none⟩ = some (.int .i64 x.f.kd) ∧ W'.cell? ⟨sb, so + i * 10 + 2, none⟩ = some (.int .i64 x.f.ke) ∧ W'.cell? ⟨sb, so + i * 10 + 3, none⟩ = some (.int .i64 x.f.ti) ∧ W'.cell? ⟨sb, so + i * 10 + 4, none⟩ = some (.int .i64 x.f.va) ∧ W'.cell? ⟨sb, so + i * 10 + 5, none⟩ = some (.int .i64 x.f.ma) ∧ W'.cell? ⟨sb, so + i * 10 + 6, none⟩ = some (.int .u64 x.f.n) ∧ W'.cell? ⟨sb, so + i * 10 + 7, none⟩ = some (.bool x.f.ov) ∧ W'.cell? ⟨sb, so + i * 10 + 8, none⟩ = some (.bool x.ld)) := fun W' hb => by
            obtain ⟨b', o', e', _, r0, r1, r2, r3, r4, r5, r6, r7, r8, _⟩ := Stp.cells (HV.out.below hb) hx
            cases e'
            exact ⟨r0, r1, r2, r3, r4, r5, r6, r7, r8⟩
          obtain ⟨c1, c2⟩ := plc_in (i := x.ch) (n := (n : Int)) (by omega)
          have HPL := hide (fun w => hPlace_any w x.ch (n := (n : Int)) (by omega) (by omega))
          obtain ⟨c, hc⟩ : ∃ c : Nat, plc x.ch (n : Int) = (c : Int) := ⟨(plc x.ch (n : Int)).toNat, by omega⟩
          have hcn : c < n := by omega
          rw [hc] at HPL
          clear hc c1 c2
          obtain ⟨r0, r1, r2, r3, r4, r5, r6, r7, r8⟩ := HRD.out _ HW.out.bel
          have HBL := hide (HW.out.gw.blocked (c : Int))
          have hl : s.cp.length ≤ 100000 := by omega
          cases hld : x.ld with
          | true =>
            rw [hld] at r8
            go_wp2_with (go_at_call 25; refine (HPL.out _).mono ?_; rintro e w3 ⟨rfl, rfl⟩)
            go_roundg go
            case rel => exact ⟨i + 1, s, by go_num, by omega, by omega, hsn, by omega, HW⟩
            case measure => omega
          | false =>
            rw [hld] at r8
            cases hbl : s.bl (c : Int) with
            | true =>
              rw [hbl] at HBL
              go_wp2_with (first | (go_at_call 25; refine (HPL.out _).mono ?_; rintro e w3 ⟨rfl, rfl⟩) | (go_at_call 23; refine HBL.out.mono ?_; rintro e w3 ⟨rfl, rfl⟩))
              go_roundg go
              case rel => exact ⟨i + 1, s, by go_num, by omega, by omega, hsn, by omega, HW⟩
              case measure => omega
            | false =>
              rw [hbl] at HBL
              have hok := Gs.ok_of (show c < s.M.length by omega) hbl
              have hTM := Gs.tk_M hok (show c < s.M.length by omega) x.f
              have hTS := Gs.tkS_mark hok (show c < s.M.length by omega) x.f
              have hLL := least_mkM (show c < s.M.length by omega) x.f
              have hTE := Gs.tkE_ok hok
              have HCP := hide (Gs.tk_cp s (c : Int) x.f)
              obtain ⟨st, hst⟩ : ∃ st, s.tkS (c : Int) x.f = st := ⟨_, rfl⟩
              obtain ⟨s', hs'⟩ : ∃ s', s.tk (c : Int) x.f = s' := ⟨_, rfl⟩
              have HTK := hide (HW.out.take (c : Int) x.f hl hs' hst hTE)
              have HMK := hide HW.out.gw.mark
              rw [hst] at hTS
              rw [hs'] at hTM HCP
              clear hst hs' hTE hok hbl
              have HTM := hide hTM
              have HTS := hide hTS
              have HLL := hide hLL
              clear hTM hTS hLL
              obtain ⟨k0, k1, k2, k3, k4, k5, k6⟩ := st
              go_upto_region 19 with (first | (go_at_call 25; refine (HPL.out _).mono ?_; rintro e w3 ⟨rfl, rfl⟩) | (go_at_call 23; refine HBL.out.mono ?_; rintro e w3 ⟨rfl, rfl⟩) | (go_at_call 15; refine HMK.out.mono ?_; rintro e w3 ⟨rfl, rfl⟩) | (go_at_call 13; refine HTK.out.mono ?_; rintro e w4 ⟨rfl, g4⟩; have G4 := hide g4; clear g4))
              refine wp_at (fun W => MW w k mm s' s.M W ∧ BoxT 43 W w4.heap.size #[.int .i64 k0, .int .i64 k1, .int .i64 k2, .int .i64 k3, .int .i64 k4, .int .u64 k5, .int .u64 k6]) ⟨G4.out.below (below_box _ _), BoxT.new _ _ _⟩ ?_
              clear G4 HTK HMK HBL HPL r0 r1 r2 r3 r4 r5 r6 r7 r8 HW
              rintro V ⟨MV, BV⟩
              have HV2 := hide MV
              have HBV := hide BV
              clear MV BV
              obtain ⟨r0, r1, r2, r3, r4, r5, r6, r7, r8⟩ := HRD.out _ HV2.out.bel
              have hsn' : s'.M.length = n := by rw [HTM.out]; unfold mkM; split <;> simp [hsn]
              by_cases hkd : x.f.kd = 2
              · have b2 : (x.f.kd == 2) = true := by simpa using hkd
                have HK2 := hide hkd
                clear hkd
                obtain ⟨y, hy⟩ := get_of_lt (show c < s.M.length by omega)
                have e5 := HV2.out.cell hy
                have fr := HV2.out.box.free
                have bc : (c : Int) < (n : Int) := by omega
                have HST : Hid (MW w k mm s' s'.M (V.setCell ⟨mm, c, none⟩ (.int .i64 (if y < x.f.ma then x.f.ma else y))) ∧ BoxT 43 (V.setCell ⟨mm, c, none⟩ (.int .i64 (if y < x.f.ma then x.f.ma else y))) w4.heap.size #[.int .i64 k0, .int .i64 k1, .int .i64 k2, .int .i64 k3, .int .i64 k4, .int .u64 k5, .int .u64 k6]) := by
                  refine ⟨?_, HBV.out.other c _ ((HBV.out).ne HV2.out.box (by decide))⟩
                  have := HV2.out.set c (if y < x.f.ma then x.f.ma else y)
                  have e : s.M.set c (if y < x.f.ma then x.f.ma else y) = s'.M := by
                    rw [HTM.out]
                    unfold mkM
                    rw [if_pos HK2.out, List.getD_eq_getElem?_getD, hy, Option.getD_some, show (if y < x.f.ma then x.f.ma else y) = max y x.f.ma by split <;> omega]
                  rw [e] at this
                  exact this
                clear hy
                go_upto_region 22 with fail
                refine wp_region_M (S := fun w' => w'.cell? ⟨mm, c, none⟩ = some (.int .i64 y) ∧ w'.cell? ⟨sb, so + i * 10 + 5, none⟩ = some (.int .i64 x.f.ma)) (late := [13, 14]) (by kernel_rfl) (⟨e5, r5⟩) (fun hHeld => ?_)
                (try simp only [List.size_toArray, List.length_cons, List.length_nil, Nat.zero_add, Nat.reduceAdd, Array.replicate, List.replicate])
                refine wpAnyM_take (i := 0) (oi := ⟨_, _, _, _, _, _⟩) (v := ?_) rfl (by kernel_rfl) (by kernel_rfl) (by kernel_rfl) (by kernel_rfl) (fun _ _ _ h => h) (Or.inl ⟨by rfl, ?_⟩) hHeld ?_
                rotate_left
                · (intro w' hSw; (try dsimp only at hSw); go_simp; try (with_reducible rfl))
                (try simp only [Act.put, List.setIfInBounds_toArray, List.set_cons_zero, List.set_cons_succ])
                refine wpAnyM_take (i := 1) (oi := ⟨_, _, _, _, _, _⟩) (v := ?_) rfl (by kernel_rfl) (by kernel_rfl) (by kernel_rfl) (by kernel_rfl) (fun _ _ _ h => h) (Or.inl ⟨by rfl, ?_⟩) hHeld ?_
                rotate_left
                · (intro w' hSw; (try dsimp only at hSw); go_simp; try (with_reducible rfl))
                (try simp only [Act.put, List.setIfInBounds_toArray, List.set_cons_zero, List.set_cons_succ])
                refine wpAnyM_take (i := 2) (oi := ⟨_, _, _, _, _, _⟩) (v := ?_) rfl (by kernel_rfl) (by kernel_rfl) (by kernel_rfl) (by kernel_rfl) (fun _ _ _ h => h) (Or.inl ⟨by rfl, ?_⟩) hHeld ?_
                rotate_left
                · (intro w' hSw; (try dsimp only at hSw); go_simp; try (with_reducible rfl))
                (try simp only [Act.put, List.setIfInBounds_toArray, List.set_cons_zero, List.set_cons_succ])
                refine wpAnyM_take (i := 3) (oi := ⟨_, _, _, _, _, _⟩) (v := ?_) rfl (by kernel_rfl) (by kernel_rfl) (by kernel_rfl) (by kernel_rfl) (fun _ _ _ h => h) (Or.inl ⟨by rfl, ?_⟩) hHeld ?_
                rotate_left
                · (intro w' hSw; (try dsimp only at hSw); go_simp; try (with_reducible rfl))
                (try simp only [Act.put, List.setIfInBounds_toArray, List.set_cons_zero, List.set_cons_succ])
                refine wpAnyM_take (i := 4) (oi := ⟨_, _, _, _, _, _⟩) (v := ?_) rfl (by kernel_rfl) (by kernel_rfl) (by kernel_rfl) (by kernel_rfl) (fun _ _ _ h => h) (Or.inl ⟨by rfl, ?_⟩) hHeld ?_
                rotate_left
                · (intro w' hSw; (try dsimp only at hSw); go_simp; try (with_reducible rfl))
                (try simp only [Act.put, List.setIfInBounds_toArray, List.set_cons_zero, List.set_cons_succ])
                refine wpAnyM_take (i := 5) (oi := ⟨_, _, _, _, _, _⟩) (v := ?_) rfl (by kernel_rfl) (by kernel_rfl) (by kernel_rfl) (by kernel_rfl) (fun _ _ _ h => h) (Or.inl ⟨by rfl, ?_⟩) hHeld ?_
                rotate_left
                · (intro w' hSw; (try dsimp only at hSw); go_simp; try (with_reducible rfl))
                (try simp only [Act.put, List.setIfInBounds_toArray, List.set_cons_zero, List.set_cons_succ])
                refine wpAnyM_take (i := 6) (oi := ⟨_, _, _, _, _, _⟩) (v := ?_) rfl (by kernel_rfl) (by kernel_rfl) (by kernel_rfl) (by kernel_rfl) (fun _ _ _ h => h) (Or.inl ⟨by rfl, ?_⟩) hHeld ?_
                rotate_left
                · (intro w' hSw; (try dsimp only at hSw); go_simp; try (with_reducible rfl))
                (try simp only [Act.put, List.setIfInBounds_toArray, List.set_cons_zero, List.set_cons_succ])
                refine wpAnyM_take (i := 7) (oi := ⟨_, _, _, _, _, _⟩) (v := ?_) rfl (by kernel_rfl) (by kernel_rfl) (by kernel_rfl) (by kernel_rfl) (fun _ _ _ h => h) (Or.inl ⟨by rfl, ?_⟩) hHeld ?_
                rotate_left
                · (intro w' hSw; (try dsimp only at hSw); go_simp; try (with_reducible rfl))
                (try simp only [Act.put, List.setIfInBounds_toArray, List.set_cons_zero, List.set_cons_succ])
                refine wpAnyM_take (i := 8) (oi := ⟨_, _, _, _, _, _⟩) (v := ?_) rfl (by kernel_rfl) (by kernel_rfl) (by kernel_rfl) (by kernel_rfl) (fun _ _ _ h => h) (Or.inl ⟨by rfl, ?_⟩) hHeld ?_
                rotate_left
                · (intro w' hSw; (try dsimp only at hSw); go_simp; try (with_reducible rfl))
                (try simp only [Act.put, List.setIfInBounds_toArray, List.set_cons_zero, List.set_cons_succ])
                refine wpAnyM_take (i := 9) (oi := ⟨_, _, _, _, _, _⟩) (v := ?_) rfl (by kernel_rfl) (by kernel_rfl) (by kernel_rfl) (by kernel_rfl) (fun _ _ _ h => h) (Or.inl ⟨by rfl, ?_⟩) hHeld ?_
                rotate_left
                · (intro w' hSw; (try dsimp only at hSw); go_simp; try (with_reducible rfl))
                (try simp only [Act.put, List.setIfInBounds_toArray, List.set_cons_zero, List.set_cons_succ])
                refine wpAnyM_take (i := 10) (oi := ⟨_, _, _, _, _, _⟩) (v := ?_) rfl (by kernel_rfl) (by kernel_rfl) (by kernel_rfl) (by kernel_rfl) (fun _ _ _ h => h) (Or.inl ⟨by rfl, ?_⟩) hHeld ?_
                rotate_left
                · (intro w' hSw; (try dsimp only at hSw); go_simp; try (with_reducible rfl))
                (try simp only [Act.put, List.setIfInBounds_toArray, List.set_cons_zero, List.set_cons_succ])
                refine wpAnyM_take (i := 11) (oi := ⟨_, _, _, _, _, _⟩) (v := ?_) rfl (by kernel_rfl) (by kernel_rfl) (by kernel_rfl) (by kernel_rfl) (fun _ _ _ h => h) (Or.inl ⟨by rfl, ?_⟩) hHeld ?_
                rotate_left
                · (intro w' hSw; (try dsimp only at hSw); go_simp; try (with_reducible rfl))
                (try simp only [Act.put, List.setIfInBounds_toArray, List.set_cons_zero, List.set_cons_succ])
                refine wpAnyM_take (i := 12) (oi := ⟨_, _, _, _, _, _⟩) (v := ?_) rfl (by kernel_rfl) (by kernel_rfl) (by kernel_rfl) (by kernel_rfl) (fun _ _ _ h => h) (Or.inl ⟨by rfl, ?_⟩) hHeld ?_
                rotate_left
                · (intro w' hSw; (try dsimp only at hSw); go_simp; try (with_reducible rfl))
                (try simp only [Act.put, List.setIfInBounds_toArray, List.set_cons_zero, List.set_cons_succ])
                refine wpAnyM_last (i := 13) (o := ⟨_, _, _, _, _, _⟩) (by kernel_rfl) (by rfl) rfl (fun K hK => ?_)
                go_simp
                refine hK.out _ _ ?_
                clear hK K
                (try simp only [List.setIfInBounds_toArray, List.set_cons_zero, List.set_cons_succ])
                refine wpAnyM_last (i := 14) (o := ⟨_, _, _, _, _, _⟩) (by kernel_rfl) (by rfl) rfl (fun K hK => ?_)
                go_simp
                refine hK.out _ _ ?_
                clear hK K
                (try simp only [List.setIfInBounds_toArray, List.set_cons_zero, List.set_cons_succ])
                refine wpAnyM_done (by kernel_rfl) ?_ _
                generalize (if y < x.f.ma then x.f.ma else y) = mv at *
                go_upto_region 23 with fail
                refine wp_at (fun W => MW w k mm s' s'.M W ∧ BoxT 43 W w4.heap.size #[.int .i64 k0, .int .i64 k1, .int .i64 k2, .int .i64 k3, .int .i64 k4, .int .u64 k5, .int .u64 k6]) ⟨HST.out.1.below ((Below.refl _ _).drew), HST.out.2.drew⟩ ?_
                clear HST HV2 HBV e5 fr r0 r1 r2 r3 r4 r5 r6 r7 r8
                rintro V2 ⟨MV, BV⟩
                have HM := hide MV
                have HB2 := hide BV
                obtain ⟨p0, p1, p2, p3, p4, p5, p6⟩ := BV.all7
                clear MV BV
                obtain ⟨y0, hy0⟩ := get_of_lt (show 0 < s'.M.length by omega)
                have e0 := HM.out.cell hy0
                have HCL : Hid (∀ t z, s'.M[t]? = some z → V2.cell? ⟨mm, t, none⟩ = some (.int .i64 z)) := fun t z h => HM.out.cell h
                have HS0 : Hid (least (s'.M.take 1) = y0) := (show _ = _ by
                  cases hL : s'.M with
                  | nil => rw [hL] at hy0; simp at hy0
                  | cons a l => rw [hL] at hy0; simp at hy0; subst hy0; rfl)
                have HSE : Hid (least (s'.M.take n) = least s'.M) := (show _ = _ by rw [← hsn', List.take_length])
                have HST2 : Hid (∀ t z, s'.M[t + 1]? = some z → least (s'.M.take (t + 2)) = min (least (s'.M.take (t + 1))) z) := (show ∀ t z, _ from fun t z h => by
                  cases hL : s'.M with
                  | nil => rw [hL] at h; simp at h
                  | cons a l => rw [hL] at h; exact least_take h)
                have HMK := hide HM.out.gw.mark
                have HMS : Hid (Calls Try.prog 18 #[.pointer (some ⟨k, 0, none⟩)] V2 fun e w' => ∃ u, e = .returned u ∧ OwnL 2 1 i64cs V2.heap.size w' u s'.M ∧ Below V2.heap.size V2 w') := by
                  obtain ⟨fq, q1, _⟩ := HM.out
                  exact Marks_any q1
                rw [← HTM.out] at HTS HLL
                generalize hRR : least s'.M = R at *
                generalize hR0 : least s.M = R0 at *
                clear hRR hR0 hy0
                go_wp2_with fail
                go_loopg [13, 14] (n + 1) (fun gh lv kv wr => ∃ (t : Nat) (y : Int), kv = .int .i64 ((t : Int) + 1) ∧ t + 1 ≤ n ∧ n + 1 ≤ gh + t ∧ lv = .int .i64 y ∧ Hid (least (s'.M.take (t + 1)) = y) ∧ wr = V2)
                case atStart => exact ⟨0, y0, rfl, by omega, by omega, rfl, HS0, rfl⟩
                case round =>
                  obtain ⟨t, y, rfl, ht, hgg, rfl, HY, rfl⟩ := hrel
                  obtain ⟨gi, rfl⟩ : ∃ gi, gk = gi + 1 := ⟨gk - 1, by omega⟩
                  by_cases hlt3 : t + 1 < n
                  · obtain ⟨z, hz⟩ := get_of_lt (show t + 1 < s'.M.length by omega)
                    have bt3 : (t : Int) + 1 < (n : Int) := by omega
                    have d1 := HCL.out _ _ hz
                    have HZ : Hid (least (s'.M.take (t + 1 + 1)) = min y z) := (show _ = _ by rw [← HY.out]; exact HST2.out t z hz)
                    clear hz
                    go_wp2_with fail
                    all_goals
                      go_roundg gi
                      case rel => exact ⟨t + 1, _, by go_num, by omega, by omega, rfl, (show _ = _ by rw [HZ.out]; omega), rfl⟩
                      case measure => omega
                  · have bt3 : ¬ (t : Int) + 1 < (n : Int) := by omega
                    have HF : Hid (y = R) := (show _ = _ by rw [← HY.out, ← HSE.out]; congr 2; omega)
                    obtain rfl := HF.out
                    clear HF HY HSE HST2 HCL HS0 e0
                    have HSEG : Hid (∀ w', Below wr.heap.size wr w' → LSeg 1 i64cs w'.heap.size w' (.slice (some ⟨mm, 0, none⟩) n n) s'.M) := fun w' hb => by
                      have := (HM.out.below hb).seg (by omega)
                      rw [hsn'] at this
                      exact this
                    rcases HTS.out with ⟨j1, j2, j3⟩ | ⟨j1, j2⟩
                    · try simp only at j1 j2
                      subst j1 j2
                      have j4 : ¬ k4 < R0 := by omega
                      go_wp2_with (first | (go_at_call 15; refine HMK.out.mono ?_; rintro e w6 ⟨rfl, rfl⟩) | (go_at_call 18; refine HMS.out.mono ?_; rintro e w7 ⟨u, rfl, o7, b7⟩; have HB5 := hide b7; have HO7 := hide (o7.seg i64cs_len (by omega)); clear o7 b7) | (go_at_call 17; refine (hMarks_any HO7.out (HSEG.out _ HB5.out) (by omega)).mono ?_; rintro e w8 ⟨rfl, b8⟩; have HB6 := hide b8; clear b8))
                      go_roundg go
                      case rel => exact ⟨i + 1, s', by go_num, by omega, by omega, hsn', by have := HCP.out; omega, HM.out.below (HB5.out.trans ((HB6.out _).mono HB5.out.size))⟩
                      case measure => omega
                    · try simp only at j1
                      subst j2
                      have j4 : (k0 == 2) = false := by simpa using j1
                      go_wp2_with (first | (go_at_call 15; refine HMK.out.mono ?_; rintro e w6 ⟨rfl, rfl⟩) | (go_at_call 18; refine HMS.out.mono ?_; rintro e w7 ⟨u, rfl, o7, b7⟩; have HB5 := hide b7; have HO7 := hide (o7.seg i64cs_len (by omega)); clear o7 b7) | (go_at_call 17; refine (hMarks_any HO7.out (HSEG.out _ HB5.out) (by omega)).mono ?_; rintro e w8 ⟨rfl, b8⟩; have HB6 := hide b8; clear b8))
                      go_roundg go
                      case rel => exact ⟨i + 1, s', by go_num, by omega, by omega, hsn', by have := HCP.out; omega, HM.out.below (HB5.out.trans ((HB6.out _).mono HB5.out.size))⟩
                      case measure => omega
              · have b2 : (x.f.kd == 2) = false := by simpa using hkd
                have HST : Hid (MW w k mm s' s'.M V ∧ BoxT 43 V w4.heap.size #[.int .i64 k0, .int .i64 k1, .int .i64 k2, .int .i64 k3, .int .i64 k4, .int .u64 k5, .int .u64 k6]) := by
                  refine ⟨?_, HBV.out⟩
                  have e : s'.M = s.M := by rw [HTM.out]; unfold mkM; rw [if_neg hkd]
                  rw [e]
                  exact HV2.out
                have HK2 := hide hkd
                clear hkd
                go_upto_region 23 with fail
                refine wp_at (fun W => MW w k mm s' s'.M W ∧ BoxT 43 W w4.heap.size #[.int .i64 k0, .int .i64 k1, .int .i64 k2, .int .i64 k3, .int .i64 k4, .int .u64 k5, .int .u64 k6]) HST.out ?_
                clear HST HV2 HBV r0 r1 r2 r3 r4 r5 r6 r7 r8
                rintro V2 ⟨MV, BV⟩
                have HM := hide MV
                have HB2 := hide BV
                obtain ⟨p0, p1, p2, p3, p4, p5, p6⟩ := BV.all7
                clear MV BV
                obtain ⟨y0, hy0⟩ := get_of_lt (show 0 < s'.M.length by omega)
                have e0 := HM.out.cell hy0
                have HCL : Hid (∀ t z, s'.M[t]? = some z → V2.cell? ⟨mm, t, none⟩ = some (.int .i64 z)) := fun t z h => HM.out.cell h
                have HS0 : Hid (least (s'.M.take 1) = y0) := (show _ = _ by
                  cases hL : s'.M with
                  | nil => rw [hL] at hy0; simp at hy0
                  | cons a l => rw [hL] at hy0; simp at hy0; subst hy0; rfl)
                have HSE : Hid (least (s'.M.take n) = least s'.M) := (show _ = _ by rw [← hsn', List.take_length])
                have HST2 : Hid (∀ t z, s'.M[t + 1]? = some z → least (s'.M.take (t + 2)) = min (least (s'.M.take (t + 1))) z) := (show ∀ t z, _ from fun t z h => by
                  cases hL : s'.M with
                  | nil => rw [hL] at h; simp at h
                  | cons a l => rw [hL] at h; exact least_take h)
                have HMK := hide HM.out.gw.mark
                have HMS : Hid (Calls Try.prog 18 #[.pointer (some ⟨k, 0, none⟩)] V2 fun e w' => ∃ u, e = .returned u ∧ OwnL 2 1 i64cs V2.heap.size w' u s'.M ∧ Below V2.heap.size V2 w') := by
                  obtain ⟨fq, q1, _⟩ := HM.out
                  exact Marks_any q1
                rw [← HTM.out] at HTS HLL
                generalize hRR : least s'.M = R at *
                generalize hR0 : least s.M = R0 at *
                clear hRR hR0 hy0
                go_wp2_with fail
                go_loopg [13, 14] (n + 1) (fun gh lv kv wr => ∃ (t : Nat) (y : Int), kv = .int .i64 ((t : Int) + 1) ∧ t + 1 ≤ n ∧ n + 1 ≤ gh + t ∧ lv = .int .i64 y ∧ Hid (least (s'.M.take (t + 1)) = y) ∧ wr = V2)
                case atStart => exact ⟨0, y0, rfl, by omega, by omega, rfl, HS0, rfl⟩
                case round =>
                  obtain ⟨t, y, rfl, ht, hgg, rfl, HY, rfl⟩ := hrel
                  obtain ⟨gi, rfl⟩ : ∃ gi, gk = gi + 1 := ⟨gk - 1, by omega⟩
                  by_cases hlt3 : t + 1 < n
                  · obtain ⟨z, hz⟩ := get_of_lt (show t + 1 < s'.M.length by omega)
                    have bt3 : (t : Int) + 1 < (n : Int) := by omega
                    have d1 := HCL.out _ _ hz
                    have HZ : Hid (least (s'.M.take (t + 1 + 1)) = min y z) := (show _ = _ by rw [← HY.out]; exact HST2.out t z hz)
                    clear hz
                    go_wp2_with fail
                    all_goals
                      go_roundg gi
                      case rel => exact ⟨t + 1, _, by go_num, by omega, by omega, rfl, (show _ = _ by rw [HZ.out]; omega), rfl⟩
                      case measure => omega
                  · have bt3 : ¬ (t : Int) + 1 < (n : Int) := by omega
                    have HF : Hid (y = R) := (show _ = _ by rw [← HY.out, ← HSE.out]; congr 2; omega)
                    obtain rfl := HF.out
                    clear HF HY HSE HST2 HCL HS0 e0
                    have HSEG : Hid (∀ w', Below wr.heap.size wr w' → LSeg 1 i64cs w'.heap.size w' (.slice (some ⟨mm, 0, none⟩) n n) s'.M) := fun w' hb => by
                      have := (HM.out.below hb).seg (by omega)
                      rw [hsn'] at this
                      exact this
                    rcases HTS.out with ⟨j1, j2, j3⟩ | ⟨j1, j2⟩
                    · try simp only at j1 j2
                      subst j1 j2
                      have j4 : ¬ k4 < R0 := by omega
                      go_wp2_with (first | (go_at_call 15; refine HMK.out.mono ?_; rintro e w6 ⟨rfl, rfl⟩) | (go_at_call 18; refine HMS.out.mono ?_; rintro e w7 ⟨u, rfl, o7, b7⟩; have HB5 := hide b7; have HO7 := hide (o7.seg i64cs_len (by omega)); clear o7 b7) | (go_at_call 17; refine (hMarks_any HO7.out (HSEG.out _ HB5.out) (by omega)).mono ?_; rintro e w8 ⟨rfl, b8⟩; have HB6 := hide b8; clear b8))
                      go_roundg go
                      case rel => exact ⟨i + 1, s', by go_num, by omega, by omega, hsn', by have := HCP.out; omega, HM.out.below (HB5.out.trans ((HB6.out _).mono HB5.out.size))⟩
                      case measure => omega
                    · try simp only at j1
                      subst j2
                      have j4 : (k0 == 2) = false := by simpa using j1
                      go_wp2_with (first | (go_at_call 15; refine HMK.out.mono ?_; rintro e w6 ⟨rfl, rfl⟩) | (go_at_call 18; refine HMS.out.mono ?_; rintro e w7 ⟨u, rfl, o7, b7⟩; have HB5 := hide b7; have HO7 := hide (o7.seg i64cs_len (by omega)); clear o7 b7) | (go_at_call 17; refine (hMarks_any HO7.out (HSEG.out _ HB5.out) (by omega)).mono ?_; rintro e w8 ⟨rfl, b8⟩; have HB6 := hide b8; clear b8))
                      go_roundg go
                      case rel => exact ⟨i + 1, s', by go_num, by omega, by omega, hsn', by have := HCP.out; omega, HM.out.below (HB5.out.trans ((HB6.out _).mono HB5.out.size))⟩
                      case measure => omega
        · have bt2 : ¬ (i : Int) < (xs.length : Int) := by omega
          go_wp2_with fail
          go_ret
          exact ⟨rfl, HW.out.bel⟩
end Go.Proofs.Ytmipgfobggbndaa
