/-
  The statement DiskPlays, walked.
-/
import Derived.Test.YtnokibjhkdaamaaDBoth
import Derived.Test.YtnokibjhkdaamaaDRoom
import Derived.Test.YtnokibjhkdaamaaDCuts
import Derived.Test.YtnokibjhkdaamaaDKeeps
import Derived.Deep.RegionLaw
namespace Go.Proofs.Ytnokibjhkdaamaa
open Go.RowKit Go.Maps Go.Shelf

theorem iseg_b {w0 w1 : World} (hb : Below w0.heap.size w0 w1) {v : Value} {l : List Int} (hl : LSeg 1 (fun x : Int => [Value.int .i64 x]) w0.heap.size w0 v l) : Hid (∀ w', Below w1.heap.size w1 w' → ISeg w' v l) := fun w' h => by
  have h2 := hb.trans (h.mono hb.size)
  exact (hl.below h2).mono h2.size
theorem Own.blk {base : Nat} {w : World} {v : Value} {l : List Nat} (h : Own base w v l) {g og ng cg : Nat} (e : v = .slice (some ⟨g, og, none⟩) ng cg) : g < w.heap.size := by
  rcases h.2 with ⟨h1, _⟩ | ⟨g', cap, cur, h1, _, h3, _⟩
  · rw [h1] at e; cases e
  · rw [h1] at e; cases e; exact (Array.getElem?_eq_some_iff.1 h3).1
theorem kRoom {w0 w : World} {k b n : Nat} {p : Pd} (h : St w0 w k b n p) (x : Int) (hx : (Lit.int .i64 x).wf = true) :
    Calls Try.prog 30 #[.pointer (some ⟨k, 0, none⟩), .int .i64 x] w fun e w' => e = .returned (.tuple #[]) ∧ St w0 w' k b n { p with room := max x 0 } ∧ Turned k b w w' :=
  (Room_p h.d x hx).mono fun _ _ ⟨h1, h2, h3⟩ => ⟨h1, ⟨h2, h.s.step h3⟩, h3⟩
theorem Both.mono {w0 w : World} {k b n n' R : Nat} {p : Pd} (h : Both w0 w k b n R p) (hn : n ≤ n') (h' : n' ≤ 1000000) : Both w0 w k b n' R p := ⟨h.st.mono hn h', h.ref, h.lR⟩
theorem Both.lt {w0 w : World} {k b n R : Nat} {p : Pd} (h : Both w0 w k b n R p) : k < w.heap.size ∧ b < w.heap.size ∧ R < w.heap.size := by
  obtain ⟨rs, vl, hr⟩ := h.ref
  exact ⟨h.st.d.at_.box.lt, h.st.d.at_.map.lt, hr.box.lt⟩
/-- What lies between two worlds in one round: both disks, and all that was made. -/
structure PlaysI (w0 wr : World) (dv rv : Value) (i : Nat) : Prop where
  ex : ∃ k b R p, dv = .pointer (some ⟨k, 0, none⟩) ∧ rv = .pointer (some ⟨R, 0, none⟩) ∧ Both w0 wr k b i R p

set_option maxHeartbeats 4000000 in
set_option maxRecDepth 100000 in
theorem DiskPlays_walk (w : World) (room : Int) (hroom : (Lit.int .i64 room).wf = true) (ao : Option Addr) (cap : Nat) (xs : List Stp) (hs : Hid (Scr w (.slice ao xs.length cap) xs)) :
    Calls Try.prog 4 #[.int .i64 room, .slice ao xs.length cap] w fun e w' => e = .returned (.bool true) ∧ Below w.heap.size w w' := by
  have hknown := known_any w
  have hlen : xs.length ≤ 140737488355328 := by obtain ⟨_, _, e, h2, _⟩ := hs.out.s; exact h2
  go_enter Try.func4, Try.ntmps4
  go_wp2_with fail
  refine hknown.mono ?_
  rintro e w1 ⟨rfl, hb1⟩
  clear hknown
  have hli := light_any w.heap.size w1 ao cap xs (hs.out.s.below hb1) hs.out.wt
  have HB1 := hide hb1
  clear hb1
  go_wp2_with fail
  refine hli.mono ?_
  rintro e w2 ⟨rfl, q, rfl⟩
  clear hli
  by_cases hlight : xs.length ≤ 300 ∧ tot xs ≤ 50000
  rotate_left
  · have e0 : decide (xs.length ≤ 300 ∧ tot xs ≤ 50000) = false := decide_eq_false hlight
    rw [e0]
    clear hlight
    go_wp2
    go_ret
    exact ⟨rfl, below_drewN' HB1.out q⟩
  have e0 : decide (xs.length ≤ 300 ∧ tot xs ≤ 50000) = true := decide_eq_true hlight
  rw [e0]
  have HLT := hide hlight
  clear hlight e0
  have HB2 := hide (below_drewN' HB1.out q)
  generalize w1.drewN q = w2 at *
  clear HB1
  go_wp2_with fail
  refine (kNew w w2 HB2.out room hroom).mono ?_
  rintro e w3 ⟨k, b, rfl, h3, -, -, b3⟩
  have H3 := hide (And.intro h3 (HB2.out.trans (b3.mono HB2.out.size)))
  clear h3 b3
  go_wp2_with fail
  refine (rNew w3 room hroom).mono ?_
  rintro e w4 ⟨rfl, h4, b4⟩
  have H4 : Hid (PlaysI w w4 (.pointer (some ⟨k, 0, none⟩)) (.pointer (some ⟨w3.heap.size, 0, none⟩)) 0) := ⟨k, b, w3.heap.size, _, rfl, rfl, ⟨H3.out.1.below b4, ⟨_, _, h4⟩, H3.out.2.size⟩⟩
  clear h4 b4 H3 HB2
  go_wp2_with fail
  go_loopw [5, 6, 7] (fun dv rv iv wr => ∃ i : Nat, i ≤ xs.length ∧ iv = .int .i64 i ∧ Hid (PlaysI w wr dv rv i)) (fun _ _ iv _ => xs.length - (intOf iv).toNat)
  case atStart => exact ⟨0, Nat.zero_le _, rfl, H4⟩
  case round =>
    obtain ⟨i, hi, rfl, HI⟩ := hrel
    clear H4
    by_cases hlt : i < xs.length
    · obtain ⟨k, b, R, p, rfl, rfl, hB⟩ := HI.out.ex
      have HB := hide hB
      clear hB HI
      obtain ⟨t, ht0⟩ : ∃ t, xs[i]? = some t := ⟨_, List.getElem?_eq_getElem hlt⟩
      have hmem := List.mem_of_getElem? ht0
      obtain ⟨l1, l2, l3, l4⟩ := mem_wt hmem HLT.out.2
      have hok := (hs.out.o t hmem).below HB.out.st.since
      obtain ⟨bb, off, rfl, hbb, c0, c1, c2, c3, c4, c5⟩ := (hs.out.s.below HB.out.st.since).stp ht0
      rw [Nat.add_zero] at c0
      have HO := hide hok
      have HO0 := hide (hs.out.o t hmem)
      have hmem0 := hmem
      clear ht0 hmem hok
      have hi3 : i < 300 := Nat.lt_of_lt_of_le hlt HLT.out.1
      have HA : Hid (Both w (wr.alloc (.cells #[.int .i64 t.wh, .int .i64 t.n, .string t.nm, .string t.to, .slice t.ba t.bl.length t.bc, .slice t.ka t.kl.length t.kc] 38)) k b i R p) := HB.out.below ((Below.refl _ _).alloc (Nat.le_refl _) _)
      have BX := hide (BoxT.new 38 wr #[.int .i64 t.wh, .int .i64 t.n, .string t.nm, .string t.to, .slice t.ba t.bl.length t.bc, .slice t.ka t.kl.length t.kc])
      obtain ⟨lk, lb, lR⟩ := HB.out.lt
      clear hmem0
      by_cases hw7 : t.wh = 7
      · rw [hw7] at c0 BX HA
        have hc := kRoom HA.out.st t.n HO.out.n
        go_wp2_with fail
        refine hc.mono ?_
        rintro e w5 ⟨rfl, h5, t5⟩
        obtain ⟨rs, vl, hr⟩ := HA.out.ref
        have hr5 := hr.turned HA.out.st.d.at_ t5
        obtain ⟨x0, x1, x2, x3, x4, x5⟩ := (BX.out.turned t5 (by omega) (by omega)).cells6
        have H5 := hide (And.intro h5 hr5)
        clear h5 hr5 hr t5 hc
        go_wp2_with fail
        refine (rRoom H5.out.2 t.n HO.out.n).mono ?_
        rintro e w6 ⟨rfl, h6, t6⟩
        have HX := hide ((HA.out.step H5.out.1 H5.out.2 ⟨_, _, h6⟩ t6).mono (Nat.le_succ i) (by omega))
        clear h6 t6 H5 x0 x1 x2 x3 x4 x5
        go_wp2_with fail
        refine (alike_b HX.out).mono ?_
        rintro e w9 ⟨rfl, h9⟩
        have H9 := hide h9
        clear h9 HX
        go_wp2
        go_roundw
        case rel => exact ⟨i + 1, by omega, by go_num, ⟨k, b, R, _, rfl, rfl, H9.out⟩⟩
        case measure => simp [intOf]; omega
      by_cases hw8 : t.wh = 8
      · rw [hw8] at c0 BX HA
        have hc := kCut HA.out.st t.n HO.out.n
        go_wp2_with fail
        refine hc.mono ?_
        rintro e w5 ⟨rfl, h5, t5⟩
        obtain ⟨rs, vl, hr⟩ := HA.out.ref
        have hr5 := hr.turned HA.out.st.d.at_ t5
        obtain ⟨x0, x1, x2, x3, x4, x5⟩ := (BX.out.turned t5 (by omega) (by omega)).cells6
        have H5 := hide (And.intro h5 hr5)
        clear h5 hr5 hr t5 hc
        go_wp2_with fail
        refine (rCut H5.out.2 t.n HO.out.n).mono ?_
        rintro e w6 ⟨rfl, h6, t6⟩
        have HX := hide ((HA.out.step H5.out.1 H5.out.2 ⟨_, _, h6⟩ t6).mono (Nat.le_succ i) (by omega))
        clear h6 t6 H5 x0 x1 x2 x3 x4 x5
        go_wp2_with fail
        refine (alike_b HX.out).mono ?_
        rintro e w9 ⟨rfl, h9⟩
        have H9 := hide h9
        clear h9 HX
        go_wp2
        go_roundw
        case rel => exact ⟨i + 1, by omega, by go_num, ⟨k, b, R, _, rfl, rfl, H9.out⟩⟩
        case measure => simp [intOf]; omega
      by_cases hw9 : t.wh = 9
      · rw [hw9] at c0 BX HA
        have hc := kCrash HA.out.st (.slice t.ka t.kl.length t.kc) t.kl (iseg_stays HA.out.st HO0.out.k) _ rfl
        go_wp2_with fail
        refine hc.mono ?_
        rintro e w5 ⟨rfl, h5, t5⟩
        obtain ⟨rs, vl, hr⟩ := HA.out.ref
        have hr5 := hr.turned HA.out.st.d.at_ t5
        obtain ⟨x0, x1, x2, x3, x4, x5⟩ := (BX.out.turned t5 (by omega) (by omega)).cells6
        have H5 := hide (And.intro h5 hr5)
        clear h5 hr5 hr t5 hc
        go_wp2_with fail
        refine (rCrash H5.out.2 HA.out.st.d.ok (.slice t.ka t.kl.length t.kc) t.kl (iseg_b H5.out.1.since HO0.out.k)).mono ?_
        rintro e w6 ⟨rfl, h6, t6⟩
        have HX := hide ((HA.out.step H5.out.1 H5.out.2 h6 t6).mono (Nat.le_succ i) (by omega))
        clear h6 t6 H5 x0 x1 x2 x3 x4 x5
        go_wp2_with fail
        refine (alike_b HX.out).mono ?_
        rintro e w9 ⟨rfl, h9⟩
        have H9 := hide h9
        clear h9 HX
        go_wp2
        go_roundw
        case rel => exact ⟨i + 1, by omega, by go_num, ⟨k, b, R, _, rfl, rfl, H9.out⟩⟩
        case measure => simp [intOf]; omega
      by_cases hw10 : t.wh = 10
      · rw [hw10] at c0 BX HA
        go_wp2_with fail
        refine (kCopy HA.out.st).mono ?_
        rintro e w5 ⟨k5, b5, rfl, h5, lk5, lb5, bl5⟩
        have H5 := hide (And.intro h5 (HA.out.below bl5))
        simp only [World.size_alloc] at lk5 lb5
        clear h5 bl5
        go_wp2_with fail
        refine (kWrite (H5.out.2.st.alloc _) (by omega) ⟨#[111, 116, 104, 101, 114]⟩ (by decide) _ [1] (lit_seg2 _ rfl _ rfl (by decide)) (Byts.lit (by decide)) _ _ rfl).mono ?_
        rintro e w6 ⟨rfl, h6, t6⟩
        obtain ⟨rs, vl, hr⟩ := H5.out.2.ref
        have hcp := (H5.out.1.alloc _).other t6 h6 (by omega) (by omega) (by omega) (by omega)
        have hr6 := (hr.below ((Below.refl _ _).alloc (Nat.le_refl _) _)).turned (H5.out.2.st.alloc _).d.at_ t6
        have H6 := hide (And.intro hcp hr6)
        clear hcp hr6 hr h6 t6 H5
        go_wp2_with (first | (go_at_call 35; refine (rCopy H6.out.2 H6.out.1.d.ok).mono ?_; rintro e w7 ⟨R7, rfl, h7, l7, b7⟩; have HX := hide ((Both.mk (H6.out.1.below b7) h7 (Nat.le_trans H6.out.1.since.size l7)).mono (Nat.le_succ i) (by omega)); clear h7 l7 b7) | (go_at_call 36; refine (alike_b HX.out).mono ?_; rintro e w9 ⟨rfl, h9⟩; have H9 := hide h9; clear h9) | fail)
        go_roundw
        case rel => exact ⟨i + 1, by omega, by go_num, ⟨k5, b5, R7, _, rfl, rfl, H9.out⟩⟩
        case measure => simp [intOf]; omega
      by_cases hw6 : t.wh = 6
      · rw [hw6] at c0 BX HA
        obtain ⟨o, er, hpf⟩ : ∃ o er, pFind p (nm t.nm) = (o, er) := ⟨_, _, rfl⟩
        have hc := kRead HA.out.st t.nm (by unfold maxLen; omega) o er hpf
        go_wp2_with fail
        refine hc.mono ?_
        rintro e w5 ⟨v5, rfl, s5, h5, b5⟩
        obtain ⟨rs, vl, hr⟩ := HA.out.ref
        obtain ⟨x0, x1, x2, x3, x4, x5⟩ := (BX.out.below b5).cells6
        have hc2 := rRead (hr.below b5) h5.d.ok t.nm
        rw [hpf] at hc2
        have H5 := hide (And.intro s5 (HA.out.below b5))
        clear s5 h5 b5 hr hc hpf
        go_wp2_with fail
        refine hc2.mono ?_
        rintro e w6 ⟨v6, rfl, s6, q, rfl⟩
        have H6 := hide (H5.out.2.below (below_drewN' (Below.refl _ _) q))
        have hs5 := H5.out.1.drewN q
        generalize w5.drewN q = w6 at *
        have hq := Bytesq_any v5 v6 (fData o) (fData o) w6 hs5 s6
        clear hs5
        have hdq : decide (fData o = fData o) = true := by simp
        rw [hdq] at hq
        clear hdq s6 hc2 x0 x1 x2 x3 x4 x5
        go_wp2_with fail
        refine hq.mono ?_
        rintro e w7 ⟨rfl, m, rfl⟩
        have HX := hide ((H6.out.below (below_drewN' (Below.refl _ _) m)).mono (Nat.le_succ i) (by omega))
        have her : (er != er) = false := by simp
        clear hq H5
        go_wp2_with fail
        refine (alike_b HX.out).mono ?_
        rintro e w9 ⟨rfl, h9⟩
        have H9 := hide h9
        clear h9 HX
        go_wp2
        go_roundw
        case rel => exact ⟨i + 1, by omega, by go_num, ⟨k, b, R, _, rfl, rfl, H9.out⟩⟩
        case measure => simp [intOf]; omega
      by_cases hw5 : t.wh = 5
      · rw [hw5] at c0 BX HA
        obtain ⟨p', er, hpe⟩ : ∃ p' er, pDelete p (nm t.nm) = (p', er) := ⟨_, _, rfl⟩
        have hlf : (Lit.int .i64 p.left).wf = true := HA.out.st.d.at_.left
        have HD : Hid (Both w ((wr.alloc (.cells #[.int .i64 5, .int .i64 t.n, .string t.nm, .string t.to, .slice t.ba t.bl.length t.bc, .slice t.ka t.kl.length t.kc] 38)).drew) k b i R p) := HA.out.below ((Below.refl _ _).drew)
        have BD := hide (BX.out.below ((Below.refl _ _).drew))
        have her : (er != er) = false := by simp
        go_wp2_with fail
        generalize (wr.alloc (.cells #[.int .i64 5, .int .i64 t.n, .string t.nm, .string t.to, .slice t.ba t.bl.length t.bc, .slice t.ka t.kl.length t.kc] 38)) = wa at *
        obtain ⟨y0, y1, y2, y3, y4, y5⟩ := BX.out.cells6
        obtain ⟨z0, z1, z2, z3, z4, z5⟩ := BD.out.cells6
        go_region_held3 (fun w' => w'.cell? ⟨wr.heap.size, 2, none⟩ = some (.string t.nm)) (first | go_keep | exact u2 | exact x2 | exact z2 | exact y2) (first | (go_at_call 25; refine (kDelete HD.out.st t.nm (by unfold maxLen; omega) p' er hpe).mono ?_; rintro e w5 ⟨rfl, h5, t5⟩; obtain ⟨rs, vl, hr⟩ := HD.out.ref; have H5 := hide (And.intro h5 (hr.turned HD.out.st.d.at_ t5)); have B5 := hide (BD.out.turned t5 (by omega) (by omega)); obtain ⟨x0, x1, x2, x3, x4, x5⟩ := B5.out.cells6; clear h5 t5 hr) | (go_at_call 26; refine (rDelete H5.out.2 HD.out.st.d.ok hlf t.nm).mono ?_; rw [hpe]; rintro e w6 ⟨rfl, h6, t6⟩; obtain ⟨u0, u1, u2, u3, u4, u5⟩ := (B5.out.turned t6 (by omega) (by omega)).cells6))
        all_goals
          have HX := hide ((HD.out.step H5.out.1 H5.out.2 h6 t6).mono (Nat.le_succ i) (by omega))
          clear h6 t6 H5 x0 x1 x2 x3 x4 x5 u0 u1 u2 u3 u4 u5 z0 z1 z2 z3 z4 z5 y0 y1 y2 y3 y4 y5 B5
          go_wp2_with fail
          refine (alike_b HX.out).mono ?_
          rintro e w9 ⟨rfl, h9⟩
          have H9 := hide h9
          clear h9 HX
          go_wp2
          go_roundw
          case rel => exact ⟨i + 1, by omega, by go_num, ⟨k, b, R, _, rfl, rfl, H9.out⟩⟩
          case measure => simp [intOf]; omega
      by_cases hw0 : t.wh = 0
      · rw [hw0] at c0 BX HA
        obtain ⟨p', er, hpe⟩ : ∃ p' er, pWrite p (nm t.nm) t.bl = (p', er) := ⟨_, _, rfl⟩
        have hlf : (Lit.int .i64 p.left).wf = true := HA.out.st.d.at_.left
        have her : (er != er) = false := by simp
        obtain ⟨rs, vl, hr⟩ := HA.out.ref
        have HOFF : Hid (∀ g, wr.heap.size + 1 ≤ g → Off g rs vl) := fun g hg => hr.offNew (by rw [World.size_alloc]; exact hg)
        have hcp := Copy_any (.slice t.ba t.bl.length t.bc) t.bl _ ((HO0.out.b.below HA.out.st.since).seg HA.out.st.since.size) (by omega)
        go_wp2_with fail
        refine hcp.mono ?_
        rintro e wb ⟨vb, rfl, ob, bb5⟩
        have hsz5 := bb5.size
        simp only [World.size_alloc] at hsz5
        have HW : Hid (Soft (wr.heap.size + 1) wb vb ∧ Seg wb vb t.bl ∧ Both w wb k b i R p) := ⟨by have := ob.soft (by omega); rw [World.size_alloc] at this; exact this, ob.seg (by omega), HA.out.below bb5⟩
        have BW := hide (BX.out.below bb5)
        have HRW : Hid (RAt wb.drew R p rs vl) := (hr.below bb5).below ((Below.refl _ _).drew)
        have HLG : Hid (∀ og ng cg g, vb = .slice (some ⟨g, og, none⟩) ng cg → g < wb.heap.size) := fun _ _ _ _ e => ob.blk e
        clear ob bb5 hcp BX HA hr
        have HD : Hid (Soft (wr.heap.size + 1) wb.drew vb ∧ Seg wb.drew vb t.bl ∧ Both w wb.drew k b i R p) := ⟨HW.out.1.below ((Below.refl _ _).drew), HW.out.2.1.below ((Below.refl _ _).drew), HW.out.2.2.below ((Below.refl _ _).drew)⟩
        have BD := hide (BW.out.below ((Below.refl _ _).drew))
        obtain ⟨y0, y1, y2, y3, y4, y5⟩ := BW.out.cells6
        obtain ⟨z0, z1, z2, z3, z4, z5⟩ := BD.out.cells6
        go_wp2_with fail
        go_region_held3 (fun w' => w'.cell? ⟨wr.heap.size, 2, none⟩ = some (.string t.nm) ∧ w'.cell? ⟨wr.heap.size, 4, none⟩ = some (.slice t.ba t.bl.length t.bc)) (first | go_keep | exact ⟨u2, u4⟩ | exact ⟨x2, x4⟩ | exact ⟨z2, z4⟩ | exact ⟨y2, y4⟩) (first | (go_at_call 18; refine (kWrite HD.out.2.2.st (by omega) t.nm (by unfold maxLen; omega) vb t.bl HD.out.2.1 HO0.out.byts p' er hpe).mono ?_; rintro e w5 ⟨rfl, h5, t5⟩; have H5 := hide (And.intro h5 (And.intro (HRW.out.turned HD.out.2.2.st.d.at_ t5) (And.intro (HD.out.1.turned (by omega) (by omega) t5) t5))); have B5 := hide (BD.out.turned t5 (by omega) (by omega)); obtain ⟨x0, x1, x2, x3, x4, x5⟩ := B5.out.cells6; clear h5 t5) | (go_at_call 19; refine (rWriteN H5.out.2.1 HD.out.2.2.st.d.ok hlf t.nm t.ba t.bc t.bl ((HO0.out.b.below H5.out.1.since).seg H5.out.1.since.size) (by omega)).mono ?_; rw [hpe]; rintro e w6 ⟨rfl, ⟨rs6, vl6, h6, o6⟩, t6⟩; obtain ⟨u0, u1, u2, u3, u4, u5⟩ := (B5.out.turned t6 (by omega) (by omega)).cells6))
        all_goals
          have H6 := hide (And.intro h6 (And.intro o6 t6))
          clear h6 o6 t6 x0 x1 x2 x3 x4 x5 u0 u1 u2 u3 u4 u5 z0 z1 z2 z3 z4 z5 y0 y1 y2 y3 y4 y5 B5
          go_wp2_with fail
          refine (Spoil_q (H5.out.2.2.1.turned (by omega) (by omega) H6.out.2.2)).mono ?_
          rintro e w7 ⟨rfl, g, hg, hgv, t7⟩
          have HX : Hid (Both w w7 k b (i + 1) R p') := by
            have hst := H5.out.1.ref H5.out.2.1 HB.out.lR H6.out.2.2
            rcases hgv with rfl | ⟨og, ng, cg, rfl⟩
            · exact ⟨hst, ⟨_, _, H6.out.1⟩, HB.out.lR⟩
            · have hw0 := HB.out.st.since.size
              have hR : R ≠ g := by omega
              refine ⟨hst.off (by omega) (by omega) (by omega) t7, ⟨_, _, H6.out.1.off (H6.out.2.1 g ?_ ?_) hR t7⟩, HB.out.lR⟩
              · exact Nat.lt_of_lt_of_le (HLG.out og ng cg g rfl) H5.out.2.2.2.size
              · exact HOFF.out g (by omega)
          clear hgv t7 H5 H6
          go_wp2_with fail
          refine (alike_b HX.out).mono ?_
          rintro e w9 ⟨rfl, h9⟩
          have H9 := hide h9
          clear h9 HX
          go_wp2
          go_roundw
          case rel => exact ⟨i + 1, by omega, by go_num, ⟨k, b, R, _, rfl, rfl, H9.out⟩⟩
          case measure => simp [intOf]; omega
      by_cases hw1 : t.wh = 1
      · rw [hw1] at c0 BX HA
        obtain ⟨p', er, hpe⟩ : ∃ p' er, pWrite p (nm t.nm) t.bl = (p', er) := ⟨_, _, rfl⟩
        have hlf : (Lit.int .i64 p.left).wf = true := HA.out.st.d.at_.left
        have her : (er != er) = false := by simp
        obtain ⟨rs, vl, hr⟩ := HA.out.ref
        have HOFF : Hid (∀ g, wr.heap.size + 1 ≤ g → Off g rs vl) := fun g hg => hr.offNew (by rw [World.size_alloc]; exact hg)
        have hcp := Copy_any (.slice t.ba t.bl.length t.bc) t.bl _ ((HO0.out.b.below HA.out.st.since).seg HA.out.st.since.size) (by omega)
        go_wp2_with fail
        refine hcp.mono ?_
        rintro e wb ⟨vb, rfl, ob, bb5⟩
        have hsz5 := bb5.size
        simp only [World.size_alloc] at hsz5
        have HW : Hid (Soft (wr.heap.size + 1) wb vb ∧ Seg wb vb t.bl ∧ Both w wb k b i R p) := ⟨by have := ob.soft (by omega); rw [World.size_alloc] at this; exact this, ob.seg (by omega), HA.out.below bb5⟩
        have BW := hide (BX.out.below bb5)
        have HRW : Hid (RAt wb.drew R p rs vl) := (hr.below bb5).below ((Below.refl _ _).drew)
        have HLG : Hid (∀ og ng cg g, vb = .slice (some ⟨g, og, none⟩) ng cg → g < wb.heap.size) := fun _ _ _ _ e => ob.blk e
        clear ob bb5 hcp BX HA hr
        have HD : Hid (Soft (wr.heap.size + 1) wb.drew vb ∧ Seg wb.drew vb t.bl ∧ Both w wb.drew k b i R p) := ⟨HW.out.1.below ((Below.refl _ _).drew), HW.out.2.1.below ((Below.refl _ _).drew), HW.out.2.2.below ((Below.refl _ _).drew)⟩
        have BD := hide (BW.out.below ((Below.refl _ _).drew))
        obtain ⟨y0, y1, y2, y3, y4, y5⟩ := BW.out.cells6
        obtain ⟨z0, z1, z2, z3, z4, z5⟩ := BD.out.cells6
        go_wp2_with fail
        go_region_held3 (fun w' => w'.cell? ⟨wr.heap.size, 2, none⟩ = some (.string t.nm) ∧ w'.cell? ⟨wr.heap.size, 4, none⟩ = some (.slice t.ba t.bl.length t.bc)) (first | go_keep | exact ⟨u2, u4⟩ | exact ⟨x2, x4⟩ | exact ⟨z2, z4⟩ | exact ⟨y2, y4⟩) (first | (go_at_call 18; refine (kWrite HD.out.2.2.st (by omega) t.nm (by unfold maxLen; omega) vb t.bl HD.out.2.1 HO0.out.byts p' er hpe).mono ?_; rintro e w5 ⟨rfl, h5, t5⟩; have H5 := hide (And.intro h5 (And.intro (HRW.out.turned HD.out.2.2.st.d.at_ t5) (And.intro (HD.out.1.turned (by omega) (by omega) t5) t5))); have B5 := hide (BD.out.turned t5 (by omega) (by omega)); obtain ⟨x0, x1, x2, x3, x4, x5⟩ := B5.out.cells6; clear h5 t5) | (go_at_call 19; refine (rWriteN H5.out.2.1 HD.out.2.2.st.d.ok hlf t.nm t.ba t.bc t.bl ((HO0.out.b.below H5.out.1.since).seg H5.out.1.since.size) (by omega)).mono ?_; rw [hpe]; rintro e w6 ⟨rfl, ⟨rs6, vl6, h6, o6⟩, t6⟩; obtain ⟨u0, u1, u2, u3, u4, u5⟩ := (B5.out.turned t6 (by omega) (by omega)).cells6))
        all_goals
          have H6 := hide (And.intro h6 (And.intro o6 t6))
          clear h6 o6 t6 x0 x1 x2 x3 x4 x5 u0 u1 u2 u3 u4 u5 z0 z1 z2 z3 z4 z5 y0 y1 y2 y3 y4 y5 B5
          go_wp2_with fail
          refine (Spoil_q (H5.out.2.2.1.turned (by omega) (by omega) H6.out.2.2)).mono ?_
          rintro e w7 ⟨rfl, g, hg, hgv, t7⟩
          have HX : Hid (Both w w7 k b (i + 1) R p') := by
            have hst := H5.out.1.ref H5.out.2.1 HB.out.lR H6.out.2.2
            rcases hgv with rfl | ⟨og, ng, cg, rfl⟩
            · exact ⟨hst, ⟨_, _, H6.out.1⟩, HB.out.lR⟩
            · have hw0 := HB.out.st.since.size
              have hR : R ≠ g := by omega
              refine ⟨hst.off (by omega) (by omega) (by omega) t7, ⟨_, _, H6.out.1.off (H6.out.2.1 g ?_ ?_) hR t7⟩, HB.out.lR⟩
              · exact Nat.lt_of_lt_of_le (HLG.out og ng cg g rfl) H5.out.2.2.2.size
              · exact HOFF.out g (by omega)
          clear hgv t7 H5 H6
          go_wp2_with fail
          refine (alike_b HX.out).mono ?_
          rintro e w9 ⟨rfl, h9⟩
          have H9 := hide h9
          clear h9 HX
          go_wp2
          go_roundw
          case rel => exact ⟨i + 1, by omega, by go_num, ⟨k, b, R, _, rfl, rfl, H9.out⟩⟩
          case measure => simp [intOf]; omega
      by_cases hw2 : t.wh = 2
      · rw [hw2] at c0 BX HA
        obtain ⟨p', er, hpe⟩ : ∃ p' er, pWrite p (nm t.nm) t.bl = (p', er) := ⟨_, _, rfl⟩
        have hlf : (Lit.int .i64 p.left).wf = true := HA.out.st.d.at_.left
        have her : (er != er) = false := by simp
        obtain ⟨rs, vl, hr⟩ := HA.out.ref
        have HOFF : Hid (∀ g, wr.heap.size + 1 ≤ g → Off g rs vl) := fun g hg => hr.offNew (by rw [World.size_alloc]; exact hg)
        have hcp := Copy_any (.slice t.ba t.bl.length t.bc) t.bl _ ((HO0.out.b.below HA.out.st.since).seg HA.out.st.since.size) (by omega)
        go_wp2_with fail
        refine hcp.mono ?_
        rintro e wb ⟨vb, rfl, ob, bb5⟩
        have hsz5 := bb5.size
        simp only [World.size_alloc] at hsz5
        have HW : Hid (Soft (wr.heap.size + 1) wb vb ∧ Seg wb vb t.bl ∧ Both w wb k b i R p) := ⟨by have := ob.soft (by omega); rw [World.size_alloc] at this; exact this, ob.seg (by omega), HA.out.below bb5⟩
        have BW := hide (BX.out.below bb5)
        have HRW : Hid (RAt wb.drew R p rs vl) := (hr.below bb5).below ((Below.refl _ _).drew)
        have HLG : Hid (∀ og ng cg g, vb = .slice (some ⟨g, og, none⟩) ng cg → g < wb.heap.size) := fun _ _ _ _ e => ob.blk e
        clear ob bb5 hcp BX HA hr
        have HD : Hid (Soft (wr.heap.size + 1) wb.drew vb ∧ Seg wb.drew vb t.bl ∧ Both w wb.drew k b i R p) := ⟨HW.out.1.below ((Below.refl _ _).drew), HW.out.2.1.below ((Below.refl _ _).drew), HW.out.2.2.below ((Below.refl _ _).drew)⟩
        have BD := hide (BW.out.below ((Below.refl _ _).drew))
        obtain ⟨y0, y1, y2, y3, y4, y5⟩ := BW.out.cells6
        obtain ⟨z0, z1, z2, z3, z4, z5⟩ := BD.out.cells6
        go_wp2_with fail
        go_region_held3 (fun w' => w'.cell? ⟨wr.heap.size, 2, none⟩ = some (.string t.nm) ∧ w'.cell? ⟨wr.heap.size, 4, none⟩ = some (.slice t.ba t.bl.length t.bc)) (first | go_keep | exact ⟨u2, u4⟩ | exact ⟨x2, x4⟩ | exact ⟨z2, z4⟩ | exact ⟨y2, y4⟩) (first | (go_at_call 18; refine (kWrite HD.out.2.2.st (by omega) t.nm (by unfold maxLen; omega) vb t.bl HD.out.2.1 HO0.out.byts p' er hpe).mono ?_; rintro e w5 ⟨rfl, h5, t5⟩; have H5 := hide (And.intro h5 (And.intro (HRW.out.turned HD.out.2.2.st.d.at_ t5) (And.intro (HD.out.1.turned (by omega) (by omega) t5) t5))); have B5 := hide (BD.out.turned t5 (by omega) (by omega)); obtain ⟨x0, x1, x2, x3, x4, x5⟩ := B5.out.cells6; clear h5 t5) | (go_at_call 19; refine (rWriteN H5.out.2.1 HD.out.2.2.st.d.ok hlf t.nm t.ba t.bc t.bl ((HO0.out.b.below H5.out.1.since).seg H5.out.1.since.size) (by omega)).mono ?_; rw [hpe]; rintro e w6 ⟨rfl, ⟨rs6, vl6, h6, o6⟩, t6⟩; obtain ⟨u0, u1, u2, u3, u4, u5⟩ := (B5.out.turned t6 (by omega) (by omega)).cells6))
        all_goals
          have H6 := hide (And.intro h6 (And.intro o6 t6))
          clear h6 o6 t6 x0 x1 x2 x3 x4 x5 u0 u1 u2 u3 u4 u5 z0 z1 z2 z3 z4 z5 y0 y1 y2 y3 y4 y5 B5
          go_wp2_with fail
          refine (Spoil_q (H5.out.2.2.1.turned (by omega) (by omega) H6.out.2.2)).mono ?_
          rintro e w7 ⟨rfl, g, hg, hgv, t7⟩
          have HX : Hid (Both w w7 k b (i + 1) R p') := by
            have hst := H5.out.1.ref H5.out.2.1 HB.out.lR H6.out.2.2
            rcases hgv with rfl | ⟨og, ng, cg, rfl⟩
            · exact ⟨hst, ⟨_, _, H6.out.1⟩, HB.out.lR⟩
            · have hw0 := HB.out.st.since.size
              have hR : R ≠ g := by omega
              refine ⟨hst.off (by omega) (by omega) (by omega) t7, ⟨_, _, H6.out.1.off (H6.out.2.1 g ?_ ?_) hR t7⟩, HB.out.lR⟩
              · exact Nat.lt_of_lt_of_le (HLG.out og ng cg g rfl) H5.out.2.2.2.size
              · exact HOFF.out g (by omega)
          clear hgv t7 H5 H6
          go_wp2_with fail
          refine (alike_b HX.out).mono ?_
          rintro e w9 ⟨rfl, h9⟩
          have H9 := hide h9
          clear h9 HX
          go_wp2
          go_roundw
          case rel => exact ⟨i + 1, by omega, by go_num, ⟨k, b, R, _, rfl, rfl, H9.out⟩⟩
          case measure => simp [intOf]; omega
      by_cases hw3 : t.wh = 3
      · rw [hw3] at c0 BX HA
        obtain ⟨p', er, hpe⟩ : ∃ p' er, pSync p (nm t.nm) = (p', er) := ⟨_, _, rfl⟩
        have hlf : (Lit.int .i64 p.left).wf = true := HA.out.st.d.at_.left
        have HD : Hid (Both w ((wr.alloc (.cells #[.int .i64 3, .int .i64 t.n, .string t.nm, .string t.to, .slice t.ba t.bl.length t.bc, .slice t.ka t.kl.length t.kc] 38)).drew) k b i R p) := HA.out.below ((Below.refl _ _).drew)
        have BD := hide (BX.out.below ((Below.refl _ _).drew))
        have her : (er != er) = false := by simp
        go_wp2_with fail
        generalize (wr.alloc (.cells #[.int .i64 3, .int .i64 t.n, .string t.nm, .string t.to, .slice t.ba t.bl.length t.bc, .slice t.ka t.kl.length t.kc] 38)) = wa at *
        obtain ⟨y0, y1, y2, y3, y4, y5⟩ := BX.out.cells6
        obtain ⟨z0, z1, z2, z3, z4, z5⟩ := BD.out.cells6
        go_region_held3 (fun w' => w'.cell? ⟨wr.heap.size, 2, none⟩ = some (.string t.nm)) (first | go_keep | exact u2 | exact x2 | exact z2 | exact y2) (first | (go_at_call 21; refine (kSync HD.out.st (by omega) t.nm (by unfold maxLen; omega) p' er hpe).mono ?_; rintro e w5 ⟨rfl, h5, t5⟩; obtain ⟨rs, vl, hr⟩ := HD.out.ref; have H5 := hide (And.intro h5 (hr.turned HD.out.st.d.at_ t5)); have B5 := hide (BD.out.turned t5 (by omega) (by omega)); obtain ⟨x0, x1, x2, x3, x4, x5⟩ := B5.out.cells6; clear h5 t5 hr) | (go_at_call 22; refine (rSync H5.out.2 HD.out.st.d.ok hlf t.nm).mono ?_; rw [hpe]; rintro e w6 ⟨rfl, h6, t6⟩; obtain ⟨u0, u1, u2, u3, u4, u5⟩ := (B5.out.turned t6 (by omega) (by omega)).cells6))
        all_goals
          have HX := hide ((HD.out.step H5.out.1 H5.out.2 h6 t6).mono (Nat.le_refl _) (by omega))
          clear h6 t6 H5 x0 x1 x2 x3 x4 x5 u0 u1 u2 u3 u4 u5 z0 z1 z2 z3 z4 z5 y0 y1 y2 y3 y4 y5 B5
          go_wp2_with fail
          refine (alike_b HX.out).mono ?_
          rintro e w9 ⟨rfl, h9⟩
          have H9 := hide h9
          clear h9 HX
          go_wp2
          go_roundw
          case rel => exact ⟨i + 1, by omega, by go_num, ⟨k, b, R, _, rfl, rfl, H9.out⟩⟩
          case measure => simp [intOf]; omega
      by_cases hw4 : t.wh = 4
      · rw [hw4] at c0 BX HA
        obtain ⟨p', er, hpe⟩ : ∃ p' er, pRename p (nm t.nm) (nm t.to) = (p', er) := ⟨_, _, rfl⟩
        have hlf : (Lit.int .i64 p.left).wf = true := HA.out.st.d.at_.left
        have HD : Hid (Both w ((wr.alloc (.cells #[.int .i64 4, .int .i64 t.n, .string t.nm, .string t.to, .slice t.ba t.bl.length t.bc, .slice t.ka t.kl.length t.kc] 38)).drew) k b i R p) := HA.out.below ((Below.refl _ _).drew)
        have BD := hide (BX.out.below ((Below.refl _ _).drew))
        have her : (er != er) = false := by simp
        go_wp2_with fail
        generalize (wr.alloc (.cells #[.int .i64 4, .int .i64 t.n, .string t.nm, .string t.to, .slice t.ba t.bl.length t.bc, .slice t.ka t.kl.length t.kc] 38)) = wa at *
        obtain ⟨y0, y1, y2, y3, y4, y5⟩ := BX.out.cells6
        obtain ⟨z0, z1, z2, z3, z4, z5⟩ := BD.out.cells6
        go_region_held3 (fun w' => w'.cell? ⟨wr.heap.size, 2, none⟩ = some (.string t.nm) ∧ w'.cell? ⟨wr.heap.size, 3, none⟩ = some (.string t.to)) (first | go_keep | exact ⟨u2, u3⟩ | exact ⟨x2, x3⟩ | exact ⟨z2, z3⟩ | exact ⟨y2, y3⟩) (first | (go_at_call 23; refine (kRename HD.out.st (by omega) t.nm t.to (by unfold maxLen; omega) (by unfold maxLen; omega) p' er hpe).mono ?_; rintro e w5 ⟨rfl, h5, t5⟩; obtain ⟨rs, vl, hr⟩ := HD.out.ref; have H5 := hide (And.intro h5 (hr.turned HD.out.st.d.at_ t5)); have B5 := hide (BD.out.turned t5 (by omega) (by omega)); obtain ⟨x0, x1, x2, x3, x4, x5⟩ := B5.out.cells6; clear h5 t5 hr) | (go_at_call 24; refine (rRename H5.out.2 HD.out.st.d.ok hlf t.nm t.to).mono ?_; rw [hpe]; rintro e w6 ⟨rfl, h6, t6⟩; obtain ⟨u0, u1, u2, u3, u4, u5⟩ := (B5.out.turned t6 (by omega) (by omega)).cells6))
        all_goals
          have HX := hide ((HD.out.step H5.out.1 H5.out.2 h6 t6).mono (Nat.le_refl _) (by omega))
          clear h6 t6 H5 x0 x1 x2 x3 x4 x5 u0 u1 u2 u3 u4 u5 z0 z1 z2 z3 z4 z5 y0 y1 y2 y3 y4 y5 B5
          go_wp2_with fail
          refine (alike_b HX.out).mono ?_
          rintro e w9 ⟨rfl, h9⟩
          have H9 := hide h9
          clear h9 HX
          go_wp2
          go_roundw
          case rel => exact ⟨i + 1, by omega, by go_num, ⟨k, b, R, _, rfl, rfl, H9.out⟩⟩
          case measure => simp [intOf]; omega
      have n0 : (t.wh == 0) = false := by simp; omega
      have n1 : (t.wh == 1) = false := by simp; omega
      have n2 : (t.wh == 2) = false := by simp; omega
      have n3 : (t.wh == 3) = false := by simp; omega
      have n4 : (t.wh == 4) = false := by simp; omega
      have n5 : (t.wh == 5) = false := by simp; omega
      have n6 : (t.wh == 6) = false := by simp; omega
      have n7 : (t.wh == 7) = false := by simp; omega
      have n8 : (t.wh == 8) = false := by simp; omega
      have n9 : (t.wh == 9) = false := by simp; omega
      have n10 : (t.wh == 10) = false := by simp; omega
      have HX := hide (HA.out.mono (Nat.le_succ i) (by omega))
      clear hw0 hw1 hw2 hw3 hw4 hw5 hw6 hw7 hw8 hw9 hw10
      go_wp2_with fail
      refine (alike_b HX.out).mono ?_
      rintro e w9 ⟨rfl, h9⟩
      have H9 := hide h9
      clear h9 HX
      go_wp2
      go_roundw
      case rel => exact ⟨i + 1, by omega, by go_num, ⟨k, b, R, _, rfl, rfl, H9.out⟩⟩
      case measure => simp [intOf]; omega
    · have hie : i = xs.length := by omega
      subst hie
      obtain ⟨k, b, R, p, rfl, rfl, hB⟩ := HI.out.ex
      have HB := hide hB
      clear hB HI
      go_wp2_with fail
      refine (alike_b HB.out).mono ?_
      rintro e w5 ⟨rfl, h5⟩
      have HE := hide h5.st.since
      clear h5 HB
      go_wp2
      go_ret
      exact ⟨rfl, HE.out⟩
end Go.Proofs.Ytnokibjhkdaamaa
