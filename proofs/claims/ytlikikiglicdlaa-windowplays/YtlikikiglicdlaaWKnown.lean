/-
  The chapter's examples.
-/
import Derived.Test.YtlikikiglicdlaaWHelp
namespace Go.Proofs.Ytlikikiglicdlaa
open Go.RowKit

theorem lit_seg {α : Type} {sz : Nat} {cs : α → List Value} {t : TypeId} {w : World} {k cap : Nat} {cur : Array Value} (xs : List α) (hcs : ∀ x, (cs x).length = sz) (hk : k = w.heap.size) (hcur : (xs.flatMap cs).toArray = cur) (hl : xs.length ≤ 1000000) : LSeg sz cs (k + 1) (w.alloc (.cells cur t)) (.slice (some ⟨k, 0, none⟩) xs.length cap) xs := by
  subst hk hcur
  refine ⟨_, cap, rfl, by omega, .inr ⟨w.heap.size, 0, rfl, by omega, fun i x hi j u hu => ?_⟩⟩
  rw [(BoxT.new t w _).cellAt, Nat.zero_add]
  have := flat_get hcs xs i j x u hi hu
  simpa using this
def tms : List Int := [0, 4, 9, 20]
def lsK : Nat → List Pn
  | 0 => []
  | i + 1 => pPut 3 5 0 2 (lsK i) ⟨1, tms.getD i 0, 0⟩
theorem lsK4 : lsK 4 = [⟨1, 0, 9, 2⟩, ⟨1, 9, 14, 1⟩, ⟨1, 20, 25, 1⟩] := by kernel_rfl
theorem lsK_len : ∀ i, (lsK i).length ≤ 64 * i
  | 0 => by simp [lsK]
  | i + 1 => by have h1 := lsK_len i; have h2 := pPut_len 3 5 0 2 (lsK i) ⟨1, tms.getD i 0, 0⟩; simp only [lsK]; omega
theorem outK : outF 14 (srt [⟨1, 0, 9, 2⟩, ⟨1, 9, 14, 1⟩, ⟨1, 20, 25, 1⟩]) = [⟨1, 8, 2⟩, ⟨1, 13, 1⟩] := by kernel_rfl
theorem leftK : leftF 14 (srt [⟨1, 0, 9, 2⟩, ⟨1, 9, 14, 1⟩, ⟨1, 20, 25, 1⟩]) = [⟨1, 20, 25, 1⟩] := by kernel_rfl
theorem spK1 : pSpans 2 10 4 9 = [⟨0, 10⟩, ⟨4, 14⟩, ⟨8, 18⟩] := by kernel_rfl
theorem spK2 : pSpans 1 10 0 (-1) = [⟨-10, 0⟩] := by kernel_rfl
theorem in64_small {x : Int} (h : -1000 ≤ x ∧ x ≤ 1000) : In64 x := by unfold In64; omega
set_option maxHeartbeats 8000000 in
set_option maxRecDepth 100000 in
theorem known_any (w : World) : Calls Try.prog 9 #[] w fun e w' => e = .returned (.bool true) ∧ Below w.heap.size w w' := by
  have HS1 := hide (fun W => Spans_any W 2 (size := 10) (slide := 4) 9 (in64_small (by omega)) (in64_small (by omega)))
  have HS2 := hide (fun W => Spans_any W 1 (size := 10) (slide := 0) (-1) (in64_small (by omega)) (in64_small (by omega)))
  rw [spK1] at HS1
  rw [spK2] at HS2
  have HPU : Hid (∀ (W : World) (v : Value) (i : Nat) (x : Int), tms[i]? = some x → LSeg 4 Pn.cs W.heap.size W v (lsK i) → Calls Try.prog 15 #[.agg #[.int .i64 3, .int .i64 5, .int .i64 0], .int .i64 2, v, .agg #[.int .i64 1, .int .i64 x, .int .i64 0]] W fun e w' => ∃ u, e = .returned u ∧ Row 46 4 Pn.cs W.heap.size w' u (lsK (i + 1)) ∧ Below W.heap.size W w') := fun W v i x hx hl => by
    have hi := lt_of_get hx
    have h4 : tms.length = 4 := rfl
    have h1 := Put_any hl (by have := lsK_len i; omega) 3 (size := 5) (slide := 0) (in64_small (by omega)) (in64_small (by omega)) 2 ⟨1, x, 0⟩
    have h2 : lsK (i + 1) = pPut 3 5 0 2 (lsK i) ⟨1, x, 0⟩ := by simp only [lsK]; rw [List.getD_eq_getElem?_getD, hx]; rfl
    rw [h2]
    exact h1
  go_enter Try.func9, Try.ntmps9
  go_wp2_with (go_at_call 12; refine (HS1.out _).mono ?_; rintro e w1 ⟨u1, rfl, o1, b1⟩; obtain ⟨a1, c1, rfl⟩ := o1.shape; have O1 := hide o1; have B1 := hide b1; clear o1 b1)
  have h2 := two2 w1 (.cells #[.int .i64 3, .int .i64 5, .int .i64 0] 23) (.cells #[.int .i64 0, .int .i64 4, .int .i64 9, .int .i64 20] 2)
  have HBW : Hid (BoxT 23 ((w1.alloc (.cells #[.int .i64 3, .int .i64 5, .int .i64 0] 23)).alloc (.cells #[.int .i64 0, .int .i64 4, .int .i64 9, .int .i64 20] 2)) w1.heap.size #[.int .i64 3, .int .i64 5, .int .i64 0]) := h2.1
  have HTM : Hid (LSeg 1 i64cs (w1.heap.size + 1 + 1) ((w1.alloc (.cells #[.int .i64 3, .int .i64 5, .int .i64 0] 23)).alloc (.cells #[.int .i64 0, .int .i64 4, .int .i64 9, .int .i64 20] 2)) (.slice (some ⟨w1.heap.size + 1, 0, none⟩) 4 4) tms) := lit_seg tms i64cs_len (by simp) rfl (by decide)
  have HB2 := hide (below_box2 w1 (.cells #[.int .i64 3, .int .i64 5, .int .i64 0] 23) (.cells #[.int .i64 0, .int .i64 4, .int .i64 9, .int .i64 20] 2))
  clear h2
  generalize hW2 : ((w1.alloc (.cells #[.int .i64 3, .int .i64 5, .int .i64 0] 23)).alloc (.cells #[.int .i64 0, .int .i64 4, .int .i64 9, .int .i64 20] 2)) = W2 at *
  have HSZ : Hid (W2.heap.size = w1.heap.size + 1 + 1) := (show _ = _ by rw [← hW2]; simp)
  clear hW2
  go_loopg [3, 5, 14] 5 (fun gh lv _ iv wr => ∃ i : Nat, iv = .int .i64 (i : Int) ∧ i ≤ 4 ∧ 5 ≤ gh + i ∧ Hid (Row 46 4 Pn.cs W2.heap.size wr lv (lsK i)) ∧ Hid (Below W2.heap.size W2 wr))
  case atStart => exact ⟨0, rfl, by omega, by omega, hide (Row.nil _ _ _ _ _), Below.refl _ _⟩
  case round =>
    obtain ⟨i, rfl, hi, hg, GO, GB⟩ := hrel
    obtain ⟨go, rfl⟩ : ∃ go, gk = go + 1 := ⟨gk - 1, by omega⟩
    have hlk := lsK_len i
    obtain ⟨la, lc, rfl⟩ := GO.out.shape
    by_cases hlt : i < 4
    · obtain ⟨x, hx⟩ := get_of_lt (l := tms) (i := i) hlt
      have bt : (i : Int) < 4 := by omega
      obtain ⟨nb, no, ee, nlt, d0⟩ := seg_int (HTM.out.below (by rw [← HSZ.out]; exact GB.out)) hx
      cases ee
      obtain ⟨y0, y1, y2⟩ := (BoxT.below (t := 23) HBW.out GB.out).cells3
      have HPC := hide (HPU.out wr (.slice la (lsK i).length lc) i x hx (GO.out.seg Pn.cs_len (by omega)))
      rw [Nat.zero_add] at d0
      clear hx
      go_wp2_with (go_at_call 15; refine HPC.out.mono ?_; rintro e w3 ⟨u3, rfl, o3, b3⟩)
      go_roundg go
      case rel => exact ⟨i + 1, by go_num, by omega, by omega, hide (o3.mono GB.out.size), hide (GB.out.trans (b3.mono GB.out.size))⟩
      case measure => omega
    · obtain rfl : i = 4 := by omega
      have hl4 : (lsK 4).length = 3 := by rw [lsK4]; rfl
      have HFI := hide (Fire_any (GO.out.seg Pn.cs_len (by omega)) (by omega) 14)
      rw [lsK4, outK, leftK] at HFI
      have HGS : Hid (LSeg 4 Pn.cs wr.heap.size wr (.slice la 3 lc) [⟨1, 0, 9, 2⟩, ⟨1, 9, 14, 1⟩, ⟨1, 20, 25, 1⟩]) := (show LSeg _ _ _ _ _ _ by have h9 := GO.out.seg Pn.cs_len (by omega); rw [hl4, lsK4] at h9; exact h9)
      have HB3 := hide (B1.out.trans ((HB2.out.trans (GB.out.mono HB2.out.size)).mono B1.out.size))
      have HO1 := hide (O1.out.below (HB2.out.trans (GB.out.mono HB2.out.size)))
      rw [hl4]
      have HFI2 : Hid (Calls Try.prog 18 #[.slice la 3 lc, .int .i64 14] wr fun e w' => ∃ u1 u2, e = .returned (.tuple #[u1, u2]) ∧ OwnL 37 3 Rc.cs wr.heap.size w' u1 [⟨1, 8, 2⟩, ⟨1, 13, 1⟩] ∧ OwnL 46 4 Pn.cs wr.heap.size w' u2 [⟨1, 20, 25, 1⟩] ∧ Below wr.heap.size wr w') := HFI.out
      clear HFI hlt hg hi hlk hl4 GO GB HBW HTM HPU HS1 O1 B1 HB2
      go_wp2_with (first
        | (go_at_call 18; refine HFI2.out.mono ?_; rintro e w4 ⟨u1, u2, rfl, oR, oP, b4⟩; obtain ⟨ra, rc, rfl⟩ := oR.shape; obtain ⟨pa, pc, rfl⟩ := oP.shape; have HOR := hide oR; have HB4 := hide b4; clear oR oP b4)
        | (go_at_call 12; refine (HS2.out _).mono ?_; rintro e w5 ⟨u5, rfl, o5, b5⟩; obtain ⟨sa, sc, rfl⟩ := o5.shape; obtain ⟨sb, so, rfl, _, s0, s1⟩ := (o5.seg Sp.cs_len (by simp)).span (i := 0) rfl; have H45 := hide (HB4.out.trans (b5.mono HB4.out.size)); have HOR5 := hide (HOR.out.below b5); have HO5 := hide (HO1.out.below H45.out); have HG5 := hide ((HGS.out.below H45.out).mono H45.out.size); have HB5 := hide (Below.refl w5.heap.size w5); have HS5 := hide (o5.seg Sp.cs_len (by simp)); clear o5 b5)
        | (go_at_call 13; refine (hSpans_any (l := [⟨0, 10⟩, ⟨4, 14⟩, ⟨8, 18⟩]) ((HO5.out.seg Sp.cs_len (by simp)).below (below_box w5 _)) (lit_seg (t := 31) [⟨0, 10⟩, ⟨4, 14⟩, ⟨8, 18⟩] Sp.cs_len rfl rfl (by decide)) (by decide)).mono ?_; rintro e w6 ⟨rfl, b6⟩; have HB6 := hide ((below_box w5 (.cells #[.int .i64 0, .int .i64 10, .int .i64 4, .int .i64 14, .int .i64 8, .int .i64 18] 31)).trans (b6.mono (below_box w5 _).size)); clear b6)
        | (go_at_call 16; refine (hPanes_any (l := [⟨1, 0, 9, 2⟩, ⟨1, 9, 14, 1⟩, ⟨1, 20, 25, 1⟩]) ((HG5.out.below HB6.out).below ((below_box w6 _).mono HB6.out.size)) (lit_seg (t := 46) [⟨1, 0, 9, 2⟩, ⟨1, 9, 14, 1⟩, ⟨1, 20, 25, 1⟩] Pn.cs_len rfl rfl (by decide)) (by decide)).mono ?_; rintro e w7 ⟨rfl, b7⟩; have HB7 := hide (HB6.out.trans (((below_box w6 (.cells #[.int .i64 1, .int .i64 0, .int .i64 9, .int .i64 2, .int .i64 1, .int .i64 9, .int .i64 14, .int .i64 1, .int .i64 1, .int .i64 20, .int .i64 25, .int .i64 1] 46)).trans (b7.mono (below_box w6 _).size)).mono HB6.out.size)); clear b7)
        | (go_at_call 20; refine (hRecords_any (l := [⟨1, 8, 2⟩, ⟨1, 13, 1⟩]) (((HOR5.out.seg Rc.cs_len (by simp)).below HB7.out).below ((below_box w7 _).mono HB7.out.size)) (lit_seg (t := 37) [⟨1, 8, 2⟩, ⟨1, 13, 1⟩] Rc.cs_len rfl rfl (by decide)) (by decide)).mono ?_; rintro e w8 ⟨rfl, b8⟩; have HB8 := hide (HB7.out.trans (((below_box w7 (.cells #[.int .i64 1, .int .i64 8, .int .i64 2, .int .i64 1, .int .i64 13, .int .i64 1] 37)).trans (b8.mono (below_box w7 _).size)).mono HB7.out.size)); have s0' := (HB8.out.cell (p := ⟨sb, so + 0 * 2, none⟩) (by obtain ⟨b', o', e', hb', _⟩ := HS5.out.span (i := 0) rfl; cases e'; exact hb')).trans s0; have s1' := (HB8.out.cell (p := ⟨sb, so + 0 * 2 + 1, none⟩) (by obtain ⟨b', o', e', hb', _⟩ := HS5.out.span (i := 0) rfl; cases e'; exact hb')).trans s1; simp only [Nat.zero_mul, Nat.add_zero] at s0' s1'; clear b8))
      go_ret
      exact ⟨rfl, HB3.out.trans ((H45.out.trans (HB8.out.mono H45.out.size)).mono HB3.out.size)⟩
end Go.Proofs.Ytlikikiglicdlaa
