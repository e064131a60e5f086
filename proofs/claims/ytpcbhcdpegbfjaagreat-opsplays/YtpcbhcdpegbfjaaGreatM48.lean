/-
  Texts in build order: PMark, OAny, OHal, PBoth, PStep.
-/
import Derived.Test.YtpcbhcdpegbfjaaGreatM46
import Derived.Test.YtpcbhcdpegbfjaaGreatM47
import Derived.Test.YtpcbhcdpegbfjaaGreatM43
import Derived.Test.YtpcbhcdpegbfjaaGreatM44
/-
 The document's Fires and MarkOf.
-/
namespace Go.Proofs.YtpcbhcdpegbfjaaGreat
set_option maxHeartbeats 16000000
set_option maxRecDepth 100000
open Go.RowKit
theorem rFires_idle (w : World) (lv : Value) {mk : Int} (h : mk ≠ 9223372036854775807) : Calls Tryz.prog 32 #[.bool true, lv, .int .i64 mk] w fun e w' => e = .returned (.tuple #[.slice none 0 0, lv]) ∧ w' = w := by
 have hmk : (mk == 9223372036854775807) = false := by simpa using h
 have hmk2 : (mk != 9223372036854775807) = true := by simpa using h
 go_enter Tryz.func32, Tryz.ntmps32
 go_wp2_with fail
 exact bodyPost_ret (v := .tuple #[.slice none 0 0, lv]) (by simp [results, Tryz.results32, go_sem]; try rfl) rfl ⟨rfl, rfl⟩
def FsPost (w : World) (mk : Int) (l : List Pn) (e : Ending) (w' : World) : Prop := ∃ u1 u2, e = .returned (.tuple #[u1, u2]) ∧ OwnL 38 3 Rc.cs w.heap.size w' u1 (outF mk (srt l)) ∧ OwnL 79 4 Pn.cs w.heap.size w' u2 (leftF mk (srt l)) ∧ Below w.heap.size w w'
theorem rFires_any {w : World} {v : Value} {l : List Pn} (hl : LSeg 4 Pn.cs w.heap.size w v l) (hn : l.length ≤ 100000) (red : Bool) (mk : Int) (h : red = true → mk = 9223372036854775807) : Calls Tryz.prog 32 #[.bool red, v, .int .i64 mk] w (FsPost w mk l) := by
 have HF := hide (rFire_any hl hn mk)
 obtain ⟨ao, cap, rfl⟩ := hl.shapeOf
 clear hl
 cases red
 ·clear h
  go_enter Tryz.func32, Tryz.ntmps32
  go_wp2_with (first | (go_at_call 45; refine HF.out.mono ?_; rintro e w1 ⟨u1, u2, rfl, o1, o2, b1⟩; have O1 := hide o1; have O2 := hide o2; have B1 := hide b1; obtain ⟨a1, c1, rfl⟩ := o1.shape; obtain ⟨a2, c2, rfl⟩ := o2.shape; clear o1 o2 b1) | fail)
  exact bodyPost_ret (v := .tuple #[.slice a1 (outF mk (srt l)).length c1, .slice a2 (leftF mk (srt l)).length c2]) (by simp [results, Tryz.results32, go_sem]; try rfl) rfl ⟨_, _, rfl, O1.out, O2.out, B1.out⟩
 ·have hm := h rfl
  subst hm
  clear h
  go_enter Tryz.func32, Tryz.ntmps32
  go_wp2_with (first | (go_at_call 45; refine HF.out.mono ?_; rintro e w1 ⟨u1, u2, rfl, o1, o2, b1⟩; have O1 := hide o1; have O2 := hide o2; have B1 := hide b1; obtain ⟨a1, c1, rfl⟩ := o1.shape; obtain ⟨a2, c2, rfl⟩ := o2.shape; clear o1 o2 b1) | fail)
  exact bodyPost_ret (v := .tuple #[.slice a1 (outF 9223372036854775807 (srt l)).length c1, .slice a2 (leftF 9223372036854775807 (srt l)).length c2]) (by simp [results, Tryz.results32, go_sem]; try rfl) rfl ⟨_, _, rfl, O1.out, O2.out, B1.out⟩
theorem DOp.relay {w : World} {o : Nat} {nd : J.Nd} {lv : Value} {l : List Pn} {g d : Int} (h : DOp w o nd lv l g d) : DOp (w.setCell ⟨o, 10, none⟩ lv) o nd lv l g d := by
 have h2 := BoxT.set (t := 51) h.box 10 lv
 refine ⟨?_, lsegB h.seg (fun hne b e => Below.heap_setCell w ⟨o, 10, none⟩ _ b (fun e2 => h.off hne (by rw [e]; exact congrArg some e2))) (by simp), h.off⟩
 have h3 : BoxT 51 (w.setCell ⟨o, 10, none⟩ lv) o (dCs nd lv g d) := by simpa [dCs] using h2
 exact h3
def RmPost (w : World) (o : Nat) (nd : J.Nd) (lv : Value) (g d : Int) (out : List Rc) (left : List Pn) (e : Ending) (w' : World) : Prop := ∃ u lv', e = .returned u ∧ OwnL 38 3 Rc.cs w.heap.size w' u out ∧ DOp w' o nd lv' left g d ∧ FT (at1 o) (at1 o) w w' ∧ Nw w lv lv'
theorem rMark_none {w : World} {o : Nat} {nd : J.Nd} {lv : Value} {l : List Pn} {g d : Int} (h : DOp w o nd lv l g d) (m : Int) (hk : nd.kind ≠ 6 ∧ nd.kind ≠ 7) : Calls Tryz.prog 17 #[.pointer (some ⟨o, 0, none⟩), .int .i64 m] w fun e w' => e = .returned (.slice none 0 0) ∧ w' = w := by
 have c0 : w.cell? ⟨o, 0, none⟩ = some (.int .i64 nd.kind) := h.box.cellAt 0
 have c11 : w.cell? ⟨o, 11, none⟩ = some (.int .i64 g) := h.box.cellAt 11
 have b6 : (nd.kind != 6) = true := by simp; exact hk.1
 have b7 : (nd.kind != 7) = true := by simp; exact hk.2
 clear h hk
 go_enter Tryz.func17, Tryz.ntmps17
 go_wp2_with fail
 go_ret
 exact ⟨rfl, rfl⟩
theorem rMark_le {w : World} {o : Nat} {nd : J.Nd} {lv : Value} {l : List Pn} {g d : Int} (h : DOp w o nd lv l g d) (m : Int) (hk : nd.kind = 6 ∨ nd.kind = 7) (hm : m ≤ g) : Calls Tryz.prog 17 #[.pointer (some ⟨o, 0, none⟩), .int .i64 m] w fun e w' => e = .returned (.slice none 0 0) ∧ w' = w := by
 have c0 : w.cell? ⟨o, 0, none⟩ = some (.int .i64 nd.kind) := h.box.cellAt 0
 have c11 : w.cell? ⟨o, 11, none⟩ = some (.int .i64 g) := h.box.cellAt 11
 clear h
 rcases hk with hk | hk
 all_goals
  rw [hk] at c0
  go_enter Tryz.func17, Tryz.ntmps17
  go_wp2_with fail
  go_ret
  exact ⟨rfl, rfl⟩
theorem rMark_win {w : World} {o : Nat} {nd : J.Nd} {lv : Value} {l : List Pn} {g d : Int} (h : DOp w o nd lv l g d) (hn : l.length ≤ 100000) (m : Int) (hk : nd.kind = 7) (hm : ¬ m ≤ g) : Calls Tryz.prog 17 #[.pointer (some ⟨o, 0, none⟩), .int .i64 m] w (RmPost w o nd lv m d (outF m (srt l)) (leftF m (srt l))) := by
 unfold RmPost
 have c0 : w.cell? ⟨o, 0, none⟩ = some (.int .i64 nd.kind) := h.box.cellAt 0
 have c11 : w.cell? ⟨o, 11, none⟩ = some (.int .i64 g) := h.box.cellAt 11
 rw [hk] at c0
 have fr := BoxT.free (t := 51) h.box
 obtain ⟨V, hV⟩ : ∃ V, V = w.setCell ⟨o, 11, none⟩ (.int .i64 m) := ⟨_, rfl⟩
 have h2 := h.setG m
 have ht := FT.set1 w o 11 (.int .i64 m)
 rw [← hV] at h2 ht
 have H2 := hide h2
 have HT := hide ht
 have HSZ := hide (show w.heap.size ≤ V.heap.size from ht.size)
 have HV := hide hV
 have hd : Below V.heap.size V V.drew := (Below.refl _ _).drew
 have y0 : V.drew.cell? ⟨o, 0, none⟩ = some (.int .i64 7) := by rw [← hk]; exact (h2.below hd).box.cellAt 0
 have y10 : V.drew.cell? ⟨o, 10, none⟩ = some lv := (h2.below hd).box.cellAt 10
 have BD := hide hd
 have HF := hide (rFires_any (h2.below hd).seg hn false m (fun e => by cases e))
 obtain ⟨la, lc, rfl⟩ := h.seg.shapeOf
 clear h h2 ht hd hV
 go_enter Tryz.func17, Tryz.ntmps17
 go_upto_region 4 with fail
 refine wp_at (fun V' => V' = V) HV.out.symm ?_
 rintro V' rfl
 clear HV c0 c11 fr
 go_region_held3 (fun w' => w'.cell? ⟨o, 0, none⟩ = some (.int .i64 7) ∧ w'.cell? ⟨o, 10, none⟩ = some (.slice la l.length lc)) (first | go_keep | exact ⟨y0, y10⟩ | exact ⟨z0, z10⟩)
  (first | (go_at_call 32; refine HF.out.mono ?_; rintro e w2 ⟨u1, u2, rfl, f1, f2, b2⟩; have B2 := hide (BD.out.trans b2); have O1 := hide f1; have O2 := hide f2; obtain ⟨a2, c2, rfl⟩ := f2.shape; have H3 := hide (H2.out.below B2.out); have z0 : w2.cell? ⟨o, 0, none⟩ = some (.int .i64 7) := (B2.out.cell (p := ⟨o, 0, none⟩) H2.out.box.lt).trans y0; have z10 : w2.cell? ⟨o, 10, none⟩ = some (.slice la l.length lc) := H3.out.box.cellAt 10; clear f1 f2 b2) | fail)
 have fr := BoxT.free (t := 51) H3.out.box
 have hlen : (leftF m (srt l)).length ≤ 100000 := by
  unfold leftF
  refine Nat.le_trans (List.length_filter_le _ _) ?_
  rw [srt_len]; exact hn
 have HLN := hide hlen
 clear hlen
 go_wp2_with fail
 go_ret
 refine ⟨_, _, rfl, (O1.out.mono HSZ.out).back (fun q e => Below.heap_setCell w2 ⟨o, 10, none⟩ _ q (?_ : q ≠ o)), H2.out.lay B2.out (O2.out.seg Pn.cs_len (by have := HLN.out; omega)) (fun b e => O2.out.at b e), HT.out.trans (FT.lay B2.out _), .inr (fun b e => Nat.le_trans HSZ.out (O2.out.at b e))⟩
 have h1 : V'.heap.size ≤ q := O1.out.at q e
 have h2 := H2.out.box.lt
 omega
theorem rMark_red {w : World} {o : Nat} {nd : J.Nd} {lv : Value} {l : List Pn} {g d : Int} (h : DOp w o nd lv l g d) (hn : l.length ≤ 100000) (m : Int) (hk : nd.kind = 6) (hm : ¬ m ≤ g) (hmx : m = 9223372036854775807) : Calls Tryz.prog 17 #[.pointer (some ⟨o, 0, none⟩), .int .i64 m] w (RmPost w o nd lv m d (outF m (srt l)) (leftF m (srt l))) := by
 unfold RmPost
 have c0 : w.cell? ⟨o, 0, none⟩ = some (.int .i64 nd.kind) := h.box.cellAt 0
 have c11 : w.cell? ⟨o, 11, none⟩ = some (.int .i64 g) := h.box.cellAt 11
 rw [hk] at c0
 have fr := BoxT.free (t := 51) h.box
 obtain ⟨V, hV⟩ : ∃ V, V = w.setCell ⟨o, 11, none⟩ (.int .i64 m) := ⟨_, rfl⟩
 have h2 := h.setG m
 have ht := FT.set1 w o 11 (.int .i64 m)
 rw [← hV] at h2 ht
 have H2 := hide h2
 have HT := hide ht
 have HSZ := hide (show w.heap.size ≤ V.heap.size from ht.size)
 have HV := hide hV
 have hd : Below V.heap.size V V.drew := (Below.refl _ _).drew
 have y0 : V.drew.cell? ⟨o, 0, none⟩ = some (.int .i64 6) := by rw [← hk]; exact (h2.below hd).box.cellAt 0
 have y10 : V.drew.cell? ⟨o, 10, none⟩ = some lv := (h2.below hd).box.cellAt 10
 have BD := hide hd
 have HF := hide (rFires_any (h2.below hd).seg hn true m (fun e => hmx))
 obtain ⟨la, lc, rfl⟩ := h.seg.shapeOf
 clear h h2 ht hd hV hmx
 go_enter Tryz.func17, Tryz.ntmps17
 go_upto_region 4 with fail
 refine wp_at (fun V' => V' = V) HV.out.symm ?_
 rintro V' rfl
 clear HV c0 c11 fr
 go_region_held3 (fun w' => w'.cell? ⟨o, 0, none⟩ = some (.int .i64 6) ∧ w'.cell? ⟨o, 10, none⟩ = some (.slice la l.length lc)) (first | go_keep | exact ⟨y0, y10⟩ | exact ⟨z0, z10⟩)
  (first | (go_at_call 32; refine HF.out.mono ?_; rintro e w2 ⟨u1, u2, rfl, f1, f2, b2⟩; have B2 := hide (BD.out.trans b2); have O1 := hide f1; have O2 := hide f2; obtain ⟨a2, c2, rfl⟩ := f2.shape; have H3 := hide (H2.out.below B2.out); have z0 : w2.cell? ⟨o, 0, none⟩ = some (.int .i64 6) := (B2.out.cell (p := ⟨o, 0, none⟩) H2.out.box.lt).trans y0; have z10 : w2.cell? ⟨o, 10, none⟩ = some (.slice la l.length lc) := H3.out.box.cellAt 10; clear f1 f2 b2) | fail)
 have fr := BoxT.free (t := 51) H3.out.box
 have hlen : (leftF m (srt l)).length ≤ 100000 := by
  unfold leftF
  refine Nat.le_trans (List.length_filter_le _ _) ?_
  rw [srt_len]; exact hn
 have HLN := hide hlen
 clear hlen
 go_wp2_with fail
 go_ret
 refine ⟨_, _, rfl, (O1.out.mono HSZ.out).back (fun q e => Below.heap_setCell w2 ⟨o, 10, none⟩ _ q (?_ : q ≠ o)), H2.out.lay B2.out (O2.out.seg Pn.cs_len (by have := HLN.out; omega)) (fun b e => O2.out.at b e), HT.out.trans (FT.lay B2.out _), .inr (fun b e => Nat.le_trans HSZ.out (O2.out.at b e))⟩
 have h1 : V'.heap.size ≤ q := O1.out.at q e
 have h2 := H2.out.box.lt
 omega
theorem rMark_idle {w : World} {o : Nat} {nd : J.Nd} {lv : Value} {l : List Pn} {g d : Int} (h : DOp w o nd lv l g d) (m : Int) (hk : nd.kind = 6) (hm : ¬ m ≤ g) (hmx : m ≠ 9223372036854775807) : Calls Tryz.prog 17 #[.pointer (some ⟨o, 0, none⟩), .int .i64 m] w (RmPost w o nd lv m d [] l) := by
 unfold RmPost
 have c0 : w.cell? ⟨o, 0, none⟩ = some (.int .i64 nd.kind) := h.box.cellAt 0
 have c11 : w.cell? ⟨o, 11, none⟩ = some (.int .i64 g) := h.box.cellAt 11
 rw [hk] at c0
 have fr := BoxT.free (t := 51) h.box
 obtain ⟨V, hV⟩ : ∃ V, V = w.setCell ⟨o, 11, none⟩ (.int .i64 m) := ⟨_, rfl⟩
 have h2 := h.setG m
 have ht := FT.set1 w o 11 (.int .i64 m)
 rw [← hV] at h2 ht
 have H2 := hide h2
 have HT := hide ht
 have HSZ := hide (show w.heap.size ≤ V.heap.size from ht.size)
 have HV := hide hV
 have hd : Below V.heap.size V V.drew := (Below.refl _ _).drew
 have y0 : V.drew.cell? ⟨o, 0, none⟩ = some (.int .i64 6) := by rw [← hk]; exact (h2.below hd).box.cellAt 0
 have y10 : V.drew.cell? ⟨o, 10, none⟩ = some lv := (h2.below hd).box.cellAt 10
 have BD := hide hd
 have HF := hide (rFires_idle V.drew lv hmx)
 obtain ⟨la, lc, rfl⟩ := h.seg.shapeOf
 clear h h2 ht hd hV
 go_enter Tryz.func17, Tryz.ntmps17
 go_upto_region 4 with fail
 refine wp_at (fun V' => V' = V) HV.out.symm ?_
 rintro V' rfl
 clear HV c0 c11 fr
 go_region_held3 (fun w' => w'.cell? ⟨o, 0, none⟩ = some (.int .i64 6) ∧ w'.cell? ⟨o, 10, none⟩ = some (.slice la l.length lc)) (first | go_keep | exact ⟨y0, y10⟩)
  (first | (go_at_call 32; refine HF.out.mono ?_; rintro e w2 ⟨rfl, e2⟩; have e3 := e2.symm; subst e3) | fail)
 have H3 := hide (H2.out.below BD.out)
 have fr := BoxT.free (t := 51) H3.out.box
 go_wp2_with fail
 go_ret
 exact ⟨_, _, rfl, OwnL.nil _ _ _ _ _, H3.out.relay, (HT.out.trans (FT.of_below BD.out)).trans (FT.set1 _ _ _ _), .inl rfl⟩
end Go.Proofs.YtpcbhcdpegbfjaaGreat
/-
 The calls of the operator of any node.
-/
namespace Go.Proofs.YtpcbhcdpegbfjaaGreat
set_option maxHeartbeats 16000000
set_option maxRecDepth 100000
open Go.RowKit
theorem LSeg.of_own {α : Type} {t sz : Nat} {cs : α → List Value} {base : Nat} {w : World} {v : Value} {xs : List α} (h : OwnL t sz cs base w v xs) (hcs : ∀ x, (cs x).length = sz) (hl : xs.length ≤ 140737488355328) : LSeg sz cs w.heap.size w v xs := h.seg hcs hl
theorem Comes.nil {s : Bool} {J : Int → Int → Int} : Comes s J [] [] := Comes.refl List.Pairwise.nil
def SlPost (W : World) (r : Ending) (w' : World) : Prop := r = .returned (.tuple #[]) ∧ Below W.heap.size W w'
theorem st_load (w : World) (va : Option Addr) (vl vc : Nat) : Calls Tryz.prog 77 #[.agg #[], .slice va vl vc] w (SlPost w) := by
 have HB := hide (below_box w (.cells #[] 85))
 go_enter Tryz.func77, Tryz.ntmps77
 go_wp2_with fail
 refine bodyPost_ret (v := .tuple #[]) (by simp [results, Tryz.results77, go_sem]) rfl ?_
 exact ⟨rfl, HB.out⟩
theorem m_load85 (W : World)  : (method 317 85 (.agg #[]) "leat/ops.load").run Tryz.prog W = .ok (77, .agg #[]) W := by kernel_rfl
theorem m_load87 (W : World) (op n : Int) (a : Option Addr) (en c : Nat) : (method 317 87 (.agg #[.int .i64 op, .int .i64 n, .slice a en c]) "leat/ops.load").run Tryz.prog W = .ok (77, .agg #[]) W := by kernel_rfl
theorem m_load88 (W : World) (op n : Int) (a : Option Addr) (en c : Nat) : (method 317 88 (.agg #[.int .i64 op, .int .i64 n, .slice a en c]) "leat/ops.load").run Tryz.prog W = .ok (77, .agg #[]) W := by kernel_rfl
theorem m_load89 (W : World) (op n : Int) (a : Option Addr) (en c : Nat) : (method 317 89 (.agg #[.int .i64 op, .int .i64 n, .slice a en c]) "leat/ops.load").run Tryz.prog W = .ok (77, .agg #[]) W := by kernel_rfl
theorem m_load91 (W : World)  : (method 317 91 (.agg #[]) "leat/ops.load").run Tryz.prog W = .ok (77, .agg #[]) W := by kernel_rfl
theorem SO.load {W : World} {O T : Nat} {e : J.Ex} (h : SO W O T e) (va : Option Addr) (vl vc : Nat) : Calls Tryz.prog 18 #[.pointer (some ⟨O, 0, none⟩), .slice va vl vc] W (SlPost W) := by
 have HS := hide (st_load W va vl vc)
 obtain ⟨hb, hk, hi, hf⟩ := h
 have y0 := hb.cellAt 0
 clear hb hi hf
 obtain ⟨op, n, a, c, l⟩ := e
 rcases hk with rfl | rfl | rfl | rfl | rfl
 ·have y : W.cell? ⟨O, 0, none⟩ = some (.iface 85 (.agg #[])) := y0
  have hm := m_load85 W
  clear y0
  generalize l.length = en at *
  go_enter Tryz.func18, Tryz.ntmps18
  go_wp2_with (go_at_call 77; refine HS.out.mono ?_; rintro r w2 ⟨rfl, b2⟩; have B2 := hide b2; clear b2)
  refine bodyPost_ret (v := .tuple #[]) (by simp [results, Tryz.results18, go_sem]) rfl ?_
  exact ⟨rfl, B2.out⟩
 ·have y : W.cell? ⟨O, 0, none⟩ = some (.iface 87 (.agg #[.int .i64 op, .int .i64 n, .slice a l.length c])) := y0
  have hm := m_load87 W op n a l.length c
  clear y0
  generalize l.length = en at *
  go_enter Tryz.func18, Tryz.ntmps18
  go_wp2_with (go_at_call 77; refine HS.out.mono ?_; rintro r w2 ⟨rfl, b2⟩; have B2 := hide b2; clear b2)
  refine bodyPost_ret (v := .tuple #[]) (by simp [results, Tryz.results18, go_sem]) rfl ?_
  exact ⟨rfl, B2.out⟩
 ·have y : W.cell? ⟨O, 0, none⟩ = some (.iface 88 (.agg #[.int .i64 op, .int .i64 n, .slice a l.length c])) := y0
  have hm := m_load88 W op n a l.length c
  clear y0
  generalize l.length = en at *
  go_enter Tryz.func18, Tryz.ntmps18
  go_wp2_with (go_at_call 77; refine HS.out.mono ?_; rintro r w2 ⟨rfl, b2⟩; have B2 := hide b2; clear b2)
  refine bodyPost_ret (v := .tuple #[]) (by simp [results, Tryz.results18, go_sem]) rfl ?_
  exact ⟨rfl, B2.out⟩
 ·have y : W.cell? ⟨O, 0, none⟩ = some (.iface 89 (.agg #[.int .i64 op, .int .i64 n, .slice a l.length c])) := y0
  have hm := m_load89 W op n a l.length c
  clear y0
  generalize l.length = en at *
  go_enter Tryz.func18, Tryz.ntmps18
  go_wp2_with (go_at_call 77; refine HS.out.mono ?_; rintro r w2 ⟨rfl, b2⟩; have B2 := hide b2; clear b2)
  refine bodyPost_ret (v := .tuple #[]) (by simp [results, Tryz.results18, go_sem]) rfl ?_
  exact ⟨rfl, B2.out⟩
 ·have y : W.cell? ⟨O, 0, none⟩ = some (.iface 91 (.agg #[])) := y0
  have hm := m_load91 W
  clear y0
  generalize l.length = en at *
  go_enter Tryz.func18, Tryz.ntmps18
  go_wp2_with (go_at_call 77; refine HS.out.mono ?_; rintro r w2 ⟨rfl, b2⟩; have B2 := hide b2; clear b2)
  refine bodyPost_ret (v := .tuple #[]) (by simp [results, Tryz.results18, go_sem]) rfl ?_
  exact ⟨rfl, B2.out⟩
theorem FT.fo' {F F' Fk Fk' : Nat → Prop} {O : Nat} {W W' : World} (h : FT Fk Fk' W W') (h1 : ∀ i, F i ↔ (i = O ∨ Fk i)) (h2 : ∀ i, F' i ↔ (i = O ∨ Fk' i)) : FT F F' W W' :=
 ⟨h.os, h.tape, h.output, h.size, fun i hi hn => h.block i hi (fun e => hn ((h1 i).2 (.inr e))), fun i hi => by
  rcases (h2 i).1 hi with rfl | e
  ·exact .inl ((h1 _).2 (.inl rfl))
  ·rcases h.sub i e with e2 | e2
   ·exact .inl ((h1 i).2 (.inr e2))
   ·exact .inr e2⟩
def RecPost (W : World) (nd : J.Nd) (O n : Nat) (F : Nat → Prop) (X : List Pn) (g d : Int) (r : Rc) (e : Ending) (w' : World) : Prop :=
 ∃ u F' X' d', e = .returned u ∧ LSeg 3 Rc.cs w'.heap.size w' u (outR nd r) ∧ OpAt w' nd O (n + 64) F' X' g d' ∧ FT F F' W w' ∧ Comes (sN nd) (jn nd.agg) (FrN nd g r ++ X) X' ∧ DN nd g r.t d d' ∧ (nd.kind ≠ 6 → nd.kind ≠ 7 → Below W.heap.size W w')
theorem OpAt.record {W : World} {nd : J.Nd} {O n : Nat} {F : Nat → Prop} {X : List Pn} {g d : Int} (h : OpAt W nd O n F X g d) (hok : NdOk nd) (r : Rc) (hrk : In64 r.k) (hrv : In64 r.v) (ht : TimeOk r.t) (hn : n ≤ 70000) :
  Calls Tryz.prog 14 #[.pointer (some ⟨O, 0, none⟩), .agg #[.int .i64 r.k, .int .i64 r.t, .int .i64 r.v]] W (RecPost W nd O n F X g d r) := by
 obtain ⟨rk, rt, rv⟩ := r
 simp only at hrk hrv ht ⊢
 unfold RecPost
 rcases h with ⟨h6, h7, ⟨e', so, hw, hF⟩, rfl, rfl⟩ | ⟨h7, K, s, Fk, hb, hk, hno, hF⟩ | ⟨h6, K, s, Fk, hb, hk, hno, hF⟩
 ·refine (so.record rk rt rv).mono ?_
  rintro e w' ⟨u, rfl, hl, hbel⟩
  refine ⟨u, F, [], 0, rfl, ?_, .inl ⟨h6, h7, ⟨e', so.below hbel, hw, hF⟩, rfl, rfl⟩, FT.of_below hbel, ?_, ?_, fun _ _ => hbel⟩
  ·unfold outR
   rw [if_neg (by omega), ← rsO_wth hw]
   exact hl
  ·unfold FrN
   rw [if_neg h7, if_neg h6]
   exact Comes.nil
  ·unfold DN
   rw [if_neg h7]
 ·have hf := hok.f7 h7
  refine (orecW hb hk hno hf.2 hf.1 rk rt rv hrk hrv ht hn).mono ?_
  rintro e w' ⟨rfl, hb', F', X', d', hk', hft, hno', hc, hd⟩
  refine ⟨_, fun i => i = O ∨ F' i, X', d', rfl, ?_, .inr (.inl ⟨h7, K, s, F', hb', hk', hno', fun _ => Iff.rfl⟩), hft.fo' hF (fun _ => Iff.rfl), ?_, ?_, fun _ e => absurd h7 e⟩
  ·unfold outR
   rw [if_pos (.inr h7)]
   exact LSeg.nil' ..
  ·unfold FrN sN
   rw [if_pos h7, if_pos h7]
   exact hc
  ·unfold DN
   rw [if_pos h7]
   exact hd
 ·have hf := hok.f6 h6
  refine (orecR hb hk hno hf rk rt rv hrk hrv ht hn).mono ?_
  rintro e w' ⟨rfl, hb', F', X', hk', hft, hno', hc⟩
  refine ⟨_, fun i => i = O ∨ F' i, X', d, rfl, ?_, .inr (.inr ⟨h6, K, s, F', hb', hk', hno', fun _ => Iff.rfl⟩), hft.fo' hF (fun _ => Iff.rfl), ?_, ?_, fun e _ => absurd h6 e⟩
  ·unfold outR
   rw [if_pos (.inl h6)]
   exact LSeg.nil' ..
  ·unfold FrN sN
   rw [if_neg (by omega), if_pos h6, if_neg (by omega)]
   exact hc
  ·unfold DN
   rw [if_neg (by omega)]
def MarkPost (W : World) (nd : J.Nd) (O n : Nat) (F : Nat → Prop) (X : List Pn) (g d m : Int) (e : Ending) (w' : World) : Prop :=
 ∃ u F', e = .returned u ∧ LSeg 3 Rc.cs w'.heap.size w' u (outMk nd g m X) ∧ OpAt w' nd O n F' (leftMk nd g m X) (max g m) d ∧ FT F F' W w' ∧ ∀ q, u.ownBlock = some q → W.heap.size ≤ q
theorem OpAt.mark {W : World} {nd : J.Nd} {O n : Nat} {F : Nat → Prop} {X : List Pn} {g d : Int} (h : OpAt W nd O n F X g d) (hn : n ≤ 70000) (m : Int) : Calls Tryz.prog 16 #[.pointer (some ⟨O, 0, none⟩), .int .i64 m] W (MarkPost W nd O n F X g d m) := by
 have hlen := h.len
 have hol := outMk_len nd g m X
 unfold MarkPost
 rcases h with ⟨h6, h7, ⟨e', so, hw, hF⟩, rfl, rfl⟩ | ⟨h7, K, s, Fk, hb, hk, hno, hF⟩ | ⟨h6, K, s, Fk, hb, hk, hno, hF⟩
 ·refine (so.mark m).mono ?_
  rintro e w' ⟨rfl, hbel⟩
  refine ⟨_, F, rfl, ?_, .inl ⟨h6, h7, ⟨e', so.below hbel, hw, hF⟩, ?_, rfl⟩, FT.of_below hbel, fun q e => by cases e⟩
  ·unfold outMk
   rw [if_neg h7, if_neg h6]
   exact LSeg.nil' ..
  ·unfold leftMk
   rw [if_neg h7, if_neg h6]
 ·refine (omarkW hb hk hno hn m).mono ?_
  rintro e w' ⟨u, F', rfl, ho, hb', hk', hft, hno'⟩
  unfold outMk at hol
  rw [if_pos h7] at hol
  unfold outMk leftMk
  rw [if_pos h7, if_pos h7]
  exact ⟨u, fun i => i = O ∨ F' i, rfl, LSeg.of_own ho (fun _ => rfl) (by omega), .inr (.inl ⟨h7, K, s, F', hb', hk', hno', fun _ => Iff.rfl⟩), hft.fo' hF (fun _ => Iff.rfl), fun q e => ho.at q e⟩
 ·refine (omarkR hb hk hno hn m).mono ?_
  rintro e w' ⟨u, F', rfl, ho, hb', hk', hft, hno'⟩
  unfold outMk at hol
  rw [if_neg (by omega), if_pos h6] at hol
  unfold outMk leftMk
  rw [if_neg (by omega), if_pos h6, if_neg (by omega), if_pos h6]
  exact ⟨u, fun i => i = O ∨ F' i, rfl, LSeg.of_own ho (fun _ => rfl) (by omega), .inr (.inr ⟨h6, K, s, F', hb', hk', hno', fun _ => Iff.rfl⟩), hft.fo' hF (fun _ => Iff.rfl), fun q e => ho.at q e⟩
def PanPost (W : World) (nd : J.Nd) (O n : Nat) (F : Nat → Prop) (X : List Pn) (g d : Int) (e : Ending) (w' : World) : Prop :=
 ∃ u F', e = .returned u ∧ LSeg 4 Pn.cs w'.heap.size w' u (srt X) ∧ (∀ q, u.ownBlock = some q → W.heap.size ≤ q ∧ ¬ F' q) ∧ OpAt w' nd O n F' X g d ∧ FT F F' W w'
theorem OpAt.panes {W : World} {nd : J.Nd} {O n : Nat} {F : Nat → Prop} {X : List Pn} {g d : Int} (h : OpAt W nd O n F X g d) (hn : n ≤ 70000) : Calls Tryz.prog 19 #[.pointer (some ⟨O, 0, none⟩)] W (PanPost W nd O n F X g d) := by
 have hlen := h.len
 have hsl := srt_len X
 unfold PanPost
 rcases h with ⟨h6, h7, ⟨e', so, hw, hF⟩, rfl, rfl⟩ | ⟨h7, K, s, Fk, hb, hk, hno, hF⟩ | ⟨h6, K, s, Fk, hb, hk, hno, hF⟩
 ·refine so.panes.mono ?_
  rintro e w' ⟨rfl, hbel⟩
  exact ⟨_, F, rfl, LSeg.nil' .., (fun q e => by cases e), .inl ⟨h6, h7, ⟨e', so.below hbel, hw, hF⟩, rfl, rfl⟩, FT.of_below hbel⟩
 ·refine (opanW hb hk hno hn).mono ?_
  rintro e w' ⟨u, F', rfl, hr, hb', hk', hft, hno', hq⟩
  exact ⟨u, fun i => i = O ∨ F' i, rfl, hr.seg Pn.cs_len (by omega), fun q e => ⟨hr.at q e, hq q e⟩, .inr (.inl ⟨h7, K, s, F', hb', hk', hno', fun _ => Iff.rfl⟩), hft.fo' hF (fun _ => Iff.rfl)⟩
 ·refine (opanR hb hk hno hn).mono ?_
  rintro e w' ⟨u, F', rfl, hr, hb', hk', hft, hno', hq⟩
  exact ⟨u, fun i => i = O ∨ F' i, rfl, hr.seg Pn.cs_len (by omega), fun q e => ⟨hr.at q e, hq q e⟩, .inr (.inr ⟨h6, K, s, F', hb', hk', hno', fun _ => Iff.rfl⟩), hft.fo' hF (fun _ => Iff.rfl)⟩
def LoadPost (W : World) (nd : J.Nd) (O n : Nat) (F : Nat → Prop) (g d : Int) (L : List Pn) (e : Ending) (w' : World) : Prop :=
 e = .returned (.tuple #[]) ∧ ∃ F' X', OpAt w' nd O n F' X' g d ∧ FT F F' W w' ∧ (nd.kind = 6 ∨ nd.kind = 7 → Comes (sN nd) (jn nd.agg) L X')
theorem OpAt.load {W : World} {nd : J.Nd} {O n : Nat} {F : Nat → Prop} {X : List Pn} {g d : Int} (h : OpAt W nd O n F X g d) {v : Value} {L : List Pn} (hl : LSeg 4 Pn.cs W.heap.size W v L) (hv : ∀ q, v.ownBlock = some q → ¬ F q) (ho : ∀ x ∈ L, PnOk x ∧ (nd.kind = 7 → nd.wk = 3 → x.f < x.t)) (hn : L.length ≤ n) (hn2 : n ≤ 70000) : Calls Tryz.prog 18 #[.pointer (some ⟨O, 0, none⟩), v] W (LoadPost W nd O n F g d L) := by
 unfold LoadPost
 rcases h with ⟨h6, h7, ⟨e', so, hw, hF⟩, rfl, rfl⟩ | ⟨h7, K, s, Fk, hb, hk, hno, hF⟩ | ⟨h6, K, s, Fk, hb, hk, hno, hF⟩
 ·obtain ⟨va, vc, rfl⟩ := hl.shapeOf
  refine (so.load va L.length vc).mono ?_
  rintro e w' ⟨rfl, hbel⟩
  exact ⟨rfl, F, [], .inl ⟨h6, h7, ⟨e', so.below hbel, hw, hF⟩, rfl, rfl⟩, FT.of_below hbel, fun e => by omega⟩
 ·refine (oloadW hb hk hno hl (fun q e e2 => hv q e ((hF q).2 (.inr e2))) (fun x hx => ⟨(ho x hx).1, (ho x hx).2 h7⟩) hn hn2).mono ?_
  rintro e w' ⟨rfl, hb', F', X', hk', hft, hno', hc⟩
  refine ⟨rfl, fun i => i = O ∨ F' i, X', .inr (.inl ⟨h7, K, s, F', hb', hk', hno', fun _ => Iff.rfl⟩), hft.fo' hF (fun _ => Iff.rfl), fun _ => ?_⟩
  unfold sN
  rw [if_pos h7]
  exact hc
 ·refine (oloadR hb hk hno hl (fun q e e2 => hv q e ((hF q).2 (.inr e2))) (fun x hx => ⟨(ho x hx).1, fun e => by omega⟩) hn hn2).mono ?_
  rintro e w' ⟨rfl, hb', F', X', hk', hft, hno', hc⟩
  refine ⟨rfl, fun i => i = O ∨ F' i, X', .inr (.inr ⟨h6, K, s, F', hb', hk', hno', fun _ => Iff.rfl⟩), hft.fo' hF (fun _ => Iff.rfl), fun _ => ?_⟩
  unfold sN
  rw [if_neg (by omega)]
  exact hc
theorem OpAt.late {W : World} {nd : J.Nd} {O n : Nat} {F : Nat → Prop} {X : List Pn} {g d : Int} (h : OpAt W nd O n F X g d) : Calls Tryz.prog 20 #[.pointer (some ⟨O, 0, none⟩)] W fun e w' => e = .returned (.int .i64 d) ∧ Below W.heap.size W w' := by
 rcases h with ⟨h6, h7, ⟨e', so, hw, hF⟩, rfl, rfl⟩ | ⟨h7, K, s, Fk, hb, hk, hno, hF⟩ | ⟨h6, K, s, Fk, hb, hk, hno, hF⟩
 ·exact so.late
 ·refine (olateW hb hk hno).mono ?_
  rintro e w' ⟨rfl, rfl⟩
  exact ⟨rfl, Below.refl _ _⟩
 ·refine (olateR hb hk hno).mono ?_
  rintro e w' ⟨rfl, rfl⟩
  exact ⟨rfl, Below.refl _ _⟩
theorem New_op {w : World} {nd : J.Nd} (hin : J.In w nd.e) (hok : NdOk nd) : Calls Tryz.prog 10 #[nd.val] w fun r w' => ∃ O F, r = .returned (.pointer (some ⟨O, 0, none⟩)) ∧ OpAt w' nd O 0 F [] (-9223372036854775808) 0 ∧ (∀ i, F i → w.heap.size ≤ i) ∧ Below w.heap.size w w' := by
 by_cases h7 : nd.kind = 7
 ·obtain ⟨kind, ia, ic, ins, par, ⟨op, nn, ea, ec, el⟩, ag, k, size, slide⟩ := nd
  simp only at h7
  subst h7
  refine (New_win w ia ins.length ic par op nn ea el.length ec k size slide ag).mono ?_
  rintro r w' ⟨O, K, s, fp, rfl, ow, hf, hb⟩
  refine ⟨O, fun i => i = O ∨ FK K (.slice none 0 0) fp i, rfl, .inr (.inl ⟨rfl, K, s, FK K (.slice none 0 0) fp, ow.ob, ⟨fp, [], [], _, ⟨ow.kb, .inl rfl, ow.sa, Row.nil _ _ _ _ _, ow.nk, (fun q e => by cases e), (fun x hx => by cases hx), fun _ => rfl⟩, ⟨Comes.nil, List.Pairwise.nil, Nat.zero_le _, (fun _ x hx => by cases hx), fun _ => rfl⟩, fun _ => Iff.rfl⟩, ?_, fun _ => Iff.rfl⟩), fun i hi => ?_, hb⟩
  ·rintro (e | e | e)
   ·exact ow.nok e
   ·cases e
   ·exact ow.no e
  ·rcases hi with rfl | rfl | e | e
   ·exact hf _ (.inl rfl)
   ·exact hf _ (.inr (.inl rfl))
   ·cases e
   ·exact hf i (.inr (.inr e))
 ·by_cases h6 : nd.kind = 6
  ·obtain ⟨kind, ia, ic, ins, par, ⟨op, nn, ea, ec, el⟩, ag, k, size, slide⟩ := nd
   simp only at h6
   subst h6
   refine (New_red w ia ins.length ic par op nn ea el.length ec k size slide ag).mono ?_
   rintro r w' ⟨O, K, s, fp, rfl, ob, kb, sa, no, nk, hf, hb⟩
   refine ⟨O, fun i => i = O ∨ FK K (.slice none 0 0) fp i, rfl, .inr (.inr ⟨rfl, K, s, FK K (.slice none 0 0) fp, ob, ⟨fp, [], [], _, ⟨kb, .inr rfl, sa, Row.nil _ _ _ _ _, nk, (fun q e => by cases e), (fun x hx => by cases hx), fun _ => rfl⟩, ⟨Comes.nil, List.Pairwise.nil, Nat.zero_le _, (fun _ x hx => by cases hx), fun _ => rfl⟩, fun _ => Iff.rfl⟩, ?_, fun _ => Iff.rfl⟩), fun i hi => ?_, hb⟩
   ·rintro (e | e | e)
    ·exact BoxT.ne' ob kb (by decide) e
    ·cases e
    ·exact no e
   ·rcases hi with rfl | rfl | e | e
    ·exact hf _ (.inl rfl)
    ·exact hf _ (.inr (.inl rfl))
    ·cases e
    ·exact hf i (.inr (.inr e))
  ·refine (New_st hin hok.few ⟨h6, h7⟩).mono ?_
   rintro r w' ⟨O, e', rfl, so, hw, hO, hfar, hb⟩
   exact ⟨O, FS O e', rfl, .inl ⟨h6, h7, ⟨e', so, hw, fun _ => Iff.rfl⟩, rfl, rfl⟩, FS.new hO hfar, hb⟩
end Go.Proofs.YtpcbhcdpegbfjaaGreat
/-
 Two operators of one node side by side.
-/
namespace Go.Proofs.YtpcbhcdpegbfjaaGreat
open Go.RowKit
theorem lseg_nil {α : Type} {sz : Nat} {cs : α → List Value} {B B' : Nat} {w w' : World} {v : Value} {xs : List α} (h : LSeg sz cs B w v xs) (hx : xs = []) : LSeg sz cs B' w' v xs := by
 obtain ⟨ao, cap, e, h2, _⟩ := h
 exact ⟨ao, cap, e, h2, .inl hx⟩
structure HW (w W : World) (nd : J.Nd) (O1 O2 n : Nat) (F1 F2 : Nat → Prop) (X1 X2 : List Pn) (g1 g2 d1 d2 : Int) : Prop where
 a : OpAt W nd O1 n F1 X1 g1 d1
 b : OpAt W nd O2 n F2 X2 g2 d2
 ap : ∀ i, F1 i → ¬ F2 i
 f1 : ∀ i, F1 i → w.heap.size ≤ i
 f2 : ∀ i, F2 i → w.heap.size ≤ i
 bl : Below w.heap.size w W
section
variable {w W W' : World} {nd : J.Nd} {O1 O2 n : Nat} {F1 F2 : Nat → Prop} {X1 X2 : List Pn} {g1 g2 d1 d2 : Int}
theorem HW.below (h : HW w W nd O1 O2 n F1 F2 X1 X2 g1 g2 d1 d2) (hb : Below W.heap.size W W') : HW w W' nd O1 O2 n F1 F2 X1 X2 g1 g2 d1 d2 :=
 ⟨h.a.below hb, h.b.below hb, h.ap, h.f1, h.f2, h.bl.trans (hb.mono h.bl.size)⟩
theorem HW.turnA {F' : Nat → Prop} {X' : List Pn} {n' : Nat} {g' d' : Int} (h : HW w W nd O1 O2 n F1 F2 X1 X2 g1 g2 d1 d2) (ha : OpAt W' nd O1 n' F' X' g' d') (hn : n ≤ n') (hf : FT F1 F' W W') : HW w W' nd O1 O2 n' F' F2 X' X2 g' g2 d' d2 :=
 ⟨ha, (h.b.beside hf (fun i h2 h1 => h.ap i h1 h2)).more hn, fun i h1 h2 => by
  rcases hf.sub i h1 with e | e
  ·exact h.ap i e h2
  ·have := h.b.flt i h2; omega, fun i h1 => by
  rcases hf.sub i h1 with e | e
  ·exact h.f1 i e
  ·have := h.bl.size; omega, h.f2, h.bl.trans (hf.below h.bl.size h.f1)⟩
theorem HW.turnB {F' : Nat → Prop} {X' : List Pn} {n' : Nat} {g' d' : Int} (h : HW w W nd O1 O2 n F1 F2 X1 X2 g1 g2 d1 d2) (hb : OpAt W' nd O2 n' F' X' g' d') (hn : n ≤ n') (hf : FT F2 F' W W') : HW w W' nd O1 O2 n' F1 F' X1 X' g1 g' d1 d' :=
 ⟨(h.a.beside hf h.ap).more hn, hb, fun i h1 h2 => by
  rcases hf.sub i h2 with e | e
  ·exact h.ap i h1 e
  ·have := h.a.flt i h1; omega, h.f1, fun i h2 => by
  rcases hf.sub i h2 with e | e
  ·exact h.f2 i e
  ·have := h.bl.size; omega, h.bl.trans (hf.below h.bl.size h.f2)⟩
theorem HW.recA (h : HW w W nd O1 O2 n F1 F2 X1 X2 g1 g2 d1 d2) (hok : NdOk nd) (r : Rc) (hrk : In64 r.k) (hrv : In64 r.v) (ht : TimeOk r.t) (hn : n ≤ 70000) : Calls Tryz.prog 14 #[.pointer (some ⟨O1, 0, none⟩), .agg #[.int .i64 r.k, .int .i64 r.t, .int .i64 r.v]] W fun e w' => ∃ u F' X' d', e = .returned u ∧ LSeg 3 Rc.cs w'.heap.size w' u (outR nd r) ∧ HW w w' nd O1 O2 (n + 64) F' F2 X' X2 g1 g2 d' d2 ∧ Comes (sN nd) (jn nd.agg) (FrN nd g1 r ++ X1) X' := by
 refine (h.a.record hok r hrk hrv ht hn).mono ?_
 rintro e w' ⟨u, F', X', d', rfl, hl, ho, hf, hc, _, _⟩
 exact ⟨u, F', X', d', rfl, hl, h.turnA ho (by omega) hf, hc⟩
theorem HW.recB (h : HW w W nd O1 O2 n F1 F2 X1 X2 g1 g2 d1 d2) (hok : NdOk nd) (r : Rc) (hrk : In64 r.k) (hrv : In64 r.v) (ht : TimeOk r.t) (hn : n ≤ 70000) {v : Value} (hx : LSeg 3 Rc.cs W.heap.size W v (outR nd r)) : Calls Tryz.prog 14 #[.pointer (some ⟨O2, 0, none⟩), .agg #[.int .i64 r.k, .int .i64 r.t, .int .i64 r.v]] W fun e w' => ∃ u F' X' d', e = .returned u ∧ LSeg 3 Rc.cs w'.heap.size w' u (outR nd r) ∧ LSeg 3 Rc.cs w'.heap.size w' v (outR nd r) ∧ HW w w' nd O1 O2 (n + 64) F1 F' X1 X' g1 g2 d1 d' ∧ Comes (sN nd) (jn nd.agg) (FrN nd g2 r ++ X2) X' := by
 refine (h.b.record hok r hrk hrv ht hn).mono ?_
 rintro e w' ⟨u, F', X', d', rfl, hl, ho, hf, hc, _, hs⟩
 refine ⟨u, F', X', d', rfl, hl, ?_, h.turnB ho (by omega) hf, hc⟩
 by_cases hk : nd.kind = 6 ∨ nd.kind = 7
 ·exact lseg_nil hx (by unfold outR; rw [if_pos hk])
 ·have hb := hs (fun e => hk (.inl e)) (fun e => hk (.inr e))
  exact (hx.below hb).mono hb.size
theorem HW.more {n' : Nat} (h : HW w W nd O1 O2 n F1 F2 X1 X2 g1 g2 d1 d2) (hn : n ≤ n') : HW w W nd O1 O2 n' F1 F2 X1 X2 g1 g2 d1 d2 := ⟨h.a.more hn, h.b.more hn, h.ap, h.f1, h.f2, h.bl⟩
theorem HW.markA (h : HW w W nd O1 O2 n F1 F2 X1 X2 g1 g2 d1 d2) (hn : n ≤ 70000) (m : Int) : Calls Tryz.prog 16 #[.pointer (some ⟨O1, 0, none⟩), .int .i64 m] W fun e w' => ∃ u F', e = .returned u ∧ LSeg 3 Rc.cs w'.heap.size w' u (outMk nd g1 m X1) ∧ (∀ q, u.ownBlock = some q → ¬ F2 q) ∧ HW w w' nd O1 O2 n F' F2 (leftMk nd g1 m X1) X2 (max g1 m) g2 d1 d2 := by
 refine (h.a.mark hn m).mono ?_
 rintro e w' ⟨u, F', rfl, hl, ho, hf, hq⟩
 exact ⟨u, F', rfl, hl, fun q e e2 => by have := hq q e; have := h.b.flt q e2; omega, h.turnA ho (Nat.le_refl _) hf⟩
theorem HW.markB (h : HW w W nd O1 O2 n F1 F2 X1 X2 g1 g2 d1 d2) (hn : n ≤ 70000) (m : Int) {v : Value} {L : List Rc} (hx : LSeg 3 Rc.cs W.heap.size W v L) (hv : ∀ q, v.ownBlock = some q → ¬ F2 q) : Calls Tryz.prog 16 #[.pointer (some ⟨O2, 0, none⟩), .int .i64 m] W fun e w' => ∃ u F', e = .returned u ∧ LSeg 3 Rc.cs w'.heap.size w' u (outMk nd g2 m X2) ∧ LSeg 3 Rc.cs w'.heap.size w' v L ∧ HW w w' nd O1 O2 n F1 F' X1 (leftMk nd g2 m X2) g1 (max g2 m) d1 d2 := by
 refine (h.b.mark hn m).mono ?_
 rintro e w' ⟨u, F', rfl, hl, ho, hf, hq⟩
 refine ⟨u, F', rfl, hl, ?_, h.turnB ho (Nat.le_refl _) hf⟩
 obtain ⟨ao, cap, rfl, h2, h4⟩ := hx
 refine ⟨ao, cap, rfl, h2, ?_⟩
 rcases h4 with h4 | ⟨b, off, rfl, h6, h7⟩
 ·exact .inl h4
 ·refine .inr ⟨b, off, rfl, by have := hf.size; omega, fun i x hi j u hu => ?_⟩
  have h9 := hf.block b h6 (hv b rfl)
  have h8 := h7 i x hi j u hu
  simp only [World.cell?, h9] at *
  exact h8
theorem HW.panA (h : HW w W nd O1 O2 n F1 F2 X1 X2 g1 g2 d1 d2) (hn : n ≤ 70000) : Calls Tryz.prog 19 #[.pointer (some ⟨O1, 0, none⟩)] W fun e w' => ∃ u F', e = .returned u ∧ LSeg 4 Pn.cs w'.heap.size w' u (srt X1) ∧ (∀ q, u.ownBlock = some q → ¬ F2 q) ∧ HW w w' nd O1 O2 n F' F2 X1 X2 g1 g2 d1 d2 := by
 refine (h.a.panes hn).mono ?_
 rintro e w' ⟨u, F', rfl, hl, hq, ho, hf⟩
 exact ⟨u, F', rfl, hl, fun q e e2 => by have := (hq q e).1; have := h.b.flt q e2; omega, h.turnA ho (Nat.le_refl _) hf⟩
end
theorem OpAt.nil {W : World} {nd : J.Nd} {O n : Nat} {F : Nat → Prop} {X : List Pn} {g d : Int} (h : OpAt W nd O n F X g d) (h6 : nd.kind ≠ 6) (h7 : nd.kind ≠ 7) : X = [] := by
 rcases h with ⟨_, _, _, e, _⟩ | ⟨e, _⟩ | ⟨e, _⟩
 ·exact e
 ·exact absurd e h7
 ·exact absurd e h6
end Go.Proofs.YtpcbhcdpegbfjaaGreat
/-
 The program's operator and the document's.
-/
namespace Go.Proofs.YtpcbhcdpegbfjaaGreat
open Go.RowKit
structure NdD (nd : J.Nd) : Prop where
 ok : NdOk nd
 kd : 1 ≤ nd.kind ∧ nd.kind ≤ 8
 ck : nd.kind = 2 ∨ nd.kind = 3 ∨ nd.kind = 4 → J.chk nd.e = 0
theorem NdD.of {nd : J.Nd} (h : nd.kind ≠ 1 → nd.kind ≠ 8 → J.FtO nd) : NdD nd := by
 refine ⟨NdOk.of h, ?_, fun e => ?_⟩
 ·by_cases h1 : nd.kind = 1
  ·omega
  ·by_cases h8 : nd.kind = 8
   ·omega
   ·obtain ⟨_, a, c, a2, c2, ck⟩ := h h1 h8
    have h2 := ck.lt.ck (J.nMid nd a c) (by simp)
    unfold J.ckE J.ckN at h2
    by_cases h3 : (J.nMid nd a c).kind < 1 ∨ 8 < (J.nMid nd a c).kind
    ·rw [if_pos h3] at h2; cases h2
    ·have h4 : ¬ (nd.kind < 1 ∨ 8 < nd.kind) := h3
     omega
 ·obtain ⟨_, a, c, a2, c2, ck⟩ := h (by omega) (by omega)
  have h2 := ck.lt.ck (J.nMid nd a c) (by simp)
  exact J.ck_expr (n := J.nMid nd a c) h2 (by show 2 ≤ nd.kind ∧ nd.kind ≤ 4; omega)
structure QB (w W : World) (nd : J.Nd) (O n : Nat) (F : Nat → Prop) (X : List Pn) (g1 d1 : Int) (o : Nat) (lv : Value) (l : List Pn) (g2 d2 : Int) (tb xb : Nat) (xc : Array Value) : Prop where
 a : OpAt W nd O n F X g1 d1
 b : DOp W o nd lv l g2 d2
 no : ¬ F o
 nl : l ≠ [] → ∀ q, lv.ownBlock = some q → ¬ F q
 f1 : ∀ i, F i → w.heap.size ≤ i
 f2 : w.heap.size ≤ o
 bx : BoxT tb W xb xc
 nx : ¬ F xb ∧ xb ≠ o
 bl : Below w.heap.size w W
section
variable {w W W' : World} {nd : J.Nd} {O n : Nat} {F : Nat → Prop} {X : List Pn} {g1 d1 : Int} {o : Nat} {lv : Value} {l : List Pn} {g2 d2 : Int} {tb xb : Nat} {xc : Array Value}
theorem QB.below (h : QB w W nd O n F X g1 d1 o lv l g2 d2 tb xb xc) (hb : Below W.heap.size W W') : QB w W' nd O n F X g1 d1 o lv l g2 d2 tb xb xc :=
 ⟨h.a.below hb, h.b.below hb, h.no, h.nl, h.f1, h.f2, h.bx.below hb, h.nx, h.bl.trans (hb.mono h.bl.size)⟩
theorem QB.box (h : QB w W nd O n F X g1 d1 o lv l g2 d2 tb xb xc) (t : Nat) (cs : Array Value) : QB w (W.alloc (.cells cs t)) nd O n F X g1 d1 o lv l g2 d2 t W.heap.size cs := by
 have hb := below_box W (.cells cs t)
 exact ⟨h.a.below hb, h.b.below hb, h.no, h.nl, h.f1, h.f2, BoxT.new t W cs, ⟨fun e => by have := h.a.flt _ e; omega, fun e => by have := h.b.box.lt; omega⟩, h.bl.trans (hb.mono h.bl.size)⟩
theorem DOp.seg_in (h : DOp W o nd lv l g2 d2) (hne : l ≠ []) : ∀ q, lv.ownBlock = some q → q < W.heap.size := fun q e => by
 obtain ⟨ao, cap, rfl, _, h4⟩ := h.seg
 rcases h4 with h4 | ⟨b, off, rfl, h6, _⟩
 ·exact absurd h4 hne
 ·cases e; exact h6
theorem QB.turnA {F' : Nat → Prop} {X' : List Pn} {n' : Nat} {g' d' : Int} (h : QB w W nd O n F X g1 d1 o lv l g2 d2 tb xb xc) (ha : OpAt W' nd O n' F' X' g' d') (hf : FT F F' W W') : QB w W' nd O n' F' X' g' d' o lv l g2 d2 tb xb xc := by
 have hin : ∀ i, i < W.heap.size → ¬ F i → ¬ F' i := fun i hi hn e => by
  rcases hf.sub i e with e2 | e2
  ·exact hn e2
  ·omega
 exact ⟨ha, ⟨h.b.box.back' (hf.block o h.b.box.lt h.no), lsegB h.b.seg (fun hne b e => hf.block b (h.b.seg_in hne b e) (h.nl hne b e)) hf.size, h.b.off⟩, hin o h.b.box.lt h.no, fun hne q e => hin q (h.b.seg_in hne q e) (h.nl hne q e), fun i hi => by
  rcases hf.sub i hi with e | e
  ·exact h.f1 i e
  ·have := h.bl.size; omega, h.f2, h.bx.back' (hf.block xb h.bx.lt h.nx.1), ⟨hin xb h.bx.lt h.nx.1, h.nx.2⟩, h.bl.trans (hf.below h.bl.size h.f1)⟩
theorem QB.turnB {lv' : Value} {l' : List Pn} {g' d' : Int} (h : QB w W nd O n F X g1 d1 o lv l g2 d2 tb xb xc) (hb : DOp W' o nd lv' l' g' d') (hf : FT (at1 o) (at1 o) W W') (hn : Nw W lv lv') (hl : lv' = lv → l' ≠ [] → l ≠ []) : QB w W' nd O n F X g1 d1 o lv' l' g' d' tb xb xc := by
 refine ⟨h.a.beside hf (fun i hi e => h.no (by have e2 : i = o := e; rw [← e2]; exact hi)), hb, h.no, fun hne q e => ?_, h.f1, h.f2, h.bx.back' (hf.block xb h.bx.lt (fun e => h.nx.2 e)), h.nx, h.bl.trans (hf.below h.bl.size (fun i e => by have e2 : i = o := e; rw [e2]; exact h.f2))⟩
 rcases hn with e2 | e2
 ·subst e2
  exact h.nl (hl rfl hne) q e
 ·intro e3
  have := e2 q e; have := h.a.flt q e3; omega
end
theorem outR_eq {nd : J.Nd} (h : NdD nd) (r : Rc) (hk : nd.kind = 2 ∨ nd.kind = 3 ∨ nd.kind = 4) : outR nd r = if nd.kind = 2 then [⟨r.k, r.t, J.evl ⟨r.k, r.t, r.v⟩ nd.e⟩] else if nd.kind = 3 then (if J.evl ⟨r.k, r.t, r.v⟩ nd.e = 0 then [] else [⟨r.k, r.t, r.v⟩]) else [⟨J.evl ⟨r.k, r.t, r.v⟩ nd.e, r.t, r.v⟩] := by
 have hw : wth nd.e r.k r.t r.v = J.evl ⟨r.k, r.t, r.v⟩ nd.e := by unfold wth; rw [if_pos (h.ck hk)]
 unfold outR rsO
 rw [if_neg (by omega), hw]
 rcases hk with e | e | e <;> rw [e] <;> simp [kdO]
theorem outR_pas {nd : J.Nd} (r : Rc) (hk : nd.kind = 1 ∨ nd.kind = 5 ∨ nd.kind = 8) : outR nd r = [r] := by
 unfold outR rsO
 rw [if_neg (by omega)]
 rcases hk with e | e | e <;> rw [e] <;> simp [kdO]
def RdPost (W : World) (nd : J.Nd) (o : Nat) (lv : Value) (l : List Pn) (g d : Int) (r : Rc) (e : Ending) (w' : World) : Prop := ∃ u lv' l' d', e = .returned u ∧ LSeg 3 Rc.cs w'.heap.size w' u (outR nd r) ∧ DOp w' o nd lv' l' g d' ∧ FT (at1 o) (at1 o) W w' ∧ Nw W lv lv' ∧ (lv' = lv → l' ≠ [] → l ≠ []) ∧ Comes (sN nd) (jn nd.agg) (FrN nd g r ++ l) l' ∧ DN nd g r.t d d' ∧ (nd.kind ≠ 6 → nd.kind ≠ 7 → Below W.heap.size W w')
theorem Nw.keep {W : World} {lv lv' : Value} {o : Nat} {nd : J.Nd} {l l' : List Pn} {g d g' d' : Int} {w' : World} (h : DOp W o nd lv l g d) (h' : DOp w' o nd lv' l' g' d') (e : lv' = lv) (hne : l' ≠ []) : l ≠ [] := fun hl => by
 obtain ⟨a, c, e1⟩ := h.seg.shapeOf
 obtain ⟨a', c', e2⟩ := h'.seg.shapeOf
 rw [e1, e2] at e
 simp at e
 have : l'.length = l.length := e.2.1
 rw [hl] at this
 exact hne (List.length_eq_zero_iff.1 this)
theorem DOp.record {W : World} {nd : J.Nd} {o : Nat} {lv : Value} {l : List Pn} {g d : Int} (h : DOp W o nd lv l g d) (hd : NdD nd) (hin : J.In W nd.e) (hap : Apart (sN nd) l) (hfu : nd.kind = 7 → nd.wk = 3 → ∀ x ∈ l, Full x) (hs : nd.kind ≠ 6 → nd.kind ≠ 7 → l = []) (r : Rc) (ht : TimeOk r.t) (hn : l.length ≤ 40000) :
  Calls Tryz.prog 15 #[.pointer (some ⟨o, 0, none⟩), .agg #[.int .i64 r.k, .int .i64 r.t, .int .i64 r.v]] W (RdPost W nd o lv l g d r) := by
 obtain ⟨rk, rt, rv⟩ := r
 simp only at ht ⊢
 have hst : ∀ L, (nd.kind ≠ 6 ∧ nd.kind ≠ 7) → L = outR nd ⟨rk, rt, rv⟩ → ∀ e w', RsPost W o nd lv l g d L e w' → RdPost W nd o lv l g d ⟨rk, rt, rv⟩ e w' := fun L hk hL e w' ⟨u, h1, h2, h3, h4⟩ => by
  refine ⟨u, lv, l, d, h1, by rw [← hL]; exact h2, h3, FT.of_below h4, .inl rfl, fun _ hh => hh, ?_, ?_, fun _ _ => h4⟩
  ·unfold FrN
   rw [if_neg hk.2, if_neg hk.1, hs hk.1 hk.2]
   exact Comes.nil
  ·unfold DN
   rw [if_neg hk.2]
 have hk8 := hd.kd
 have hcase : nd.kind = 2 ∨ nd.kind = 3 ∨ nd.kind = 4 ∨ (nd.kind = 1 ∨ nd.kind = 5 ∨ nd.kind = 8) ∨ nd.kind = 6 ∨ nd.kind = 7 := by omega
 rcases hcase with hk | hk | hk | hk | hk | hk
 ·exact (rRecord_map h hk hin (chk_formed (hd.ck (.inl hk))) rk rt rv).mono (hst _ ⟨by omega, by omega⟩ (by rw [outR_eq hd _ (.inl hk), if_pos hk]))
 ·exact (rRecord_flt h hk hin (chk_formed (hd.ck (.inr (.inl hk)))) rk rt rv).mono (hst _ ⟨by omega, by omega⟩ (by rw [outR_eq hd _ (.inr (.inl hk)), if_neg (show ¬ nd.kind = 2 by omega), if_pos hk]))
 ·exact (rRecord_key h hk hin (chk_formed (hd.ck (.inr (.inr hk)))) rk rt rv).mono (hst _ ⟨by omega, by omega⟩ (by rw [outR_eq hd _ (.inr (.inr hk)), if_neg (show ¬ nd.kind = 2 by omega), if_neg (show ¬ nd.kind = 3 by omega)]))
 ·exact (rRecord_pas h hk rk rt rv).mono (hst _ ⟨by omega, by omega⟩ (outR_pas _ hk).symm)
 ·have hsn : sN nd = false := by unfold sN; rw [if_neg (by omega)]
  rw [hsn] at hap
  refine (rRecord_red h hk rk rt rv hn hap).mono ?_
  rintro e w' ⟨rfl, lv', l', h1, h2, h3, h4⟩
  refine ⟨_, lv', l', d, rfl, ?_, h1, h2, h3, fun e hne => Nw.keep h h1 e hne, ?_, ?_, fun e => absurd hk e⟩
  ·unfold outR
   rw [if_pos (.inl hk)]
   exact LSeg.nil' ..
  ·rw [hsn]
   unfold FrN
   rw [if_neg (by omega), if_pos hk]
   exact h4
  ·unfold DN
   rw [if_neg (by omega)]
 ·have hf := hd.ok.f7 hk
  have hsn : sN nd = sess nd.wk := by unfold sN; rw [if_pos hk]
  rw [hsn] at hap
  refine (rRecord_win h hk hf.2 rk rt rv ht hn hap (hfu hk)).mono ?_
  rintro e w' ⟨rfl, lv', l', d', h1, h2, h3, h4, h5⟩
  refine ⟨_, lv', l', d', rfl, ?_, h1, h2, h3, fun e hne => Nw.keep h h1 e hne, ?_, ?_, fun _ e => absurd hk e⟩
  ·unfold outR
   rw [if_pos (.inr hk)]
   exact LSeg.nil' ..
  ·rw [hsn]
   unfold FrN
   rw [if_pos hk]
   exact h4
  ·unfold DN
   rw [if_pos hk]
   exact h5
def outDk (nd : J.Nd) (g m : Int) (l : List Pn) : List Rc := if nd.kind ≠ 6 ∧ nd.kind ≠ 7 then [] else if m ≤ g then [] else if nd.kind = 6 ∧ m ≠ 9223372036854775807 then [] else outF m (srt l)
def leftDk (nd : J.Nd) (g m : Int) (l : List Pn) : List Pn := if nd.kind ≠ 6 ∧ nd.kind ≠ 7 then l else if m ≤ g then l else if nd.kind = 6 ∧ m ≠ 9223372036854775807 then l else leftF m (srt l)
theorem srt_filter (p : Pn → Bool) (X : List Pn) : srt (X.filter p) = (srt X).filter p :=
 (srt_of (((srt_perm X).filter p)) ((srt_rising X).sublist List.filter_sublist)).symm
theorem outF_srt (m : Int) (X : List Pn) : outF m (srt (X.filter (ovr m))) = outF m (srt X) := by
 unfold outF
 rw [srt_filter, List.filter_filter]
 simp
theorem eT_map {L : List Pn} (h : ∀ x ∈ L, x.t = 2199023255553) (m : Int) : (outF m L).map eT = outF m L := by
 unfold outF
 rw [List.map_map]
 refine List.map_congr_left (fun x hx => ?_)
 have := h x (List.mem_filter.1 hx).1
 show eT (rcOf x) = rcOf x
 have h2 : wrap64 (2199023255553 - 1) = 2199023255552 := by unfold wrap64; omega
 unfold eT rcOf
 rw [this, h2]
theorem outDk_eq {nd : J.Nd} {g m : Int} {X l : List Pn} (hp : X.Perm l) (h6 : nd.kind = 6 → ∀ x ∈ X, x.t = 2199023255553) (hw : nd.kind = 7 → nd.wk ≠ 0) : outDk nd g m l = outMk nd g m X := by
 unfold outDk outMk outG outK
 by_cases h7 : nd.kind = 7
 ·rw [if_neg (show ¬ (nd.kind ≠ 6 ∧ nd.kind ≠ 7) by omega), if_pos h7]
  by_cases hm : m ≤ g
  ·rw [if_pos hm, if_pos hm]
  ·rw [if_neg hm, if_neg hm, if_neg (show ¬ (nd.kind = 6 ∧ m ≠ 9223372036854775807) by omega), if_neg (hw h7), outF_srt, srt_eq hp]
 ·by_cases h66 : nd.kind = 6
  ·rw [if_neg (show ¬ (nd.kind ≠ 6 ∧ nd.kind ≠ 7) by omega), if_neg h7, if_pos h66]
   by_cases hm : m ≤ g
   ·rw [if_pos hm, if_pos hm]
   ·rw [if_neg hm, if_neg hm, if_pos (rfl : (0 : Int) = 0)]
    by_cases hx : m = 9223372036854775807
    ·rw [if_neg (show ¬ (nd.kind = 6 ∧ m ≠ 9223372036854775807) by omega), if_pos hx, outF_srt, srt_eq hp, eT_map (fun x hx => h6 h66 x (hp.mem_iff.2 ((srt_perm l).mem_iff.1 hx)))]
    ·rw [if_pos ⟨h66, hx⟩, if_neg hx]
  ·rw [if_pos ⟨h66, h7⟩, if_neg h7, if_neg h66]
theorem leftDk_eq {nd : J.Nd} {g m : Int} {X l : List Pn} (hp : X.Perm l) (hw : nd.kind = 7 → nd.wk ≠ 0) (hs : nd.kind ≠ 6 → nd.kind ≠ 7 → l = []) : (leftMk nd g m X).Perm (leftDk nd g m l) := by
 have hF : ∀ m, (leftF m X).Perm (leftF m (srt l)) := fun m => (hp.trans (srt_perm l).symm).filter _
 unfold leftDk leftMk leftG leftK
 by_cases h7 : nd.kind = 7
 ·rw [if_pos h7, if_neg (show ¬ (nd.kind ≠ 6 ∧ nd.kind ≠ 7) by omega)]
  by_cases hm : m ≤ g
  ·rw [if_pos hm, if_pos hm]; exact hp
  ·rw [if_neg hm, if_neg hm, if_neg (fun h => hw h7 h.1), if_neg (show ¬ (nd.kind = 6 ∧ m ≠ 9223372036854775807) by omega)]; exact hF m
 ·by_cases h66 : nd.kind = 6
  ·rw [if_neg h7, if_pos h66, if_neg (show ¬ (nd.kind ≠ 6 ∧ nd.kind ≠ 7) by omega)]
   by_cases hm : m ≤ g
   ·rw [if_pos hm, if_pos hm]; exact hp
   ·rw [if_neg hm, if_neg hm]
    by_cases hx : m = 9223372036854775807
    ·rw [if_neg (show ¬ ((0 : Int) = 0 ∧ m ≠ 9223372036854775807) by omega), if_neg (show ¬ (nd.kind = 6 ∧ m ≠ 9223372036854775807) by omega)]; exact hF m
    ·rw [if_pos (show (0 : Int) = 0 ∧ m ≠ 9223372036854775807 from ⟨rfl, hx⟩), if_pos ⟨h66, hx⟩]; exact hp
  ·rw [if_neg h7, if_neg h66, if_pos ⟨h66, h7⟩, hs h66 h7]
def MdPost (W : World) (nd : J.Nd) (o : Nat) (lv : Value) (l : List Pn) (g d m : Int) (e : Ending) (w' : World) : Prop := ∃ u lv' g', e = .returned u ∧ LSeg 3 Rc.cs w'.heap.size w' u (outDk nd g m l) ∧ DOp w' o nd lv' (leftDk nd g m l) g' d ∧ (nd.kind = 6 ∨ nd.kind = 7 → g' = max g m) ∧ FT (at1 o) (at1 o) W w' ∧ Nw W lv lv' ∧ (lv' = lv → leftDk nd g m l ≠ [] → l ≠ [])
theorem DOp.mark {W : World} {nd : J.Nd} {o : Nat} {lv : Value} {l : List Pn} {g d : Int} (h : DOp W o nd lv l g d) (hn : l.length ≤ 40000) (m : Int) : Calls Tryz.prog 17 #[.pointer (some ⟨o, 0, none⟩), .int .i64 m] W (MdPost W nd o lv l g d m) := by
 unfold MdPost outDk leftDk
 have hol : (outF m (srt l)).length ≤ 140737488355328 := by
  unfold outF
  rw [List.length_map]
  refine Nat.le_trans (List.length_filter_le _ _) ?_
  rw [srt_len]; omega
 by_cases hk : nd.kind ≠ 6 ∧ nd.kind ≠ 7
 ·refine (rMark_none h m hk).mono ?_
  rintro e w' ⟨rfl, rfl⟩
  rw [if_pos hk, if_pos hk]
  exact ⟨_, lv, g, rfl, LSeg.nil' .., h, fun e => by omega, FT.refl _ _, .inl rfl, fun _ hh => hh⟩
 ·have hk2 : nd.kind = 6 ∨ nd.kind = 7 := by omega
  rw [if_neg hk, if_neg hk]
  by_cases hm : m ≤ g
  ·refine (rMark_le h m hk2 hm).mono ?_
   rintro e w' ⟨rfl, rfl⟩
   rw [if_pos hm, if_pos hm]
   exact ⟨_, lv, g, rfl, LSeg.nil' .., h, fun _ => by omega, FT.refl _ _, .inl rfl, fun _ hh => hh⟩
  ·rw [if_neg hm, if_neg hm]
   rcases hk2 with h6 | h7
   ·by_cases hx : m = 9223372036854775807
    ·rw [if_neg (by omega), if_neg (by omega)]
     refine (rMark_red h (by omega) m h6 hm hx).mono ?_
     rintro e w' ⟨u, lv', rfl, h1, h2, h3, h4⟩
     exact ⟨u, lv', m, rfl, h1.seg (fun _ => rfl) hol, h2, fun _ => by omega, h3, h4, fun e hne => Nw.keep h h2 e hne⟩
    ·rw [if_pos ⟨h6, hx⟩, if_pos ⟨h6, hx⟩]
     refine (rMark_idle h m h6 hm hx).mono ?_
     rintro e w' ⟨u, lv', rfl, h1, h2, h3, h4⟩
     exact ⟨u, lv', m, rfl, h1.seg (fun _ => rfl) (by simp), h2, fun _ => by omega, h3, h4, fun e hne => Nw.keep h h2 e hne⟩
   ·rw [if_neg (by omega), if_neg (by omega)]
    refine (rMark_win h (by omega) m h7 hm).mono ?_
    rintro e w' ⟨u, lv', rfl, h1, h2, h3, h4⟩
    exact ⟨u, lv', m, rfl, h1.seg (fun _ => rfl) hol, h2, fun _ => by omega, h3, h4, fun e hne => Nw.keep h h2 e hne⟩
end Go.Proofs.YtpcbhcdpegbfjaaGreat
/-
 Both operators of the law OpsPlays, step by step.
-/
namespace Go.Proofs.YtpcbhcdpegbfjaaGreat
open Go.RowKit
theorem comes_t6 {nd : J.Nd} {g : Int} {r : Rc} {X X' : List Pn} (h6 : nd.kind = 6) (hx : ∀ x ∈ X, x.t = 2199023255553) (hc : Comes (sN nd) (jn nd.agg) (FrN nd g r ++ X) X') : ∀ x ∈ X', x.t = 2199023255553 := by
 refine hc.1.keeps (P := fun x => x.t = 2199023255553) (fun x y _ h1 h2 => ?_) (fun x hx' => ?_)
 ·show max x.t y.t = 2199023255553
  have h1 : x.t = 2199023255553 := h1
  have h2 : y.t = 2199023255553 := h2
  omega
 ·rcases List.mem_append.1 hx' with e | e
  ·unfold FrN frS sps at e
   rw [if_neg (by omega), if_pos h6] at e
   simp at e
   rw [e]
  ·exact hx x e
theorem leftMk_sub {nd : J.Nd} {g m : Int} {X : List Pn} : ∀ x ∈ leftMk nd g m X, x ∈ X ∨ (nd.kind ≠ 6 ∧ nd.kind ≠ 7) := by
 intro x hx
 unfold leftMk leftG leftK leftF at hx
 by_cases h7 : nd.kind = 7
 ·rw [if_pos h7] at hx
  left
  split at hx
  ·exact hx
  ·split at hx
   ·exact hx
   ·exact (List.mem_filter.1 hx).1
 ·rw [if_neg h7] at hx
  by_cases h6 : nd.kind = 6
  ·rw [if_pos h6] at hx
   left
   split at hx
   ·exact hx
   ·split at hx
    ·exact hx
    ·exact (List.mem_filter.1 hx).1
  ·exact .inr ⟨h6, h7⟩
theorem outDk_g {nd : J.Nd} {g g2 m : Int} {l : List Pn} (h : nd.kind = 6 ∨ nd.kind = 7 → g2 = g) : outDk nd g2 m l = outDk nd g m l := by
 by_cases hk : nd.kind = 6 ∨ nd.kind = 7
 ·rw [h hk]
 ·unfold outDk
  rw [if_pos (by omega), if_pos (by omega)]
theorem leftDk_g {nd : J.Nd} {g g2 m : Int} {l : List Pn} (h : nd.kind = 6 ∨ nd.kind = 7 → g2 = g) : leftDk nd g2 m l = leftDk nd g m l := by
 by_cases hk : nd.kind = 6 ∨ nd.kind = 7
 ·rw [h hk]
 ·unfold leftDk
  rw [if_pos (by omega), if_pos (by omega)]
theorem FrN_g {nd : J.Nd} {g g2 : Int} {r : Rc} (h : nd.kind = 6 ∨ nd.kind = 7 → g2 = g) : FrN nd g2 r = FrN nd g r := by
 by_cases hk : nd.kind = 6 ∨ nd.kind = 7
 ·rw [h hk]
 ·unfold FrN
  rw [if_neg (by omega), if_neg (by omega), if_neg (by omega)]
theorem DN_one {nd : J.Nd} {g g2 t d a b : Int} (h : nd.kind = 6 ∨ nd.kind = 7 → g2 = g) (h1 : DN nd g t d a) (h2 : DN nd g2 t d b) : b = a := by
 unfold DN at h1 h2
 by_cases h7 : nd.kind = 7
 ·rw [h (.inr h7), if_pos h7] at h2
  rw [if_pos h7] at h1
  rcases h1 with ⟨e1, rfl⟩ | ⟨e1, rfl⟩ <;> rcases h2 with ⟨e2, rfl⟩ | ⟨e2, rfl⟩
  ·rfl
  ·exact absurd e1 e2
  ·exact absurd e2 e1
  ·rfl
 ·rw [if_neg h7] at h1 h2
  rw [h1, h2]
structure QS (w W : World) (nd : J.Nd) (O n : Nat) (F : Nat → Prop) (X : List Pn) (g d : Int) (o : Nat) (lv : Value) (l : List Pn) (g2 : Int) (tb xb : Nat) (xc : Array Value) : Prop where
 q : QB w W nd O n F X g d o lv l g2 d tb xb xc
 pm : X.Perm l
 ge : nd.kind = 6 ∨ nd.kind = 7 → g2 = g
 t6 : nd.kind = 6 → ∀ x ∈ X, x.t = 2199023255553
structure QM (w W : World) (nd : J.Nd) (O n : Nat) (F : Nat → Prop) (X : List Pn) (g d : Int) (o : Nat) (lv : Value) (l : List Pn) (g2 d0 : Int) (tb xb : Nat) (xc : Array Value) (r : Rc) : Prop where
 q : QB w W nd O n F X g d o lv l g2 d0 tb xb xc
 ap : Apart (sN nd) l
 fu : nd.kind = 7 → nd.wk = 3 → ∀ x ∈ l, Full x
 nl : nd.kind ≠ 6 → nd.kind ≠ 7 → l = []
 ln : l.length ≤ 40000
 ge : nd.kind = 6 ∨ nd.kind = 7 → g2 = g
 t6 : nd.kind = 6 → ∀ x ∈ X, x.t = 2199023255553
 cm : Comes (sN nd) (jn nd.agg) (FrN nd g r ++ l) X
 dn : DN nd g r.t d0 d
structure QN (w W : World) (nd : J.Nd) (O n : Nat) (F : Nat → Prop) (X : List Pn) (g d : Int) (o : Nat) (lv : Value) (l : List Pn) (g2 : Int) (tb xb : Nat) (xc : Array Value) (m : Int) : Prop where
 q : QB w W nd O n F (leftMk nd g m X) (max g m) d o lv l g2 d tb xb xc
 pm : X.Perm l
 nl : nd.kind ≠ 6 → nd.kind ≠ 7 → l = []
 ln : l.length ≤ 40000
 ge : nd.kind = 6 ∨ nd.kind = 7 → g2 = g
 t6 : nd.kind = 6 → ∀ x ∈ X, x.t = 2199023255553
section
variable {w W : World} {nd : J.Nd} {O n : Nat} {F : Nat → Prop} {X : List Pn} {g d : Int} {o : Nat} {lv : Value} {l : List Pn} {g2 : Int} {tb xb : Nat} {xc : Array Value}
theorem QS.nl (h : QS w W nd O n F X g d o lv l g2 tb xb xc) : nd.kind ≠ 6 → nd.kind ≠ 7 → l = [] := fun e6 e7 => by
 have h1 := h.pm
 rw [h.q.a.nil e6 e7] at h1
 exact List.nil_perm.1 h1
theorem QS.below {W' : World} (h : QS w W nd O n F X g d o lv l g2 tb xb xc) (hb : Below W.heap.size W W') : QS w W' nd O n F X g d o lv l g2 tb xb xc := ⟨h.q.below hb, h.pm, h.ge, h.t6⟩
theorem QS.box (h : QS w W nd O n F X g d o lv l g2 tb xb xc) (t : Nat) (cs : Array Value) : QS w (W.alloc (.cells cs t)) nd O n F X g d o lv l g2 t W.heap.size cs := ⟨h.q.box t cs, h.pm, h.ge, h.t6⟩
theorem QM.below {W' : World} {d0 : Int} {r : Rc} (h : QM w W nd O n F X g d o lv l g2 d0 tb xb xc r) (hb : Below W.heap.size W W') : QM w W' nd O n F X g d o lv l g2 d0 tb xb xc r := ⟨h.q.below hb, h.ap, h.fu, h.nl, h.ln, h.ge, h.t6, h.cm, h.dn⟩
theorem QS.more {n' : Nat} (h : QS w W nd O n F X g d o lv l g2 tb xb xc) (hn : n ≤ n') : QS w W nd O n' F X g d o lv l g2 tb xb xc := ⟨⟨h.q.a.more hn, h.q.b, h.q.no, h.q.nl, h.q.f1, h.q.f2, h.q.bx, h.q.nx, h.q.bl⟩, h.pm, h.ge, h.t6⟩
theorem QS.recA (h : QS w W nd O n F X g d o lv l g2 tb xb xc) (hd : NdD nd) (r : Rc) (hrk : In64 r.k) (hrv : In64 r.v) (ht : TimeOk r.t) (hn : n ≤ 40000) : Calls Tryz.prog 14 #[.pointer (some ⟨O, 0, none⟩), .agg #[.int .i64 r.k, .int .i64 r.t, .int .i64 r.v]] W fun e w' => ∃ u F' X' d', e = .returned u ∧ LSeg 3 Rc.cs w'.heap.size w' u (outR nd r) ∧ QM w w' nd O (n + 64) F' X' g d' o lv l g2 d tb xb xc r := by
 refine (h.q.a.record hd.ok r hrk hrv ht (by omega)).mono ?_
 rintro e w' ⟨u, F', X', d', rfl, hl, ho, hf, hc, hdn, _⟩
 exact ⟨u, F', X', d', rfl, hl, h.q.turnA ho hf, h.q.a.apart.perm h.pm, fun h7 h3 x hx => (h.q.a.okX x (h.pm.mem_iff.2 hx)).2 h7 h3, h.nl, by rw [← h.pm.length_eq]; exact Nat.le_trans h.q.a.len hn, h.ge, fun h6 => comes_t6 h6 (h.t6 h6) hc, hc.perm ((List.Perm.refl _).append h.pm) (.refl _), hdn⟩
theorem QM.recB {d0 : Int} {r : Rc} (h : QM w W nd O n F X g d o lv l g2 d0 tb xb xc r) (hd : NdD nd) (hE : J.In w nd.e) (ht : TimeOk r.t) {v : Value} (hx : LSeg 3 Rc.cs W.heap.size W v (outR nd r)) : Calls Tryz.prog 15 #[.pointer (some ⟨o, 0, none⟩), .agg #[.int .i64 r.k, .int .i64 r.t, .int .i64 r.v]] W fun e w' => ∃ u lv' l', e = .returned u ∧ LSeg 3 Rc.cs w'.heap.size w' u (outR nd r) ∧ LSeg 3 Rc.cs w'.heap.size w' v (outR nd r) ∧ QS w w' nd O n F X g d o lv' l' g2 tb xb xc := by
 refine (h.q.b.record hd (hE.below h.q.bl) h.ap h.fu h.nl r ht h.ln).mono ?_
 rintro e w' ⟨u, lv', l', d2, rfl, hl, hb, hf, hnw, hlv, hc, hdn, hbl⟩
 have hde := DN_one h.ge h.dn hdn
 subst hde
 rw [FrN_g h.ge] at hc
 refine ⟨u, lv', l', rfl, hl, ?_, h.q.turnB hb hf hnw hlv, Comes.unique (jn_comm _) (jn_assoc _) h.cm hc, h.ge, h.t6⟩
 by_cases hk : nd.kind = 6 ∨ nd.kind = 7
 ·exact lseg_nil hx (by unfold outR; rw [if_pos hk])
 ·have hb2 := hbl (fun e => hk (.inl e)) (fun e => hk (.inr e))
  exact (hx.below hb2).mono hb2.size
theorem QS.markA (h : QS w W nd O n F X g d o lv l g2 tb xb xc) (hn : n ≤ 40000) (m : Int) : Calls Tryz.prog 16 #[.pointer (some ⟨O, 0, none⟩), .int .i64 m] W fun e w' => ∃ u F', e = .returned u ∧ LSeg 3 Rc.cs w'.heap.size w' u (outMk nd g m X) ∧ (∀ q, u.ownBlock = some q → q ≠ o) ∧ QN w w' nd O n F' X g d o lv l g2 tb xb xc m := by
 refine (h.q.a.mark (by omega) m).mono ?_
 rintro e w' ⟨u, F', rfl, hl, ho, hf, hq⟩
 exact ⟨u, F', rfl, hl, fun q e e2 => by have := hq q e; have := h.q.b.box.lt; omega, h.q.turnA ho hf, h.pm, h.nl, by rw [← h.pm.length_eq]; exact Nat.le_trans h.q.a.len hn, h.ge, h.t6⟩
theorem QN.markB {m : Int} (h : QN w W nd O n F X g d o lv l g2 tb xb xc m) (hd : NdD nd) {v : Value} {L : List Rc} (hx : LSeg 3 Rc.cs W.heap.size W v L) (hv : ∀ q, v.ownBlock = some q → q ≠ o) : Calls Tryz.prog 17 #[.pointer (some ⟨o, 0, none⟩), .int .i64 m] W fun e w' => ∃ u lv' l' g2', e = .returned u ∧ LSeg 3 Rc.cs w'.heap.size w' u (outMk nd g m X) ∧ LSeg 3 Rc.cs w'.heap.size w' v L ∧ QS w w' nd O n F (leftMk nd g m X) (max g m) d o lv' l' g2' tb xb xc := by
 have hw : nd.kind = 7 → nd.wk ≠ 0 := fun e => by have := (hd.ok.f7 e).2.1; omega
 refine (h.q.b.mark h.ln m).mono ?_
 rintro e w' ⟨u, lv', g', rfl, hl, hb, hg, hf, hnw, hlv⟩
 rw [outDk_g h.ge, outDk_eq h.pm h.t6 hw] at hl
 rw [leftDk_g h.ge] at hb hlv
 refine ⟨u, lv', _, g', rfl, hl, ?_, h.q.turnB hb hf hnw hlv, leftDk_eq h.pm hw h.nl, fun hk => by rw [hg hk, h.ge hk], fun h6 x hx => ?_⟩
 ·obtain ⟨ao, cap, rfl, h2, h4⟩ := hx
  refine ⟨ao, cap, rfl, h2, ?_⟩
  rcases h4 with h4 | ⟨b, off, rfl, h6, h7⟩
  ·exact .inl h4
  ·refine .inr ⟨b, off, rfl, by have := hf.size; omega, fun i x hi j u hu => ?_⟩
   have h9 := hf.block b h6 (hv b rfl)
   have h8 := h7 i x hi j u hu
   simp only [World.cell?, h9] at *
   exact h8
 ·rcases leftMk_sub x hx with e | e
  ·exact h.t6 h6 x e
  ·exact absurd h6 e.1
theorem QS.panA (h : QS w W nd O n F X g d o lv l g2 tb xb xc) (hn : n ≤ 40000) : Calls Tryz.prog 19 #[.pointer (some ⟨O, 0, none⟩)] W fun e w' => ∃ u F', e = .returned u ∧ LSeg 4 Pn.cs w'.heap.size w' u (srt X) ∧ (∀ q, u.ownBlock = some q → ¬ F' q) ∧ QS w w' nd O n F' X g d o lv l g2 tb xb xc := by
 refine (h.q.a.panes (by omega)).mono ?_
 rintro e w' ⟨u, F', rfl, hl, hq, ho, hf⟩
 exact ⟨u, F', rfl, hl, fun q e => (hq q e).2, h.q.turnA ho hf, h.pm, h.ge, h.t6⟩
theorem QS.loadA (h : QS w W nd O n F X g d o lv l g2 tb xb xc) (hn : n ≤ 40000) {v : Value} (hx : LSeg 4 Pn.cs W.heap.size W v (srt X)) (hv : ∀ q, v.ownBlock = some q → ¬ F q) : Calls Tryz.prog 18 #[.pointer (some ⟨O, 0, none⟩), v] W fun e w' => e = .returned (.tuple #[]) ∧ ∃ F' X', QS w w' nd O n F' X' g d o lv l g2 tb xb xc := by
 have hp := srt_perm X
 refine (h.q.a.load hx hv (fun x hx => h.q.a.okX x (hp.mem_iff.1 hx)) (by rw [srt_len]; exact h.q.a.len) (by omega)).mono ?_
 rintro e w' ⟨rfl, F', X', ho, hf, hc⟩
 have hXX : X.Perm X' := by
  by_cases hk : nd.kind = 6 ∨ nd.kind = 7
  ·exact hp.symm.trans ((hc hk).self (h.q.a.apart.perm hp.symm))
  ·rw [h.q.a.nil (fun e => hk (.inl e)) (fun e => hk (.inr e)), ho.nil (fun e => hk (.inl e)) (fun e => hk (.inr e))]
 exact ⟨rfl, F', X', h.q.turnA ho hf, hXX.symm.trans h.pm, h.ge, fun h6 x hx => h.t6 h6 x (hXX.mem_iff.2 hx)⟩
theorem QS.late (h : QS w W nd O n F X g d o lv l g2 tb xb xc) : Calls Tryz.prog 20 #[.pointer (some ⟨O, 0, none⟩)] W fun e w' => e = .returned (.int .i64 d) ∧ Below W.heap.size W w' := h.q.a.late
theorem QS.sortB (h : QS w W nd O n F X g d o lv l g2 tb xb xc) (hn : n ≤ 40000) : Calls Tryz.prog 22 #[lv] W fun e w' => ∃ u, e = .returned u ∧ LSeg 4 Pn.cs w'.heap.size w' u (srt X) ∧ Below W.heap.size W w' := by
 refine (rSort_any h.q.b.seg (by rw [← h.pm.length_eq]; have := h.q.a.len; omega)).mono ?_
 rintro e w' ⟨u, rfl, hu, hb⟩
 refine ⟨u, rfl, ?_, hb⟩
 rw [srt_eq h.pm]
 exact hu.seg (fun _ => rfl) (by rw [srt_len, ← h.pm.length_eq]; have := h.q.a.len; omega)
end
end Go.Proofs.YtpcbhcdpegbfjaaGreat
