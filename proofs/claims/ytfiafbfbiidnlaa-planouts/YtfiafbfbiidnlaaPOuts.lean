/-
  Outs and fed.
-/
import Derived.Test.YtfiafbfbiidnlaaPFrom
namespace Go.Proofs.Ytfiafbfbiidnlaa
open Go.RowKit

/-- The channels along which a record of the group g goes. -/
def outsP (ns : List Nd) (ts : List Tk) (task : Int) (g : Int) (c : Cn) : Bool := decide (c.fr = task) && tks ns (tkAt ts task) (tkAt ts c.tg) g
set_option maxHeartbeats 1000000 in
set_option maxRecDepth 100000 in
theorem Outs_any {w : World} {v tv cv : Value} {ns : List Nd} {ts : List Tk} {cs : List Cn} (hj : JobIn w.heap.size w v ns) (ht : LSeg 2 Tk.cs w.heap.size w tv ts) (hc : LSeg 3 Cn.cs w.heap.size w cv cs) (hl : cs.length ≤ 100000) (task key : Int) :
    Calls Try.prog 20 #[.agg #[v], .agg #[tv, cv], .int .i64 task, .int .i64 key] w fun e w' => ∃ u, e = .returned u ∧ OwnN w.heap.size w' u (plc (outsP ns ts task (grp key)) 0 cs) ∧ Below w.heap.size w w' := by
  obtain ⟨na, ncp, rfl⟩ := hj.shape
  obtain ⟨ta, tc, rfl⟩ := ht.shape
  obtain ⟨ca, cc, rfl⟩ := hc.shape
  have hb : Below w.heap.size w (((w.alloc (.cells #[.slice na ns.length ncp] 24)).alloc (.cells #[.slice ta ts.length tc, .slice ca cs.length cc] 30)).alloc (.cells #[.int .i64 task] 3)) := (((Below.refl _ _).alloc (Nat.le_refl _) _).alloc (by simp) _).alloc (by simp; omega) _
  have H3 := hide (three w (.cells #[.slice na ns.length ncp] 24) (.cells #[.slice ta ts.length tc, .slice ca cs.length cc] 30) (.cells #[.int .i64 task] 3))
  have HA := hide (atT_any ((ht.below hb).mono hb.size) task)
  unfold Tk.val at HA
  have HB := hide hb
  have HJ := hide hj
  have HT := hide ht
  have HC := hide hc
  have HG := hide (fun w => Group_any w key)
  clear hj ht hc hb
  go_enter Try.func20, Try.ntmps20
  go_wp2_with (first
    | (go_at_call 36; refine HA.out.mono ?_; rintro e w1 ⟨rfl, b1⟩
       have b2 : Below w1.heap.size w1 ((w1.alloc (.cells #[.int .i64 (tkAt ts task).nd, .int .i64 (tkAt ts task).pt] 42)).alloc (.cells #[.int .i64 (grp key : Int)] 3)) := ((Below.refl _ _).alloc (Nat.le_refl _) _).alloc (by simp) _
       have b3 := b1.trans (b2.mono b1.size)
       have b4 := HB.out.trans (b3.mono HB.out.size)
       have h2 := two2 w1 (.cells #[.int .i64 (tkAt ts task).nd, .int .i64 (tkAt ts task).pt] 42) (.cells #[.int .i64 (grp key : Int)] 3)
       have k1 : BoxT 3 ((w1.alloc (.cells #[.int .i64 (tkAt ts task).nd, .int .i64 (tkAt ts task).pt] 42)).alloc (.cells #[.int .i64 (grp key : Int)] 3)) (w.heap.size + 1 + 1) #[.int .i64 task] := (show BoxT 3 _ _ _ from H3.out.2.2).below b3
       have k2 : BoxT 24 ((w1.alloc (.cells #[.int .i64 (tkAt ts task).nd, .int .i64 (tkAt ts task).pt] 42)).alloc (.cells #[.int .i64 (grp key : Int)] 3)) w.heap.size #[.slice na ns.length ncp] := (show BoxT 24 _ _ _ from H3.out.1).below b3
       have k3 : BoxT 30 ((w1.alloc (.cells #[.int .i64 (tkAt ts task).nd, .int .i64 (tkAt ts task).pt] 42)).alloc (.cells #[.int .i64 (grp key : Int)] 3)) (w.heap.size + 1) #[.slice ta ts.length tc, .slice ca cs.length cc] := (show BoxT 30 _ _ _ from H3.out.2.1).below b3
       have c1 : ((w1.alloc (.cells #[.int .i64 (tkAt ts task).nd, .int .i64 (tkAt ts task).pt] 42)).alloc (.cells #[.int .i64 (grp key : Int)] 3)).cell? ⟨w.heap.size + 1, 1, none⟩ = some (.slice ca cs.length cc) := (by rw [k3.cellAt]; rfl)
       have HP := hide (placesC_any ((HC.out.below b4).mono b4.size) hl 37 runF37 [.pointer (some ⟨w.heap.size + 1 + 1, 0, none⟩), .pointer (some ⟨w.heap.size, 0, none⟩), .pointer (some ⟨w1.heap.size, 0, none⟩), .pointer (some ⟨w.heap.size + 1, 0, none⟩), .pointer (some ⟨w1.heap.size + 1, 0, none⟩)] (outsP ns ts task (grp key))
         (fun x _ w' h => outs1_any ((HJ.out.below (b4.trans (h.mono b4.size))).mono (Nat.le_trans b4.size h.size)) ((HT.out.below (b4.trans (h.mono b4.size))).mono (Nat.le_trans b4.size h.size)) (k1.below h) (k2.below h) ((show BoxT 42 _ _ _ from h2.1).below h) (k3.below h) ((show BoxT 3 _ _ _ from h2.2).below h) x))
       have B4 := hide b4
       clear b1 b2 b3 b4 h2 k1 k2 k3)
    | (go_at_call 22; refine (HG.out _).mono ?_; rintro e w2 ⟨rfl, rfl⟩)
    | (go_at_call 32; refine HP.out.mono ?_; rintro e w3 ⟨u, rfl, o3, b3⟩))
  go_ret
  exact ⟨_, rfl, o3.mono' B4.out.size, B4.out.trans (b3.mono B4.out.size)⟩

set_option maxHeartbeats 1000000 in
set_option maxRecDepth 100000 in
theorem fed_any {w : World} {v tv : Value} {ns : List Nd} {ts : List Tk} (hj : JobIn w.heap.size w v ns) (ht : LSeg 2 Tk.cs w.heap.size w tv ts) (hl : ts.length ≤ 100000) (f : Tk) (nd : Int) :
    Calls Try.prog 47 #[.agg #[v], tv, f.val, .int .i64 nd] w fun e w' => ∃ u, e = .returned u ∧ OwnN w.heap.size w' u (plc (fd1 nd (fdAll ns f.nd nd) f.pt) 0 ts) ∧ Below w.heap.size w w' := by
  obtain ⟨na, ncp, rfl⟩ := hj.shape
  obtain ⟨ta, tc, rfl⟩ := ht.shape
  obtain ⟨fn, fp⟩ := f
  unfold Tk.val
  simp only
  have hb : Below w.heap.size w (((w.alloc (.cells #[.slice na ns.length ncp] 24)).alloc (.cells #[.int .i64 fn, .int .i64 fp] 42)).alloc (.cells #[.int .i64 nd] 3)) := (((Below.refl _ _).alloc (Nat.le_refl _) _).alloc (by simp) _).alloc (by simp; omega) _
  have H3 := hide (three w (.cells #[.slice na ns.length ncp] 24) (.cells #[.int .i64 fn, .int .i64 fp] 42) (.cells #[.int .i64 nd] 3))
  have HA := hide (feeds_any ((hj.below hb).mono hb.size) fn nd)
  generalize fdAll ns fn nd = all at *
  have HB := hide hb
  have HT := hide ht
  clear hj ht hb
  go_enter Try.func47, Try.ntmps47
  go_wp2_with (first
    | (go_at_call 48; refine HA.out.mono ?_; rintro e w1 ⟨rfl, b1⟩
       have b2 : Below w1.heap.size w1 (w1.alloc (.cells #[.bool all] 4)) := below_box _ _
       have b3 := b1.trans (b2.mono b1.size)
       have b4 := HB.out.trans (b3.mono HB.out.size)
       have k1 : BoxT 3 (w1.alloc (.cells #[.bool all] 4)) (w.heap.size + 1 + 1) #[.int .i64 nd] := (show BoxT 3 _ _ _ from H3.out.2.2).below b3
       have k2 : BoxT 42 (w1.alloc (.cells #[.bool all] 4)) (w.heap.size + 1) #[.int .i64 fn, .int .i64 fp] := (show BoxT 42 _ _ _ from H3.out.2.1).below b3
       have HP := hide (placesT_any ((HT.out.below b4).mono b4.size) hl 55 runF55 [.pointer (some ⟨w.heap.size + 1 + 1, 0, none⟩), .pointer (some ⟨w1.heap.size, 0, none⟩), .pointer (some ⟨w.heap.size + 1, 0, none⟩)] (fd1 nd all fp)
         (fun x _ w' h => fed1_any (k1.below h) ((BoxT.new 4 w1 #[.bool all]).below h) (k2.below h) x))
       have B4 := hide b4
       clear b1 b2 b3 b4 k1 k2)
    | (go_at_call 45; refine HP.out.mono ?_; rintro e w3 ⟨u, rfl, o3, b3⟩))
  go_ret
  exact ⟨_, rfl, o3.mono' B4.out.size, B4.out.trans (b3.mono B4.out.size)⟩
end Go.Proofs.Ytfiafbfbiidnlaa
