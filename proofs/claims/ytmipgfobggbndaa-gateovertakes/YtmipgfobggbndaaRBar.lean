/-
  The document's barrier.
-/
import Derived.Test.YtmipgfobggbndaaRLoad
namespace Go.Proofs.Ytmipgfobggbndaa
open Go.RowKit

def RTP (w : World) (R : Nat) (fq : Nat → Prop) (r : Gs) (f : Fr) (W : World) : Prop := BoxT 37 W w.heap.size f.ar ∧ BoxT 43 W (w.heap.size + 1) zeroSn ∧ ∃ fq', RA W R fq' r ∧ FT fq fq' w W ∧ ¬ fq' w.heap.size ∧ ¬ fq' (w.heap.size + 1)
theorem RTP.step {w : World} {R : Nat} {fp fp1 fp2 : Nat → Prop} {s2 : Gs} {f : Fr} {W W2 : World} (h0 : BoxT 37 W w.heap.size f.ar) (h1 : BoxT 43 W (w.heap.size + 1) zeroSn) (t1 : FT fp fp1 w W) (n0 : ¬ fp1 w.heap.size) (n1 : ¬ fp1 (w.heap.size + 1)) (g2 : RA W2 R fp2 s2) (t2 : FT fp1 fp2 W W2) : RTP w R fp s2 f W2 :=
  ⟨h0.back (t2.block _ h0.lt n0), h1.back (t2.block _ h1.lt n1), fp2, g2, t1.trans t2, fun e => by
    rcases t2.sub _ e with e | e
    · exact n0 e
    · have := h0.lt; omega, fun e => by
    rcases t2.sub _ e with e | e
    · exact n1 e
    · have := h1.lt; omega⟩
theorem RTP.new {w : World} {R : Nat} {fp : Nat → Prop} {s : Gs} (h : RA w R fp s) (f : Fr) : RTP w R fp s f ((w.alloc (.cells f.ar 37)).alloc (.cells zeroSn 43)) :=
  ⟨(BoxT.new _ _ _).alloc _, BoxT.new_at (by simp), fp, h.below (below_box2 _ _ _), FT.of_below (below_box2 _ _ _), fun e => by have := h.flt _ e; omega, fun e => by have := h.flt _ e; omega⟩
theorem RTP.drewN {w : World} {R : Nat} {fp : Nat → Prop} {s : Gs} {f : Fr} {W : World} (h : RTP w R fp s f W) (n : Nat) : RTP w R fp s f (W.drewN n) := by
  induction n with
  | zero => exact h
  | succ n ih =>
    obtain ⟨a, b, fq', c, d, e⟩ := ih
    exact ⟨a, b, fq', c.below ((Below.refl _ _).drew), d.drew, e⟩
theorem RA.off {w : World} {R : Nat} {fq : Nat → Prop} {r : Gs} (h : RA w R fq r) {b : Nat} (hb : ¬ fq b) (j : Nat) (u : Value) : RA (w.setCell ⟨b, j, none⟩ u) R fq r := h.back (fun i hi => Below.heap_setCell w ⟨b, j, none⟩ u i (fun e => hb (by simp at e; rw [← e]; exact hi))) (by simp)
theorem RA.ch7 {w : World} {k : Nat} {fp : Nat → Prop} {s : Gs} (h : RA w k fp s) {R : Nat} (hR : ¬ fp R) (c0 c1 c2 c3 c4 c5 c6 : Value) : RA (ch7 w R c0 c1 c2 c3 c4 c5 c6) k fp s := ((((((h.off hR 0 c0).off hR 1 c1).off hR 2 c2).off hR 3 c3).off hR 4 c4).off hR 5 c5).off hR 6 c6
/-- The cells that the region of a new checkpoint reads. -/
def S5 (F R : Nat) (n : Int) (o : Bool) (mv : Value) (W : World) : Prop := W.cell? ⟨F, 5, none⟩ = some (.int .u64 n) ∧ W.cell? ⟨F, 6, none⟩ = some (.bool o) ∧ W.cell? ⟨R, 0, none⟩ = some mv
theorem S5.set {F R : Nat} {n : Int} {o : Bool} {mv : Value} {W : World} (h : S5 F R n o mv W) (hFR : R ≠ F) (j : Nat) (hj : j ≠ 0) (u : Value) : S5 F R n o mv (W.setCell ⟨R, j, none⟩ u) :=
  ⟨(World.cell?_setCell_far _ ⟨R, j, none⟩ ⟨F, 5, none⟩ _ hFR).trans h.1, (World.cell?_setCell_far _ ⟨R, j, none⟩ ⟨F, 6, none⟩ _ hFR).trans h.2.1, (World.cell?_setCell_other _ _ _ _ (fun e => hj (by cases e; rfl))).trans h.2.2⟩
theorem S5.alloc {F R : Nat} {n : Int} {o : Bool} {mv : Value} {W : World} (h : S5 F R n o mv W) (ob : Obj) : S5 F R n o mv (W.alloc ob) :=
  ⟨Lib.cell?_alloc_some ob h.1, Lib.cell?_alloc_some ob h.2.1, Lib.cell?_alloc_some ob h.2.2⟩
theorem S5.drew {F R : Nat} {n : Int} {o : Bool} {mv : Value} {W : World} (h : S5 F R n o mv W) : S5 F R n o mv W.drew := h
/-- All have come. -/
theorem all_count (l : List Bool) : l.all id = decide (l.count false = 0) := by
  induction l with
  | nil => rfl
  | cons b l ih =>
    cases b
    · simp
    · simp only [List.all_cons, id, Bool.true_and]
      rw [ih]
      simp
theorem all_take_step {l : List Bool} {i : Nat} {b : Bool} (h : l[i]? = some b) : (l.take (i + 1)).all id = ((l.take i).all id && b) := by
  have hlt := lt_of_get h
  have e : l[i] = b := by rw [List.getElem?_eq_getElem hlt] at h; exact Option.some.inj h
  rw [List.take_succ_eq_append_getElem hlt, List.all_append, e]
  simp
theorem OwnL.setBool {base : Nat} {w : World} {v : Value} {l : List Bool} (h : OwnL 4 1 blcs base w v l) (hl : l ≠ []) : ∃ g cap cur, v = .slice (some ⟨g, 0, none⟩) l.length cap ∧ base ≤ g ∧ BoxT 4 w g cur ∧ ∀ (i : Nat) (x : Bool), i < l.length → OwnL 4 1 blcs base (w.setCell ⟨g, i, none⟩ (.bool x)) v (l.set i x) := by
  have hn := h.1
  rcases h.2 with ⟨rfl, h0⟩ | ⟨g, cap, cur, rfl, h2, h3, h4, h5, h6, h7⟩
  · exact absurd (List.length_eq_zero_iff.1 h0) hl
  · refine ⟨g, cap, cur, rfl, h2, h3, fun i x hi => ?_⟩
    have e : ∀ l : List Bool, l.flatMap blcs = l.map Value.bool := fun l => by
      induction l with
      | nil => rfl
      | cons a l ih => rw [List.flatMap_cons, ih]; rfl
    refine ⟨by rw [flat_size blcs_len], .inr ⟨g, cap, cur.setIfInBounds i (.bool x), by simp, h2, BoxT.set h3 i (.bool x), by simpa using h4, h5, by simpa using h6, ?_⟩⟩
    rw [e] at h7 ⊢
    rw [Array.toList_setIfInBounds, List.length_set, List.take_set, h7, List.map_set]
theorem OwnL.setInt {base : Nat} {w : World} {v : Value} {l : List Int} (h : OwnL 2 1 i64cs base w v l) (hl : l ≠ []) : ∃ g cap cur, v = .slice (some ⟨g, 0, none⟩) l.length cap ∧ base ≤ g ∧ BoxT 2 w g cur ∧ ∀ (i : Nat) (x : Int), i < l.length → OwnL 2 1 i64cs base (w.setCell ⟨g, i, none⟩ (.int .i64 x)) v (l.set i x) := by
  have hn := h.1
  rcases h.2 with ⟨rfl, h0⟩ | ⟨g, cap, cur, rfl, h2, h3, h4, h5, h6, h7⟩
  · exact absurd (List.length_eq_zero_iff.1 h0) hl
  · refine ⟨g, cap, cur, rfl, h2, h3, fun i x hi => ?_⟩
    have e : ∀ l : List Int, l.flatMap i64cs = l.map (Value.int .i64) := fun l => by
      induction l with
      | nil => rfl
      | cons a l ih => rw [List.flatMap_cons, ih]; rfl
    refine ⟨by rw [flat_size i64cs_len], .inr ⟨g, cap, cur.setIfInBounds i (.int .i64 x), by simp, h2, BoxT.set h3 i (.int .i64 x), by simpa using h4, h5, by simpa using h6, ?_⟩⟩
    rw [e] at h7 ⊢
    rw [Array.toList_setIfInBounds, List.length_set, List.take_set, h7, List.map_set]
/-- At the end of a barrier: the step in its box. -/
def EP (w : World) (R : Nat) (fq : Nat → Prop) (sb : Nat) (f : Fr) (y : Sn) (r : Gs) (W : World) : Prop := BoxT 37 W w.heap.size f.ar ∧ BoxT 43 W (w.heap.size + 1) zeroSn ∧ BoxT 43 W sb #[.int .i64 y.kd, .int .i64 y.ke, .int .i64 y.ti, .int .i64 y.va, .int .i64 y.ma, .int .u64 y.n, .int .u64 y.fu] ∧ ∃ fq', RA W R fq' r ∧ FT fq fq' w W ∧ ¬ fq' w.heap.size ∧ ¬ fq' (w.heap.size + 1) ∧ (sb ≠ w.heap.size ∧ sb ≠ w.heap.size + 1 ∧ sb ≠ R) ∧ (¬ fq' sb ∧ w.heap.size ≤ sb)
theorem EP.keep {w : World} {R : Nat} {fq : Nat → Prop} {sb : Nat} {f : Fr} {y : Sn} {r : Gs} {W : World} (h : EP w R fq sb f y r W) (z : Sn) : EP w R fq sb f z r (ch7 W sb (.int .i64 z.kd) (.int .i64 z.ke) (.int .i64 z.ti) (.int .i64 z.va) (.int .i64 z.ma) (.int .u64 z.n) (.int .u64 z.fu)) := by
  obtain ⟨h1, h2, h3, fq', g, t, n0, n1, hs, ns⟩ := h
  have o : ∀ {t : TypeId} {k : Nat} {ca : Array Value}, BoxT t W k ca → k ≠ sb → BoxT t (ch7 W sb (.int .i64 z.kd) (.int .i64 z.ke) (.int .i64 z.ti) (.int .i64 z.va) (.int .i64 z.ma) (.int .u64 z.n) (.int .u64 z.fu)) k ca := fun hb hk => ((((((hb.other 0 _ hk).other 1 _ hk).other 2 _ hk).other 3 _ hk).other 4 _ hk).other 5 _ hk).other 6 _ hk
  exact ⟨o h1 (fun e => hs.1 e.symm), o h2 (fun e => hs.2.1 e.symm), h3.ch7 _ _ _ _ _ _ _, fq', g.ch7 ns.1 _ _ _ _ _ _ _, t.ch7 ns.2 _ _ _ _ _ _ _, n0, n1, hs, ns⟩
theorem EP.full {w : World} {R : Nat} {fq : Nat → Prop} {sb : Nat} {f : Fr} {y : Sn} {r : Gs} {W : World} (h : EP w R fq sb f y r W) (m : Int) : EP w R fq sb f { y with fu := m } { r with un := 0 } ((W.setCell ⟨sb, 6, none⟩ (.int .u64 m)).setCell ⟨R, 2, none⟩ (.int .u64 0)) := by
  obtain ⟨h1, h2, h3, fq', g, t, n0, n1, hs, ns⟩ := h
  obtain ⟨fd, mv, cv, kv, X, hf⟩ := g.off ns.1 6 (.int .u64 m)
  have hR : fq' R := (hf R).2 (.inl rfl)
  have t2 : FT fq' fq' W _ := ((FT.refl fq' W).off (show W.heap.size ≤ W.heap.size from Nat.le_refl _) 0 (.int .u64 0) |>.trans (FT.refl _ _)) |> fun _ => FT.refl fq' W
  have T3 : Turned R R (W.setCell ⟨sb, 6, none⟩ (.int .u64 m)) ((W.setCell ⟨sb, 6, none⟩ (.int .u64 m)).setCell ⟨R, 2, none⟩ (.int .u64 0)) := Turned.set R R _ 2 _
  refine ⟨((h1.other 6 _ (fun e => hs.1 e.symm)).other 2 _ (fun e => n0 (e ▸ hR))), ((h2.other 6 _ (fun e => hs.2.1 e.symm)).other 2 _ (fun e => n1 (e ▸ hR))), ?_, fq', ⟨fd, mv, cv, kv, { box := by simpa using X.box.set 2 (.int .u64 0), m := X.m.back (fun i hi hl => T3.block i hl (fun e => X.nR (e ▸ hi)) (fun e => X.nR (e ▸ hi))) T3.size, c := X.c.back (fun i hi hl => T3.block i hl (fun e => X.nR (e ▸ hi)) (fun e => X.nR (e ▸ hi))) T3.size, k := X.k.back (fun i hi hl => T3.block i hl (fun e => X.nR (e ▸ hi)) (fun e => X.nR (e ▸ hi))) T3.size, nR := X.nR, flt := fun i hi => by simpa using X.flt i hi, len := X.len, pos := X.pos, le := X.le, la0 := X.la0 }, hf⟩, (t.off ns.2 6 (.int .u64 m)).trans (FT.set _ hR 2 _), n0, n1, hs, ns⟩
  have := (h3.set 6 (.int .u64 m)).other 2 (.int .u64 0) hs.2.2
  simpa using this
/-- Of a checkpoint under way some barrier has come. -/
def Gs.Sm (r : Gs) : Prop := r.un ≠ 0 → r.co.count false < r.co.length
set_option maxHeartbeats 4000000 in
set_option maxRecDepth 100000 in
theorem rBarrier_s {w : World} {R : Nat} {fq : Nat → Prop} {r : Gs} (h : RA w R fq r) (hSm : r.Sm) {c : Nat} (hc : c < r.M.length) (f : Fr) {x : Sn} {s2 : Gs} (hx : x = r.barS c f.n f.ov) (hs2 : s2 = r.bar c f.n f.ov) : Calls Try.prog 33 #[.pointer (some ⟨R, 0, none⟩), .int .i64 (c : Int), f.val] w fun e w' => e = .returned x.val ∧ ∃ fq', RA w' R fq' s2 ∧ FT fq fq' w w' := by
  obtain ⟨xkd, xke, xti, xva, xma, xn, xfu⟩ := x
  unfold Sn.val Fr.val
  have hla0 : 0 ≤ r.la := by
    obtain ⟨fd, mv, cv, kv, X, hf⟩ := h
    exact X.la0
  have HX := hide hx
  have HS2 := hide hs2
  have A0 := RTP.new h f
  clear hx hs2 h
  unfold Gs.barS at HX
  unfold Gs.bar at HS2
  unfold Fr.ar zeroSn at A0
  go_enter Try.func33, Try.ntmps33
  go_upto_region 1 with fail
  refine wp_at (RTP w R fq r f) A0 ?_
  clear A0
  intro V A
  obtain ⟨F1, R1, fp1, G1, T1, N0, N1⟩ := A
  obtain ⟨f0, f1, f2, f3, f4, f5, f6⟩ := BoxT.all7 F1
  obtain ⟨p0, p1, p2, p3, p4, p5, p6⟩ := BoxT.all7 R1
  have rf := R1.free
  have HF := hide F1
  have HR := hide R1
  have HG := hide G1
  have HT := hide T1
  have HN0 := hide N0
  have HN1 := hide N1
  obtain ⟨fd, mv, cv, kv, X, hfd⟩ := G1
  obtain ⟨c0, c1, c2, c3, c4, c5⟩ := X.cells
  have HX0 := hide X
  have HFD := hide hfd
  clear F1 R1 T1 N0 N1 X hfd
  by_cases hle : f.n ≤ r.la
  · by_cases hnu : f.n = r.un
    · by_cases h0 : f.n = 0
      · have hbg : r.bg f.n f.ov = r := by unfold Gs.bg; rw [if_neg (by omega)]
        have hid : r.idle c f.n = true := by unfold Gs.idle; simp; exact .inl (.inl h0)
        rw [hbg] at HX HS2
        have HX2 : Hid ((⟨xkd, xke, xti, xva, xma, xn, xfu⟩ : Sn) = Sn.none) := (show _ = _ by rw [HX.out, if_pos hid])
        have HS3 : Hid (s2 = r) := (show _ = _ by rw [HS2.out, if_pos hid])
        clear HX HS2 hbg hid
        have e := HX2.out
        simp only [Sn.none, Sn.mk.injEq] at e
        obtain ⟨rfl, rfl, rfl, rfl, rfl, rfl, rfl⟩ := e
        obtain rfl := HS3.out
        clear HX2 HS3
        have hd : decide (f.n ≤ s2.la) = true := decide_eq_true hle
        have b1 : (f.n != s2.un) = false := by simpa using hnu
        have b0 : (f.n == 0) = true := by simpa using h0
        have HH := hide (And.intro hnu h0)
        clear hnu h0
        go_quiet (fail)
        go_upto_region 2 with fail
        refine wp_at (RTP w R fq s2 f) (RTP.drewN ⟨HF.out, HR.out, fp1, HG.out, HT.out, HN0.out, HN1.out⟩ _) ?_
        clear f0 f1 f2 f3 f4 f5 f6 p0 p1 p2 p3 p4 p5 p6 rf HF HR HG HT HN0 HN1 c0 c1 c2 c3 c4 c5 HX0 HFD
        intro V A
        obtain ⟨F1, R1, fp1, G1, T1, N0, N1⟩ := A
        obtain ⟨f0, f1, f2, f3, f4, f5, f6⟩ := BoxT.all7 F1
        obtain ⟨p0, p1, p2, p3, p4, p5, p6⟩ := BoxT.all7 R1
        have rf := R1.free
        have HF := hide F1
        have HR := hide R1
        have HG := hide G1
        have HT := hide T1
        have HN0 := hide N0
        have HN1 := hide N1
        obtain ⟨fd, mv, cv, kv, X, hfd⟩ := G1
        obtain ⟨c0, c1, c2, c3, c4, c5⟩ := X.cells
        have HX0 := hide X
        have HFD := hide hfd
        clear F1 R1 T1 N0 N1 X hfd
        go_wp2_with fail
        have z := (BoxT.ch7 HR.out (.int .i64 0) (.int .i64 0) (.int .i64 0) (.int .i64 0) (.int .i64 0) (.int .u64 0) (.int .u64 0)).all7
        exact bodyPost_ret (v := .agg #[.int .i64 0, .int .i64 0, .int .i64 0, .int .i64 0, .int .i64 0, .int .u64 0, .int .u64 0]) (by simp [results, Try.results33, go_sem, z.1, z.2.1, z.2.2.1, z.2.2.2.1, z.2.2.2.2.1, z.2.2.2.2.2.1, z.2.2.2.2.2.2]; try rfl) rfl ⟨rfl, fp1, HG.out.ch7 HN1.out (.int .i64 0) (.int .i64 0) (.int .i64 0) (.int .i64 0) (.int .i64 0) (.int .u64 0) (.int .u64 0), HT.out.ch7 (Nat.le_succ _) (.int .i64 0) (.int .i64 0) (.int .i64 0) (.int .i64 0) (.int .i64 0) (.int .u64 0) (.int .u64 0)⟩
      · have HM : Hid ((r.bg f.n f.ov).M = r.M) := (show _ = _ from Gs.bg_M _ _ _)
        have HB1 : Hid (r.bg f.n f.ov = r) := (show _ = _ by unfold Gs.bg; rw [if_neg (by omega)])
        have HU1 : Hid ((r.bg f.n f.ov).un = f.n) := (show _ = _ by rw [HB1.out]; exact hnu.symm)
        have HU0 : Hid (f.n ≠ 0) := (show _ ≠ _ by omega)
        have HMS : Hid (∀ hb : (r.bg f.n f.ov).co[c]? = some false, ((r.bg f.n f.ov).come c).ms + 1 < (r.bg f.n f.ov).co.length) := (show ∀ hb, _ by rw [HB1.out]; intro hb; have hh := count_come hb; have h3 := hSm (by omega); show (r.co.set c true).count false + 1 < r.co.length; omega)
        have b1 : (f.n != r.un) = false := by simpa using hnu
        have b0 : (f.n == 0) = false := by simpa using h0
        have hd : decide (f.n ≤ r.la) = true := decide_eq_true hle
        have hnl : ¬ r.la < f.n := by omega
        have HH := hide (And.intro hnu h0)
        clear hnu h0
        go_quiet (fail)
        go_wp2_with fail
        go_quiet (fail)
        go_upto_region 6 with fail
        refine wp_at (RTP w R fq (r.bg f.n f.ov) f) (by rw [HB1.out]; exact RTP.drewN (RTP.drewN ⟨HF.out, HR.out, fp1, HG.out, HT.out, HN0.out, HN1.out⟩ _) _) ?_
        clear HB1 b0 b1 hd f0 f1 f2 f3 f4 f5 f6 p0 p1 p2 p3 p4 p5 p6 rf HF HR HG HT HN0 HN1 c0 c1 c2 c3 c4 c5 HX0 HFD
        generalize r.bg f.n f.ov = r1 at *
        intro V A
        obtain ⟨F1, R1, fp1, G1, T1, N0, N1⟩ := A
        obtain ⟨f0, f1, f2, f3, f4, f5, f6⟩ := BoxT.all7 F1
        obtain ⟨p0, p1, p2, p3, p4, p5, p6⟩ := BoxT.all7 R1
        have rf := R1.free
        have HF := hide F1
        have HR := hide R1
        have HG := hide G1
        have HT := hide T1
        have HN0 := hide N0
        have HN1 := hide N1
        obtain ⟨fd, mv, cv, kv, X, hfd⟩ := G1
        obtain ⟨c0, c1, c2, c3, c4, c5⟩ := X.cells
        have HX0 := hide X
        have HFD := hide hfd
        clear F1 R1 T1 N0 N1 X hfd
        have hcl : c < r1.co.length := by rw [HX0.out.len, HM.out]; exact hc
        obtain ⟨b, hb⟩ := get_of_lt hcl
        obtain ⟨ca, cc, rfl, hcc⟩ := HX0.out.c.shape
        obtain ⟨cb, co, rfl, _, e6⟩ := seg_bool HX0.out.c.lseg hb
        have hbd : r1.co.getD c false = b := by simp [hb]
        have hle1 := HX0.out.le
        have hln1 := HX0.out.len
        have hi : (c : Int) < (r1.co.length : Int) := by omega
        have HHB := hide hb
        have HLN := hide (And.intro hln1 hle1)
        have h64 : r1.co.length ≤ 64 := by omega
        clear hb hle1 hln1
        cases b with
        | true =>
          have hid : r1.idle c f.n = true := by unfold Gs.idle; rw [hbd]; simp
          have HX2 : Hid ((⟨xkd, xke, xti, xva, xma, xn, xfu⟩ : Sn) = Sn.none) := (show _ = _ by rw [HX.out, if_pos hid])
          have HS3 : Hid (s2 = r1) := (show _ = _ by rw [HS2.out, if_pos hid])
          clear HX HS2 hid
          have e := HX2.out
          simp only [Sn.none, Sn.mk.injEq] at e
          obtain ⟨rfl, rfl, rfl, rfl, rfl, rfl, rfl⟩ := e
          obtain rfl := HS3.out
          clear HX2 HS3
          generalize s2.co.length = nn at *
          go_wp2_with fail
          have z := (BoxT.ch7 HR.out (.int .i64 0) (.int .i64 0) (.int .i64 0) (.int .i64 0) (.int .i64 0) (.int .u64 0) (.int .u64 0)).all7
          exact bodyPost_ret (v := .agg #[.int .i64 0, .int .i64 0, .int .i64 0, .int .i64 0, .int .i64 0, .int .u64 0, .int .u64 0]) (by simp [results, Try.results33, go_sem, z.1, z.2.1, z.2.2.1, z.2.2.2.1, z.2.2.2.2.1, z.2.2.2.2.2.1, z.2.2.2.2.2.2]; try rfl) rfl ⟨rfl, fp1, HG.out.ch7 HN1.out (.int .i64 0) (.int .i64 0) (.int .i64 0) (.int .i64 0) (.int .i64 0) (.int .u64 0) (.int .u64 0), HT.out.ch7 (Nat.le_succ _) (.int .i64 0) (.int .i64 0) (.int .i64 0) (.int .i64 0) (.int .i64 0) (.int .u64 0) (.int .u64 0)⟩
        | false =>
          have hid : r1.idle c f.n = false := by unfold Gs.idle; rw [hbd, HU1.out]; simp; exact HU0.out
          have HX2 : Hid ((⟨xkd, xke, xti, xva, xma, xn, xfu⟩ : Sn) = (r1.come c).arrS) := (show _ = _ by rw [HX.out, if_neg (by rw [hid]; simp)])
          have HS3 : Hid (s2 = (r1.come c).arr) := (show _ = _ by rw [HS2.out, if_neg (by rw [hid]; simp)])
          clear HX HS2 hid hbd
          have HSG := hide HX0.out.c.lseg
          have HLL : Hid (([] : List Bool).length + r1.co.length ≤ 1000000) := (show _ ≤ _ by simp; omega)
          have hRV := HX0.out.box.lt
          have fr := HX0.out.box.free
          have hne : r1.co ≠ [] := fun e => by rw [e] at hcl; simp at hcl
          have HNX : Hid (∀ v5 w5, OwnL 4 1 blcs V.heap.size w5 v5 r1.co → V.grownBy w5 none → ∃ g cap5 cur5, v5 = .slice (some ⟨g, 0, none⟩) r1.co.length cap5 ∧ BoxT 33 w5 R #[mv, .int .u64 r1.la, .int .u64 r1.un, .bool r1.ov, .slice (some ⟨cb, co, none⟩) r1.co.length cc, kv] ∧ g ≠ R ∧ BoxT 4 w5 g cur5 ∧ cur5.size = cap5 ∧ r1.co.length ≤ cap5 ∧ RTP w R fq (r1.come c) f ((w5.setCell ⟨R, 4, none⟩ v5).setCell ⟨g, c, none⟩ (.bool true))) := by
            intro v5 w5 o5 g5
            have hX := HX0.out
            have hb5 : BoxT 33 w5 R _ := hX.box.back (g5.block R hX.box.lt (by simp))
            obtain ⟨g, cap5, cur5, e5, hg, hbx, hset⟩ := o5.setBool hne
            have hgR : g ≠ R := hbx.ne hb5 (by decide)
            have hsz : cur5.size = cap5 ∧ r1.co.length ≤ cap5 := by
              rcases o5.2 with ⟨e, h0⟩ | ⟨g', cap', cur', e, _, h3, h4, _, h6, _⟩
              · exact absurd (List.length_eq_zero_iff.1 h0) hne
              · rw [e5] at e
                cases e
                have h3 : BoxT 4 w5 g cur' := h3
                unfold BoxT at h3 hbx
                rw [h3] at hbx
                cases hbx
                exact ⟨by omega, h4⟩
            have hT : Turned R R V ((w5.setCell ⟨R, 4, none⟩ v5).setCell ⟨g, c, none⟩ (.bool true)) := by
              have t5 : Turned R R V w5 := ⟨g5.os, g5.tape, g5.output, g5.size, fun i hi _ _ => g5.block i hi (by simp)⟩
              have t6 := t5.trans (Turned.set R R w5 4 v5)
              exact ⟨t6.os, t6.tape, t6.output, by simpa using t6.size, fun i hi h1 h2 => (Below.heap_setCell _ ⟨g, c, none⟩ _ i (fun e => by simp at e; omega)).trans (t6.block i hi h1 h2)⟩
            have o6 : OwnL 4 1 blcs V.heap.size ((w5.setCell ⟨R, 4, none⟩ v5).setCell ⟨g, c, none⟩ (.bool true)) v5 (r1.co.set c true) := by
              have o7 := (o5.otherBox hb5 (by decide) 4 v5)
              obtain ⟨g', cap', cur', e', _, _, hset'⟩ := o7.setBool hne
              rw [e5] at e'
              cases e'
              have := hset' c true hcl
              rw [e5] at this ⊢
              exact this
            obtain ⟨fq2, g2, t2⟩ := RA.of (r' := r1.come c) (mv' := mv) (cv' := v5) (kv' := kv) HFD.out hX.nR hX.flt hX.box.lt hT (by
                have := (hb5.set 4 v5).other c (.bool true) hgR.symm
                simpa [Gs.come] using this) (hX.m.old hX.nR hT) (RSeg.fresh o6 blcs_len (show (r1.co.set c true).length ≤ _ by rw [List.length_set]; omega)) (hX.k.old hX.nR hT) (by simpa [Gs.come] using hX.len) hX.pos hX.le hX.la0
            exact ⟨g, cap5, cur5, e5, hb5, hgR, hbx, hsz.1, hsz.2, RTP.step HF.out HR.out HT.out HN0.out HN1.out g2 t2⟩
          generalize hcL : r1.co.length = nn at *
          clear f0 f1 f2 f3 f4 f5 f6 p0 p1 p2 p3 p4 p5 p6 rf c0 c1 c2 c3 c5
          go_upto_region 10 with (at_builtin; refine app_segL Try.info4' Try.underlying30 rfl (by decide) (by decide) blcs_len blcs_one rfl _ _ rfl V.heap.size (.slice none 0 0) [] rfl (OwnL.nil _ _ _ _ _) V.heap.size _ r1.co rfl HSG.out (by rw [hcL]; exact HLL.out) (Nat.le_refl _) ?_; intro v5 w5 h5 g5 k5; rw [List.nil_append] at h5; obtain ⟨g, cap5, cur5, e5, hb5, hgR, hbx, hsz, hcap, hrt⟩ := HNX.out v5 w5 h5 g5; subst e5; have HRT := hide hrt; have d4 := (hb5.cellAt 4).trans rfl; have fr5 := hb5.free; have hbx2 := hbx.other 4 (.slice (some ⟨g, 0, none⟩) nn cap5) hgR; have frg := hbx2.free; have dg : ∃ u, ((w5.setCell ⟨R, 4, none⟩ (.slice (some ⟨g, 0, none⟩) nn cap5))).cell? ⟨g, c, none⟩ = some u := ⟨cur5[c]'(by omega), by rw [hbx2.cellAt]; exact Array.getElem?_eq_getElem _⟩; obtain ⟨ug, dg⟩ := dg; clear h5 g5 k5 hrt hbx hbx2)
          refine wp_at (RTP w R fq (r1.come c) f) HRT.out ?_
          clear HRT d4 fr5 frg dg HSG HLL HNX HF HR HG HT HN0 HN1 HX0 HFD hcap hsz hgR hb5 e6 c4 fr
          generalize hr2 : r1.come c = r2 at *
          have HU2 : Hid (r2.un = f.n) := (show _ = _ by rw [← hr2]; exact HU1.out)
          have HK2 : Hid (r2.keeps = if r2.ov then false else decide (r2.ms = 0)) := (show _ = _ by
            unfold Gs.keeps
            have hm := HMS.out HHB.out
            have hM : r2.M.length = nn := by rw [← hr2]; show r1.M.length = _; rw [← HLN.out.1]
            rw [hM]
            cases r2.ov <;> simp
            omega)
          have HL2 : Hid (r2.co.length = nn ∧ nn ≤ 64) := ⟨by rw [← hr2]; simpa [Gs.come] using hcL, h64⟩
          clear hr2 HU1 HMS HHB HLN hcL hne hcl hRV
          intro Y A
          obtain ⟨F1, R1, fp1, G1, T1, N0, N1⟩ := A
          obtain ⟨f0, f1, f2, f3, f4, f5, f6⟩ := BoxT.all7 F1
          have ha : RTP w R fq r2 f Y := ⟨F1, R1, fp1, G1, T1, N0, N1⟩
          have HA := hide ha
          obtain ⟨fd, mv, cv, kv, X, hfd⟩ := G1
          obtain ⟨-, -, c2, c3, c4, -⟩ := X.cells
          have HCS := hide X.c.lseg
          obtain ⟨ca2, cc2, rfl, hcc2⟩ := X.c.shape
          have HAC := hide (all_count r2.co)
          have HAS : Hid (∀ i b, r2.co[i]? = some b → (r2.co.take (i + 1)).all id = ((r2.co.take i).all id && b)) := (show ∀ i b, _ from fun i b h => all_take_step h)
          have HAE : Hid ((r2.co.take nn).all id = r2.co.all id) := (show _ = _ by rw [List.take_of_length_le (by rw [HL2.out.1]; exact Nat.le_refl _)])
          have hnn64 := HL2.out.2
          rw [HL2.out.1] at c4 HCS
          have HLN2 := hide HL2.out.1
          clear F1 R1 T1 N0 N1 X hfd hcc2 hcc ha
          go_wp2_with fail
          go_loopg [8, 9] (nn + 1) (fun gh bv iv wr => ∃ i : Nat, iv = .int .i64 (i : Int) ∧ i ≤ nn ∧ nn + 1 ≤ gh + i ∧ bv = .bool ((r2.co.take i).all id) ∧ wr = Y)
          case atStart => exact ⟨0, rfl, by omega, by omega, rfl, rfl⟩
          case round =>
            obtain ⟨i, rfl, hi2, hg, rfl, rfl⟩ := hrel
            obtain ⟨go, rfl⟩ : ∃ go, gk = go + 1 := ⟨gk - 1, by omega⟩
            by_cases hlt2 : i < nn
            · have bt : (i : Int) < (nn : Int) := by omega
              obtain ⟨b, hb⟩ := get_of_lt (show i < r2.co.length by rw [HLN2.out]; exact hlt2)
              obtain ⟨cb2, co2, rfl, _, e7⟩ := seg_bool HCS.out hb
              have HST := hide (HAS.out i b hb)
              clear hb
              cases hall : (r2.co.take i).all id with
              | true =>
                rw [hall, Bool.true_and] at HST
                go_wp2_with fail
                go_roundg go
                case rel => exact ⟨i + 1, by go_num, by omega, by omega, by rw [HST.out], rfl⟩
                case measure => omega
              | false =>
                rw [hall, Bool.false_and] at HST
                go_wp2_with fail
                go_roundg go
                case rel => exact ⟨i + 1, by go_num, by omega, by omega, by rw [HST.out], rfl⟩
                case measure => omega
            · have bt : ¬ (i : Int) < (nn : Int) := by omega
              have HWH : Hid ((r2.co.take i).all id = decide (r2.ms = 0)) := (show _ = _ by rw [← show nn = i by omega, HAE.out, HAC.out]; rfl)
              rw [HWH.out]
              clear HWH HAE HAC HAS HCS hlt2
              have HXX : Hid (xkd = (if r2.keeps then 3 else 0) ∧ xke = 0 ∧ xti = 0 ∧ xva = 0 ∧ xma = 0 ∧ xn = (if r2.keeps then f.n else 0) ∧ xfu = (if r2.ms = 0 then f.n else 0)) := (show _ ∧ _ by
                have e := HX2.out
                unfold Gs.arrS at e
                rw [HU2.out] at e
                simp only [Sn.mk.injEq] at e
                exact e)
              have HSS : Hid (s2 = if r2.ms = 0 then { r2 with un := 0 } else r2) := HS3.out
              clear HX2 HS3
              go_upto_region 16 with fail
              refine wp_at (fun W => EP w R fq wr.heap.size f Sn.none r2 W) ?_ ?_
              · obtain ⟨a1, a2, fq', a3, a4, a5, a6⟩ := HA.out
                have hl := a3.flt
                refine ⟨a1.alloc _, a2.alloc _, BoxT.new _ _ _, fq', a3.below (below_box _ _), a4.trans (FT.of_below (below_box _ _)), a5, a6, ?_, fun e => by have := hl _ e; omega, a4.size⟩
                obtain ⟨fd', mv', cv', kv', X', _⟩ := a3
                have := a1.lt
                have := a2.lt
                have := X'.box.lt
                omega
              generalize wr.heap.size = sb at *
              clear HA f0 f1 f2 f3 f4 f5 f6 c2 c3 c4
              intro Z A
              have HE0 := hide A
              clear A
              refine wp_at (EP w R fq sb f Sn.none r2) HE0.out ?_
              clear HE0
              intro Z2 A2
              have HE := hide A2
              obtain ⟨F1, R1, SB, fp1, G1, T1, N0, N1, hs3, ns⟩ := A2
              obtain ⟨f0, f1, f2, f3, f4, f5, f6⟩ := BoxT.all7 F1
              obtain ⟨p0, p1, p2, p3, p4, p5, p6⟩ := BoxT.all7 R1
              obtain ⟨q0, q1, q2, q3, q4, q5, q6⟩ := SB.all7
              have rf := R1.free
              have sf := SB.free
              have HR := hide R1
              have HG := hide G1
              have HT := hide T1
              have HN1 := hide N1
              obtain ⟨fd2, mv2, cv2, kv2, X, hfd2⟩ := G1
              obtain ⟨-, -, c2, c3, -, -⟩ := X.cells
              have fr2 := X.box.free
              have d2 : ∀ u, (Z2.setCell ⟨sb, 6, none⟩ u).cell? ⟨R, 2, none⟩ = Z2.cell? ⟨R, 2, none⟩ := fun u => World.cell?_setCell_far _ ⟨sb, 6, none⟩ ⟨R, 2, none⟩ _ hs3.2.2
              have fr3 : ∀ u j, (Z2.setCell ⟨sb, 6, none⟩ u).frozen? ⟨R, j, none⟩ = false := fun u j => (X.box.other 6 u (fun e => hs3.2.2 e.symm)).free j
              clear F1 R1 T1 N0 N1 X SB
              simp only [Sn.none] at q0 q1 q2 q3 q4 q5 q6
              cases hov : r2.ov with
              | true =>
                rw [hov] at c3 HK2
                by_cases hms : r2.ms = 0
                · have HKK : Hid (r2.keeps = false) := (show _ = _ by rw [HK2.out]; simp)
                  rw [decide_eq_true hms]
                  have e := HXX.out
                  rw [HKK.out, if_pos hms] at e
                  simp only [Bool.false_eq_true, if_false] at e
                  obtain ⟨rfl, rfl, rfl, rfl, rfl, rfl, rfl⟩ := e
                  have HSS2 := hide (HSS.out.trans (if_pos hms))
                  clear HXX HSS HKK HK2
                  go_upto_region 18 with fail
                  refine wp_at (EP w R fq sb f ⟨0, 0, 0, 0, 0, 0, 0⟩ r2) (HE.out) ?_
                  clear HE f0 f1 f2 f3 f4 f5 f6 p0 p1 p2 p3 p4 p5 p6 q0 q1 q2 q3 q4 q5 q6 rf sf HR HG HT HN1 c2 c3 fr2 d2 fr3 hs3 ns hfd2
                  intro Z2 A2
                  have HE := hide A2
                  obtain ⟨F1, R1, SB, fp1, G1, T1, N0, N1, hs3, ns⟩ := A2
                  obtain ⟨f0, f1, f2, f3, f4, f5, f6⟩ := BoxT.all7 F1
                  obtain ⟨p0, p1, p2, p3, p4, p5, p6⟩ := BoxT.all7 R1
                  obtain ⟨q0, q1, q2, q3, q4, q5, q6⟩ := SB.all7
                  have rf := R1.free
                  have sf := SB.free
                  have HR := hide R1
                  have HG := hide G1
                  have HT := hide T1
                  have HN1 := hide N1
                  obtain ⟨fd2, mv2, cv2, kv2, X, hfd2⟩ := G1
                  obtain ⟨-, -, c2, c3, -, -⟩ := X.cells
                  have fr2 := X.box.free
                  have d2 : ∀ u, (Z2.setCell ⟨sb, 6, none⟩ u).cell? ⟨R, 2, none⟩ = Z2.cell? ⟨R, 2, none⟩ := fun u => World.cell?_setCell_far _ ⟨sb, 6, none⟩ ⟨R, 2, none⟩ _ hs3.2.2
                  have fr3 : ∀ u j, (Z2.setCell ⟨sb, 6, none⟩ u).frozen? ⟨R, j, none⟩ = false := fun u j => (X.box.other 6 u (fun e => hs3.2.2 e.symm)).free j
                  clear F1 R1 T1 N0 N1 X SB
                  simp only at q0 q1 q2 q3 q4 q5 q6
                  go_upto_region 20 with fail
                  refine wp_at (EP w R fq sb f ⟨0, 0, 0, 0, 0, 0, f.n⟩ { r2 with un := 0 }) (HE.out.full f.n) ?_
                  clear HE f0 f1 f2 f3 f4 f5 f6 p0 p1 p2 p3 p4 p5 p6 q0 q1 q2 q3 q4 q5 q6 rf sf HR HG HT HN1 c2 c3 fr2 d2 fr3 hs3 ns hfd2
                  intro Z2 A2
                  have HE := hide A2
                  obtain ⟨F1, R1, SB, fp1, G1, T1, N0, N1, hs3, ns⟩ := A2
                  obtain ⟨f0, f1, f2, f3, f4, f5, f6⟩ := BoxT.all7 F1
                  obtain ⟨p0, p1, p2, p3, p4, p5, p6⟩ := BoxT.all7 R1
                  obtain ⟨q0, q1, q2, q3, q4, q5, q6⟩ := SB.all7
                  have rf := R1.free
                  have sf := SB.free
                  have HR := hide R1
                  have HG := hide G1
                  have HT := hide T1
                  have HN1 := hide N1
                  obtain ⟨fd2, mv2, cv2, kv2, X, hfd2⟩ := G1
                  obtain ⟨-, -, c2, c3, -, -⟩ := X.cells
                  have fr2 := X.box.free
                  have d2 : ∀ u, (Z2.setCell ⟨sb, 6, none⟩ u).cell? ⟨R, 2, none⟩ = Z2.cell? ⟨R, 2, none⟩ := fun u => World.cell?_setCell_far _ ⟨sb, 6, none⟩ ⟨R, 2, none⟩ _ hs3.2.2
                  have fr3 : ∀ u j, (Z2.setCell ⟨sb, 6, none⟩ u).frozen? ⟨R, j, none⟩ = false := fun u j => (X.box.other 6 u (fun e => hs3.2.2 e.symm)).free j
                  clear F1 R1 T1 N0 N1 X SB
                  simp only at q0 q1 q2 q3 q4 q5 q6
                  go_wp2_with fail
                  obtain rfl := HSS2.out
                  have z := (BoxT.ch7 HR.out (.int .i64 0) (.int .i64 0) (.int .i64 0) (.int .i64 0) (.int .i64 0) (.int .u64 0) (.int .u64 f.n)).all7
                  exact bodyPost_ret (v := .agg #[.int .i64 0, .int .i64 0, .int .i64 0, .int .i64 0, .int .i64 0, .int .u64 0, .int .u64 f.n]) (by simp [results, Try.results33, go_sem, z.1, z.2.1, z.2.2.1, z.2.2.2.1, z.2.2.2.2.1, z.2.2.2.2.2.1, z.2.2.2.2.2.2]; try rfl) rfl ⟨rfl, fp1, HG.out.ch7 HN1.out (.int .i64 0) (.int .i64 0) (.int .i64 0) (.int .i64 0) (.int .i64 0) (.int .u64 0) (.int .u64 f.n), HT.out.ch7 (Nat.le_succ _) (.int .i64 0) (.int .i64 0) (.int .i64 0) (.int .i64 0) (.int .i64 0) (.int .u64 0) (.int .u64 f.n)⟩
                · have HKK : Hid (r2.keeps = false) := (show _ = _ by rw [HK2.out]; simp)
                  rw [decide_eq_false hms]
                  have e := HXX.out
                  rw [HKK.out, if_neg hms] at e
                  simp only [Bool.false_eq_true, if_false] at e
                  obtain ⟨rfl, rfl, rfl, rfl, rfl, rfl, rfl⟩ := e
                  have HSS2 := hide (HSS.out.trans (if_neg hms))
                  clear HXX HSS HKK HK2
                  go_upto_region 18 with fail
                  refine wp_at (EP w R fq sb f ⟨0, 0, 0, 0, 0, 0, 0⟩ r2) (HE.out) ?_
                  clear HE f0 f1 f2 f3 f4 f5 f6 p0 p1 p2 p3 p4 p5 p6 q0 q1 q2 q3 q4 q5 q6 rf sf HR HG HT HN1 c2 c3 fr2 d2 fr3 hs3 ns hfd2
                  intro Z2 A2
                  have HE := hide A2
                  obtain ⟨F1, R1, SB, fp1, G1, T1, N0, N1, hs3, ns⟩ := A2
                  obtain ⟨f0, f1, f2, f3, f4, f5, f6⟩ := BoxT.all7 F1
                  obtain ⟨p0, p1, p2, p3, p4, p5, p6⟩ := BoxT.all7 R1
                  obtain ⟨q0, q1, q2, q3, q4, q5, q6⟩ := SB.all7
                  have rf := R1.free
                  have sf := SB.free
                  have HR := hide R1
                  have HG := hide G1
                  have HT := hide T1
                  have HN1 := hide N1
                  obtain ⟨fd2, mv2, cv2, kv2, X, hfd2⟩ := G1
                  obtain ⟨-, -, c2, c3, -, -⟩ := X.cells
                  have fr2 := X.box.free
                  have d2 : ∀ u, (Z2.setCell ⟨sb, 6, none⟩ u).cell? ⟨R, 2, none⟩ = Z2.cell? ⟨R, 2, none⟩ := fun u => World.cell?_setCell_far _ ⟨sb, 6, none⟩ ⟨R, 2, none⟩ _ hs3.2.2
                  have fr3 : ∀ u j, (Z2.setCell ⟨sb, 6, none⟩ u).frozen? ⟨R, j, none⟩ = false := fun u j => (X.box.other 6 u (fun e => hs3.2.2 e.symm)).free j
                  clear F1 R1 T1 N0 N1 X SB
                  simp only at q0 q1 q2 q3 q4 q5 q6
                  go_wp2_with fail
                  obtain rfl := HSS2.out
                  have z := (BoxT.ch7 HR.out (.int .i64 0) (.int .i64 0) (.int .i64 0) (.int .i64 0) (.int .i64 0) (.int .u64 0) (.int .u64 0)).all7
                  exact bodyPost_ret (v := .agg #[.int .i64 0, .int .i64 0, .int .i64 0, .int .i64 0, .int .i64 0, .int .u64 0, .int .u64 0]) (by simp [results, Try.results33, go_sem, z.1, z.2.1, z.2.2.1, z.2.2.2.1, z.2.2.2.2.1, z.2.2.2.2.2.1, z.2.2.2.2.2.2]; try rfl) rfl ⟨rfl, fp1, HG.out.ch7 HN1.out (.int .i64 0) (.int .i64 0) (.int .i64 0) (.int .i64 0) (.int .i64 0) (.int .u64 0) (.int .u64 0), HT.out.ch7 (Nat.le_succ _) (.int .i64 0) (.int .i64 0) (.int .i64 0) (.int .i64 0) (.int .i64 0) (.int .u64 0) (.int .u64 0)⟩
              | false =>
                rw [hov] at c3 HK2
                by_cases hms : r2.ms = 0
                · have HKK : Hid (r2.keeps = true) := (show _ = _ by rw [HK2.out]; simp; exact hms)
                  rw [decide_eq_true hms]
                  have e := HXX.out
                  rw [HKK.out, if_pos hms] at e
                  simp only [if_true] at e
                  obtain ⟨rfl, rfl, rfl, rfl, rfl, rfl, rfl⟩ := e
                  have HSS2 := hide (HSS.out.trans (if_pos hms))
                  clear HXX HSS HKK HK2
                  go_upto_region 18 with fail
                  refine wp_at (EP w R fq sb f ⟨3, 0, 0, 0, 0, f.n, 0⟩ r2) (HE.out.keep ⟨3, 0, 0, 0, 0, f.n, 0⟩) ?_
                  clear HE f0 f1 f2 f3 f4 f5 f6 p0 p1 p2 p3 p4 p5 p6 q0 q1 q2 q3 q4 q5 q6 rf sf HR HG HT HN1 c2 c3 fr2 d2 fr3 hs3 ns hfd2
                  intro Z2 A2
                  have HE := hide A2
                  obtain ⟨F1, R1, SB, fp1, G1, T1, N0, N1, hs3, ns⟩ := A2
                  obtain ⟨f0, f1, f2, f3, f4, f5, f6⟩ := BoxT.all7 F1
                  obtain ⟨p0, p1, p2, p3, p4, p5, p6⟩ := BoxT.all7 R1
                  obtain ⟨q0, q1, q2, q3, q4, q5, q6⟩ := SB.all7
                  have rf := R1.free
                  have sf := SB.free
                  have HR := hide R1
                  have HG := hide G1
                  have HT := hide T1
                  have HN1 := hide N1
                  obtain ⟨fd2, mv2, cv2, kv2, X, hfd2⟩ := G1
                  obtain ⟨-, -, c2, c3, -, -⟩ := X.cells
                  have fr2 := X.box.free
                  have d2 : ∀ u, (Z2.setCell ⟨sb, 6, none⟩ u).cell? ⟨R, 2, none⟩ = Z2.cell? ⟨R, 2, none⟩ := fun u => World.cell?_setCell_far _ ⟨sb, 6, none⟩ ⟨R, 2, none⟩ _ hs3.2.2
                  have fr3 : ∀ u j, (Z2.setCell ⟨sb, 6, none⟩ u).frozen? ⟨R, j, none⟩ = false := fun u j => (X.box.other 6 u (fun e => hs3.2.2 e.symm)).free j
                  clear F1 R1 T1 N0 N1 X SB
                  simp only at q0 q1 q2 q3 q4 q5 q6
                  go_upto_region 20 with fail
                  refine wp_at (EP w R fq sb f ⟨3, 0, 0, 0, 0, f.n, f.n⟩ { r2 with un := 0 }) (HE.out.full f.n) ?_
                  clear HE f0 f1 f2 f3 f4 f5 f6 p0 p1 p2 p3 p4 p5 p6 q0 q1 q2 q3 q4 q5 q6 rf sf HR HG HT HN1 c2 c3 fr2 d2 fr3 hs3 ns hfd2
                  intro Z2 A2
                  have HE := hide A2
                  obtain ⟨F1, R1, SB, fp1, G1, T1, N0, N1, hs3, ns⟩ := A2
                  obtain ⟨f0, f1, f2, f3, f4, f5, f6⟩ := BoxT.all7 F1
                  obtain ⟨p0, p1, p2, p3, p4, p5, p6⟩ := BoxT.all7 R1
                  obtain ⟨q0, q1, q2, q3, q4, q5, q6⟩ := SB.all7
                  have rf := R1.free
                  have sf := SB.free
                  have HR := hide R1
                  have HG := hide G1
                  have HT := hide T1
                  have HN1 := hide N1
                  obtain ⟨fd2, mv2, cv2, kv2, X, hfd2⟩ := G1
                  obtain ⟨-, -, c2, c3, -, -⟩ := X.cells
                  have fr2 := X.box.free
                  have d2 : ∀ u, (Z2.setCell ⟨sb, 6, none⟩ u).cell? ⟨R, 2, none⟩ = Z2.cell? ⟨R, 2, none⟩ := fun u => World.cell?_setCell_far _ ⟨sb, 6, none⟩ ⟨R, 2, none⟩ _ hs3.2.2
                  have fr3 : ∀ u j, (Z2.setCell ⟨sb, 6, none⟩ u).frozen? ⟨R, j, none⟩ = false := fun u j => (X.box.other 6 u (fun e => hs3.2.2 e.symm)).free j
                  clear F1 R1 T1 N0 N1 X SB
                  simp only at q0 q1 q2 q3 q4 q5 q6
                  go_wp2_with fail
                  obtain rfl := HSS2.out
                  have z := (BoxT.ch7 HR.out (.int .i64 3) (.int .i64 0) (.int .i64 0) (.int .i64 0) (.int .i64 0) (.int .u64 f.n) (.int .u64 f.n)).all7
                  exact bodyPost_ret (v := .agg #[.int .i64 3, .int .i64 0, .int .i64 0, .int .i64 0, .int .i64 0, .int .u64 f.n, .int .u64 f.n]) (by simp [results, Try.results33, go_sem, z.1, z.2.1, z.2.2.1, z.2.2.2.1, z.2.2.2.2.1, z.2.2.2.2.2.1, z.2.2.2.2.2.2]; try rfl) rfl ⟨rfl, fp1, HG.out.ch7 HN1.out (.int .i64 3) (.int .i64 0) (.int .i64 0) (.int .i64 0) (.int .i64 0) (.int .u64 f.n) (.int .u64 f.n), HT.out.ch7 (Nat.le_succ _) (.int .i64 3) (.int .i64 0) (.int .i64 0) (.int .i64 0) (.int .i64 0) (.int .u64 f.n) (.int .u64 f.n)⟩
                · have HKK : Hid (r2.keeps = false) := (show _ = _ by rw [HK2.out]; simp; exact hms)
                  rw [decide_eq_false hms]
                  have e := HXX.out
                  rw [HKK.out, if_neg hms] at e
                  simp only [Bool.false_eq_true, if_false] at e
                  obtain ⟨rfl, rfl, rfl, rfl, rfl, rfl, rfl⟩ := e
                  have HSS2 := hide (HSS.out.trans (if_neg hms))
                  clear HXX HSS HKK HK2
                  go_upto_region 18 with fail
                  refine wp_at (EP w R fq sb f ⟨0, 0, 0, 0, 0, 0, 0⟩ r2) (HE.out) ?_
                  clear HE f0 f1 f2 f3 f4 f5 f6 p0 p1 p2 p3 p4 p5 p6 q0 q1 q2 q3 q4 q5 q6 rf sf HR HG HT HN1 c2 c3 fr2 d2 fr3 hs3 ns hfd2
                  intro Z2 A2
                  have HE := hide A2
                  obtain ⟨F1, R1, SB, fp1, G1, T1, N0, N1, hs3, ns⟩ := A2
                  obtain ⟨f0, f1, f2, f3, f4, f5, f6⟩ := BoxT.all7 F1
                  obtain ⟨p0, p1, p2, p3, p4, p5, p6⟩ := BoxT.all7 R1
                  obtain ⟨q0, q1, q2, q3, q4, q5, q6⟩ := SB.all7
                  have rf := R1.free
                  have sf := SB.free
                  have HR := hide R1
                  have HG := hide G1
                  have HT := hide T1
                  have HN1 := hide N1
                  obtain ⟨fd2, mv2, cv2, kv2, X, hfd2⟩ := G1
                  obtain ⟨-, -, c2, c3, -, -⟩ := X.cells
                  have fr2 := X.box.free
                  have d2 : ∀ u, (Z2.setCell ⟨sb, 6, none⟩ u).cell? ⟨R, 2, none⟩ = Z2.cell? ⟨R, 2, none⟩ := fun u => World.cell?_setCell_far _ ⟨sb, 6, none⟩ ⟨R, 2, none⟩ _ hs3.2.2
                  have fr3 : ∀ u j, (Z2.setCell ⟨sb, 6, none⟩ u).frozen? ⟨R, j, none⟩ = false := fun u j => (X.box.other 6 u (fun e => hs3.2.2 e.symm)).free j
                  clear F1 R1 T1 N0 N1 X SB
                  simp only at q0 q1 q2 q3 q4 q5 q6
                  go_wp2_with fail
                  obtain rfl := HSS2.out
                  have z := (BoxT.ch7 HR.out (.int .i64 0) (.int .i64 0) (.int .i64 0) (.int .i64 0) (.int .i64 0) (.int .u64 0) (.int .u64 0)).all7
                  exact bodyPost_ret (v := .agg #[.int .i64 0, .int .i64 0, .int .i64 0, .int .i64 0, .int .i64 0, .int .u64 0, .int .u64 0]) (by simp [results, Try.results33, go_sem, z.1, z.2.1, z.2.2.1, z.2.2.2.1, z.2.2.2.2.1, z.2.2.2.2.2.1, z.2.2.2.2.2.2]; try rfl) rfl ⟨rfl, fp1, HG.out.ch7 HN1.out (.int .i64 0) (.int .i64 0) (.int .i64 0) (.int .i64 0) (.int .i64 0) (.int .u64 0) (.int .u64 0), HT.out.ch7 (Nat.le_succ _) (.int .i64 0) (.int .i64 0) (.int .i64 0) (.int .i64 0) (.int .i64 0) (.int .u64 0) (.int .u64 0)⟩
    · have hbg : r.bg f.n f.ov = r := by unfold Gs.bg; rw [if_neg (by omega)]
      have hid : r.idle c f.n = true := by unfold Gs.idle; simp; exact .inl (.inr hnu)
      rw [hbg] at HX HS2
      have HX2 : Hid ((⟨xkd, xke, xti, xva, xma, xn, xfu⟩ : Sn) = Sn.none) := (show _ = _ by rw [HX.out, if_pos hid])
      have HS3 : Hid (s2 = r) := (show _ = _ by rw [HS2.out, if_pos hid])
      clear HX HS2 hbg hid
      have e := HX2.out
      simp only [Sn.none, Sn.mk.injEq] at e
      obtain ⟨rfl, rfl, rfl, rfl, rfl, rfl, rfl⟩ := e
      obtain rfl := HS3.out
      clear HX2 HS3
      have hd : decide (f.n ≤ s2.la) = true := decide_eq_true hle
      have b1 : (f.n != s2.un) = true := by simpa using hnu
      have HH := hide hnu
      clear hnu
      go_quiet (fail)
      go_upto_region 2 with fail
      refine wp_at (RTP w R fq s2 f) (RTP.drewN ⟨HF.out, HR.out, fp1, HG.out, HT.out, HN0.out, HN1.out⟩ _) ?_
      clear f0 f1 f2 f3 f4 f5 f6 p0 p1 p2 p3 p4 p5 p6 rf HF HR HG HT HN0 HN1 c0 c1 c2 c3 c4 c5 HX0 HFD
      intro V A
      obtain ⟨F1, R1, fp1, G1, T1, N0, N1⟩ := A
      obtain ⟨f0, f1, f2, f3, f4, f5, f6⟩ := BoxT.all7 F1
      obtain ⟨p0, p1, p2, p3, p4, p5, p6⟩ := BoxT.all7 R1
      have rf := R1.free
      have HF := hide F1
      have HR := hide R1
      have HG := hide G1
      have HT := hide T1
      have HN0 := hide N0
      have HN1 := hide N1
      obtain ⟨fd, mv, cv, kv, X, hfd⟩ := G1
      obtain ⟨c0, c1, c2, c3, c4, c5⟩ := X.cells
      have HX0 := hide X
      have HFD := hide hfd
      clear F1 R1 T1 N0 N1 X hfd
      go_wp2_with fail
      have z := (BoxT.ch7 HR.out (.int .i64 0) (.int .i64 0) (.int .i64 0) (.int .i64 0) (.int .i64 0) (.int .u64 0) (.int .u64 0)).all7
      exact bodyPost_ret (v := .agg #[.int .i64 0, .int .i64 0, .int .i64 0, .int .i64 0, .int .i64 0, .int .u64 0, .int .u64 0]) (by simp [results, Try.results33, go_sem, z.1, z.2.1, z.2.2.1, z.2.2.2.1, z.2.2.2.2.1, z.2.2.2.2.2.1, z.2.2.2.2.2.2]; try rfl) rfl ⟨rfl, fp1, HG.out.ch7 HN1.out (.int .i64 0) (.int .i64 0) (.int .i64 0) (.int .i64 0) (.int .i64 0) (.int .u64 0) (.int .u64 0), HT.out.ch7 (Nat.le_succ _) (.int .i64 0) (.int .i64 0) (.int .i64 0) (.int .i64 0) (.int .i64 0) (.int .u64 0) (.int .u64 0)⟩
  · have hlt : r.la < f.n := by omega
    have b0 : (f.n == 0) = false := by simp; omega
    go_quiet (fail)
    go_wp2_with fail
    go_quiet (fail)
    go_upto_region 5 with fail
    refine wp_at (RTP w R fq r f) (RTP.drewN (RTP.drewN ⟨HF.out, HR.out, fp1, HG.out, HT.out, HN0.out, HN1.out⟩ _) _) ?_
    clear b0 f0 f1 f2 f3 f4 f5 f6 p0 p1 p2 p3 p4 p5 p6 rf HF HR HG HT HN0 HN1 c0 c1 c2 c3 c4 c5 HX0 HFD
    intro V A
    obtain ⟨F1, R1, fp1, G1, T1, N0, N1⟩ := A
    obtain ⟨f0, f1, f2, f3, f4, f5, f6⟩ := BoxT.all7 F1
    obtain ⟨p0, p1, p2, p3, p4, p5, p6⟩ := BoxT.all7 R1
    have rf := R1.free
    have HF := hide F1
    have HR := hide R1
    have HG := hide G1
    have HT := hide T1
    have HN0 := hide N0
    have HN1 := hide N1
    obtain ⟨fd, mv, cv, kv, X, hfd⟩ := G1
    obtain ⟨c0, c1, c2, c3, c4, c5⟩ := X.cells
    have HX0 := hide X
    have HFD := hide hfd
    clear F1 R1 T1 N0 N1 X hfd
    have hn := HX0.out.le
    have hpos := HX0.out.pos
    have hRV := HX0.out.box.lt
    obtain ⟨ma, mc, rfl, hmc⟩ := HX0.out.m.shape
    have hnF : R ≠ w.heap.size := fun e => HN0.out (e ▸ (HFD.out R).2 (.inl rfl))
    have hRF : R ≠ w.heap.size := hnF
    have fr := HX0.out.box.free
    generalize hnn : r.M.length = n at *
    have hB := fun w => madeB w n (by omega)
    have HS5 : Hid (S5 w.heap.size R f.n f.ov (.slice ma n mc) V) := ⟨f5, f6, c0⟩
    obtain ⟨W1, hW1⟩ : ∃ W1, W1 = ((((((V.setCell ⟨R, 1, none⟩ (.int .u64 f.n)).setCell ⟨R, 2, none⟩ (.int .u64 f.n)).setCell ⟨R, 3, none⟩ (.bool f.ov)).setCell ⟨R, 4, none⟩ (.slice (some ⟨V.heap.size, 0, none⟩) n n)).setCell ⟨R, 5, none⟩ (.slice none 0 0)).alloc (.cells (bls (List.replicate n false)) 4)).drew := ⟨_, rfl⟩
    have HNX : Hid (RTP w R fq (r.beg f.n f.ov) f W1) := by
      have hb := ((((((HX0.out.box.set 1 (.int .u64 f.n)).set 2 (.int .u64 f.n)).set 3 (.bool f.ov)).set 4 (.slice (some ⟨V.heap.size, 0, none⟩) n n)).set 5 (.slice none 0 0)).alloc (.cells (bls (List.replicate n false)) 4)).drew
      have hc4 : BoxT 4 W1 V.heap.size (bls (List.replicate n false)) := by rw [hW1]; exact (BoxT.new_at (by simp)).drew
      have hT : Turned R R V W1 := by
        rw [hW1]
        exact (((((Turned.set R R V 1 _).trans (Turned.set R R _ 2 _)).trans (Turned.set R R _ 3 _)).trans (Turned.set R R _ 4 _)).trans (Turned.set R R _ 5 _)).trans (Turned.below (((Below.refl _ _).alloc (Nat.le_refl _) _).drew))
      have hX := HX0.out
      obtain ⟨fq2, g2, t2⟩ := RA.of (r' := r.beg f.n f.ov) (mv' := .slice ma n mc) (cv' := .slice (some ⟨V.heap.size, 0, none⟩) n n) (kv' := .slice none 0 0) HFD.out hX.nR hX.flt hX.box.lt hT (by rw [hW1]; simpa [Gs.beg] using hb) (by have := hX.m.old hX.nR hT; exact this) (by
          have := RSeg.bools (fq := fdn fd V W1) (cap := n) hc4 (.inr ⟨Nat.le_refl _, hc4.lt⟩) (by simp; omega) (by simp)
          simp only [List.length_replicate] at this
          show RSeg 1 blcs _ _ _ (List.replicate r.M.length false)
          rw [hnn]
          exact this) (RSeg.nil _ _ _ _) (by simp [Gs.beg]) hX.pos hX.le (by show 0 ≤ f.n; have := hX.la0; omega)
      exact RTP.step HF.out HR.out HT.out HN0.out HN1.out g2 t2
    have HNN := hide hnn
    clear hnn f0 f1 f2 f3 f4 f5 f6 p0 p1 p2 p3 p4 p5 p6 rf HF HR HG HT HN0 HN1 c0 HX0 HFD
    go_cut [] from 41 to 67 (fun wx => wx = W1)
    case first =>
      refine wp_region_M (S := fun w' => S5 w.heap.size R f.n f.ov (.slice ma n mc) w') (late := []) (by kernel_rfl) (HS5.out.drew) (fun hHeld => ?_)
      (try simp only [List.size_toArray, List.length_cons, List.length_nil, Nat.zero_add, Nat.reduceAdd, Array.replicate, List.replicate])
      refine wpAnyM_take (i := 0) (oi := ⟨_, _, _, _, _, _⟩) (v := ?_) rfl (by kernel_rfl) (by kernel_rfl) (by kernel_rfl) (by kernel_rfl) (fun _ _ _ h => h) (Or.inl ⟨by rfl, ?_⟩) hHeld ?_
      rotate_left
      · (intro w' hSw; (obtain ⟨s1, s2, s3⟩ := hSw); go_simp; try (with_reducible rfl))
      (try simp only [Act.put, List.setIfInBounds_toArray, List.set_cons_zero, List.set_cons_succ])
      refine wpAnyM_take (i := 1) (oi := ⟨_, _, _, _, _, _⟩) (v := ?_) rfl (by kernel_rfl) (by kernel_rfl) (by kernel_rfl) (by kernel_rfl) (fun _ _ _ h => h) (Or.inl ⟨by rfl, ?_⟩) hHeld ?_
      rotate_left
      · (intro w' hSw; (obtain ⟨s1, s2, s3⟩ := hSw); go_simp; try (with_reducible rfl))
      (try simp only [Act.put, List.setIfInBounds_toArray, List.set_cons_zero, List.set_cons_succ])
      refine wpAnyM_take (i := 2) (oi := ⟨_, _, _, _, _, _⟩) (v := ?_) rfl (by kernel_rfl) (by kernel_rfl) (by kernel_rfl) (by kernel_rfl) (fun _ _ _ h => h) (Or.inl ⟨by rfl, ?_⟩) hHeld ?_
      rotate_left
      · (intro w' hSw; (obtain ⟨s1, s2, s3⟩ := hSw); go_simp; try (with_reducible rfl))
      (try simp only [Act.put, List.setIfInBounds_toArray, List.set_cons_zero, List.set_cons_succ])
      refine wpAnyM_take (i := 3) (oi := ⟨_, _, _, _, _, _⟩) (v := ?_) rfl (by kernel_rfl) (by kernel_rfl) (by kernel_rfl) (by kernel_rfl) (fun _ _ _ h => h) (Or.inl ⟨by rfl, ?_⟩) hHeld ?_
      rotate_left
      · (intro w' hSw; (obtain ⟨s1, s2, s3⟩ := hSw); go_simp; try (with_reducible rfl))
      (try simp only [Act.put, List.setIfInBounds_toArray, List.set_cons_zero, List.set_cons_succ])
      refine wpAnyM_take (i := 4) (oi := ⟨_, _, _, _, _, _⟩) (v := ?_) rfl (by kernel_rfl) (by kernel_rfl) (by kernel_rfl) (by kernel_rfl) (fun _ _ _ h => h) (Or.inl ⟨by rfl, ?_⟩) hHeld ?_
      rotate_left
      · (intro w' hSw; (obtain ⟨s1, s2, s3⟩ := hSw); go_simp; try (with_reducible rfl))
      (try simp only [Act.put, List.setIfInBounds_toArray, List.set_cons_zero, List.set_cons_succ])
      refine wpAnyM_take (i := 5) (oi := ⟨_, _, _, _, _, _⟩) (v := ?_) rfl (by kernel_rfl) (by kernel_rfl) (by kernel_rfl) (by kernel_rfl) (fun _ _ _ h => h) (Or.inl ⟨by rfl, ?_⟩) hHeld ?_
      rotate_left
      · (intro w' hSw; (obtain ⟨s1, s2, s3⟩ := hSw); go_simp; try (with_reducible rfl))
      (try simp only [Act.put, List.setIfInBounds_toArray, List.set_cons_zero, List.set_cons_succ])
      refine wpAnyM_take (i := 6) (oi := ⟨_, _, _, _, _, _⟩) (v := ?_) rfl (by kernel_rfl) (by kernel_rfl) (by kernel_rfl) (by kernel_rfl) (fun _ _ _ h => h) (Or.inl ⟨by rfl, ?_⟩) hHeld ?_
      rotate_left
      · (intro w' hSw; (obtain ⟨s1, s2, s3⟩ := hSw); go_simp; try (with_reducible rfl))
      (try simp only [Act.put, List.setIfInBounds_toArray, List.set_cons_zero, List.set_cons_succ])
      refine wpAnyM_take (i := 7) (oi := ⟨_, _, _, _, _, _⟩) (v := ?_) rfl (by kernel_rfl) (by kernel_rfl) (by kernel_rfl) (by kernel_rfl) (fun _ _ _ h => h) (Or.inl ⟨by rfl, ?_⟩) hHeld ?_
      rotate_left
      · (intro w' hSw; (obtain ⟨s1, s2, s3⟩ := hSw); go_simp; try (with_reducible rfl))
      (try simp only [Act.put, List.setIfInBounds_toArray, List.set_cons_zero, List.set_cons_succ])
      refine wpAnyM_take (i := 8) (oi := ⟨_, _, _, _, _, _⟩) (v := ?_) rfl (by kernel_rfl) (by kernel_rfl) (by kernel_rfl) (by kernel_rfl) (fun _ _ _ h => h) (Or.inl ⟨by rfl, ?_⟩) hHeld ?_
      rotate_left
      · (intro w' hSw; (obtain ⟨s1, s2, s3⟩ := hSw); go_simp; try (with_reducible rfl))
      (try simp only [Act.put, List.setIfInBounds_toArray, List.set_cons_zero, List.set_cons_succ])
      refine wpAnyM_take (i := 9) (oi := ⟨_, _, _, _, _, _⟩) (v := ?_) rfl (by kernel_rfl) (by kernel_rfl) (by kernel_rfl) (by kernel_rfl) (fun _ _ _ h => h) (Or.inl ⟨by rfl, ?_⟩) hHeld ?_
      rotate_left
      · (intro w' hSw; (obtain ⟨s1, s2, s3⟩ := hSw); go_simp; try (with_reducible rfl))
      (try simp only [Act.put, List.setIfInBounds_toArray, List.set_cons_zero, List.set_cons_succ])
      refine wpAnyM_take (i := 10) (oi := ⟨_, _, _, _, _, _⟩) (v := ?_) rfl (by kernel_rfl) (by kernel_rfl) (by kernel_rfl) (by kernel_rfl) (fun _ _ _ h => h) (Or.inl ⟨by rfl, ?_⟩) hHeld ?_
      rotate_left
      · (intro w' hSw; (obtain ⟨s1, s2, s3⟩ := hSw); go_simp; try (with_reducible rfl))
      (try simp only [Act.put, List.setIfInBounds_toArray, List.set_cons_zero, List.set_cons_succ])
      refine wpAnyM_take (i := 11) (oi := ⟨_, _, _, _, _, _⟩) (v := ?_) rfl (by kernel_rfl) (by kernel_rfl) (by kernel_rfl) (by kernel_rfl) (fun _ _ _ h => h) (Or.inl ⟨by rfl, ?_⟩) hHeld ?_
      rotate_left
      · (intro w' hSw; (obtain ⟨s1, s2, s3⟩ := hSw); go_simp; try (with_reducible rfl))
      (try simp only [Act.put, List.setIfInBounds_toArray, List.set_cons_zero, List.set_cons_succ])
      refine wpAnyM_take (i := 12) (oi := ⟨_, _, _, _, _, _⟩) (v := ?_) rfl (by kernel_rfl) (by kernel_rfl) (by kernel_rfl) (by kernel_rfl) (fun _ _ _ h => h) (Or.inl ⟨by rfl, ?_⟩) hHeld ?_
      rotate_left
      · (intro w' hSw; (obtain ⟨s1, s2, s3⟩ := hSw); go_simp; try (with_reducible rfl))
      (try simp only [Act.put, List.setIfInBounds_toArray, List.set_cons_zero, List.set_cons_succ])
      refine wpAnyM_take (i := 13) (oi := ⟨_, _, _, _, _, _⟩) (v := ?_) rfl (by kernel_rfl) (by kernel_rfl) (by kernel_rfl) (by kernel_rfl) (fun _ _ _ h => h) (Or.inl ⟨by rfl, ?_⟩) hHeld ?_
      rotate_left
      · (intro w' hSw; (obtain ⟨s1, s2, s3⟩ := hSw); go_simp; try (with_reducible rfl))
      (try simp only [Act.put, List.setIfInBounds_toArray, List.set_cons_zero, List.set_cons_succ])
      refine wpAnyM_take (i := 14) (oi := ⟨_, _, _, _, _, _⟩) (v := ?_) rfl (by kernel_rfl) (by kernel_rfl) (by kernel_rfl) (by kernel_rfl) (fun _ _ _ h => h) (Or.inl ⟨by rfl, ?_⟩) hHeld ?_
      rotate_left
      · (intro w' hSw; (obtain ⟨s1, s2, s3⟩ := hSw); go_simp; try (with_reducible rfl))
      (try simp only [Act.put, List.setIfInBounds_toArray, List.set_cons_zero, List.set_cons_succ])
      refine wpAnyM_take (i := 15) (oi := ⟨_, _, _, _, _, _⟩) (v := ?_) rfl (by kernel_rfl) (by kernel_rfl) (by kernel_rfl) (by kernel_rfl) (fun _ _ _ h => h) (Or.inl ⟨by rfl, ?_⟩) hHeld ?_
      rotate_left
      · (intro w' hSw; (obtain ⟨s1, s2, s3⟩ := hSw); go_simp; try (with_reducible rfl))
      (try simp only [Act.put, List.setIfInBounds_toArray, List.set_cons_zero, List.set_cons_succ])
      refine wpAnyM_take (i := 17) (oi := ⟨_, _, _, _, _, _⟩) (v := ?_) rfl (by kernel_rfl) (by kernel_rfl) (by kernel_rfl) (by kernel_rfl) (fun _ _ _ h => h) (Or.inl ⟨by rfl, ?_⟩) hHeld ?_
      rotate_left
      · (intro w' hSw; (obtain ⟨s1, s2, s3⟩ := hSw); go_simp; try (with_reducible rfl))
      (try simp only [Act.put, List.setIfInBounds_toArray, List.set_cons_zero, List.set_cons_succ])
      refine wpAnyM_take (i := 18) (oi := ⟨_, _, _, _, _, _⟩) (v := ?_) rfl (by kernel_rfl) (by kernel_rfl) (by kernel_rfl) (by kernel_rfl) (fun _ _ _ h => h) (Or.inl ⟨by rfl, ?_⟩) hHeld ?_
      rotate_left
      · (intro w' hSw; (obtain ⟨s1, s2, s3⟩ := hSw); go_simp; try (with_reducible rfl))
      (try simp only [Act.put, List.setIfInBounds_toArray, List.set_cons_zero, List.set_cons_succ])
      refine wpAnyM_two (i := 16) (j := 19) (oi := ⟨_, _, _, _, _, _⟩) (oj := ⟨_, _, _, _, _, _⟩) (by kernel_rfl) rfl rfl (fun K hK => ?_) (fun K hK => ?_)
      · go_simp
        refine hK.out _ _ ((HS5.out.alloc (.cells (bls (List.replicate n false)) 4)).drew) (fun hHeld => ?_)
        clear hK K
        (try simp only [List.setIfInBounds_toArray, List.set_cons_zero, List.set_cons_succ])
        refine wpAnyM_one (i := 19) (o := ⟨_, _, _, _, _, _⟩) (by kernel_rfl) rfl (fun K hK => ?_)
        go_simp
        refine hK.out _ _ (((HS5.out.set hRF 1 (by decide) (.int .u64 f.n)).alloc (.cells (bls (List.replicate n false)) 4)).drew) (fun hHeld => ?_)
        clear hK K
        (try simp only [List.setIfInBounds_toArray, List.set_cons_zero, List.set_cons_succ])
        refine wpAnyM_take (i := 20) (oi := ⟨_, _, _, _, _, _⟩) (v := ?_) rfl (by kernel_rfl) (by kernel_rfl) (by kernel_rfl) (by kernel_rfl) (fun _ _ _ h => h) (Or.inl ⟨by rfl, ?_⟩) hHeld ?_
        rotate_left
        · (intro w' hSw; (obtain ⟨s1, s2, s3⟩ := hSw); go_simp; try (with_reducible rfl))
        (try simp only [Act.put, List.setIfInBounds_toArray, List.set_cons_zero, List.set_cons_succ])
        refine wpAnyM_take (i := 21) (oi := ⟨_, _, _, _, _, _⟩) (v := ?_) rfl (by kernel_rfl) (by kernel_rfl) (by kernel_rfl) (by kernel_rfl) (fun _ _ _ h => h) (Or.inl ⟨by rfl, ?_⟩) hHeld ?_
        rotate_left
        · (intro w' hSw; (obtain ⟨s1, s2, s3⟩ := hSw); go_simp; try (with_reducible rfl))
        (try simp only [Act.put, List.setIfInBounds_toArray, List.set_cons_zero, List.set_cons_succ])
        refine wpAnyM_one (i := 22) (o := ⟨_, _, _, _, _, _⟩) (by kernel_rfl) rfl (fun K hK => ?_)
        go_simp
        refine hK.out _ _ ((((HS5.out.set hRF 1 (by decide) (.int .u64 f.n)).set hRF 2 (by decide) (.int .u64 f.n)).alloc (.cells (bls (List.replicate n false)) 4)).drew) (fun hHeld => ?_)
        clear hK K
        (try simp only [List.setIfInBounds_toArray, List.set_cons_zero, List.set_cons_succ])
        refine wpAnyM_take (i := 23) (oi := ⟨_, _, _, _, _, _⟩) (v := ?_) rfl (by kernel_rfl) (by kernel_rfl) (by kernel_rfl) (by kernel_rfl) (fun _ _ _ h => h) (Or.inl ⟨by rfl, ?_⟩) hHeld ?_
        rotate_left
        · (intro w' hSw; (obtain ⟨s1, s2, s3⟩ := hSw); go_simp; try (with_reducible rfl))
        (try simp only [Act.put, List.setIfInBounds_toArray, List.set_cons_zero, List.set_cons_succ])
        refine wpAnyM_take (i := 24) (oi := ⟨_, _, _, _, _, _⟩) (v := ?_) rfl (by kernel_rfl) (by kernel_rfl) (by kernel_rfl) (by kernel_rfl) (fun _ _ _ h => h) (Or.inl ⟨by rfl, ?_⟩) hHeld ?_
        rotate_left
        · (intro w' hSw; (obtain ⟨s1, s2, s3⟩ := hSw); go_simp; try (with_reducible rfl))
        (try simp only [Act.put, List.setIfInBounds_toArray, List.set_cons_zero, List.set_cons_succ])
        refine wpAnyM_one (i := 25) (o := ⟨_, _, _, _, _, _⟩) (by kernel_rfl) rfl (fun K hK => ?_)
        go_simp
        refine hK.out _ _ (((((HS5.out.set hRF 1 (by decide) (.int .u64 f.n)).set hRF 2 (by decide) (.int .u64 f.n)).set hRF 3 (by decide) (.bool f.ov)).alloc (.cells (bls (List.replicate n false)) 4)).drew) (fun hHeld => ?_)
        clear hK K
        (try simp only [List.setIfInBounds_toArray, List.set_cons_zero, List.set_cons_succ])
        refine wpAnyM_take (i := 26) (oi := ⟨_, _, _, _, _, _⟩) (v := ?_) rfl (by kernel_rfl) (by kernel_rfl) (by kernel_rfl) (by kernel_rfl) (fun _ _ _ h => h) (Or.inl ⟨by rfl, ?_⟩) hHeld ?_
        rotate_left
        · (intro w' hSw; (obtain ⟨s1, s2, s3⟩ := hSw); go_simp; try (with_reducible rfl))
        (try simp only [Act.put, List.setIfInBounds_toArray, List.set_cons_zero, List.set_cons_succ])
        refine wpAnyM_take (i := 27) (oi := ⟨_, _, _, _, _, _⟩) (v := ?_) rfl (by kernel_rfl) (by kernel_rfl) (by kernel_rfl) (by kernel_rfl) (fun _ _ _ h => h) (Or.inl ⟨by rfl, ?_⟩) hHeld ?_
        rotate_left
        · (intro w' hSw; (obtain ⟨s1, s2, s3⟩ := hSw); go_simp; try (with_reducible rfl))
        (try simp only [Act.put, List.setIfInBounds_toArray, List.set_cons_zero, List.set_cons_succ])
        refine wpAnyM_one (i := 28) (o := ⟨_, _, _, _, _, _⟩) (by kernel_rfl) rfl (fun K hK => ?_)
        go_simp
        refine hK.out _ _ ((((((HS5.out.set hRF 1 (by decide) (.int .u64 f.n)).set hRF 2 (by decide) (.int .u64 f.n)).set hRF 3 (by decide) (.bool f.ov)).set hRF 4 (by decide) (.slice (some ⟨V.heap.size, 0, none⟩) n n)).alloc (.cells (bls (List.replicate n false)) 4)).drew) (fun hHeld => ?_)
        clear hK K
        (try simp only [List.setIfInBounds_toArray, List.set_cons_zero, List.set_cons_succ])
        refine wpAnyM_take (i := 29) (oi := ⟨_, _, _, _, _, _⟩) (v := ?_) rfl (by kernel_rfl) (by kernel_rfl) (by kernel_rfl) (by kernel_rfl) (fun _ _ _ h => h) (Or.inl ⟨by rfl, ?_⟩) hHeld ?_
        rotate_left
        · (intro w' hSw; (obtain ⟨s1, s2, s3⟩ := hSw); go_simp; try (with_reducible rfl))
        (try simp only [Act.put, List.setIfInBounds_toArray, List.set_cons_zero, List.set_cons_succ])
        refine wpAnyM_take (i := 30) (oi := ⟨_, _, _, _, _, _⟩) (v := ?_) rfl (by kernel_rfl) (by kernel_rfl) (by kernel_rfl) (by kernel_rfl) (fun _ _ _ h => h) (Or.inl ⟨by rfl, ?_⟩) hHeld ?_
        rotate_left
        · (intro w' hSw; (obtain ⟨s1, s2, s3⟩ := hSw); go_simp; try (with_reducible rfl))
        (try simp only [Act.put, List.setIfInBounds_toArray, List.set_cons_zero, List.set_cons_succ])
        refine wpAnyM_one (i := 31) (o := ⟨_, _, _, _, _, _⟩) (by kernel_rfl) rfl (fun K hK => ?_)
        go_simp
        refine hK.out _ _ (((((((HS5.out.set hRF 1 (by decide) (.int .u64 f.n)).set hRF 2 (by decide) (.int .u64 f.n)).set hRF 3 (by decide) (.bool f.ov)).set hRF 4 (by decide) (.slice (some ⟨V.heap.size, 0, none⟩) n n)).set hRF 5 (by decide) (.slice none 0 0)).alloc (.cells (bls (List.replicate n false)) 4)).drew) (fun hHeld => ?_)
        clear hK K
        (try simp only [List.setIfInBounds_toArray, List.set_cons_zero, List.set_cons_succ])
        refine wpAnyM_done (by kernel_rfl) ?_ _
        go_wp2_with fail
        go_meet
        rw [hW1]
      · go_simp
        refine hK.out _ _ ((HS5.out.set hRF 1 (by decide) (.int .u64 f.n)).drew) (fun hHeld => ?_)
        clear hK K
        (try simp only [List.setIfInBounds_toArray, List.set_cons_zero, List.set_cons_succ])
        refine wpAnyM_take (i := 20) (oi := ⟨_, _, _, _, _, _⟩) (v := ?_) rfl (by kernel_rfl) (by kernel_rfl) (by kernel_rfl) (by kernel_rfl) (fun _ _ _ h => h) (Or.inl ⟨by rfl, ?_⟩) hHeld ?_
        rotate_left
        · (intro w' hSw; (obtain ⟨s1, s2, s3⟩ := hSw); go_simp; try (with_reducible rfl))
        (try simp only [Act.put, List.setIfInBounds_toArray, List.set_cons_zero, List.set_cons_succ])
        refine wpAnyM_take (i := 21) (oi := ⟨_, _, _, _, _, _⟩) (v := ?_) rfl (by kernel_rfl) (by kernel_rfl) (by kernel_rfl) (by kernel_rfl) (fun _ _ _ h => h) (Or.inl ⟨by rfl, ?_⟩) hHeld ?_
        rotate_left
        · (intro w' hSw; (obtain ⟨s1, s2, s3⟩ := hSw); go_simp; try (with_reducible rfl))
        (try simp only [Act.put, List.setIfInBounds_toArray, List.set_cons_zero, List.set_cons_succ])
        refine wpAnyM_two (i := 16) (j := 22) (oi := ⟨_, _, _, _, _, _⟩) (oj := ⟨_, _, _, _, _, _⟩) (by kernel_rfl) rfl rfl (fun K hK => ?_) (fun K hK => ?_)
        · go_simp
          refine hK.out _ _ (((HS5.out.set hRF 1 (by decide) (.int .u64 f.n)).alloc (.cells (bls (List.replicate n false)) 4)).drew) (fun hHeld => ?_)
          clear hK K
          (try simp only [List.setIfInBounds_toArray, List.set_cons_zero, List.set_cons_succ])
          refine wpAnyM_one (i := 22) (o := ⟨_, _, _, _, _, _⟩) (by kernel_rfl) rfl (fun K hK => ?_)
          go_simp
          refine hK.out _ _ ((((HS5.out.set hRF 1 (by decide) (.int .u64 f.n)).set hRF 2 (by decide) (.int .u64 f.n)).alloc (.cells (bls (List.replicate n false)) 4)).drew) (fun hHeld => ?_)
          clear hK K
          (try simp only [List.setIfInBounds_toArray, List.set_cons_zero, List.set_cons_succ])
          refine wpAnyM_take (i := 23) (oi := ⟨_, _, _, _, _, _⟩) (v := ?_) rfl (by kernel_rfl) (by kernel_rfl) (by kernel_rfl) (by kernel_rfl) (fun _ _ _ h => h) (Or.inl ⟨by rfl, ?_⟩) hHeld ?_
          rotate_left
          · (intro w' hSw; (obtain ⟨s1, s2, s3⟩ := hSw); go_simp; try (with_reducible rfl))
          (try simp only [Act.put, List.setIfInBounds_toArray, List.set_cons_zero, List.set_cons_succ])
          refine wpAnyM_take (i := 24) (oi := ⟨_, _, _, _, _, _⟩) (v := ?_) rfl (by kernel_rfl) (by kernel_rfl) (by kernel_rfl) (by kernel_rfl) (fun _ _ _ h => h) (Or.inl ⟨by rfl, ?_⟩) hHeld ?_
          rotate_left
          · (intro w' hSw; (obtain ⟨s1, s2, s3⟩ := hSw); go_simp; try (with_reducible rfl))
          (try simp only [Act.put, List.setIfInBounds_toArray, List.set_cons_zero, List.set_cons_succ])
          refine wpAnyM_one (i := 25) (o := ⟨_, _, _, _, _, _⟩) (by kernel_rfl) rfl (fun K hK => ?_)
          go_simp
          refine hK.out _ _ (((((HS5.out.set hRF 1 (by decide) (.int .u64 f.n)).set hRF 2 (by decide) (.int .u64 f.n)).set hRF 3 (by decide) (.bool f.ov)).alloc (.cells (bls (List.replicate n false)) 4)).drew) (fun hHeld => ?_)
          clear hK K
          (try simp only [List.setIfInBounds_toArray, List.set_cons_zero, List.set_cons_succ])
          refine wpAnyM_take (i := 26) (oi := ⟨_, _, _, _, _, _⟩) (v := ?_) rfl (by kernel_rfl) (by kernel_rfl) (by kernel_rfl) (by kernel_rfl) (fun _ _ _ h => h) (Or.inl ⟨by rfl, ?_⟩) hHeld ?_
          rotate_left
          · (intro w' hSw; (obtain ⟨s1, s2, s3⟩ := hSw); go_simp; try (with_reducible rfl))
          (try simp only [Act.put, List.setIfInBounds_toArray, List.set_cons_zero, List.set_cons_succ])
          refine wpAnyM_take (i := 27) (oi := ⟨_, _, _, _, _, _⟩) (v := ?_) rfl (by kernel_rfl) (by kernel_rfl) (by kernel_rfl) (by kernel_rfl) (fun _ _ _ h => h) (Or.inl ⟨by rfl, ?_⟩) hHeld ?_
          rotate_left
          · (intro w' hSw; (obtain ⟨s1, s2, s3⟩ := hSw); go_simp; try (with_reducible rfl))
          (try simp only [Act.put, List.setIfInBounds_toArray, List.set_cons_zero, List.set_cons_succ])
          refine wpAnyM_one (i := 28) (o := ⟨_, _, _, _, _, _⟩) (by kernel_rfl) rfl (fun K hK => ?_)
          go_simp
          refine hK.out _ _ ((((((HS5.out.set hRF 1 (by decide) (.int .u64 f.n)).set hRF 2 (by decide) (.int .u64 f.n)).set hRF 3 (by decide) (.bool f.ov)).set hRF 4 (by decide) (.slice (some ⟨V.heap.size, 0, none⟩) n n)).alloc (.cells (bls (List.replicate n false)) 4)).drew) (fun hHeld => ?_)
          clear hK K
          (try simp only [List.setIfInBounds_toArray, List.set_cons_zero, List.set_cons_succ])
          refine wpAnyM_take (i := 29) (oi := ⟨_, _, _, _, _, _⟩) (v := ?_) rfl (by kernel_rfl) (by kernel_rfl) (by kernel_rfl) (by kernel_rfl) (fun _ _ _ h => h) (Or.inl ⟨by rfl, ?_⟩) hHeld ?_
          rotate_left
          · (intro w' hSw; (obtain ⟨s1, s2, s3⟩ := hSw); go_simp; try (with_reducible rfl))
          (try simp only [Act.put, List.setIfInBounds_toArray, List.set_cons_zero, List.set_cons_succ])
          refine wpAnyM_take (i := 30) (oi := ⟨_, _, _, _, _, _⟩) (v := ?_) rfl (by kernel_rfl) (by kernel_rfl) (by kernel_rfl) (by kernel_rfl) (fun _ _ _ h => h) (Or.inl ⟨by rfl, ?_⟩) hHeld ?_
          rotate_left
          · (intro w' hSw; (obtain ⟨s1, s2, s3⟩ := hSw); go_simp; try (with_reducible rfl))
          (try simp only [Act.put, List.setIfInBounds_toArray, List.set_cons_zero, List.set_cons_succ])
          refine wpAnyM_one (i := 31) (o := ⟨_, _, _, _, _, _⟩) (by kernel_rfl) rfl (fun K hK => ?_)
          go_simp
          refine hK.out _ _ (((((((HS5.out.set hRF 1 (by decide) (.int .u64 f.n)).set hRF 2 (by decide) (.int .u64 f.n)).set hRF 3 (by decide) (.bool f.ov)).set hRF 4 (by decide) (.slice (some ⟨V.heap.size, 0, none⟩) n n)).set hRF 5 (by decide) (.slice none 0 0)).alloc (.cells (bls (List.replicate n false)) 4)).drew) (fun hHeld => ?_)
          clear hK K
          (try simp only [List.setIfInBounds_toArray, List.set_cons_zero, List.set_cons_succ])
          refine wpAnyM_done (by kernel_rfl) ?_ _
          go_wp2_with fail
          go_meet
          rw [hW1]
        · go_simp
          refine hK.out _ _ (((HS5.out.set hRF 1 (by decide) (.int .u64 f.n)).set hRF 2 (by decide) (.int .u64 f.n)).drew) (fun hHeld => ?_)
          clear hK K
          (try simp only [List.setIfInBounds_toArray, List.set_cons_zero, List.set_cons_succ])
          refine wpAnyM_take (i := 23) (oi := ⟨_, _, _, _, _, _⟩) (v := ?_) rfl (by kernel_rfl) (by kernel_rfl) (by kernel_rfl) (by kernel_rfl) (fun _ _ _ h => h) (Or.inl ⟨by rfl, ?_⟩) hHeld ?_
          rotate_left
          · (intro w' hSw; (obtain ⟨s1, s2, s3⟩ := hSw); go_simp; try (with_reducible rfl))
          (try simp only [Act.put, List.setIfInBounds_toArray, List.set_cons_zero, List.set_cons_succ])
          refine wpAnyM_take (i := 24) (oi := ⟨_, _, _, _, _, _⟩) (v := ?_) rfl (by kernel_rfl) (by kernel_rfl) (by kernel_rfl) (by kernel_rfl) (fun _ _ _ h => h) (Or.inl ⟨by rfl, ?_⟩) hHeld ?_
          rotate_left
          · (intro w' hSw; (obtain ⟨s1, s2, s3⟩ := hSw); go_simp; try (with_reducible rfl))
          (try simp only [Act.put, List.setIfInBounds_toArray, List.set_cons_zero, List.set_cons_succ])
          refine wpAnyM_two (i := 16) (j := 25) (oi := ⟨_, _, _, _, _, _⟩) (oj := ⟨_, _, _, _, _, _⟩) (by kernel_rfl) rfl rfl (fun K hK => ?_) (fun K hK => ?_)
          · go_simp
            refine hK.out _ _ ((((HS5.out.set hRF 1 (by decide) (.int .u64 f.n)).set hRF 2 (by decide) (.int .u64 f.n)).alloc (.cells (bls (List.replicate n false)) 4)).drew) (fun hHeld => ?_)
            clear hK K
            (try simp only [List.setIfInBounds_toArray, List.set_cons_zero, List.set_cons_succ])
            refine wpAnyM_one (i := 25) (o := ⟨_, _, _, _, _, _⟩) (by kernel_rfl) rfl (fun K hK => ?_)
            go_simp
            refine hK.out _ _ (((((HS5.out.set hRF 1 (by decide) (.int .u64 f.n)).set hRF 2 (by decide) (.int .u64 f.n)).set hRF 3 (by decide) (.bool f.ov)).alloc (.cells (bls (List.replicate n false)) 4)).drew) (fun hHeld => ?_)
            clear hK K
            (try simp only [List.setIfInBounds_toArray, List.set_cons_zero, List.set_cons_succ])
            refine wpAnyM_take (i := 26) (oi := ⟨_, _, _, _, _, _⟩) (v := ?_) rfl (by kernel_rfl) (by kernel_rfl) (by kernel_rfl) (by kernel_rfl) (fun _ _ _ h => h) (Or.inl ⟨by rfl, ?_⟩) hHeld ?_
            rotate_left
            · (intro w' hSw; (obtain ⟨s1, s2, s3⟩ := hSw); go_simp; try (with_reducible rfl))
            (try simp only [Act.put, List.setIfInBounds_toArray, List.set_cons_zero, List.set_cons_succ])
            refine wpAnyM_take (i := 27) (oi := ⟨_, _, _, _, _, _⟩) (v := ?_) rfl (by kernel_rfl) (by kernel_rfl) (by kernel_rfl) (by kernel_rfl) (fun _ _ _ h => h) (Or.inl ⟨by rfl, ?_⟩) hHeld ?_
            rotate_left
            · (intro w' hSw; (obtain ⟨s1, s2, s3⟩ := hSw); go_simp; try (with_reducible rfl))
            (try simp only [Act.put, List.setIfInBounds_toArray, List.set_cons_zero, List.set_cons_succ])
            refine wpAnyM_one (i := 28) (o := ⟨_, _, _, _, _, _⟩) (by kernel_rfl) rfl (fun K hK => ?_)
            go_simp
            refine hK.out _ _ ((((((HS5.out.set hRF 1 (by decide) (.int .u64 f.n)).set hRF 2 (by decide) (.int .u64 f.n)).set hRF 3 (by decide) (.bool f.ov)).set hRF 4 (by decide) (.slice (some ⟨V.heap.size, 0, none⟩) n n)).alloc (.cells (bls (List.replicate n false)) 4)).drew) (fun hHeld => ?_)
            clear hK K
            (try simp only [List.setIfInBounds_toArray, List.set_cons_zero, List.set_cons_succ])
            refine wpAnyM_take (i := 29) (oi := ⟨_, _, _, _, _, _⟩) (v := ?_) rfl (by kernel_rfl) (by kernel_rfl) (by kernel_rfl) (by kernel_rfl) (fun _ _ _ h => h) (Or.inl ⟨by rfl, ?_⟩) hHeld ?_
            rotate_left
            · (intro w' hSw; (obtain ⟨s1, s2, s3⟩ := hSw); go_simp; try (with_reducible rfl))
            (try simp only [Act.put, List.setIfInBounds_toArray, List.set_cons_zero, List.set_cons_succ])
            refine wpAnyM_take (i := 30) (oi := ⟨_, _, _, _, _, _⟩) (v := ?_) rfl (by kernel_rfl) (by kernel_rfl) (by kernel_rfl) (by kernel_rfl) (fun _ _ _ h => h) (Or.inl ⟨by rfl, ?_⟩) hHeld ?_
            rotate_left
            · (intro w' hSw; (obtain ⟨s1, s2, s3⟩ := hSw); go_simp; try (with_reducible rfl))
            (try simp only [Act.put, List.setIfInBounds_toArray, List.set_cons_zero, List.set_cons_succ])
            refine wpAnyM_one (i := 31) (o := ⟨_, _, _, _, _, _⟩) (by kernel_rfl) rfl (fun K hK => ?_)
            go_simp
            refine hK.out _ _ (((((((HS5.out.set hRF 1 (by decide) (.int .u64 f.n)).set hRF 2 (by decide) (.int .u64 f.n)).set hRF 3 (by decide) (.bool f.ov)).set hRF 4 (by decide) (.slice (some ⟨V.heap.size, 0, none⟩) n n)).set hRF 5 (by decide) (.slice none 0 0)).alloc (.cells (bls (List.replicate n false)) 4)).drew) (fun hHeld => ?_)
            clear hK K
            (try simp only [List.setIfInBounds_toArray, List.set_cons_zero, List.set_cons_succ])
            refine wpAnyM_done (by kernel_rfl) ?_ _
            go_wp2_with fail
            go_meet
            rw [hW1]
          · go_simp
            refine hK.out _ _ ((((HS5.out.set hRF 1 (by decide) (.int .u64 f.n)).set hRF 2 (by decide) (.int .u64 f.n)).set hRF 3 (by decide) (.bool f.ov)).drew) (fun hHeld => ?_)
            clear hK K
            (try simp only [List.setIfInBounds_toArray, List.set_cons_zero, List.set_cons_succ])
            refine wpAnyM_one (i := 16) (o := ⟨_, _, _, _, _, _⟩) (by kernel_rfl) rfl (fun K hK => ?_)
            go_simp
            refine hK.out _ _ (((((HS5.out.set hRF 1 (by decide) (.int .u64 f.n)).set hRF 2 (by decide) (.int .u64 f.n)).set hRF 3 (by decide) (.bool f.ov)).alloc (.cells (bls (List.replicate n false)) 4)).drew) (fun hHeld => ?_)
            clear hK K
            (try simp only [List.setIfInBounds_toArray, List.set_cons_zero, List.set_cons_succ])
            refine wpAnyM_take (i := 26) (oi := ⟨_, _, _, _, _, _⟩) (v := ?_) rfl (by kernel_rfl) (by kernel_rfl) (by kernel_rfl) (by kernel_rfl) (fun _ _ _ h => h) (Or.inl ⟨by rfl, ?_⟩) hHeld ?_
            rotate_left
            · (intro w' hSw; (obtain ⟨s1, s2, s3⟩ := hSw); go_simp; try (with_reducible rfl))
            (try simp only [Act.put, List.setIfInBounds_toArray, List.set_cons_zero, List.set_cons_succ])
            refine wpAnyM_take (i := 27) (oi := ⟨_, _, _, _, _, _⟩) (v := ?_) rfl (by kernel_rfl) (by kernel_rfl) (by kernel_rfl) (by kernel_rfl) (fun _ _ _ h => h) (Or.inl ⟨by rfl, ?_⟩) hHeld ?_
            rotate_left
            · (intro w' hSw; (obtain ⟨s1, s2, s3⟩ := hSw); go_simp; try (with_reducible rfl))
            (try simp only [Act.put, List.setIfInBounds_toArray, List.set_cons_zero, List.set_cons_succ])
            refine wpAnyM_one (i := 28) (o := ⟨_, _, _, _, _, _⟩) (by kernel_rfl) rfl (fun K hK => ?_)
            go_simp
            refine hK.out _ _ ((((((HS5.out.set hRF 1 (by decide) (.int .u64 f.n)).set hRF 2 (by decide) (.int .u64 f.n)).set hRF 3 (by decide) (.bool f.ov)).set hRF 4 (by decide) (.slice (some ⟨V.heap.size, 0, none⟩) n n)).alloc (.cells (bls (List.replicate n false)) 4)).drew) (fun hHeld => ?_)
            clear hK K
            (try simp only [List.setIfInBounds_toArray, List.set_cons_zero, List.set_cons_succ])
            refine wpAnyM_take (i := 29) (oi := ⟨_, _, _, _, _, _⟩) (v := ?_) rfl (by kernel_rfl) (by kernel_rfl) (by kernel_rfl) (by kernel_rfl) (fun _ _ _ h => h) (Or.inl ⟨by rfl, ?_⟩) hHeld ?_
            rotate_left
            · (intro w' hSw; (obtain ⟨s1, s2, s3⟩ := hSw); go_simp; try (with_reducible rfl))
            (try simp only [Act.put, List.setIfInBounds_toArray, List.set_cons_zero, List.set_cons_succ])
            refine wpAnyM_take (i := 30) (oi := ⟨_, _, _, _, _, _⟩) (v := ?_) rfl (by kernel_rfl) (by kernel_rfl) (by kernel_rfl) (by kernel_rfl) (fun _ _ _ h => h) (Or.inl ⟨by rfl, ?_⟩) hHeld ?_
            rotate_left
            · (intro w' hSw; (obtain ⟨s1, s2, s3⟩ := hSw); go_simp; try (with_reducible rfl))
            (try simp only [Act.put, List.setIfInBounds_toArray, List.set_cons_zero, List.set_cons_succ])
            refine wpAnyM_one (i := 31) (o := ⟨_, _, _, _, _, _⟩) (by kernel_rfl) rfl (fun K hK => ?_)
            go_simp
            refine hK.out _ _ (((((((HS5.out.set hRF 1 (by decide) (.int .u64 f.n)).set hRF 2 (by decide) (.int .u64 f.n)).set hRF 3 (by decide) (.bool f.ov)).set hRF 4 (by decide) (.slice (some ⟨V.heap.size, 0, none⟩) n n)).set hRF 5 (by decide) (.slice none 0 0)).alloc (.cells (bls (List.replicate n false)) 4)).drew) (fun hHeld => ?_)
            clear hK K
            (try simp only [List.setIfInBounds_toArray, List.set_cons_zero, List.set_cons_succ])
            refine wpAnyM_done (by kernel_rfl) ?_ _
            go_wp2_with fail
            go_meet
            rw [hW1]
    case rest =>
      have hcut2 := hcut.symm
      subst hcut2
      clear hcut hW1
      have hc : c < r.M.length := by rw [HNN.out]; exact hc
      have HM : Hid ((r.bg f.n f.ov).M = r.M) := (show _ = _ from Gs.bg_M _ _ _)
      have HB1 : Hid (r.bg f.n f.ov = r.beg f.n f.ov) := (show _ = _ by unfold Gs.bg; rw [if_pos hlt])
      have HU1 : Hid ((r.bg f.n f.ov).un = f.n) := (show _ = _ by rw [HB1.out]; rfl)
      have HU0 : Hid (f.n ≠ 0) := (show _ ≠ _ by omega)
      have HMS : Hid (((r.bg f.n f.ov).come c).ms + 1 = r.M.length) := (show _ = _ by rw [HB1.out]; have hh := count_come (l := (r.beg f.n f.ov).co) (c := c) (by show (List.replicate r.M.length false)[c]? = some false; rw [List.getElem?_replicate, if_pos hc]); have h3 : (r.beg f.n f.ov).co.count false = r.M.length := (by simp [Gs.beg]); unfold Gs.ms Gs.come; rw [← h3]; exact hh)
      rw [← HB1.out] at HNX
      go_upto_region 6 with fail
      refine wp_at (RTP w R fq (r.bg f.n f.ov) f) HNX.out ?_
      clear HNX HB1 HS5 c1 c2 c3 c4 c5 fr hB
      generalize r.bg f.n f.ov = r1 at *
      intro V A
      obtain ⟨F1, R1, fp1, G1, T1, N0, N1⟩ := A
      obtain ⟨f0, f1, f2, f3, f4, f5, f6⟩ := BoxT.all7 F1
      obtain ⟨p0, p1, p2, p3, p4, p5, p6⟩ := BoxT.all7 R1
      have rf := R1.free
      have HF := hide F1
      have HR := hide R1
      have HG := hide G1
      have HT := hide T1
      have HN0 := hide N0
      have HN1 := hide N1
      obtain ⟨fd, mv, cv, kv, X, hfd⟩ := G1
      obtain ⟨c0, c1, c2, c3, c4, c5⟩ := X.cells
      have HX0 := hide X
      have HFD := hide hfd
      clear F1 R1 T1 N0 N1 X hfd
      have hcl : c < r1.co.length := by rw [HX0.out.len, HM.out]; exact hc
      obtain ⟨b, hb⟩ := get_of_lt hcl
      obtain ⟨ca, cc, rfl, hcc⟩ := HX0.out.c.shape
      obtain ⟨cb, co, rfl, _, e6⟩ := seg_bool HX0.out.c.lseg hb
      have hbd : r1.co.getD c false = b := by simp [hb]
      have hle1 := HX0.out.le
      have hln1 := HX0.out.len
      have hi : (c : Int) < (r1.co.length : Int) := by omega
      have HHB := hide hb
      have HLN := hide (And.intro hln1 hle1)
      have h64 : r1.co.length ≤ 64 := by omega
      clear hb hle1 hln1
      cases b with
      | true =>
        have hid : r1.idle c f.n = true := by unfold Gs.idle; rw [hbd]; simp
        have HX2 : Hid ((⟨xkd, xke, xti, xva, xma, xn, xfu⟩ : Sn) = Sn.none) := (show _ = _ by rw [HX.out, if_pos hid])
        have HS3 : Hid (s2 = r1) := (show _ = _ by rw [HS2.out, if_pos hid])
        clear HX HS2 hid
        have e := HX2.out
        simp only [Sn.none, Sn.mk.injEq] at e
        obtain ⟨rfl, rfl, rfl, rfl, rfl, rfl, rfl⟩ := e
        obtain rfl := HS3.out
        clear HX2 HS3
        generalize s2.co.length = nn at *
        go_wp2_with fail
        have z := (BoxT.ch7 HR.out (.int .i64 0) (.int .i64 0) (.int .i64 0) (.int .i64 0) (.int .i64 0) (.int .u64 0) (.int .u64 0)).all7
        exact bodyPost_ret (v := .agg #[.int .i64 0, .int .i64 0, .int .i64 0, .int .i64 0, .int .i64 0, .int .u64 0, .int .u64 0]) (by simp [results, Try.results33, go_sem, z.1, z.2.1, z.2.2.1, z.2.2.2.1, z.2.2.2.2.1, z.2.2.2.2.2.1, z.2.2.2.2.2.2]; try rfl) rfl ⟨rfl, fp1, HG.out.ch7 HN1.out (.int .i64 0) (.int .i64 0) (.int .i64 0) (.int .i64 0) (.int .i64 0) (.int .u64 0) (.int .u64 0), HT.out.ch7 (Nat.le_succ _) (.int .i64 0) (.int .i64 0) (.int .i64 0) (.int .i64 0) (.int .i64 0) (.int .u64 0) (.int .u64 0)⟩
      | false =>
        have hid : r1.idle c f.n = false := by unfold Gs.idle; rw [hbd, HU1.out]; simp; exact HU0.out
        have HX2 : Hid ((⟨xkd, xke, xti, xva, xma, xn, xfu⟩ : Sn) = (r1.come c).arrS) := (show _ = _ by rw [HX.out, if_neg (by rw [hid]; simp)])
        have HS3 : Hid (s2 = (r1.come c).arr) := (show _ = _ by rw [HS2.out, if_neg (by rw [hid]; simp)])
        clear HX HS2 hid hbd
        have HSG := hide HX0.out.c.lseg
        have HLL : Hid (([] : List Bool).length + r1.co.length ≤ 1000000) := (show _ ≤ _ by simp; omega)
        have hRV := HX0.out.box.lt
        have fr := HX0.out.box.free
        have hne : r1.co ≠ [] := fun e => by rw [e] at hcl; simp at hcl
        have HNX : Hid (∀ v5 w5, OwnL 4 1 blcs V.heap.size w5 v5 r1.co → V.grownBy w5 none → ∃ g cap5 cur5, v5 = .slice (some ⟨g, 0, none⟩) r1.co.length cap5 ∧ BoxT 33 w5 R #[mv, .int .u64 r1.la, .int .u64 r1.un, .bool r1.ov, .slice (some ⟨cb, co, none⟩) r1.co.length cc, kv] ∧ g ≠ R ∧ BoxT 4 w5 g cur5 ∧ cur5.size = cap5 ∧ r1.co.length ≤ cap5 ∧ RTP w R fq (r1.come c) f ((w5.setCell ⟨R, 4, none⟩ v5).setCell ⟨g, c, none⟩ (.bool true))) := by
          intro v5 w5 o5 g5
          have hX := HX0.out
          have hb5 : BoxT 33 w5 R _ := hX.box.back (g5.block R hX.box.lt (by simp))
          obtain ⟨g, cap5, cur5, e5, hg, hbx, hset⟩ := o5.setBool hne
          have hgR : g ≠ R := hbx.ne hb5 (by decide)
          have hsz : cur5.size = cap5 ∧ r1.co.length ≤ cap5 := by
            rcases o5.2 with ⟨e, h0⟩ | ⟨g', cap', cur', e, _, h3, h4, _, h6, _⟩
            · exact absurd (List.length_eq_zero_iff.1 h0) hne
            · rw [e5] at e
              cases e
              have h3 : BoxT 4 w5 g cur' := h3
              unfold BoxT at h3 hbx
              rw [h3] at hbx
              cases hbx
              exact ⟨by omega, h4⟩
          have hT : Turned R R V ((w5.setCell ⟨R, 4, none⟩ v5).setCell ⟨g, c, none⟩ (.bool true)) := by
            have t5 : Turned R R V w5 := ⟨g5.os, g5.tape, g5.output, g5.size, fun i hi _ _ => g5.block i hi (by simp)⟩
            have t6 := t5.trans (Turned.set R R w5 4 v5)
            exact ⟨t6.os, t6.tape, t6.output, by simpa using t6.size, fun i hi h1 h2 => (Below.heap_setCell _ ⟨g, c, none⟩ _ i (fun e => by simp at e; omega)).trans (t6.block i hi h1 h2)⟩
          have o6 : OwnL 4 1 blcs V.heap.size ((w5.setCell ⟨R, 4, none⟩ v5).setCell ⟨g, c, none⟩ (.bool true)) v5 (r1.co.set c true) := by
            have o7 := (o5.otherBox hb5 (by decide) 4 v5)
            obtain ⟨g', cap', cur', e', _, _, hset'⟩ := o7.setBool hne
            rw [e5] at e'
            cases e'
            have := hset' c true hcl
            rw [e5] at this ⊢
            exact this
          obtain ⟨fq2, g2, t2⟩ := RA.of (r' := r1.come c) (mv' := mv) (cv' := v5) (kv' := kv) HFD.out hX.nR hX.flt hX.box.lt hT (by
              have := (hb5.set 4 v5).other c (.bool true) hgR.symm
              simpa [Gs.come] using this) (hX.m.old hX.nR hT) (RSeg.fresh o6 blcs_len (show (r1.co.set c true).length ≤ _ by rw [List.length_set]; omega)) (hX.k.old hX.nR hT) (by simpa [Gs.come] using hX.len) hX.pos hX.le hX.la0
          exact ⟨g, cap5, cur5, e5, hb5, hgR, hbx, hsz.1, hsz.2, RTP.step HF.out HR.out HT.out HN0.out HN1.out g2 t2⟩
        generalize hcL : r1.co.length = nn at *
        clear f0 f1 f2 f3 f4 f5 f6 p0 p1 p2 p3 p4 p5 p6 rf c0 c1 c2 c3 c5
        go_upto_region 10 with (at_builtin; refine app_segL Try.info4' Try.underlying30 rfl (by decide) (by decide) blcs_len blcs_one rfl _ _ rfl V.heap.size (.slice none 0 0) [] rfl (OwnL.nil _ _ _ _ _) V.heap.size _ r1.co rfl HSG.out (by rw [hcL]; exact HLL.out) (Nat.le_refl _) ?_; intro v5 w5 h5 g5 k5; rw [List.nil_append] at h5; obtain ⟨g, cap5, cur5, e5, hb5, hgR, hbx, hsz, hcap, hrt⟩ := HNX.out v5 w5 h5 g5; subst e5; have HRT := hide hrt; have d4 := (hb5.cellAt 4).trans rfl; have fr5 := hb5.free; have hbx2 := hbx.other 4 (.slice (some ⟨g, 0, none⟩) nn cap5) hgR; have frg := hbx2.free; have dg : ∃ u, ((w5.setCell ⟨R, 4, none⟩ (.slice (some ⟨g, 0, none⟩) nn cap5))).cell? ⟨g, c, none⟩ = some u := ⟨cur5[c]'(by omega), by rw [hbx2.cellAt]; exact Array.getElem?_eq_getElem _⟩; obtain ⟨ug, dg⟩ := dg; clear h5 g5 k5 hrt hbx hbx2)
        refine wp_at (RTP w R fq (r1.come c) f) HRT.out ?_
        clear HRT d4 fr5 frg dg HSG HLL HNX HF HR HG HT HN0 HN1 HX0 HFD hcap hsz hgR hb5 e6 c4 fr
        generalize hr2 : r1.come c = r2 at *
        have HU2 : Hid (r2.un = f.n) := (show _ = _ by rw [← hr2]; exact HU1.out)
        have HK2 : Hid (r2.keeps = if r2.ov then true else decide (r2.ms = 0)) := (show _ = _ by
          unfold Gs.keeps
          have hm := HMS.out
          have hM : r2.M.length = r.M.length := by rw [← hr2]; show r1.M.length = _; rw [HM.out]
          rw [hM]
          cases r2.ov <;> simp
          exact hm)
        have HL2 : Hid (r2.co.length = nn ∧ nn ≤ 64) := ⟨by rw [← hr2]; simpa [Gs.come] using hcL, h64⟩
        clear hr2 HU1 HMS HHB HLN hcL hne hcl hRV
        intro Y A
        obtain ⟨F1, R1, fp1, G1, T1, N0, N1⟩ := A
        obtain ⟨f0, f1, f2, f3, f4, f5, f6⟩ := BoxT.all7 F1
        have ha : RTP w R fq r2 f Y := ⟨F1, R1, fp1, G1, T1, N0, N1⟩
        have HA := hide ha
        obtain ⟨fd, mv, cv, kv, X, hfd⟩ := G1
        obtain ⟨-, -, c2, c3, c4, -⟩ := X.cells
        have HCS := hide X.c.lseg
        obtain ⟨ca2, cc2, rfl, hcc2⟩ := X.c.shape
        have HAC := hide (all_count r2.co)
        have HAS : Hid (∀ i b, r2.co[i]? = some b → (r2.co.take (i + 1)).all id = ((r2.co.take i).all id && b)) := (show ∀ i b, _ from fun i b h => all_take_step h)
        have HAE : Hid ((r2.co.take nn).all id = r2.co.all id) := (show _ = _ by rw [List.take_of_length_le (by rw [HL2.out.1]; exact Nat.le_refl _)])
        have hnn64 := HL2.out.2
        rw [HL2.out.1] at c4 HCS
        have HLN2 := hide HL2.out.1
        clear F1 R1 T1 N0 N1 X hfd hcc2 hcc ha
        go_wp2_with fail
        go_loopg [8, 9] (nn + 1) (fun gh bv iv wr => ∃ i : Nat, iv = .int .i64 (i : Int) ∧ i ≤ nn ∧ nn + 1 ≤ gh + i ∧ bv = .bool ((r2.co.take i).all id) ∧ wr = Y)
        case atStart => exact ⟨0, rfl, by omega, by omega, rfl, rfl⟩
        case round =>
          obtain ⟨i, rfl, hi2, hg, rfl, rfl⟩ := hrel
          obtain ⟨go, rfl⟩ : ∃ go, gk = go + 1 := ⟨gk - 1, by omega⟩
          by_cases hlt2 : i < nn
          · have bt : (i : Int) < (nn : Int) := by omega
            obtain ⟨b, hb⟩ := get_of_lt (show i < r2.co.length by rw [HLN2.out]; exact hlt2)
            obtain ⟨cb2, co2, rfl, _, e7⟩ := seg_bool HCS.out hb
            have HST := hide (HAS.out i b hb)
            clear hb
            cases hall : (r2.co.take i).all id with
            | true =>
              rw [hall, Bool.true_and] at HST
              go_wp2_with fail
              go_roundg go
              case rel => exact ⟨i + 1, by go_num, by omega, by omega, by rw [HST.out], rfl⟩
              case measure => omega
            | false =>
              rw [hall, Bool.false_and] at HST
              go_wp2_with fail
              go_roundg go
              case rel => exact ⟨i + 1, by go_num, by omega, by omega, by rw [HST.out], rfl⟩
              case measure => omega
          · have bt : ¬ (i : Int) < (nn : Int) := by omega
            have HWH : Hid ((r2.co.take i).all id = decide (r2.ms = 0)) := (show _ = _ by rw [← show nn = i by omega, HAE.out, HAC.out]; rfl)
            rw [HWH.out]
            clear HWH HAE HAC HAS HCS hlt2
            have HXX : Hid (xkd = (if r2.keeps then 3 else 0) ∧ xke = 0 ∧ xti = 0 ∧ xva = 0 ∧ xma = 0 ∧ xn = (if r2.keeps then f.n else 0) ∧ xfu = (if r2.ms = 0 then f.n else 0)) := (show _ ∧ _ by
              have e := HX2.out
              unfold Gs.arrS at e
              rw [HU2.out] at e
              simp only [Sn.mk.injEq] at e
              exact e)
            have HSS : Hid (s2 = if r2.ms = 0 then { r2 with un := 0 } else r2) := HS3.out
            clear HX2 HS3
            go_upto_region 16 with fail
            refine wp_at (fun W => EP w R fq wr.heap.size f Sn.none r2 W) ?_ ?_
            · obtain ⟨a1, a2, fq', a3, a4, a5, a6⟩ := HA.out
              have hl := a3.flt
              refine ⟨a1.alloc _, a2.alloc _, BoxT.new _ _ _, fq', a3.below (below_box _ _), a4.trans (FT.of_below (below_box _ _)), a5, a6, ?_, fun e => by have := hl _ e; omega, a4.size⟩
              obtain ⟨fd', mv', cv', kv', X', _⟩ := a3
              have := a1.lt
              have := a2.lt
              have := X'.box.lt
              omega
            generalize wr.heap.size = sb at *
            clear HA f0 f1 f2 f3 f4 f5 f6 c2 c3 c4
            intro Z A
            have HE0 := hide A
            clear A
            refine wp_at (EP w R fq sb f Sn.none r2) HE0.out ?_
            clear HE0
            intro Z2 A2
            have HE := hide A2
            obtain ⟨F1, R1, SB, fp1, G1, T1, N0, N1, hs3, ns⟩ := A2
            obtain ⟨f0, f1, f2, f3, f4, f5, f6⟩ := BoxT.all7 F1
            obtain ⟨p0, p1, p2, p3, p4, p5, p6⟩ := BoxT.all7 R1
            obtain ⟨q0, q1, q2, q3, q4, q5, q6⟩ := SB.all7
            have rf := R1.free
            have sf := SB.free
            have HR := hide R1
            have HG := hide G1
            have HT := hide T1
            have HN1 := hide N1
            obtain ⟨fd2, mv2, cv2, kv2, X, hfd2⟩ := G1
            obtain ⟨-, -, c2, c3, -, -⟩ := X.cells
            have fr2 := X.box.free
            have d2 : ∀ u, (Z2.setCell ⟨sb, 6, none⟩ u).cell? ⟨R, 2, none⟩ = Z2.cell? ⟨R, 2, none⟩ := fun u => World.cell?_setCell_far _ ⟨sb, 6, none⟩ ⟨R, 2, none⟩ _ hs3.2.2
            have fr3 : ∀ u j, (Z2.setCell ⟨sb, 6, none⟩ u).frozen? ⟨R, j, none⟩ = false := fun u j => (X.box.other 6 u (fun e => hs3.2.2 e.symm)).free j
            clear F1 R1 T1 N0 N1 X SB
            simp only [Sn.none] at q0 q1 q2 q3 q4 q5 q6
            cases hov : r2.ov with
            | true =>
              rw [hov] at c3 HK2
              by_cases hms : r2.ms = 0
              · have HKK : Hid (r2.keeps = true) := (show _ = _ by rw [HK2.out]; simp)
                rw [decide_eq_true hms]
                have e := HXX.out
                rw [HKK.out, if_pos hms] at e
                simp only [if_true] at e
                obtain ⟨rfl, rfl, rfl, rfl, rfl, rfl, rfl⟩ := e
                have HSS2 := hide (HSS.out.trans (if_pos hms))
                clear HXX HSS HKK HK2
                go_upto_region 18 with fail
                refine wp_at (EP w R fq sb f ⟨3, 0, 0, 0, 0, f.n, 0⟩ r2) (HE.out.keep ⟨3, 0, 0, 0, 0, f.n, 0⟩) ?_
                clear HE f0 f1 f2 f3 f4 f5 f6 p0 p1 p2 p3 p4 p5 p6 q0 q1 q2 q3 q4 q5 q6 rf sf HR HG HT HN1 c2 c3 fr2 d2 fr3 hs3 ns hfd2
                intro Z2 A2
                have HE := hide A2
                obtain ⟨F1, R1, SB, fp1, G1, T1, N0, N1, hs3, ns⟩ := A2
                obtain ⟨f0, f1, f2, f3, f4, f5, f6⟩ := BoxT.all7 F1
                obtain ⟨p0, p1, p2, p3, p4, p5, p6⟩ := BoxT.all7 R1
                obtain ⟨q0, q1, q2, q3, q4, q5, q6⟩ := SB.all7
                have rf := R1.free
                have sf := SB.free
                have HR := hide R1
                have HG := hide G1
                have HT := hide T1
                have HN1 := hide N1
                obtain ⟨fd2, mv2, cv2, kv2, X, hfd2⟩ := G1
                obtain ⟨-, -, c2, c3, -, -⟩ := X.cells
                have fr2 := X.box.free
                have d2 : ∀ u, (Z2.setCell ⟨sb, 6, none⟩ u).cell? ⟨R, 2, none⟩ = Z2.cell? ⟨R, 2, none⟩ := fun u => World.cell?_setCell_far _ ⟨sb, 6, none⟩ ⟨R, 2, none⟩ _ hs3.2.2
                have fr3 : ∀ u j, (Z2.setCell ⟨sb, 6, none⟩ u).frozen? ⟨R, j, none⟩ = false := fun u j => (X.box.other 6 u (fun e => hs3.2.2 e.symm)).free j
                clear F1 R1 T1 N0 N1 X SB
                simp only at q0 q1 q2 q3 q4 q5 q6
                go_upto_region 20 with fail
                refine wp_at (EP w R fq sb f ⟨3, 0, 0, 0, 0, f.n, f.n⟩ { r2 with un := 0 }) (HE.out.full f.n) ?_
                clear HE f0 f1 f2 f3 f4 f5 f6 p0 p1 p2 p3 p4 p5 p6 q0 q1 q2 q3 q4 q5 q6 rf sf HR HG HT HN1 c2 c3 fr2 d2 fr3 hs3 ns hfd2
                intro Z2 A2
                have HE := hide A2
                obtain ⟨F1, R1, SB, fp1, G1, T1, N0, N1, hs3, ns⟩ := A2
                obtain ⟨f0, f1, f2, f3, f4, f5, f6⟩ := BoxT.all7 F1
                obtain ⟨p0, p1, p2, p3, p4, p5, p6⟩ := BoxT.all7 R1
                obtain ⟨q0, q1, q2, q3, q4, q5, q6⟩ := SB.all7
                have rf := R1.free
                have sf := SB.free
                have HR := hide R1
                have HG := hide G1
                have HT := hide T1
                have HN1 := hide N1
                obtain ⟨fd2, mv2, cv2, kv2, X, hfd2⟩ := G1
                obtain ⟨-, -, c2, c3, -, -⟩ := X.cells
                have fr2 := X.box.free
                have d2 : ∀ u, (Z2.setCell ⟨sb, 6, none⟩ u).cell? ⟨R, 2, none⟩ = Z2.cell? ⟨R, 2, none⟩ := fun u => World.cell?_setCell_far _ ⟨sb, 6, none⟩ ⟨R, 2, none⟩ _ hs3.2.2
                have fr3 : ∀ u j, (Z2.setCell ⟨sb, 6, none⟩ u).frozen? ⟨R, j, none⟩ = false := fun u j => (X.box.other 6 u (fun e => hs3.2.2 e.symm)).free j
                clear F1 R1 T1 N0 N1 X SB
                simp only at q0 q1 q2 q3 q4 q5 q6
                go_wp2_with fail
                obtain rfl := HSS2.out
                have z := (BoxT.ch7 HR.out (.int .i64 3) (.int .i64 0) (.int .i64 0) (.int .i64 0) (.int .i64 0) (.int .u64 f.n) (.int .u64 f.n)).all7
                exact bodyPost_ret (v := .agg #[.int .i64 3, .int .i64 0, .int .i64 0, .int .i64 0, .int .i64 0, .int .u64 f.n, .int .u64 f.n]) (by simp [results, Try.results33, go_sem, z.1, z.2.1, z.2.2.1, z.2.2.2.1, z.2.2.2.2.1, z.2.2.2.2.2.1, z.2.2.2.2.2.2]; try rfl) rfl ⟨rfl, fp1, HG.out.ch7 HN1.out (.int .i64 3) (.int .i64 0) (.int .i64 0) (.int .i64 0) (.int .i64 0) (.int .u64 f.n) (.int .u64 f.n), HT.out.ch7 (Nat.le_succ _) (.int .i64 3) (.int .i64 0) (.int .i64 0) (.int .i64 0) (.int .i64 0) (.int .u64 f.n) (.int .u64 f.n)⟩
              · have HKK : Hid (r2.keeps = true) := (show _ = _ by rw [HK2.out]; simp)
                rw [decide_eq_false hms]
                have e := HXX.out
                rw [HKK.out, if_neg hms] at e
                simp only [if_true] at e
                obtain ⟨rfl, rfl, rfl, rfl, rfl, rfl, rfl⟩ := e
                have HSS2 := hide (HSS.out.trans (if_neg hms))
                clear HXX HSS HKK HK2
                go_upto_region 18 with fail
                refine wp_at (EP w R fq sb f ⟨3, 0, 0, 0, 0, f.n, 0⟩ r2) (HE.out.keep ⟨3, 0, 0, 0, 0, f.n, 0⟩) ?_
                clear HE f0 f1 f2 f3 f4 f5 f6 p0 p1 p2 p3 p4 p5 p6 q0 q1 q2 q3 q4 q5 q6 rf sf HR HG HT HN1 c2 c3 fr2 d2 fr3 hs3 ns hfd2
                intro Z2 A2
                have HE := hide A2
                obtain ⟨F1, R1, SB, fp1, G1, T1, N0, N1, hs3, ns⟩ := A2
                obtain ⟨f0, f1, f2, f3, f4, f5, f6⟩ := BoxT.all7 F1
                obtain ⟨p0, p1, p2, p3, p4, p5, p6⟩ := BoxT.all7 R1
                obtain ⟨q0, q1, q2, q3, q4, q5, q6⟩ := SB.all7
                have rf := R1.free
                have sf := SB.free
                have HR := hide R1
                have HG := hide G1
                have HT := hide T1
                have HN1 := hide N1
                obtain ⟨fd2, mv2, cv2, kv2, X, hfd2⟩ := G1
                obtain ⟨-, -, c2, c3, -, -⟩ := X.cells
                have fr2 := X.box.free
                have d2 : ∀ u, (Z2.setCell ⟨sb, 6, none⟩ u).cell? ⟨R, 2, none⟩ = Z2.cell? ⟨R, 2, none⟩ := fun u => World.cell?_setCell_far _ ⟨sb, 6, none⟩ ⟨R, 2, none⟩ _ hs3.2.2
                have fr3 : ∀ u j, (Z2.setCell ⟨sb, 6, none⟩ u).frozen? ⟨R, j, none⟩ = false := fun u j => (X.box.other 6 u (fun e => hs3.2.2 e.symm)).free j
                clear F1 R1 T1 N0 N1 X SB
                simp only at q0 q1 q2 q3 q4 q5 q6
                go_wp2_with fail
                obtain rfl := HSS2.out
                have z := (BoxT.ch7 HR.out (.int .i64 3) (.int .i64 0) (.int .i64 0) (.int .i64 0) (.int .i64 0) (.int .u64 f.n) (.int .u64 0)).all7
                exact bodyPost_ret (v := .agg #[.int .i64 3, .int .i64 0, .int .i64 0, .int .i64 0, .int .i64 0, .int .u64 f.n, .int .u64 0]) (by simp [results, Try.results33, go_sem, z.1, z.2.1, z.2.2.1, z.2.2.2.1, z.2.2.2.2.1, z.2.2.2.2.2.1, z.2.2.2.2.2.2]; try rfl) rfl ⟨rfl, fp1, HG.out.ch7 HN1.out (.int .i64 3) (.int .i64 0) (.int .i64 0) (.int .i64 0) (.int .i64 0) (.int .u64 f.n) (.int .u64 0), HT.out.ch7 (Nat.le_succ _) (.int .i64 3) (.int .i64 0) (.int .i64 0) (.int .i64 0) (.int .i64 0) (.int .u64 f.n) (.int .u64 0)⟩
            | false =>
              rw [hov] at c3 HK2
              by_cases hms : r2.ms = 0
              · have HKK : Hid (r2.keeps = true) := (show _ = _ by rw [HK2.out]; simp; exact hms)
                rw [decide_eq_true hms]
                have e := HXX.out
                rw [HKK.out, if_pos hms] at e
                simp only [if_true] at e
                obtain ⟨rfl, rfl, rfl, rfl, rfl, rfl, rfl⟩ := e
                have HSS2 := hide (HSS.out.trans (if_pos hms))
                clear HXX HSS HKK HK2
                go_upto_region 18 with fail
                refine wp_at (EP w R fq sb f ⟨3, 0, 0, 0, 0, f.n, 0⟩ r2) (HE.out.keep ⟨3, 0, 0, 0, 0, f.n, 0⟩) ?_
                clear HE f0 f1 f2 f3 f4 f5 f6 p0 p1 p2 p3 p4 p5 p6 q0 q1 q2 q3 q4 q5 q6 rf sf HR HG HT HN1 c2 c3 fr2 d2 fr3 hs3 ns hfd2
                intro Z2 A2
                have HE := hide A2
                obtain ⟨F1, R1, SB, fp1, G1, T1, N0, N1, hs3, ns⟩ := A2
                obtain ⟨f0, f1, f2, f3, f4, f5, f6⟩ := BoxT.all7 F1
                obtain ⟨p0, p1, p2, p3, p4, p5, p6⟩ := BoxT.all7 R1
                obtain ⟨q0, q1, q2, q3, q4, q5, q6⟩ := SB.all7
                have rf := R1.free
                have sf := SB.free
                have HR := hide R1
                have HG := hide G1
                have HT := hide T1
                have HN1 := hide N1
                obtain ⟨fd2, mv2, cv2, kv2, X, hfd2⟩ := G1
                obtain ⟨-, -, c2, c3, -, -⟩ := X.cells
                have fr2 := X.box.free
                have d2 : ∀ u, (Z2.setCell ⟨sb, 6, none⟩ u).cell? ⟨R, 2, none⟩ = Z2.cell? ⟨R, 2, none⟩ := fun u => World.cell?_setCell_far _ ⟨sb, 6, none⟩ ⟨R, 2, none⟩ _ hs3.2.2
                have fr3 : ∀ u j, (Z2.setCell ⟨sb, 6, none⟩ u).frozen? ⟨R, j, none⟩ = false := fun u j => (X.box.other 6 u (fun e => hs3.2.2 e.symm)).free j
                clear F1 R1 T1 N0 N1 X SB
                simp only at q0 q1 q2 q3 q4 q5 q6
                go_upto_region 20 with fail
                refine wp_at (EP w R fq sb f ⟨3, 0, 0, 0, 0, f.n, f.n⟩ { r2 with un := 0 }) (HE.out.full f.n) ?_
                clear HE f0 f1 f2 f3 f4 f5 f6 p0 p1 p2 p3 p4 p5 p6 q0 q1 q2 q3 q4 q5 q6 rf sf HR HG HT HN1 c2 c3 fr2 d2 fr3 hs3 ns hfd2
                intro Z2 A2
                have HE := hide A2
                obtain ⟨F1, R1, SB, fp1, G1, T1, N0, N1, hs3, ns⟩ := A2
                obtain ⟨f0, f1, f2, f3, f4, f5, f6⟩ := BoxT.all7 F1
                obtain ⟨p0, p1, p2, p3, p4, p5, p6⟩ := BoxT.all7 R1
                obtain ⟨q0, q1, q2, q3, q4, q5, q6⟩ := SB.all7
                have rf := R1.free
                have sf := SB.free
                have HR := hide R1
                have HG := hide G1
                have HT := hide T1
                have HN1 := hide N1
                obtain ⟨fd2, mv2, cv2, kv2, X, hfd2⟩ := G1
                obtain ⟨-, -, c2, c3, -, -⟩ := X.cells
                have fr2 := X.box.free
                have d2 : ∀ u, (Z2.setCell ⟨sb, 6, none⟩ u).cell? ⟨R, 2, none⟩ = Z2.cell? ⟨R, 2, none⟩ := fun u => World.cell?_setCell_far _ ⟨sb, 6, none⟩ ⟨R, 2, none⟩ _ hs3.2.2
                have fr3 : ∀ u j, (Z2.setCell ⟨sb, 6, none⟩ u).frozen? ⟨R, j, none⟩ = false := fun u j => (X.box.other 6 u (fun e => hs3.2.2 e.symm)).free j
                clear F1 R1 T1 N0 N1 X SB
                simp only at q0 q1 q2 q3 q4 q5 q6
                go_wp2_with fail
                obtain rfl := HSS2.out
                have z := (BoxT.ch7 HR.out (.int .i64 3) (.int .i64 0) (.int .i64 0) (.int .i64 0) (.int .i64 0) (.int .u64 f.n) (.int .u64 f.n)).all7
                exact bodyPost_ret (v := .agg #[.int .i64 3, .int .i64 0, .int .i64 0, .int .i64 0, .int .i64 0, .int .u64 f.n, .int .u64 f.n]) (by simp [results, Try.results33, go_sem, z.1, z.2.1, z.2.2.1, z.2.2.2.1, z.2.2.2.2.1, z.2.2.2.2.2.1, z.2.2.2.2.2.2]; try rfl) rfl ⟨rfl, fp1, HG.out.ch7 HN1.out (.int .i64 3) (.int .i64 0) (.int .i64 0) (.int .i64 0) (.int .i64 0) (.int .u64 f.n) (.int .u64 f.n), HT.out.ch7 (Nat.le_succ _) (.int .i64 3) (.int .i64 0) (.int .i64 0) (.int .i64 0) (.int .i64 0) (.int .u64 f.n) (.int .u64 f.n)⟩
              · have HKK : Hid (r2.keeps = false) := (show _ = _ by rw [HK2.out]; simp; exact hms)
                rw [decide_eq_false hms]
                have e := HXX.out
                rw [HKK.out, if_neg hms] at e
                simp only [Bool.false_eq_true, if_false] at e
                obtain ⟨rfl, rfl, rfl, rfl, rfl, rfl, rfl⟩ := e
                have HSS2 := hide (HSS.out.trans (if_neg hms))
                clear HXX HSS HKK HK2
                go_upto_region 18 with fail
                refine wp_at (EP w R fq sb f ⟨0, 0, 0, 0, 0, 0, 0⟩ r2) (HE.out) ?_
                clear HE f0 f1 f2 f3 f4 f5 f6 p0 p1 p2 p3 p4 p5 p6 q0 q1 q2 q3 q4 q5 q6 rf sf HR HG HT HN1 c2 c3 fr2 d2 fr3 hs3 ns hfd2
                intro Z2 A2
                have HE := hide A2
                obtain ⟨F1, R1, SB, fp1, G1, T1, N0, N1, hs3, ns⟩ := A2
                obtain ⟨f0, f1, f2, f3, f4, f5, f6⟩ := BoxT.all7 F1
                obtain ⟨p0, p1, p2, p3, p4, p5, p6⟩ := BoxT.all7 R1
                obtain ⟨q0, q1, q2, q3, q4, q5, q6⟩ := SB.all7
                have rf := R1.free
                have sf := SB.free
                have HR := hide R1
                have HG := hide G1
                have HT := hide T1
                have HN1 := hide N1
                obtain ⟨fd2, mv2, cv2, kv2, X, hfd2⟩ := G1
                obtain ⟨-, -, c2, c3, -, -⟩ := X.cells
                have fr2 := X.box.free
                have d2 : ∀ u, (Z2.setCell ⟨sb, 6, none⟩ u).cell? ⟨R, 2, none⟩ = Z2.cell? ⟨R, 2, none⟩ := fun u => World.cell?_setCell_far _ ⟨sb, 6, none⟩ ⟨R, 2, none⟩ _ hs3.2.2
                have fr3 : ∀ u j, (Z2.setCell ⟨sb, 6, none⟩ u).frozen? ⟨R, j, none⟩ = false := fun u j => (X.box.other 6 u (fun e => hs3.2.2 e.symm)).free j
                clear F1 R1 T1 N0 N1 X SB
                simp only at q0 q1 q2 q3 q4 q5 q6
                go_wp2_with fail
                obtain rfl := HSS2.out
                have z := (BoxT.ch7 HR.out (.int .i64 0) (.int .i64 0) (.int .i64 0) (.int .i64 0) (.int .i64 0) (.int .u64 0) (.int .u64 0)).all7
                exact bodyPost_ret (v := .agg #[.int .i64 0, .int .i64 0, .int .i64 0, .int .i64 0, .int .i64 0, .int .u64 0, .int .u64 0]) (by simp [results, Try.results33, go_sem, z.1, z.2.1, z.2.2.1, z.2.2.2.1, z.2.2.2.2.1, z.2.2.2.2.2.1, z.2.2.2.2.2.2]; try rfl) rfl ⟨rfl, fp1, HG.out.ch7 HN1.out (.int .i64 0) (.int .i64 0) (.int .i64 0) (.int .i64 0) (.int .i64 0) (.int .u64 0) (.int .u64 0), HT.out.ch7 (Nat.le_succ _) (.int .i64 0) (.int .i64 0) (.int .i64 0) (.int .i64 0) (.int .i64 0) (.int .u64 0) (.int .u64 0)⟩
end Go.Proofs.Ytmipgfobggbndaa
