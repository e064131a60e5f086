/-
  Take.
-/
import Derived.Test.YtmipgfobggbndaaGBarr
namespace Go.Proofs.Ytmipgfobggbndaa
open Go.RowKit

def Fr.ar (f : Fr) : Array Value := #[.int .i64 f.kd, .int .i64 f.ke, .int .i64 f.ti, .int .i64 f.va, .int .i64 f.ma, .int .u64 f.n, .bool f.ov]
/-- What Take makes of a gate, tells, and which error. -/
def Gs.ok (s : Gs) (ch : Int) : Bool := s.has ch && !s.bl ch
def Gs.tk (s : Gs) (ch : Int) (f : Fr) : Gs := if s.ok ch then (if f.kd = 1 then s.capt ch.toNat f else if f.kd = 2 then (s.capt ch.toNat f).rise ch.toNat f.ma else if f.kd = 3 then s.bar ch.toNat f.n f.ov else s) else s
def Gs.tkS (s : Gs) (ch : Int) (f : Fr) : Sn := if s.ok ch then (if f.kd = 1 then ⟨1, f.ke, f.ti, f.va, 0, 0, 0⟩ else if f.kd = 2 then (s.capt ch.toNat f).riseS ch.toNat f.ma else if f.kd = 3 then s.barS ch.toNat f.n f.ov else Sn.none) else Sn.none
def Gs.tkE (s : Gs) (ch : Int) : Int := if s.ok ch then 0 else 150
def TkP (w : World) (k : Nat) (fp : Nat → Prop) (s : Gs) (f : Fr) (W : World) : Prop := BoxT 37 W w.heap.size f.ar ∧ BoxT 43 W (w.heap.size + 1) zeroSn ∧ ∃ fp', GA W k fp' s ∧ FT fp fp' w W ∧ ¬ fp' w.heap.size ∧ ¬ fp' (w.heap.size + 1)
theorem TkP.step {w : World} {k : Nat} {fp fp1 fp2 : Nat → Prop} {s2 : Gs} {f : Fr} {W W2 : World} (h0 : BoxT 37 W w.heap.size f.ar) (h1 : BoxT 43 W (w.heap.size + 1) zeroSn) (t1 : FT fp fp1 w W) (n0 : ¬ fp1 w.heap.size) (n1 : ¬ fp1 (w.heap.size + 1)) (g2 : GA W2 k fp2 s2) (t2 : FT fp1 fp2 W W2) : TkP w k fp s2 f W2 :=
  ⟨h0.back (t2.block _ h0.lt n0), h1.back (t2.block _ h1.lt n1), fp2, g2, t1.trans t2, fun e => by
    rcases t2.sub _ e with e | e
    · exact n0 e
    · have := h0.lt; omega, fun e => by
    rcases t2.sub _ e with e | e
    · exact n1 e
    · have := h1.lt; omega⟩
theorem TkP.new {w : World} {k : Nat} {fp : Nat → Prop} {s : Gs} (h : GA w k fp s) (f : Fr) : TkP w k fp s f ((w.alloc (.cells f.ar 37)).alloc (.cells zeroSn 43)) :=
  ⟨(BoxT.new _ _ _).alloc _, BoxT.new_at (by simp), fp, h.below (below_box2 _ _ _), FT.of_below (below_box2 _ _ _), fun e => by have := h.flt _ e; omega, fun e => by have := h.flt _ e; omega⟩
set_option maxHeartbeats 2000000 in
set_option maxRecDepth 100000 in
theorem Take_none {w : World} {k : Nat} {fp : Nat → Prop} {s : Gs} (h : GA w k fp s) (f : Fr) (ch : Int) (hh : s.has ch = false) : Calls Try.prog 13 #[.pointer (some ⟨k, 0, none⟩), .int .i64 ch, f.val] w fun e w' => e = .returned (.tuple #[.agg #[.int .i64 0, .int .i64 0, .int .i64 0, .int .i64 0, .int .i64 0, .int .u64 0, .int .u64 0], .int .i64 150]) ∧ ∃ fp', GA w' k fp' s ∧ FT fp fp' w w' := by
  have A0 := TkP.new h f
  clear h
  unfold Fr.val
  unfold Fr.ar zeroSn at A0
  go_enter Try.func13, Try.ntmps13
  go_upto_region 1 with fail
  refine wp_at (TkP w k fp s f) A0 ?_
  clear A0
  intro W A
  obtain ⟨F1, R1, fp1, G1, T1, N0, N1⟩ := A
  obtain ⟨f0, f1, f2, f3, f4, f5, f6⟩ := BoxT.all7 F1
  obtain ⟨p0, p1, p2, p3, p4, p5, p6⟩ := BoxT.all7 R1
  have rf := R1.free
  have HF := hide F1
  have HR := hide R1
  have HG := hide G1
  have HT := hide T1
  have HN0 := hide N0
  have HN1 := hide N1
  clear F1 R1 T1 N0 N1
  have H1 := hide (has_any G1 ch)
  rw [hh] at H1
  clear G1
  go_wp2_with (go_at_call 29; refine H1.out.mono ?_; rintro e w1 ⟨rfl, rfl⟩)
  have z := (BoxT.ch7 HR.out (.int .i64 0) (.int .i64 0) (.int .i64 0) (.int .i64 0) (.int .i64 0) (.int .u64 0) (.int .u64 0)).all7
  exact bodyPost_ret (v := .tuple #[.agg #[.int .i64 0, .int .i64 0, .int .i64 0, .int .i64 0, .int .i64 0, .int .u64 0, .int .u64 0], .int .i64 150]) (by simp [results, Try.results13, go_sem, z.1, z.2.1, z.2.2.1, z.2.2.2.1, z.2.2.2.2.1, z.2.2.2.2.2.1, z.2.2.2.2.2.2]; try rfl) rfl ⟨rfl, fp1, HG.out.ch7 HN1.out (.int .i64 0) (.int .i64 0) (.int .i64 0) (.int .i64 0) (.int .i64 0) (.int .u64 0) (.int .u64 0), HT.out.ch7 (Nat.le_succ _) (.int .i64 0) (.int .i64 0) (.int .i64 0) (.int .i64 0) (.int .i64 0) (.int .u64 0) (.int .u64 0)⟩
set_option maxHeartbeats 2000000 in
set_option maxRecDepth 100000 in
theorem Take_shut {w : World} {k : Nat} {fp : Nat → Prop} {s : Gs} (h : GA w k fp s) (f : Fr) (ch : Int) (hh : s.has ch = true) (hb : s.bl ch = true) : Calls Try.prog 13 #[.pointer (some ⟨k, 0, none⟩), .int .i64 ch, f.val] w fun e w' => e = .returned (.tuple #[.agg #[.int .i64 0, .int .i64 0, .int .i64 0, .int .i64 0, .int .i64 0, .int .u64 0, .int .u64 0], .int .i64 150]) ∧ ∃ fp', GA w' k fp' s ∧ FT fp fp' w w' := by
  have A0 := TkP.new h f
  clear h
  unfold Fr.val
  unfold Fr.ar zeroSn at A0
  go_enter Try.func13, Try.ntmps13
  go_upto_region 1 with fail
  refine wp_at (TkP w k fp s f) A0 ?_
  clear A0
  intro W A
  obtain ⟨F1, R1, fp1, G1, T1, N0, N1⟩ := A
  obtain ⟨f0, f1, f2, f3, f4, f5, f6⟩ := BoxT.all7 F1
  obtain ⟨p0, p1, p2, p3, p4, p5, p6⟩ := BoxT.all7 R1
  have rf := R1.free
  have HF := hide F1
  have HR := hide R1
  have HG := hide G1
  have HT := hide T1
  have HN0 := hide N0
  have HN1 := hide N1
  clear F1 R1 T1 N0 N1
  have H1 := hide (has_any G1 ch)
  have H2 := hide (Blocked_any G1 ch)
  rw [hh] at H1
  rw [hb] at H2
  clear G1
  go_wp2_with (first | (go_at_call 29; refine H1.out.mono ?_; rintro e w1 ⟨rfl, rfl⟩) | (go_at_call 23; refine H2.out.mono ?_; rintro e w1 ⟨rfl, rfl⟩))
  have z := (BoxT.ch7 HR.out (.int .i64 0) (.int .i64 0) (.int .i64 0) (.int .i64 0) (.int .i64 0) (.int .u64 0) (.int .u64 0)).all7
  exact bodyPost_ret (v := .tuple #[.agg #[.int .i64 0, .int .i64 0, .int .i64 0, .int .i64 0, .int .i64 0, .int .u64 0, .int .u64 0], .int .i64 150]) (by simp [results, Try.results13, go_sem, z.1, z.2.1, z.2.2.1, z.2.2.2.1, z.2.2.2.2.1, z.2.2.2.2.2.1, z.2.2.2.2.2.2]; try rfl) rfl ⟨rfl, fp1, HG.out.ch7 HN1.out (.int .i64 0) (.int .i64 0) (.int .i64 0) (.int .i64 0) (.int .i64 0) (.int .u64 0) (.int .u64 0), HT.out.ch7 (Nat.le_succ _) (.int .i64 0) (.int .i64 0) (.int .i64 0) (.int .i64 0) (.int .i64 0) (.int .u64 0) (.int .u64 0)⟩
set_option maxHeartbeats 2000000 in
set_option maxRecDepth 100000 in
theorem Take_idle {w : World} {k : Nat} {fp : Nat → Prop} {s : Gs} (h : GA w k fp s) (f : Fr) (ch : Int) (hh : s.has ch = true) (hb : s.bl ch = false) (k1 : f.kd ≠ 1) (k2 : f.kd ≠ 2) (k3 : f.kd ≠ 3) : Calls Try.prog 13 #[.pointer (some ⟨k, 0, none⟩), .int .i64 ch, f.val] w fun e w' => e = .returned (.tuple #[.agg #[.int .i64 0, .int .i64 0, .int .i64 0, .int .i64 0, .int .i64 0, .int .u64 0, .int .u64 0], .int .i64 0]) ∧ ∃ fp', GA w' k fp' s ∧ FT fp fp' w w' := by
  have A0 := TkP.new h f
  clear h
  unfold Fr.val
  unfold Fr.ar zeroSn at A0
  go_enter Try.func13, Try.ntmps13
  go_upto_region 1 with fail
  refine wp_at (TkP w k fp s f) A0 ?_
  clear A0
  intro W A
  obtain ⟨F1, R1, fp1, G1, T1, N0, N1⟩ := A
  obtain ⟨f0, f1, f2, f3, f4, f5, f6⟩ := BoxT.all7 F1
  obtain ⟨p0, p1, p2, p3, p4, p5, p6⟩ := BoxT.all7 R1
  have rf := R1.free
  have HF := hide F1
  have HR := hide R1
  have HG := hide G1
  have HT := hide T1
  have HN0 := hide N0
  have HN1 := hide N1
  clear F1 R1 T1 N0 N1
  have H1 := hide (has_any G1 ch)
  have H2 := hide (Blocked_any G1 ch)
  rw [hh] at H1
  rw [hb] at H2
  clear G1
  have b1 : (f.kd == 1) = false := by simpa using k1
  have b2 : (f.kd == 2) = false := by simpa using k2
  have b3 : (f.kd == 3) = false := by simpa using k3
  go_wp2_with (first | (go_at_call 29; refine H1.out.mono ?_; rintro e w1 ⟨rfl, rfl⟩) | (go_at_call 23; refine H2.out.mono ?_; rintro e w1 ⟨rfl, rfl⟩))
  have z := (BoxT.ch7 HR.out (.int .i64 0) (.int .i64 0) (.int .i64 0) (.int .i64 0) (.int .i64 0) (.int .u64 0) (.int .u64 0)).all7
  exact bodyPost_ret (v := .tuple #[.agg #[.int .i64 0, .int .i64 0, .int .i64 0, .int .i64 0, .int .i64 0, .int .u64 0, .int .u64 0], .int .i64 0]) (by simp [results, Try.results13, go_sem, z.1, z.2.1, z.2.2.1, z.2.2.2.1, z.2.2.2.2.1, z.2.2.2.2.2.1, z.2.2.2.2.2.2]; try rfl) rfl ⟨rfl, fp1, HG.out.ch7 HN1.out (.int .i64 0) (.int .i64 0) (.int .i64 0) (.int .i64 0) (.int .i64 0) (.int .u64 0) (.int .u64 0), HT.out.ch7 (Nat.le_succ _) (.int .i64 0) (.int .i64 0) (.int .i64 0) (.int .i64 0) (.int .i64 0) (.int .u64 0) (.int .u64 0)⟩
set_option maxHeartbeats 2000000 in
set_option maxRecDepth 100000 in
theorem Take_rec {w : World} {k : Nat} {fp : Nat → Prop} {s : Gs} (h : GA w k fp s) (f : Fr) {c : Nat} (hc : c < s.M.length) (hb : s.bl (c : Int) = false) (hl : s.cp.length ≤ 100000) (k1 : f.kd = 1) : Calls Try.prog 13 #[.pointer (some ⟨k, 0, none⟩), .int .i64 (c : Int), f.val] w fun e w' => e = .returned (.tuple #[.agg #[.int .i64 1, .int .i64 f.ke, .int .i64 f.ti, .int .i64 f.va, .int .i64 0, .int .u64 0, .int .u64 0], .int .i64 0]) ∧ ∃ fp', GA w' k fp' (s.capt c f) ∧ FT fp fp' w w' := by
  have A0 := TkP.new h f
  clear h
  have b1 : (f.kd == 1) = true := by simpa using k1
  have HK := hide k1
  clear k1
  unfold Fr.val
  unfold Fr.ar zeroSn at A0
  go_enter Try.func13, Try.ntmps13
  go_upto_region 1 with fail
  refine wp_at (TkP w k fp s f) A0 ?_
  clear A0
  intro W A
  obtain ⟨F1, R1, fp1, G1, T1, N0, N1⟩ := A
  obtain ⟨f0, f1, f2, f3, f4, f5, f6⟩ := BoxT.all7 F1
  obtain ⟨p0, p1, p2, p3, p4, p5, p6⟩ := BoxT.all7 R1
  have rf := R1.free
  have HF := hide F1
  have HR := hide R1
  have HG := hide G1
  have HT := hide T1
  have HN0 := hide N0
  have HN1 := hide N1
  clear F1 R1 T1 N0 N1
  have hh := Gs.has_of hc
  have H1 := hide (has_any G1 (c : Int))
  have H2 := hide (Blocked_any G1 (c : Int))
  rw [hh] at H1
  rw [hb] at H2
  clear G1
  have HC := hide (capture_any HG.out hc f hl)
  unfold Fr.val at HC
  go_upto_region 6 with (first | (go_at_call 29; refine H1.out.mono ?_; rintro e w1 ⟨rfl, rfl⟩) | (go_at_call 23; refine H2.out.mono ?_; rintro e w1 ⟨rfl, rfl⟩) | (go_at_call 30; refine HC.out.mono ?_; rintro e w2 ⟨rfl, fp2, g2, t2⟩; have A2 := TkP.step HF.out HR.out HT.out HN0.out HN1.out g2 t2; clear g2 t2))
  refine wp_at (TkP w k fp (s.capt c f) f) A2 ?_
  clear A2 H1 H2 HC b1 HK f0 f1 f2 f3 f4 f5 f6 p0 p1 p2 p3 p4 p5 p6 rf HF HR HG HT HN0 HN1
  intro W A
  obtain ⟨F1, R1, fp1, G1, T1, N0, N1⟩ := A
  obtain ⟨f0, f1, f2, f3, f4, f5, f6⟩ := BoxT.all7 F1
  obtain ⟨p0, p1, p2, p3, p4, p5, p6⟩ := BoxT.all7 R1
  have rf := R1.free
  have HF := hide F1
  have HR := hide R1
  have HG := hide G1
  have HT := hide T1
  have HN0 := hide N0
  have HN1 := hide N1
  clear F1 R1 T1 N0 N1
  clear G1
  go_wp2_with fail
  have z := (BoxT.ch7 HR.out (.int .i64 1) (.int .i64 f.ke) (.int .i64 f.ti) (.int .i64 f.va) (.int .i64 0) (.int .u64 0) (.int .u64 0)).all7
  exact bodyPost_ret (v := .tuple #[.agg #[.int .i64 1, .int .i64 f.ke, .int .i64 f.ti, .int .i64 f.va, .int .i64 0, .int .u64 0, .int .u64 0], .int .i64 0]) (by simp [results, Try.results13, go_sem, z.1, z.2.1, z.2.2.1, z.2.2.2.1, z.2.2.2.2.1, z.2.2.2.2.2.1, z.2.2.2.2.2.2]; try rfl) rfl ⟨rfl, fp1, HG.out.ch7 HN1.out (.int .i64 1) (.int .i64 f.ke) (.int .i64 f.ti) (.int .i64 f.va) (.int .i64 0) (.int .u64 0) (.int .u64 0), HT.out.ch7 (Nat.le_succ _) (.int .i64 1) (.int .i64 f.ke) (.int .i64 f.ti) (.int .i64 f.va) (.int .i64 0) (.int .u64 0) (.int .u64 0)⟩
set_option maxHeartbeats 2000000 in
set_option maxRecDepth 100000 in
theorem Take_mark {w : World} {k : Nat} {fp : Nat → Prop} {s : Gs} (h : GA w k fp s) (f : Fr) {c : Nat} (hc : c < s.M.length) (hb : s.bl (c : Int) = false) (hl : s.cp.length ≤ 100000) (k1 : f.kd = 2) {x : Sn} (hx : x = (s.capt c f).riseS c f.ma) : Calls Try.prog 13 #[.pointer (some ⟨k, 0, none⟩), .int .i64 (c : Int), f.val] w fun e w' => e = .returned (.tuple #[x.val, .int .i64 0]) ∧ ∃ fp', GA w' k fp' ((s.capt c f).rise c f.ma) ∧ FT fp fp' w w' := by
  obtain ⟨xkd, xke, xti, xva, xma, xn, xfu⟩ := x
  unfold Sn.val
  have HX := hide hx
  clear hx
  have A0 := TkP.new h f
  clear h
  have b1 : (f.kd == 2) = true := by simpa using k1
  have b2 : (f.kd == 1) = false := by rw [k1]; rfl
  have HK := hide k1
  clear k1
  unfold Fr.val
  unfold Fr.ar zeroSn at A0
  go_enter Try.func13, Try.ntmps13
  go_upto_region 1 with fail
  refine wp_at (TkP w k fp s f) A0 ?_
  clear A0
  intro W A
  obtain ⟨F1, R1, fp1, G1, T1, N0, N1⟩ := A
  obtain ⟨f0, f1, f2, f3, f4, f5, f6⟩ := BoxT.all7 F1
  obtain ⟨p0, p1, p2, p3, p4, p5, p6⟩ := BoxT.all7 R1
  have rf := R1.free
  have HF := hide F1
  have HR := hide R1
  have HG := hide G1
  have HT := hide T1
  have HN0 := hide N0
  have HN1 := hide N1
  clear F1 R1 T1 N0 N1
  have hh := Gs.has_of hc
  have H1 := hide (has_any G1 (c : Int))
  have H2 := hide (Blocked_any G1 (c : Int))
  rw [hh] at H1
  rw [hb] at H2
  clear G1
  have HC := hide (capture_any HG.out hc f hl)
  unfold Fr.val at HC
  go_upto_region 9 with (first | (go_at_call 29; refine H1.out.mono ?_; rintro e w1 ⟨rfl, rfl⟩) | (go_at_call 23; refine H2.out.mono ?_; rintro e w1 ⟨rfl, rfl⟩) | (go_at_call 30; refine HC.out.mono ?_; rintro e w2 ⟨rfl, fp2, g2, t2⟩; have A2 := TkP.step HF.out HR.out HT.out HN0.out HN1.out g2 t2; clear g2 t2))
  refine wp_at (TkP w k fp (s.capt c f) f) A2 ?_
  clear A2 H1 H2 HC b1 b2 HK f0 f1 f2 f3 f4 f5 f6 p0 p1 p2 p3 p4 p5 p6 rf HF HR HG HT HN0 HN1
  intro W A
  obtain ⟨F1, R1, fp1, G1, T1, N0, N1⟩ := A
  obtain ⟨f0, f1, f2, f3, f4, f5, f6⟩ := BoxT.all7 F1
  obtain ⟨p0, p1, p2, p3, p4, p5, p6⟩ := BoxT.all7 R1
  have rf := R1.free
  have HF := hide F1
  have HR := hide R1
  have HG := hide G1
  have HT := hide T1
  have HN0 := hide N0
  have HN1 := hide N1
  clear F1 R1 T1 N0 N1
  have HRI := hide (rise_any G1 (c := c) (by rw [Gs.capt_M]; exact hc) f.ma)
  clear G1
  rw [← HX.out] at HRI
  simp only [Sn.val] at HRI
  go_wp2_with (go_at_call 31; refine HRI.out.mono ?_; rintro e w3 ⟨rfl, fp3, g3, t3⟩; have A3 := hide (TkP.step HF.out HR.out HT.out HN0.out HN1.out g3 t3); obtain ⟨-, R3, -⟩ := TkP.step HF.out HR.out HT.out HN0.out HN1.out g3 t3; obtain ⟨p0, p1, p2, p3, p4, p5, p6⟩ := BoxT.all7 R3; have rf := R3.free; clear g3 t3 R3)
  clear HF HR HG HT HN0 HN1
  obtain ⟨-, HR, fp1, HG, HT, -, HN1⟩ := A3.out
  have HR := hide HR
  have HG := hide HG
  have HT := hide HT
  have HN1 := hide HN1
  have z := (BoxT.ch7 HR.out (.int .i64 xkd) (.int .i64 xke) (.int .i64 xti) (.int .i64 xva) (.int .i64 xma) (.int .u64 xn) (.int .u64 xfu)).all7
  exact bodyPost_ret (v := .tuple #[.agg #[.int .i64 xkd, .int .i64 xke, .int .i64 xti, .int .i64 xva, .int .i64 xma, .int .u64 xn, .int .u64 xfu], .int .i64 0]) (by simp [results, Try.results13, go_sem, z.1, z.2.1, z.2.2.1, z.2.2.2.1, z.2.2.2.2.1, z.2.2.2.2.2.1, z.2.2.2.2.2.2]; try rfl) rfl ⟨rfl, fp1, HG.out.ch7 HN1.out (.int .i64 xkd) (.int .i64 xke) (.int .i64 xti) (.int .i64 xva) (.int .i64 xma) (.int .u64 xn) (.int .u64 xfu), HT.out.ch7 (Nat.le_succ _) (.int .i64 xkd) (.int .i64 xke) (.int .i64 xti) (.int .i64 xva) (.int .i64 xma) (.int .u64 xn) (.int .u64 xfu)⟩
set_option maxHeartbeats 2000000 in
set_option maxRecDepth 100000 in
theorem Take_bar {w : World} {k : Nat} {fp : Nat → Prop} {s : Gs} (h : GA w k fp s) (f : Fr) {c : Nat} (hc : c < s.M.length) (hb : s.bl (c : Int) = false) (k1 : f.kd = 3) {x : Sn} (hx : x = s.barS c f.n f.ov) : Calls Try.prog 13 #[.pointer (some ⟨k, 0, none⟩), .int .i64 (c : Int), f.val] w fun e w' => e = .returned (.tuple #[x.val, .int .i64 0]) ∧ ∃ fp', GA w' k fp' (s.bar c f.n f.ov) ∧ FT fp fp' w w' := by
  obtain ⟨xkd, xke, xti, xva, xma, xn, xfu⟩ := x
  unfold Sn.val
  have HX := hide hx
  clear hx
  have A0 := TkP.new h f
  clear h
  have b1 : (f.kd == 3) = true := by simpa using k1
  have b2 : (f.kd == 1) = false := by rw [k1]; rfl
  have b3 : (f.kd == 2) = false := by rw [k1]; rfl
  have HK := hide k1
  clear k1
  unfold Fr.val
  unfold Fr.ar zeroSn at A0
  go_enter Try.func13, Try.ntmps13
  go_upto_region 1 with fail
  refine wp_at (TkP w k fp s f) A0 ?_
  clear A0
  intro W A
  obtain ⟨F1, R1, fp1, G1, T1, N0, N1⟩ := A
  obtain ⟨f0, f1, f2, f3, f4, f5, f6⟩ := BoxT.all7 F1
  obtain ⟨p0, p1, p2, p3, p4, p5, p6⟩ := BoxT.all7 R1
  have rf := R1.free
  have HF := hide F1
  have HR := hide R1
  have HG := hide G1
  have HT := hide T1
  have HN0 := hide N0
  have HN1 := hide N1
  clear F1 R1 T1 N0 N1
  have hh := Gs.has_of hc
  have H1 := hide (has_any G1 (c : Int))
  have H2 := hide (Blocked_any G1 (c : Int))
  rw [hh] at H1
  rw [hb] at H2
  clear G1
  have HBA := hide (barrier_any HG.out hc f.n f.ov)
  rw [← HX.out] at HBA
  simp only [Sn.val] at HBA
  go_wp2_with (first | (go_at_call 29; refine H1.out.mono ?_; rintro e w1 ⟨rfl, rfl⟩) | (go_at_call 23; refine H2.out.mono ?_; rintro e w1 ⟨rfl, rfl⟩) | (go_at_call 32; refine HBA.out.mono ?_; rintro e w3 ⟨rfl, fp3, g3, t3⟩; have A3 := hide (TkP.step HF.out HR.out HT.out HN0.out HN1.out g3 t3); obtain ⟨-, R3, -⟩ := TkP.step HF.out HR.out HT.out HN0.out HN1.out g3 t3; clear p0 p1 p2 p3 p4 p5 p6 rf; obtain ⟨p0, p1, p2, p3, p4, p5, p6⟩ := BoxT.all7 R3; have rf := R3.free; clear g3 t3 R3))
  clear HF HR HG HT HN0 HN1
  obtain ⟨-, HR, fp1, HG, HT, -, HN1⟩ := A3.out
  have HR := hide HR
  have HG := hide HG
  have HT := hide HT
  have HN1 := hide HN1
  have z := (BoxT.ch7 HR.out (.int .i64 xkd) (.int .i64 xke) (.int .i64 xti) (.int .i64 xva) (.int .i64 xma) (.int .u64 xn) (.int .u64 xfu)).all7
  exact bodyPost_ret (v := .tuple #[.agg #[.int .i64 xkd, .int .i64 xke, .int .i64 xti, .int .i64 xva, .int .i64 xma, .int .u64 xn, .int .u64 xfu], .int .i64 0]) (by simp [results, Try.results13, go_sem, z.1, z.2.1, z.2.2.1, z.2.2.2.1, z.2.2.2.2.1, z.2.2.2.2.2.1, z.2.2.2.2.2.2]; try rfl) rfl ⟨rfl, fp1, HG.out.ch7 HN1.out (.int .i64 xkd) (.int .i64 xke) (.int .i64 xti) (.int .i64 xva) (.int .i64 xma) (.int .u64 xn) (.int .u64 xfu), HT.out.ch7 (Nat.le_succ _) (.int .i64 xkd) (.int .i64 xke) (.int .i64 xti) (.int .i64 xva) (.int .i64 xma) (.int .u64 xn) (.int .u64 xfu)⟩
theorem Take_any {w : World} {k : Nat} {fp : Nat → Prop} {s : Gs} (h : GA w k fp s) (ch : Int) (f : Fr) (hl : s.cp.length ≤ 100000) : Calls Try.prog 13 #[.pointer (some ⟨k, 0, none⟩), .int .i64 ch, f.val] w fun e w' => e = .returned (.tuple #[(s.tkS ch f).val, .int .i64 (s.tkE ch)]) ∧ ∃ fp', GA w' k fp' (s.tk ch f) ∧ FT fp fp' w w' := by
  unfold Gs.tk Gs.tkS Gs.tkE Gs.ok
  cases hh : s.has ch with
  | false => exact Take_none h f ch hh
  | true =>
    cases hb : s.bl ch with
    | true => exact Take_shut h f ch hh hb
    | false =>
      simp only [Bool.not_false, Bool.and_self, if_true]
      obtain ⟨c, rfl, hc⟩ := Gs.has_nat hh
      rw [Int.toNat_natCast]
      by_cases k1 : f.kd = 1
      · rw [if_pos k1, if_pos k1]
        exact Take_rec h f hc hb hl k1
      · rw [if_neg k1, if_neg k1]
        by_cases k2 : f.kd = 2
        · rw [if_pos k2, if_pos k2]
          exact Take_mark h f hc hb hl k2 rfl
        · rw [if_neg k2, if_neg k2]
          by_cases k3 : f.kd = 3
          · rw [if_pos k3, if_pos k3]
            exact Take_bar h f hc hb k3 rfl
          · rw [if_neg k3, if_neg k3]
            exact Take_idle h f (c : Int) hh hb k1 k2 k3
end Go.Proofs.Ytmipgfobggbndaa
