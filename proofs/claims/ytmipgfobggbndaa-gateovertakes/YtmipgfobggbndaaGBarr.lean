/-
  barrier.
-/
import Derived.Test.YtmipgfobggbndaaGArr
namespace Go.Proofs.Ytmipgfobggbndaa
open Go.RowKit

/-- The checkpoint under way, a newer one having begun where n is newer. -/
def Gs.bg (s : Gs) (n : Int) (o : Bool) : Gs := if s.la < n then s.beg n o else s
/-- A barrier that is nothing. -/
def Gs.idle (s : Gs) (c : Nat) (n : Int) : Bool := decide (n = 0) || decide (n ≠ s.un) || s.co.getD c false
def Gs.come (s : Gs) (c : Nat) : Gs := { s with co := s.co.set c true }
def Gs.bar (s : Gs) (c : Nat) (n : Int) (o : Bool) : Gs := if (s.bg n o).idle c n = true then s.bg n o else ((s.bg n o).come c).arr
def Gs.barS (s : Gs) (c : Nat) (n : Int) (o : Bool) : Sn := if (s.bg n o).idle c n = true then Sn.none else ((s.bg n o).come c).arrS
theorem count_come {l : List Bool} : ∀ {c : Nat}, l[c]? = some false → (l.set c true).count false + 1 = l.count false := by
  induction l with
  | nil => intro c h; simp at h
  | cons b l ih =>
    intro c h
    match c, h with
    | 0, h =>
      obtain rfl : b = false := by simpa using h
      simp
    | c + 1, h =>
      have := ih (c := c) (by simpa using h)
      cases b <;> simp [List.set_cons_succ] <;> omega
theorem GX.come_in {w : World} {k mb cb : Nat} {mi : Int} {cv : Value} {s : Gs} (h : GX w k mb cb mi cv s) {c : Nat} (hc : s.co[c]? = some false) (hu : s.un ≠ 0) : GX ((w.setCell ⟨cb, c, none⟩ (.bool true)).setCell ⟨k, 5, none⟩ (.int .i64 (mi - 1))) k mb cb (mi - 1) cv (s.come c) :=
  { box := by simpa [Gs.come] using (h.box.other c (.bool true) h.nkc).set 5 (.int .i64 (mi - 1))
    mx := (h.mx.other c _ h.nmc).other 5 _ h.nkm.symm
    cm := by
      have := h.cm.set c (.bool true)
      rw [bls_set] at this
      exact this.other 5 _ h.nkc.symm
    cp := (h.cp.otherBox h.cm (by decide) _ _).otherBox (h.box.other c (.bool true) h.nkc) (by decide) _ _
    len := by simpa [Gs.come] using h.len
    pos := h.pos, le := h.le
    mis := fun e => by
      have h1 := h.mis hu
      have h2 := count_come hc
      rw [h1]
      show _ = (((s.co.set c true).count false : Nat) : Int)
      omega }
def BarP (w : World) (k : Nat) (fp : Nat → Prop) (s : Gs) (W : World) : Prop := BoxT 43 W w.heap.size zeroSn ∧ ∃ fp', GA W k fp' s ∧ FT fp fp' w W ∧ ¬ fp' w.heap.size
theorem BarP.step {w : World} {k : Nat} {fp fp1 fp2 : Nat → Prop} {s2 : Gs} {W W2 : World} (h1 : BoxT 43 W w.heap.size zeroSn) (t1 : FT fp fp1 w W) (n1 : ¬ fp1 w.heap.size) (g2 : GA W2 k fp2 s2) (t2 : FT fp1 fp2 W W2) : BarP w k fp s2 W2 :=
  ⟨h1.back (t2.block _ h1.lt n1), fp2, g2, t1.trans t2, fun e => by
    rcases t2.sub _ e with e | e
    · exact n1 e
    · have := h1.lt; omega⟩
theorem BarP.new {w : World} {k : Nat} {fp : Nat → Prop} {s : Gs} (h : GA w k fp s) : BarP w k fp s (w.alloc (.cells zeroSn 43)) :=
  ⟨BoxT.new _ _ _, fp, h.below (below_box _ _), FT.of_below (below_box _ _), fun e => by have := h.flt _ e; omega⟩
set_option maxHeartbeats 2000000 in
set_option maxRecDepth 100000 in
theorem barrier_s {w : World} {k : Nat} {fp : Nat → Prop} {s : Gs} (h : GA w k fp s) {c : Nat} (hc : c < s.M.length) (n : Int) (o : Bool) {x : Sn} {s2 : Gs} (hx : x = s.barS c n o) (hs2 : s2 = s.bar c n o) : Calls Try.prog 32 #[.pointer (some ⟨k, 0, none⟩), .int .i64 (c : Int), .int .u64 n, .bool o] w fun e w' => e = .returned x.val ∧ ∃ fp', GA w' k fp' s2 ∧ FT fp fp' w w' := by
  obtain ⟨xkd, xke, xti, xva, xma, xn, xfu⟩ := x
  unfold Sn.val
  have HX := hide hx
  have HS2 := hide hs2
  have A0 := BarP.new h
  clear hx hs2 h
  unfold Gs.barS at HX
  unfold Gs.bar at HS2
  obtain ⟨R0, fp0, G0, T0, N0⟩ := A0
  obtain ⟨mb0, cb0, mi0, cv0, X0, hf0⟩ := id G0
  obtain ⟨-, c1, -, -, -, -, -⟩ := X0.cells
  by_cases hl : s.la < n
  · have HM : Hid ((s.bg n o).M = s.M) := (show _ = _ by unfold Gs.bg; rw [if_pos hl]; rfl)
    have HB : Hid (s.bg n o = s.beg n o) := (show _ = _ by unfold Gs.bg; rw [if_pos hl])
    have HBG := hide (begin_any G0 n o)
    rw [← HB.out] at HBG
    have HR0 := hide R0
    have HT0 := hide T0
    have HN0 := hide N0
    clear HB X0 hf0 G0 R0 T0 N0
    generalize s.bg n o = s1 at *
    unfold zeroSn at *
    go_enter Try.func32, Try.ntmps32
    go_upto_region 3 with (go_at_call 37; refine HBG.out.mono ?_; rintro e w1 ⟨rfl, fp1, g1, t1⟩; have A1 := BarP.step HR0.out HT0.out HN0.out g1 t1; clear g1 t1)
    refine wp_at (BarP w k fp s1) A1 ?_
    clear A1 HBG HR0 HT0 HN0 c1
    intro W A
    obtain ⟨R1, fp1, G1, T1, N1⟩ := A
    obtain ⟨p0, p1, p2, p3, p4, p5, p6⟩ := BoxT.all7 R1
    have rf := R1.free
    have HR := hide R1
    have HG := hide G1
    have HT := hide T1
    have HN := hide N1
    obtain ⟨mb, cb, mi, cv, X, hf⟩ := G1
    obtain ⟨-, -, c2, -, c4, c5, -⟩ := X.cells
    obtain ⟨b, hb, e6⟩ := X.come_of (show c < s1.M.length by rw [HM.out]; exact hc)
    have hbd : s1.co.getD c false = b := by simp [hb]
    have hle := X.le
    have hi : (c : Int) < (s1.M.length : Int) := by rw [HM.out]; omega
    have fr5 := X.box.free
    have frc := X.cm.free
    have HXX := hide X
    have HFF := hide hf
    clear X hf R1 T1 N1
    by_cases h0 : n = 0
    · have hid : s1.idle c n = true := by simp [Gs.idle, h0]
      have HX2 : Hid ((⟨xkd, xke, xti, xva, xma, xn, xfu⟩ : Sn) = Sn.none) := (show _ = _ by rw [HX.out, if_pos hid])
      have HS3 : Hid (s2 = s1) := (show _ = _ by rw [HS2.out, if_pos hid])
      clear HX HS2 hid
      have e := HX2.out
      simp only [Sn.none, Sn.mk.injEq] at e
      obtain ⟨rfl, rfl, rfl, rfl, rfl, rfl, rfl⟩ := e
      obtain rfl := HS3.out
      subst h0
      clear HX2 HS3
      go_wp2_with fail
      have z := (BoxT.ch7 HR.out (.int .i64 0) (.int .i64 0) (.int .i64 0) (.int .i64 0) (.int .i64 0) (.int .u64 0) (.int .u64 0)).all7
      exact bodyPost_ret (v := .agg #[.int .i64 0, .int .i64 0, .int .i64 0, .int .i64 0, .int .i64 0, .int .u64 0, .int .u64 0]) (by simp [results, Try.results32, go_sem, z.1, z.2.1, z.2.2.1, z.2.2.2.1, z.2.2.2.2.1, z.2.2.2.2.2.1, z.2.2.2.2.2.2]; try rfl) rfl ⟨rfl, fp1, HG.out.ch7 HN.out (.int .i64 0) (.int .i64 0) (.int .i64 0) (.int .i64 0) (.int .i64 0) (.int .u64 0) (.int .u64 0), HT.out.ch7 (Nat.le_refl _) (.int .i64 0) (.int .i64 0) (.int .i64 0) (.int .i64 0) (.int .i64 0) (.int .u64 0) (.int .u64 0)⟩
    · by_cases h1 : n = s1.un
      · cases b with
        | true =>
          have hid : s1.idle c n = true := by unfold Gs.idle; rw [hbd]; simp
          have HX2 : Hid ((⟨xkd, xke, xti, xva, xma, xn, xfu⟩ : Sn) = Sn.none) := (show _ = _ by rw [HX.out, if_pos hid])
          have HS3 : Hid (s2 = s1) := (show _ = _ by rw [HS2.out, if_pos hid])
          clear HX HS2 hid
          have e := HX2.out
          simp only [Sn.none, Sn.mk.injEq] at e
          obtain ⟨rfl, rfl, rfl, rfl, rfl, rfl, rfl⟩ := e
          obtain rfl := HS3.out
          clear HX2 HS3
          rw [← h1] at c2
          have H1 := hide h1
          clear h1
          go_wp2_with fail
          have z := (BoxT.ch7 HR.out (.int .i64 0) (.int .i64 0) (.int .i64 0) (.int .i64 0) (.int .i64 0) (.int .u64 0) (.int .u64 0)).all7
          exact bodyPost_ret (v := .agg #[.int .i64 0, .int .i64 0, .int .i64 0, .int .i64 0, .int .i64 0, .int .u64 0, .int .u64 0]) (by simp [results, Try.results32, go_sem, z.1, z.2.1, z.2.2.1, z.2.2.2.1, z.2.2.2.2.1, z.2.2.2.2.2.1, z.2.2.2.2.2.2]; try rfl) rfl ⟨rfl, fp1, HG.out.ch7 HN.out (.int .i64 0) (.int .i64 0) (.int .i64 0) (.int .i64 0) (.int .i64 0) (.int .u64 0) (.int .u64 0), HT.out.ch7 (Nat.le_refl _) (.int .i64 0) (.int .i64 0) (.int .i64 0) (.int .i64 0) (.int .i64 0) (.int .u64 0) (.int .u64 0)⟩
        | false =>
          have hid : s1.idle c n = false := by unfold Gs.idle; rw [hbd]; simp [h1]; rw [← h1]; exact h0
          have HX2 : Hid ((⟨xkd, xke, xti, xva, xma, xn, xfu⟩ : Sn) = (s1.come c).arrS) := (show _ = _ by rw [HX.out, if_neg (by rw [hid]; simp)])
          have HS3 : Hid (s2 = (s1.come c).arr) := (show _ = _ by rw [HS2.out, if_neg (by rw [hid]; simp)])
          clear HX HS2 hid
          have hun : s1.un ≠ 0 := by rw [← h1]; exact h0
          have XC := HXX.out.come_in hb hun
          have hmi := HXX.out.mis hun
          have hcc := count_come hb
          have hcl : s1.co.count false ≤ 64 := by have a := List.count_le_length (a := false) (l := s1.co); have b := HXX.out.len; omega
          have hml : 1 ≤ mi ∧ mi ≤ 64 := by omega
          have hw : wrap64 (mi - 1) = mi - 1 := by unfold wrap64; omega
          have ga : GA _ k fp1 (s1.come c) := ⟨mb, cb, mi - 1, cv, XC, HFF.out⟩
          have hkf : fp1 k := (HFF.out k).2 (.inl rfl)
          have hcf : fp1 cb := (HFF.out cb).2 (.inr (.inr (.inl rfl)))
          have tc : FT fp1 fp1 W ((W.setCell ⟨cb, c, none⟩ (.bool true)).setCell ⟨k, 5, none⟩ (.int .i64 (mi - 1))) := (FT.set W hcf c (.bool true)).trans (FT.set _ hkf 5 _)
          have HBC := hide (BarP.step HR.out HT.out HN.out ga tc)
          have d5 : (W.setCell ⟨cb, c, none⟩ (.bool true)).cell? ⟨k, 5, none⟩ = some (.int .i64 mi) := (World.cell?_setCell_far _ ⟨cb, c, none⟩ ⟨k, 5, none⟩ _ (fun e => HXX.out.nkc e.symm)).trans c5
          have fr6 := (HXX.out.box.other c (.bool true) HXX.out.nkc).free
          rw [← h1] at c2
          have H1 := hide h1
          have HU : Hid ((s1.come c).un ≠ 0) := hun
          clear h1 hmi hcc hcl XC ga tc hkf hcf hun
          go_upto_region 7 with fail
          refine wp_at (BarP w k fp (s1.come c)) HBC.out ?_
          clear HBC c2 c4 c5 d5 e6 fr5 frc fr6 hw hml p0 p1 p2 p3 p4 p5 p6 rf HR HG HT HN HXX HFF hbd hb
          intro V A2
          obtain ⟨R2, fp2, G2, T2, N2⟩ := A2
          have HAR := hide (arrived_any G2 HU.out)
          have HR2 := hide R2
          have HT2 := hide T2
          have HN2 := hide N2
          rw [← HX2.out, ← HS3.out] at HAR
          clear R2 G2 T2 N2
          simp only [Sn.val] at HAR
          go_wp2_with (go_at_call 38; refine HAR.out.mono ?_; rintro e w5 ⟨rfl, fp5, g5, t5⟩; have A5 := hide (BarP.step HR2.out HT2.out HN2.out g5 t5); obtain ⟨R5, -⟩ := BarP.step HR2.out HT2.out HN2.out g5 t5; obtain ⟨p0, p1, p2, p3, p4, p5, p6⟩ := BoxT.all7 R5; have rf := R5.free; clear g5 t5 R5)
          obtain ⟨R5, fp1, G5, T5, N5⟩ := A5.out
          have HR := hide R5
          have HG := hide G5
          have HT := hide T5
          have HN := hide N5
          have z := (BoxT.ch7 HR.out (.int .i64 xkd) (.int .i64 xke) (.int .i64 xti) (.int .i64 xva) (.int .i64 xma) (.int .u64 xn) (.int .u64 xfu)).all7
          exact bodyPost_ret (v := .agg #[.int .i64 xkd, .int .i64 xke, .int .i64 xti, .int .i64 xva, .int .i64 xma, .int .u64 xn, .int .u64 xfu]) (by simp [results, Try.results32, go_sem, z.1, z.2.1, z.2.2.1, z.2.2.2.1, z.2.2.2.2.1, z.2.2.2.2.2.1, z.2.2.2.2.2.2]; try rfl) rfl ⟨rfl, fp1, HG.out.ch7 HN.out (.int .i64 xkd) (.int .i64 xke) (.int .i64 xti) (.int .i64 xva) (.int .i64 xma) (.int .u64 xn) (.int .u64 xfu), HT.out.ch7 (Nat.le_refl _) (.int .i64 xkd) (.int .i64 xke) (.int .i64 xti) (.int .i64 xva) (.int .i64 xma) (.int .u64 xn) (.int .u64 xfu)⟩
      · have hid : s1.idle c n = true := by simp [Gs.idle, h1]
        have HX2 : Hid ((⟨xkd, xke, xti, xva, xma, xn, xfu⟩ : Sn) = Sn.none) := (show _ = _ by rw [HX.out, if_pos hid])
        have HS3 : Hid (s2 = s1) := (show _ = _ by rw [HS2.out, if_pos hid])
        clear HX HS2 hid
        have e := HX2.out
        simp only [Sn.none, Sn.mk.injEq] at e
        obtain ⟨rfl, rfl, rfl, rfl, rfl, rfl, rfl⟩ := e
        obtain rfl := HS3.out
        clear HX2 HS3
        have b1 : (n == s2.un) = false := by simpa using h1
        go_wp2_with fail
        have z := (BoxT.ch7 HR.out (.int .i64 0) (.int .i64 0) (.int .i64 0) (.int .i64 0) (.int .i64 0) (.int .u64 0) (.int .u64 0)).all7
        exact bodyPost_ret (v := .agg #[.int .i64 0, .int .i64 0, .int .i64 0, .int .i64 0, .int .i64 0, .int .u64 0, .int .u64 0]) (by simp [results, Try.results32, go_sem, z.1, z.2.1, z.2.2.1, z.2.2.2.1, z.2.2.2.2.1, z.2.2.2.2.2.1, z.2.2.2.2.2.2]; try rfl) rfl ⟨rfl, fp1, HG.out.ch7 HN.out (.int .i64 0) (.int .i64 0) (.int .i64 0) (.int .i64 0) (.int .i64 0) (.int .u64 0) (.int .u64 0), HT.out.ch7 (Nat.le_refl _) (.int .i64 0) (.int .i64 0) (.int .i64 0) (.int .i64 0) (.int .i64 0) (.int .u64 0) (.int .u64 0)⟩
  · have HM : Hid ((s.bg n o).M = s.M) := (show _ = _ by unfold Gs.bg; rw [if_neg hl])
    have HB : Hid (s.bg n o = s) := (show _ = _ by unfold Gs.bg; rw [if_neg hl])
    have A1 : BarP w k fp (s.bg n o) (w.alloc (.cells zeroSn 43)) := by rw [HB.out]; exact ⟨R0, fp0, G0, T0, N0⟩
    clear HB X0 hf0 G0 R0 T0 N0
    generalize s.bg n o = s1 at *
    unfold zeroSn at *
    go_enter Try.func32, Try.ntmps32
    go_upto_region 3 with fail
    refine wp_at (BarP w k fp s1) A1 ?_
    clear A1 c1
    intro W A
    obtain ⟨R1, fp1, G1, T1, N1⟩ := A
    obtain ⟨p0, p1, p2, p3, p4, p5, p6⟩ := BoxT.all7 R1
    have rf := R1.free
    have HR := hide R1
    have HG := hide G1
    have HT := hide T1
    have HN := hide N1
    obtain ⟨mb, cb, mi, cv, X, hf⟩ := G1
    obtain ⟨-, -, c2, -, c4, c5, -⟩ := X.cells
    obtain ⟨b, hb, e6⟩ := X.come_of (show c < s1.M.length by rw [HM.out]; exact hc)
    have hbd : s1.co.getD c false = b := by simp [hb]
    have hle := X.le
    have hi : (c : Int) < (s1.M.length : Int) := by rw [HM.out]; omega
    have fr5 := X.box.free
    have frc := X.cm.free
    have HXX := hide X
    have HFF := hide hf
    clear X hf R1 T1 N1
    by_cases h0 : n = 0
    · have hid : s1.idle c n = true := by simp [Gs.idle, h0]
      have HX2 : Hid ((⟨xkd, xke, xti, xva, xma, xn, xfu⟩ : Sn) = Sn.none) := (show _ = _ by rw [HX.out, if_pos hid])
      have HS3 : Hid (s2 = s1) := (show _ = _ by rw [HS2.out, if_pos hid])
      clear HX HS2 hid
      have e := HX2.out
      simp only [Sn.none, Sn.mk.injEq] at e
      obtain ⟨rfl, rfl, rfl, rfl, rfl, rfl, rfl⟩ := e
      obtain rfl := HS3.out
      subst h0
      clear HX2 HS3
      go_wp2_with fail
      have z := (BoxT.ch7 HR.out (.int .i64 0) (.int .i64 0) (.int .i64 0) (.int .i64 0) (.int .i64 0) (.int .u64 0) (.int .u64 0)).all7
      exact bodyPost_ret (v := .agg #[.int .i64 0, .int .i64 0, .int .i64 0, .int .i64 0, .int .i64 0, .int .u64 0, .int .u64 0]) (by simp [results, Try.results32, go_sem, z.1, z.2.1, z.2.2.1, z.2.2.2.1, z.2.2.2.2.1, z.2.2.2.2.2.1, z.2.2.2.2.2.2]; try rfl) rfl ⟨rfl, fp1, HG.out.ch7 HN.out (.int .i64 0) (.int .i64 0) (.int .i64 0) (.int .i64 0) (.int .i64 0) (.int .u64 0) (.int .u64 0), HT.out.ch7 (Nat.le_refl _) (.int .i64 0) (.int .i64 0) (.int .i64 0) (.int .i64 0) (.int .i64 0) (.int .u64 0) (.int .u64 0)⟩
    · by_cases h1 : n = s1.un
      · cases b with
        | true =>
          have hid : s1.idle c n = true := by unfold Gs.idle; rw [hbd]; simp
          have HX2 : Hid ((⟨xkd, xke, xti, xva, xma, xn, xfu⟩ : Sn) = Sn.none) := (show _ = _ by rw [HX.out, if_pos hid])
          have HS3 : Hid (s2 = s1) := (show _ = _ by rw [HS2.out, if_pos hid])
          clear HX HS2 hid
          have e := HX2.out
          simp only [Sn.none, Sn.mk.injEq] at e
          obtain ⟨rfl, rfl, rfl, rfl, rfl, rfl, rfl⟩ := e
          obtain rfl := HS3.out
          clear HX2 HS3
          rw [← h1] at c2
          have H1 := hide h1
          clear h1
          go_wp2_with fail
          have z := (BoxT.ch7 HR.out (.int .i64 0) (.int .i64 0) (.int .i64 0) (.int .i64 0) (.int .i64 0) (.int .u64 0) (.int .u64 0)).all7
          exact bodyPost_ret (v := .agg #[.int .i64 0, .int .i64 0, .int .i64 0, .int .i64 0, .int .i64 0, .int .u64 0, .int .u64 0]) (by simp [results, Try.results32, go_sem, z.1, z.2.1, z.2.2.1, z.2.2.2.1, z.2.2.2.2.1, z.2.2.2.2.2.1, z.2.2.2.2.2.2]; try rfl) rfl ⟨rfl, fp1, HG.out.ch7 HN.out (.int .i64 0) (.int .i64 0) (.int .i64 0) (.int .i64 0) (.int .i64 0) (.int .u64 0) (.int .u64 0), HT.out.ch7 (Nat.le_refl _) (.int .i64 0) (.int .i64 0) (.int .i64 0) (.int .i64 0) (.int .i64 0) (.int .u64 0) (.int .u64 0)⟩
        | false =>
          have hid : s1.idle c n = false := by unfold Gs.idle; rw [hbd]; simp [h1]; rw [← h1]; exact h0
          have HX2 : Hid ((⟨xkd, xke, xti, xva, xma, xn, xfu⟩ : Sn) = (s1.come c).arrS) := (show _ = _ by rw [HX.out, if_neg (by rw [hid]; simp)])
          have HS3 : Hid (s2 = (s1.come c).arr) := (show _ = _ by rw [HS2.out, if_neg (by rw [hid]; simp)])
          clear HX HS2 hid
          have hun : s1.un ≠ 0 := by rw [← h1]; exact h0
          have XC := HXX.out.come_in hb hun
          have hmi := HXX.out.mis hun
          have hcc := count_come hb
          have hcl : s1.co.count false ≤ 64 := by have a := List.count_le_length (a := false) (l := s1.co); have b := HXX.out.len; omega
          have hml : 1 ≤ mi ∧ mi ≤ 64 := by omega
          have hw : wrap64 (mi - 1) = mi - 1 := by unfold wrap64; omega
          have ga : GA _ k fp1 (s1.come c) := ⟨mb, cb, mi - 1, cv, XC, HFF.out⟩
          have hkf : fp1 k := (HFF.out k).2 (.inl rfl)
          have hcf : fp1 cb := (HFF.out cb).2 (.inr (.inr (.inl rfl)))
          have tc : FT fp1 fp1 W ((W.setCell ⟨cb, c, none⟩ (.bool true)).setCell ⟨k, 5, none⟩ (.int .i64 (mi - 1))) := (FT.set W hcf c (.bool true)).trans (FT.set _ hkf 5 _)
          have HBC := hide (BarP.step HR.out HT.out HN.out ga tc)
          have d5 : (W.setCell ⟨cb, c, none⟩ (.bool true)).cell? ⟨k, 5, none⟩ = some (.int .i64 mi) := (World.cell?_setCell_far _ ⟨cb, c, none⟩ ⟨k, 5, none⟩ _ (fun e => HXX.out.nkc e.symm)).trans c5
          have fr6 := (HXX.out.box.other c (.bool true) HXX.out.nkc).free
          rw [← h1] at c2
          have H1 := hide h1
          have HU : Hid ((s1.come c).un ≠ 0) := hun
          clear h1 hmi hcc hcl XC ga tc hkf hcf hun
          go_upto_region 7 with fail
          refine wp_at (BarP w k fp (s1.come c)) HBC.out ?_
          clear HBC c2 c4 c5 d5 e6 fr5 frc fr6 hw hml p0 p1 p2 p3 p4 p5 p6 rf HR HG HT HN HXX HFF hbd hb
          intro V A2
          obtain ⟨R2, fp2, G2, T2, N2⟩ := A2
          have HAR := hide (arrived_any G2 HU.out)
          have HR2 := hide R2
          have HT2 := hide T2
          have HN2 := hide N2
          rw [← HX2.out, ← HS3.out] at HAR
          clear R2 G2 T2 N2
          simp only [Sn.val] at HAR
          go_wp2_with (go_at_call 38; refine HAR.out.mono ?_; rintro e w5 ⟨rfl, fp5, g5, t5⟩; have A5 := hide (BarP.step HR2.out HT2.out HN2.out g5 t5); obtain ⟨R5, -⟩ := BarP.step HR2.out HT2.out HN2.out g5 t5; obtain ⟨p0, p1, p2, p3, p4, p5, p6⟩ := BoxT.all7 R5; have rf := R5.free; clear g5 t5 R5)
          obtain ⟨R5, fp1, G5, T5, N5⟩ := A5.out
          have HR := hide R5
          have HG := hide G5
          have HT := hide T5
          have HN := hide N5
          have z := (BoxT.ch7 HR.out (.int .i64 xkd) (.int .i64 xke) (.int .i64 xti) (.int .i64 xva) (.int .i64 xma) (.int .u64 xn) (.int .u64 xfu)).all7
          exact bodyPost_ret (v := .agg #[.int .i64 xkd, .int .i64 xke, .int .i64 xti, .int .i64 xva, .int .i64 xma, .int .u64 xn, .int .u64 xfu]) (by simp [results, Try.results32, go_sem, z.1, z.2.1, z.2.2.1, z.2.2.2.1, z.2.2.2.2.1, z.2.2.2.2.2.1, z.2.2.2.2.2.2]; try rfl) rfl ⟨rfl, fp1, HG.out.ch7 HN.out (.int .i64 xkd) (.int .i64 xke) (.int .i64 xti) (.int .i64 xva) (.int .i64 xma) (.int .u64 xn) (.int .u64 xfu), HT.out.ch7 (Nat.le_refl _) (.int .i64 xkd) (.int .i64 xke) (.int .i64 xti) (.int .i64 xva) (.int .i64 xma) (.int .u64 xn) (.int .u64 xfu)⟩
      · have hid : s1.idle c n = true := by simp [Gs.idle, h1]
        have HX2 : Hid ((⟨xkd, xke, xti, xva, xma, xn, xfu⟩ : Sn) = Sn.none) := (show _ = _ by rw [HX.out, if_pos hid])
        have HS3 : Hid (s2 = s1) := (show _ = _ by rw [HS2.out, if_pos hid])
        clear HX HS2 hid
        have e := HX2.out
        simp only [Sn.none, Sn.mk.injEq] at e
        obtain ⟨rfl, rfl, rfl, rfl, rfl, rfl, rfl⟩ := e
        obtain rfl := HS3.out
        clear HX2 HS3
        have b1 : (n == s2.un) = false := by simpa using h1
        go_wp2_with fail
        have z := (BoxT.ch7 HR.out (.int .i64 0) (.int .i64 0) (.int .i64 0) (.int .i64 0) (.int .i64 0) (.int .u64 0) (.int .u64 0)).all7
        exact bodyPost_ret (v := .agg #[.int .i64 0, .int .i64 0, .int .i64 0, .int .i64 0, .int .i64 0, .int .u64 0, .int .u64 0]) (by simp [results, Try.results32, go_sem, z.1, z.2.1, z.2.2.1, z.2.2.2.1, z.2.2.2.2.1, z.2.2.2.2.2.1, z.2.2.2.2.2.2]; try rfl) rfl ⟨rfl, fp1, HG.out.ch7 HN.out (.int .i64 0) (.int .i64 0) (.int .i64 0) (.int .i64 0) (.int .i64 0) (.int .u64 0) (.int .u64 0), HT.out.ch7 (Nat.le_refl _) (.int .i64 0) (.int .i64 0) (.int .i64 0) (.int .i64 0) (.int .i64 0) (.int .u64 0) (.int .u64 0)⟩
theorem barrier_any {w : World} {k : Nat} {fp : Nat → Prop} {s : Gs} (h : GA w k fp s) {c : Nat} (hc : c < s.M.length) (n : Int) (o : Bool) : Calls Try.prog 32 #[.pointer (some ⟨k, 0, none⟩), .int .i64 (c : Int), .int .u64 n, .bool o] w fun e w' => e = .returned (s.barS c n o).val ∧ ∃ fp', GA w' k fp' (s.bar c n o) ∧ FT fp fp' w w' := barrier_s h hc n o rfl rfl
end Go.Proofs.Ytmipgfobggbndaa
