/-
  The law of unlike things' bytes, walked.
-/
import Derived.Test.YtaajjejgjnlbgaaDoorQuiet
import Derived.Test.YtaajjejgjnlbgaaDoorMathSnap
import Derived.Test.YtaajjejgjnlbgaaDoorHelpS
import Derived.Test.YtaajjejgjnlbgaaDoorKnown
import Derived.Deep.CutRange
namespace Go.Proofs.YtaajjejgjnlbgaaDoor
open Go.RowKit

/-- Of two things that are read back out of their bytes, whatever stands behind, one's bytes begin the other's only if they are the same. -/
theorem beg_iff {α : Type} [DecidableEq α] (rd : (List Nat × Bool) → α × (List Nat × Bool)) (a b : List Nat) (x y : α) (hx : ∀ l, rd (a ++ l, false) = (x, (l, false))) (hy : ∀ l, rd (b ++ l, false) = (y, (l, false))) (hxy : x = y → a = b) : beg a b = decide (x = y) := by
  by_cases h : x = y
  · rw [decide_eq_true h, hxy h]
    unfold beg
    exact decide_eq_true rfl
  · rw [decide_eq_false h]
    unfold beg
    refine decide_eq_false fun hb => h ?_
    rcases Nat.le_total a.length b.length with hl | hl
    · rw [Nat.min_eq_left hl, List.take_length] at hb
      have e : b = a ++ b.drop a.length := by
        conv => lhs; rw [← List.take_append_drop a.length b]
        rw [← hb]
      have h1 := hx (b.drop a.length)
      rw [← e] at h1
      have h2 := hy []
      rw [List.append_nil, h1] at h2
      exact congrArg Prod.fst h2
    · rw [Nat.min_eq_right hl, List.take_length] at hb
      have e : a = b ++ a.drop b.length := by
        conv => lhs; rw [← List.take_append_drop b.length a]
        rw [hb]
      have h1 := hy (a.drop b.length)
      rw [← e] at h1
      have h2 := hx []
      rw [List.append_nil, h1] at h2
      exact (congrArg Prod.fst h2).symm
def erk (b : Bool) : Int := if b then 0 else 10
def outk (b : Bool) (l : List Nat) : List Nat := if b then l else []
theorem RefPost.meet {w w' : World} {b : Bool} {l : List Nat} {e : Ending} (hl : l.length ≤ 1000) (h : RefPost w b l e w') : ∃ v' er, e = .returned (.tuple #[v', .int .i64 er]) ∧ Hid (er = erk b) ∧ Seg w' v' (outk b l) ∧ Below w.heap.size w w' := by
  rcases h with ⟨rfl, v', rfl, ho, hb⟩ | ⟨rfl, rfl, hb⟩
  · exact ⟨v', 0, rfl, rfl, ho.seg (by omega), hb⟩
  · exact ⟨_, 10, rfl, rfl, Seg.nil _, hb⟩

def Ctl.fits (c : Ctl) : Bool := cfits c.kd c.tk
def Ctl.b (c : Ctl) : List Nat := ctb c.kd c.ep c.n c.tk
def decCtl : DecidableEq Ctl := fun a b => decidable_of_iff (a.kd = b.kd ∧ a.ep = b.ep ∧ a.n = b.n ∧ a.tk = b.tk) (by cases a; cases b; simp)
theorem frm_beg [DecidableEq Frm] (f g : Frm) (hf : f.fits = true) (hg : g.fits = true) (of_ : f.ok) (og : g.ok) : beg f.b g.b = decide (f = g) :=
  beg_iff rFrame _ _ f g (fun l => rFrame_frb _ _ _ _ _ _ _ l hf of_.1 of_.2.1 of_.2.2.1 of_.2.2.2.1 of_.2.2.2.2) (fun l => rFrame_frb _ _ _ _ _ _ _ l hg og.1 og.2.1 og.2.2.1 og.2.2.2.1 og.2.2.2.2) (fun h => by rw [h])
theorem ctm_beg [DecidableEq Ctl] (c d : Ctl) (hc : c.fits = true) (hd : d.fits = true) (oc : U64 c.ep ∧ U64 c.n) (od : U64 d.ep ∧ U64 d.n) : beg c.b d.b = decide (c = d) :=
  beg_iff rControl c.b d.b c d (fun l => rControl_ctb _ _ _ _ l hc oc.1 oc.2) (fun l => rControl_ctb _ _ _ _ l hd od.1 od.2) (fun h => by rw [h])
theorem sn_beg [DecidableEq Sn] (s t : Sn) (hs : sEr s = 0) (ht : sEr t = 0) (os : s.ok) (ot : t.ok) : beg (sOut s) (sOut t) = decide (s = t) := by
  have key : ∀ s : Sn, sEr s = 0 → s.big = false ∧ s.form = true := by
    intro s h1
    unfold sEr at h1
    rcases Bool.eq_false_or_eq_true s.big with hb | hb <;> rcases Bool.eq_false_or_eq_true s.form with hf | hf <;> simp [hb, hf] at h1 ⊢
  have e1 : sOut s = snb s := by unfold sOut; rw [(key s hs).1, (key s hs).2]; rfl
  have e2 : sOut t = snb t := by unfold sOut; rw [(key t ht).1, (key t ht).2]; rfl
  rw [e1, e2]
  exact beg_iff rSnap _ _ s t (fun l => rSnap_of s (key s hs).1 (key s hs).2 os l) (fun l => rSnap_of t (key t ht).1 (key t ht).2 ot l) (fun h => by rw [h])

/-- In the midst of the law: its six boxes, and that what was there is as it was. -/
structure LA (w W : World) (fc gc cc dc sc tc : Array Value) : Prop where
  bf : BoxT 26 W w.heap.size fc
  bg : BoxT 26 W (w.heap.size + 1) gc
  bc : BoxT 28 W (w.heap.size + 2) cc
  bd : BoxT 28 W (w.heap.size + 3) dc
  bs : BoxT 48 W (w.heap.size + 4) sc
  bt : BoxT 48 W (w.heap.size + 5) tc
  bel : Below w.heap.size w W
  gl : Glob W
theorem LA.step {w W W' : World} {fc gc cc dc sc tc : Array Value} (h : LA w W fc gc cc dc sc tc) (hb : Below W.heap.size W W') : LA w W' fc gc cc dc sc tc :=
  have hk := Kept.of_below (base := 0) hb
  ⟨h.bf.kept hk (by decide), h.bg.kept hk (by decide), h.bc.kept hk (by decide), h.bd.kept hk (by decide), h.bs.kept hk (by decide), h.bt.kept hk (by decide), h.bel.trans (hb.mono h.bel.size), h.gl.below hb h.gl.1⟩
theorem LA.start (w : World) (fc gc cc dc sc tc : Array Value) (hg : Glob w) : LA w ((((((w.alloc (.cells fc 26)).alloc (.cells gc 26)).alloc (.cells cc 28)).alloc (.cells dc 28)).alloc (.cells sc 48)).alloc (.cells tc 48)) fc gc cc dc sc tc := by
  have hb : Below w.heap.size w ((((((w.alloc (.cells fc 26)).alloc (.cells gc 26)).alloc (.cells cc 28)).alloc (.cells dc 28)).alloc (.cells sc 48)).alloc (.cells tc 48)) :=
    ((((((Below.refl _ _).alloc (Nat.le_refl _) _).alloc (by simp) _).alloc (by simp; omega) _).alloc (by simp; omega) _).alloc (by simp; omega) _).alloc (by simp; omega) _
  exact ⟨(((((BoxT.new 26 w fc).alloc _).alloc _).alloc _).alloc _).alloc _, ((((BoxT.new_at (by simp)).alloc _).alloc _).alloc _).alloc _, (((BoxT.new_at (by simp)).alloc _).alloc _).alloc _, ((BoxT.new_at (by simp)).alloc _).alloc _, (BoxT.new_at (by simp)).alloc _, BoxT.new_at (by simp), hb, hg.below hb hg.1⟩
theorem SnSeg.la {w W : World} {fc gc cc dc sc tc : Array Value} {vm vp vc : Value} {s : Sn} (h : SnSeg w.heap.size w vm vp vc s) (q : LA w W fc gc cc dc sc tc) : SnSeg W.heap.size W vm vp vc s := (h.below q.bel).mono q.bel.size

set_option maxHeartbeats 8000000 in
set_option maxRecDepth 100000 in
theorem CodecApart_walk [DecidableEq Frm] [DecidableEq Ctl] [DecidableEq Pn] [DecidableEq Ot] [DecidableEq Sn] (f g : Frm) (c d : Ctl) (s t : Sn) (vm vp vc um up uc : Value) (w : World) (of_ : f.ok) (og : g.ok) (oc : U64 c.ep ∧ U64 c.n) (od : U64 d.ep ∧ U64 d.n) (os : s.ok) (ot : t.ok) (hs : SnSeg w.heap.size w vm vp vc s) (ht : SnSeg w.heap.size w um up uc t) (hg : Glob w) :
    Calls Tryd.prog 8 #[.agg #[.int .i64 f.kd, .int .i64 f.ke, .int .i64 f.ti, .int .i64 f.va, .int .i64 f.ma, .int .u64 f.n, .bool f.ov], .agg #[.int .i64 g.kd, .int .i64 g.ke, .int .i64 g.ti, .int .i64 g.va, .int .i64 g.ma, .int .u64 g.n, .bool g.ov], .agg #[.int .i64 c.kd, .int .u64 c.ep, .int .u64 c.n, .int .i64 c.tk], .agg #[.int .i64 d.kd, .int .u64 d.ep, .int .u64 d.n, .int .i64 d.tk], .agg #[.int .i64 s.task, .int .i64 s.off, .int .i64 s.mark, vm, vp, vc], .agg #[.int .i64 t.task, .int .i64 t.off, .int .i64 t.mark, um, up, uc]] w fun e w' => e = .returned (.bool true) ∧ Below w.heap.size w w' := by
  have HS := hide hs
  have HT := hide ht
  have HUs : Hid (∀ o ∈ s.outs, 0 ≤ o.f.n) := fun o ho => (os.outs o ho).2.2.2.2.1
  have HUt : Hid (∀ o ∈ t.outs, 0 ≤ o.f.n) := fun o ho => (ot.outs o ho).2.2.2.2.1
  obtain ⟨am, cm, rfl, -, -⟩ := hs.m
  obtain ⟨ap, cp, rfl, -, -⟩ := hs.p
  obtain ⟨ac, cc, rfl, -, -⟩ := hs.c
  obtain ⟨bm, dm, rfl, -, -⟩ := ht.m
  obtain ⟨bp, dp, rfl, -, -⟩ := ht.p
  obtain ⟨bc, dc, rfl, -, -⟩ := ht.c
  have q := LA.start w #[.int .i64 f.kd, .int .i64 f.ke, .int .i64 f.ti, .int .i64 f.va, .int .i64 f.ma, .int .u64 f.n, .bool f.ov] #[.int .i64 g.kd, .int .i64 g.ke, .int .i64 g.ti, .int .i64 g.va, .int .i64 g.ma, .int .u64 g.n, .bool g.ov] #[.int .i64 c.kd, .int .u64 c.ep, .int .u64 c.n, .int .i64 c.tk] #[.int .i64 d.kd, .int .u64 d.ep, .int .u64 d.n, .int .i64 d.tk] #[.int .i64 s.task, .int .i64 s.off, .int .i64 s.mark, .slice am s.marks.length cm, .slice ap s.panes.length cp, .slice ac s.outs.length cc] #[.int .i64 t.task, .int .i64 t.off, .int .i64 t.mark, .slice bm t.marks.length dm, .slice bp t.panes.length dp, .slice bc t.outs.length dc] hg
  have HN : Hid ((0 ≤ f.n ∧ 0 ≤ g.n) ∧ (0 ≤ c.ep ∧ 0 ≤ c.n) ∧ 0 ≤ d.ep ∧ 0 ≤ d.n) := ⟨⟨of_.2.2.2.2.1, og.2.2.2.2.1⟩, ⟨oc.1.1, oc.2.1⟩, od.1.1, od.2.1⟩
  have HF : Hid (f.fits = true → g.fits = true → beg f.b g.b = decide (f = g)) := fun h1 h2 => frm_beg f g h1 h2 of_ og
  have HC0 : Hid (c.fits = true → d.fits = true → beg c.b d.b = decide (c = d)) := fun h1 h2 => ctm_beg c d h1 h2 oc od
  have HSN : Hid (sEr s = 0 → sEr t = 0 → beg (sOut s) (sOut t) = decide (s = t)) := fun h1 h2 => sn_beg s t h1 h2 os ot
  clear hg hs ht of_ og oc od os ot
  go_enter Tryd.func8, Tryd.ntmps8
  go_wp2_with fail
  refine (known_any _ q.gl).mono ?_
  rintro e w1 ⟨rfl, hb⟩
  have q := q.step hb
  clear hb
  obtain ⟨c0, c1, c2, c3, c4, c5⟩ := q.bs.cells6
  generalize hlt : s.light = lt
  have HLT := hide hlt
  clear hlt
  go_wp2_with fail
  refine (light_any s _ _ _ w1 (HS.out.la q)).mono ?_
  rw [HLT.out]
  rintro e w2 ⟨rfl, hb⟩
  have q := q.step hb
  clear hb c0 c1 c2 c3 c4 c5
  cases lt
  · have hfin := q.bel
    go_wp2
    go_ret
    exact ⟨rfl, hfin⟩
  obtain ⟨c0, c1, c2, c3, c4, c5⟩ := q.bt.cells6
  generalize hlu : t.light = lu
  have HLU := hide hlu
  clear hlu
  go_wp2_with fail
  refine (light_any t _ _ _ w2 (HT.out.la q)).mono ?_
  rw [HLU.out]
  rintro e w3 ⟨rfl, hb⟩
  have q := q.step hb
  clear hb c0 c1 c2 c3 c4 c5
  cases lu
  · have hfin := q.bel
    go_wp2
    go_ret
    exact ⟨rfl, hfin⟩
  obtain ⟨c0, c1, c2, c3, c4, c5, c6⟩ := q.bf.cells7
  have hcall := Frame_any f.kd f.ke f.ti f.va f.ma f.n f.ov w3 HN.out.1.1
  change Calls _ _ _ _ (RefPost w3 f.fits f.b) at hcall
  go_wp2_with fail
  refine hcall.mono ?_
  intro e w4 hp
  obtain ⟨va1, ef, rfl, HEF, hsa, hb⟩ := hp.meet (by have := frb_len f.kd f.ke f.ti f.va f.ma f.n f.ov; unfold Frm.b; omega)
  have q := q.step hb
  have HA := hide hsa
  clear hb hp hsa hcall c0 c1 c2 c3 c4 c5 c6
  obtain ⟨c0, c1, c2, c3, c4, c5, c6⟩ := q.bg.cells7
  have hcall := Frame_any g.kd g.ke g.ti g.va g.ma g.n g.ov w4 HN.out.1.2
  change Calls _ _ _ _ (RefPost w4 g.fits g.b) at hcall
  go_wp2_with fail
  refine hcall.mono ?_
  intro e w5 hp
  obtain ⟨vb1, eg, rfl, HEG, hsa, hb⟩ := hp.meet (by have := frb_len g.kd g.ke g.ti g.va g.ma g.n g.ov; unfold Frm.b; omega)
  have q := q.step hb
  have HA := hide (HA.out.below hb)
  have HB := hide hsa
  clear hb hp hsa hcall c0 c1 c2 c3 c4 c5 c6
  obtain ⟨c0, c1, c2, c3, c4, c5, c6⟩ := q.bf.cells7
  obtain ⟨d0, d1, d2, d3, d4, d5, d6⟩ := q.bg.cells7
  go_upto_region 7 with fail
  go_cut [57] from 45 to 57 (fun x wx => x = .bool false ∧ Hid (Below w5.heap.size w5 wx))
  case first =>
    clear q
    rcases Bool.eq_false_or_eq_true f.fits with hf | hf
    rotate_left
    · have h1 : ef = 10 := by rw [HEF.out, hf]; rfl
      have h2 : Hid (eg = 0 ∨ eg = 10) := by
        rcases Bool.eq_false_or_eq_true g.fits with h | h
        · exact .inl (by rw [HEG.out, h]; rfl)
        · exact .inr (by rw [HEG.out, h]; rfl)
      clear hf HEF HEG
      subst h1
      rcases h2.out with h2 | h2
      · subst h2
        go_wp2_with fail
        go_quiet (fail)
        go_wp2
        go_meet
        case rel => exact ⟨rfl, below_drewN' (Below.refl _ _) nq⟩
      · subst h2
        go_wp2_with fail
        go_quiet (fail)
        go_wp2
        go_meet
        case rel => exact ⟨rfl, below_drewN' (Below.refl _ _) nq⟩
    rcases Bool.eq_false_or_eq_true g.fits with hg | hg
    rotate_left
    · have h1 : ef = 0 := by rw [HEF.out, hf]; rfl
      have h2 : eg = 10 := by rw [HEG.out, hg]; rfl
      clear hf hg HEF HEG
      subst h1 h2
      go_wp2_with fail
      go_quiet (fail)
      go_wp2
      go_meet
      case rel => exact ⟨rfl, below_drewN' (Below.refl _ _) nq⟩
    have h1 : ef = 0 := by rw [HEF.out, hf]; rfl
    have h2 : eg = 0 := by rw [HEG.out, hg]; rfl
    have hA : Seg w5 va1 f.b := by have := HA.out; rw [hf] at this; exact this
    have hB : Seg w5 vb1 g.b := by have := HB.out; rw [hg] at this; exact this
    have HC := fun n => begins_q va1 vb1 f.b g.b (w5.drewN n) (hA.drewN n) (hB.drewN n)
    have hdd : beg f.b g.b = decide (f = g) := HF.out hf hg
    rw [hdd] at HC
    generalize hd0 : decide (f = g) = dd at HC
    have HD := hide hd0
    clear hf hg HEF HEG hA hB hdd hd0
    subst h1 h2
    by_cases g0 : f.kd = g.kd
    rotate_left
    · have e0 : (f.kd == g.kd) = false := by simp [g0]
      have hdd : dd = false := by rw [← HD.out]; exact decide_eq_false fun h => g0 (by rw [h])
      subst hdd
      go_wp2_with fail
      go_quiet (first | (go_at_call 38; exact Calls.quiet_of (HC _)))
      go_wp2
      go_meet
      case rel => exact ⟨rfl, below_drewN' (Below.refl _ _) nq⟩
    have e0 : (f.kd == g.kd) = true := by simp [g0]
    by_cases g1 : f.ke = g.ke
    rotate_left
    · have e1 : (f.ke == g.ke) = false := by simp [g1]
      have hdd : dd = false := by rw [← HD.out]; exact decide_eq_false fun h => g1 (by rw [h])
      subst hdd
      go_wp2_with fail
      go_quiet (first | (go_at_call 38; exact Calls.quiet_of (HC _)))
      go_wp2
      go_meet
      case rel => exact ⟨rfl, below_drewN' (Below.refl _ _) nq⟩
    have e1 : (f.ke == g.ke) = true := by simp [g1]
    by_cases g2 : f.ti = g.ti
    rotate_left
    · have e2 : (f.ti == g.ti) = false := by simp [g2]
      have hdd : dd = false := by rw [← HD.out]; exact decide_eq_false fun h => g2 (by rw [h])
      subst hdd
      go_wp2_with fail
      go_quiet (first | (go_at_call 38; exact Calls.quiet_of (HC _)))
      go_wp2
      go_meet
      case rel => exact ⟨rfl, below_drewN' (Below.refl _ _) nq⟩
    have e2 : (f.ti == g.ti) = true := by simp [g2]
    by_cases g3 : f.va = g.va
    rotate_left
    · have e3 : (f.va == g.va) = false := by simp [g3]
      have hdd : dd = false := by rw [← HD.out]; exact decide_eq_false fun h => g3 (by rw [h])
      subst hdd
      go_wp2_with fail
      go_quiet (first | (go_at_call 38; exact Calls.quiet_of (HC _)))
      go_wp2
      go_meet
      case rel => exact ⟨rfl, below_drewN' (Below.refl _ _) nq⟩
    have e3 : (f.va == g.va) = true := by simp [g3]
    by_cases g4 : f.ma = g.ma
    rotate_left
    · have e4 : (f.ma == g.ma) = false := by simp [g4]
      have hdd : dd = false := by rw [← HD.out]; exact decide_eq_false fun h => g4 (by rw [h])
      subst hdd
      go_wp2_with fail
      go_quiet (first | (go_at_call 38; exact Calls.quiet_of (HC _)))
      go_wp2
      go_meet
      case rel => exact ⟨rfl, below_drewN' (Below.refl _ _) nq⟩
    have e4 : (f.ma == g.ma) = true := by simp [g4]
    by_cases g5 : f.n = g.n
    rotate_left
    · have e5 : (f.n == g.n) = false := by simp [g5]
      have hdd : dd = false := by rw [← HD.out]; exact decide_eq_false fun h => g5 (by rw [h])
      subst hdd
      go_wp2_with fail
      go_quiet (first | (go_at_call 38; exact Calls.quiet_of (HC _)))
      go_wp2
      go_meet
      case rel => exact ⟨rfl, below_drewN' (Below.refl _ _) nq⟩
    have e5 : (f.n == g.n) = true := by simp [g5]
    by_cases g6 : f.ov = g.ov
    rotate_left
    · have e6 : (f.ov == g.ov) = false := by simp [g6]
      have hdd : dd = false := by rw [← HD.out]; exact decide_eq_false fun h => g6 (by rw [h])
      subst hdd
      go_wp2_with fail
      go_quiet (first | (go_at_call 38; exact Calls.quiet_of (HC _)))
      go_wp2
      go_meet
      case rel => exact ⟨rfl, below_drewN' (Below.refl _ _) nq⟩
    have e6 : (f.ov == g.ov) = true := by simp [g6]
    have hdd : dd = true := by rw [← HD.out]; exact decide_eq_true (by cases f; cases g; simp only at g0 g1 g2 g3 g4 g5 g6; subst g0 g1 g2 g3 g4 g5 g6; rfl)
    subst hdd
    go_wp2_with fail
    go_quiet (first | (go_at_call 38; exact Calls.quiet_of (HC _)))
    go_wp2
    go_meet
    case rel => exact ⟨rfl, below_drewN' (Below.refl _ _) nq⟩
  case rest =>
  obtain ⟨rfl, hb⟩ := hcut
  have hb := hb.out
  have q := q.step hb
  clear hb HA HB HEF HEG HF c0 c1 c2 c3 c4 c5 c6 d0 d1 d2 d3 d4 d5 d6
  obtain ⟨c0, c1, c2, c3⟩ := q.bc.cells4
  have hcall := Control_any c.kd c.ep c.n c.tk wc HN.out.2.1.1 HN.out.2.1.2
  change Calls _ _ _ _ (RefPost wc c.fits c.b) at hcall
  go_wp2_with fail
  refine hcall.mono ?_
  intro e w6 hp
  obtain ⟨vc1, ec, rfl, HEC, hsa, hb⟩ := hp.meet (by unfold Ctl.b; rw [ctb_len]; omega)
  have q := q.step hb
  have HA := hide hsa
  clear hb hp hsa hcall c0 c1 c2 c3
  obtain ⟨c0, c1, c2, c3⟩ := q.bd.cells4
  have hcall := Control_any d.kd d.ep d.n d.tk w6 HN.out.2.2.1 HN.out.2.2.2
  change Calls _ _ _ _ (RefPost w6 d.fits d.b) at hcall
  go_wp2_with fail
  refine hcall.mono ?_
  intro e w7 hp
  obtain ⟨vd1, ed, rfl, HED, hsa, hb⟩ := hp.meet (by unfold Ctl.b; rw [ctb_len]; omega)
  have q := q.step hb
  have HA := hide (HA.out.below hb)
  have HB := hide hsa
  clear hb hp hsa hcall c0 c1 c2 c3
  obtain ⟨c0, c1, c2, c3⟩ := q.bc.cells4
  obtain ⟨d0, d1, d2, d3⟩ := q.bd.cells4
  go_upto_region 11 with fail
  go_cut [80] from 68 to 80 (fun x wx => x = .bool false ∧ Hid (Below w7.heap.size w7 wx))
  case first =>
    clear q
    rcases Bool.eq_false_or_eq_true c.fits with hf | hf
    rotate_left
    · have h1 : ec = 10 := by rw [HEC.out, hf]; rfl
      have h2 : Hid (ed = 0 ∨ ed = 10) := by
        rcases Bool.eq_false_or_eq_true d.fits with h | h
        · exact .inl (by rw [HED.out, h]; rfl)
        · exact .inr (by rw [HED.out, h]; rfl)
      clear hf HEC HED
      subst h1
      rcases h2.out with h2 | h2
      · subst h2
        go_wp2_with fail
        go_quiet (fail)
        go_wp2
        go_meet
        case rel => exact ⟨rfl, below_drewN' (Below.refl _ _) nq⟩
      · subst h2
        go_wp2_with fail
        go_quiet (fail)
        go_wp2
        go_meet
        case rel => exact ⟨rfl, below_drewN' (Below.refl _ _) nq⟩
    rcases Bool.eq_false_or_eq_true d.fits with hg | hg
    rotate_left
    · have h1 : ec = 0 := by rw [HEC.out, hf]; rfl
      have h2 : ed = 10 := by rw [HED.out, hg]; rfl
      clear hf hg HEC HED
      subst h1 h2
      go_wp2_with fail
      go_quiet (fail)
      go_wp2
      go_meet
      case rel => exact ⟨rfl, below_drewN' (Below.refl _ _) nq⟩
    have h1 : ec = 0 := by rw [HEC.out, hf]; rfl
    have h2 : ed = 0 := by rw [HED.out, hg]; rfl
    have hA : Seg w7 vc1 c.b := by have := HA.out; rw [hf] at this; exact this
    have hB : Seg w7 vd1 d.b := by have := HB.out; rw [hg] at this; exact this
    have HC := fun n => begins_q vc1 vd1 c.b d.b (w7.drewN n) (hA.drewN n) (hB.drewN n)
    have hdd : beg c.b d.b = decide (c = d) := HC0.out hf hg
    rw [hdd] at HC
    generalize hd0 : decide (c = d) = dd at HC
    have HD := hide hd0
    clear hf hg HEC HED hA hB hdd hd0
    subst h1 h2
    by_cases g0 : c.kd = d.kd
    rotate_left
    · have e0 : (c.kd == d.kd) = false := by simp [g0]
      have hdd : dd = false := by rw [← HD.out]; exact decide_eq_false fun h => g0 (by rw [h])
      subst hdd
      go_wp2_with fail
      go_quiet (first | (go_at_call 38; exact Calls.quiet_of (HC _)))
      go_wp2
      go_meet
      case rel => exact ⟨rfl, below_drewN' (Below.refl _ _) nq⟩
    have e0 : (c.kd == d.kd) = true := by simp [g0]
    by_cases g1 : c.ep = d.ep
    rotate_left
    · have e1 : (c.ep == d.ep) = false := by simp [g1]
      have hdd : dd = false := by rw [← HD.out]; exact decide_eq_false fun h => g1 (by rw [h])
      subst hdd
      go_wp2_with fail
      go_quiet (first | (go_at_call 38; exact Calls.quiet_of (HC _)))
      go_wp2
      go_meet
      case rel => exact ⟨rfl, below_drewN' (Below.refl _ _) nq⟩
    have e1 : (c.ep == d.ep) = true := by simp [g1]
    by_cases g2 : c.n = d.n
    rotate_left
    · have e2 : (c.n == d.n) = false := by simp [g2]
      have hdd : dd = false := by rw [← HD.out]; exact decide_eq_false fun h => g2 (by rw [h])
      subst hdd
      go_wp2_with fail
      go_quiet (first | (go_at_call 38; exact Calls.quiet_of (HC _)))
      go_wp2
      go_meet
      case rel => exact ⟨rfl, below_drewN' (Below.refl _ _) nq⟩
    have e2 : (c.n == d.n) = true := by simp [g2]
    by_cases g3 : c.tk = d.tk
    rotate_left
    · have e3 : (c.tk == d.tk) = false := by simp [g3]
      have hdd : dd = false := by rw [← HD.out]; exact decide_eq_false fun h => g3 (by rw [h])
      subst hdd
      go_wp2_with fail
      go_quiet (first | (go_at_call 38; exact Calls.quiet_of (HC _)))
      go_wp2
      go_meet
      case rel => exact ⟨rfl, below_drewN' (Below.refl _ _) nq⟩
    have e3 : (c.tk == d.tk) = true := by simp [g3]
    have hdd : dd = true := by rw [← HD.out]; exact decide_eq_true (by cases c; cases d; simp only at g0 g1 g2 g3; subst g0 g1 g2 g3; rfl)
    subst hdd
    go_wp2_with fail
    go_quiet (first | (go_at_call 38; exact Calls.quiet_of (HC _)))
    go_wp2
    go_meet
    case rel => exact ⟨rfl, below_drewN' (Below.refl _ _) nq⟩
  case rest =>
  obtain ⟨rfl, hb⟩ := hcut
  have hb := hb.out
  have q := q.step hb
  clear hb HA HB HEC HED HC0 c0 c1 c2 c3 d0 d1 d2 d3
  obtain ⟨c0, c1, c2, c3, c4, c5⟩ := q.bs.cells6
  generalize hes : sEr s = es
  have HES := hide hes
  generalize het : sEr t = et
  have HET := hide het
  clear hes het
  go_wp2_with fail
  refine (Snap_any s _ _ _ _ HUs.out (HS.out.la q)).mono ?_
  rw [HES.out]
  rintro e w8 ⟨v8, rfl, ho8, hb⟩
  have q := q.step hb
  have hlo := sOut_len s
  have HA : Hid (Seg w8 v8 (sOut s)) := ho8.seg (by omega)
  clear hb ho8 hlo c0 c1 c2 c3 c4 c5
  obtain ⟨c0, c1, c2, c3, c4, c5⟩ := q.bt.cells6
  go_wp2_with fail
  refine (Snap_any t _ _ _ _ HUt.out (HT.out.la q)).mono ?_
  rw [HET.out]
  rintro e w9 ⟨v9, rfl, ho9, hb⟩
  have q := q.step hb
  have hlo := sOut_len t
  have HA := hide (HA.out.below hb)
  have HB : Hid (Seg w9 v9 (sOut t)) := ho9.seg (by omega)
  clear hb ho9 hlo c0 c1 c2 c3 c4 c5
  have cases_ : ∀ s : Sn, sEr s = 0 ∨ sEr s = 10 ∨ sEr s = 12 := by
    intro s
    unfold sEr
    rcases Bool.eq_false_or_eq_true s.big with hb | hb <;> rcases Bool.eq_false_or_eq_true s.form with hf | hf <;> simp [hb, hf]
  have k1 : Hid (es = 0 ∨ es = 10 ∨ es = 12) := by have := cases_ s; rw [HES.out] at this; exact this
  have k2 : Hid (et = 0 ∨ et = 10 ∨ et = 12) := by have := cases_ t; rw [HET.out] at this; exact this
  clear cases_
  by_cases h0 : es = 0 ∧ et = 0
  rotate_left
  · have hfin := q.bel
    rcases k1.out with h1 | h1 | h1 <;> rcases k2.out with h2 | h2 | h2
    · exact absurd ⟨h1, h2⟩ h0
    all_goals
      clear h0 k1 k2 HES HET
      subst h1 h2
      go_wp2
      go_ret
      exact ⟨rfl, hfin⟩
  obtain ⟨h1, h2⟩ := h0
  subst h1 h2
  have hdd : beg (sOut s) (sOut t) = decide (s = t) := HSN.out HES.out HET.out
  have HC := fun W (hA : Seg W v8 (sOut s)) (hB : Seg W v9 (sOut t)) => begins_q v8 v9 _ _ W hA hB
  rw [hdd] at HC
  have HH := helpSnap_any s t _ _ _ _ _ _ w9 (HS.out.la q) (HT.out.la q)
  generalize decide (s = t) = dd at HC HH
  have HCC := hide HC
  clear hdd HC k1 k2
  obtain ⟨c0, c1, c2, c3, c4, c5⟩ := q.bs.cells6
  obtain ⟨d0, d1, d2, d3, d4, d5⟩ := q.bt.cells6
  go_wp2_with fail
  refine HH.mono ?_
  rintro e w10 ⟨rfl, hb⟩
  have q := q.step hb
  have hA := HA.out.below hb
  have hB := HB.out.below hb
  have HC := HCC.out w10 hA hB
  clear hA hB hb HH HCC
  go_wp2_with fail
  refine HC.mono ?_
  rintro e w11 ⟨rfl, m, rfl⟩
  have hfin := below_drewN' q.bel m
  clear HC
  have edd : (dd == dd) = true := by simp
  go_wp2
  go_ret
  exact ⟨rfl, hfin⟩
end Go.Proofs.YtaajjejgjnlbgaaDoor
