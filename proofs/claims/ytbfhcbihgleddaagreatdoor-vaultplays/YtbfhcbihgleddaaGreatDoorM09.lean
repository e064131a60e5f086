/-
  Texts of the vault, in build order: Snap, RefMan, RdMan.
-/
import Derived.Test.YtbfhcbihgleddaaGreatDoorM08
import Derived.Deep.RegionHeld3
import Derived.Laws.BytesArg
/-
  Walks over package codec's writers of parts of snapshots: the whole.
-/
namespace Go.Proofs.YtbfhcbihgleddaaGreatDoor
open Go.RowKit

theorem short_b (n : Int) : Hid (decide (0 ≤ n ∧ n ≤ 65535) = true ∨ decide (0 ≤ n ∧ n ≤ 65535) = false) := (Bool.eq_false_or_eq_true _)
set_option maxHeartbeats 1000000 in
set_option maxRecDepth 100000 in
theorem unfitOut_any (ch kd ke ti va ma n : Int) (ov : Bool) (w : World) :
    Calls Tryz.prog 98 #[.agg #[.int .i64 ch, .int .i64 kd, .int .i64 ke, .int .i64 ti, .int .i64 va, .int .i64 ma, .int .u64 n, .bool ov]] w fun e w' => e = .returned (.bool (!(decide (0 ≤ ch ∧ ch ≤ 65535) && fits kd ke ti va ma n ov))) ∧ Below w.heap.size w w' := by
  have hb0 : Below w.heap.size w (w.alloc (.cells #[.int .i64 ch, .int .i64 kd, .int .i64 ke, .int .i64 ti, .int .i64 va, .int .i64 ma, .int .u64 n, .bool ov] 151)) := (Below.refl _ _).alloc (Nat.le_refl _) _
  rcases (short_b ch).out with hs | hs
  · rw [hs, Bool.true_and]
    go_enter Tryz.func98, Tryz.ntmps98
    go_wp2_with fail
    refine (short_any ch _).mono ?_
    rw [hs]
    rintro e w1 ⟨rfl, rfl⟩
    clear hs
    go_wp2_with fail
    refine (frameFits_any kd ke ti va ma n ov _).mono ?_
    rintro e w2 ⟨rfl, hb⟩
    have hbel := hb0.trans (hb.mono (by simp))
    go_wp2
    go_ret
    exact ⟨ret_bool (by cases fits kd ke ti va ma n ov <;> rfl), hbel⟩
  · rw [hs, Bool.false_and]
    go_enter Tryz.func98, Tryz.ntmps98
    go_wp2_with fail
    refine (short_any ch _).mono ?_
    rw [hs]
    rintro e w1 ⟨rfl, rfl⟩
    clear hs
    go_wp2
    go_ret
    exact ⟨rfl, hb0⟩

def fitsO (xs : List Ot) : Bool := xs.all Ot.fits
theorem fitsO_succ (xs : List Ot) (k : Nat) (x : Ot) (h : xs[k]? = some x) : fitsO (xs.take (k + 1)) = (fitsO (xs.take k) && x.fits) := by
  unfold fitsO
  rw [List.take_add_one, h, List.all_append]; simp

set_option maxHeartbeats 2000000 in
set_option maxRecDepth 100000 in
theorem IndexFuncO_any (vs : Value) (xs : List Ot) (w : World) (hseg : LSeg 8 Ot.cs w.heap.size w vs xs) :
    Calls Tryz.prog 124 #[vs, .func (.func 98) #[] #[]] w fun e w' => ∃ i : Int, e = .returned (.int .i64 i) ∧ (decide (0 ≤ i) = !fitsO xs) ∧ Below w.heap.size w w' := by
  obtain ⟨ao, cap, rfl, h2, h4⟩ := hseg
  by_cases h0 : xs = []
  · subst h0
    clear h4
    simp only [List.length_nil] at *
    go_enter Tryz.func124, Tryz.ntmps124
    go_wp2
    refine wp_loop_rounds 1 ?_
    rw [rounds_succ]
    go_wp2
    go_ret
    exact ⟨_, rfl, by decide, Below.refl _ _⟩
  rcases h4 with h4 | ⟨b, off, rfl, hbB, hcell⟩
  · exact absurd h4 h0
  have HC : Hid (∀ (i : Nat) (x : Ot), xs[i]? = some x → ∀ (j : Nat) (u : Value), (Ot.cs x)[j]? = some u → w.cell? ⟨b, off + i * 8 + j, none⟩ = some u) := hcell
  clear hcell h0
  generalize hnn : xs.length = n at *
  have HN : Hid (xs.length = n) := hnn
  clear hnn
  go_enter Tryz.func124, Tryz.ntmps124
  go_wp2
  go_loopw [8] (fun i wr => ∃ k : Nat, k ≤ n ∧ i = .int .i64 k ∧ Hid (fitsO (xs.take k) = true) ∧ Below w.heap.size w wr) (fun i _ => n - (intOf i).toNat)
  case atStart => exact ⟨0, Nat.zero_le _, rfl, rfl, Below.refl _ _⟩
  case round =>
    obtain ⟨k, hk, rfl, HF, hbel⟩ := hrel
    by_cases hlt : k < n
    · obtain ⟨x, hx⟩ : ∃ x : Ot, xs[k]? = some x := ⟨_, List.getElem?_eq_getElem (by have := HN.out; omega)⟩
      have hcw : ∀ (j : Nat) (u : Value), (Ot.cs x)[j]? = some u → wr.cell? ⟨b, off + k * 8 + j, none⟩ = some u := fun j u hu => (hbel.cell (p := ⟨b, off + k * 8 + j, none⟩) hbB).trans (HC.out k x hx j u hu)
      have hc0 : wr.cell? ⟨b, off + k * 8, none⟩ = some (.int .i64 x.ch) := hcw 0 _ rfl
      have hc1 : wr.cell? ⟨b, off + k * 8 + 1, none⟩ = some (.int .i64 x.f.kd) := hcw 1 _ rfl
      have hc2 : wr.cell? ⟨b, off + k * 8 + 2, none⟩ = some (.int .i64 x.f.ke) := hcw 2 _ rfl
      have hc3 : wr.cell? ⟨b, off + k * 8 + 3, none⟩ = some (.int .i64 x.f.ti) := hcw 3 _ rfl
      have hc4 : wr.cell? ⟨b, off + k * 8 + 4, none⟩ = some (.int .i64 x.f.va) := hcw 4 _ rfl
      have hc5 : wr.cell? ⟨b, off + k * 8 + 5, none⟩ = some (.int .i64 x.f.ma) := hcw 5 _ rfl
      have hc6 : wr.cell? ⟨b, off + k * 8 + 6, none⟩ = some (.int .u64 x.f.n) := hcw 6 _ rfl
      have hc7 : wr.cell? ⟨b, off + k * 8 + 7, none⟩ = some (.bool x.f.ov) := hcw 7 _ rfl
      have HX : Hid (xs[k]? = some x) := hx
      have hu := unfitOut_any x.ch x.f.kd x.f.ke x.f.ti x.f.va x.f.ma x.f.n x.f.ov wr
      have hz := hbel.size
      rcases Bool.eq_false_or_eq_true x.fits with hxf | hxf
      · have hxf' : (decide (0 ≤ x.ch ∧ x.ch ≤ 65535) && fits x.f.kd x.f.ke x.f.ti x.f.va x.f.ma x.f.n x.f.ov) = true := hxf
        rw [hxf'] at hu
        have HXF : Hid (x.fits = true) := hxf
        clear hx hcw hxf hxf'
        go_wp2_with fail
        refine hu.mono ?_
        rintro e w3 ⟨rfl, hb3⟩
        have hbel := hbel.trans (hb3.mono hz)
        clear hu hb3
        go_wp2
        go_roundw
        case rel => exact ⟨k + 1, by omega, by go_num, by
          show fitsO _ = true
          rw [fitsO_succ xs k x HX.out, HF.out, HXF.out]; rfl, hbel⟩
        case measure => simp [intOf]; omega
      · have hxf' : (decide (0 ≤ x.ch ∧ x.ch ≤ 65535) && fits x.f.kd x.f.ke x.f.ti x.f.va x.f.ma x.f.n x.f.ov) = false := hxf
        rw [hxf'] at hu
        have HXF : Hid (x.fits = false) := hxf
        clear hx hcw hxf hxf'
        go_wp2_with fail
        refine hu.mono ?_
        rintro e w3 ⟨rfl, hb3⟩
        have hbel := hbel.trans (hb3.mono hz)
        clear hu hb3
        go_wp2
        go_ret
        refine ⟨_, rfl, ?_, hbel⟩
        have hf : fitsO xs = false := by
          unfold fitsO
          rw [List.all_eq_false]
          exact ⟨x, List.mem_of_getElem? HX.out, by rw [HXF.out]; decide⟩
        rw [hf]; simp
    · go_wp2
      go_ret
      refine ⟨_, rfl, ?_, hbel⟩
      have := HF.out
      rw [List.take_of_length_le (by have := HN.out; omega)] at this
      rw [this]; decide

set_option maxHeartbeats 1000000 in
set_option maxRecDepth 100000 in
theorem ContainsFuncO_any (vs : Value) (xs : List Ot) (w : World) (hseg : LSeg 8 Ot.cs w.heap.size w vs xs) :
    Calls Tryz.prog 97 #[vs, .func (.func 98) #[] #[]] w fun e w' => e = .returned (.bool (!fitsO xs)) ∧ Below w.heap.size w w' := by
  have HI := IndexFuncO_any vs xs w hseg
  clear hseg
  go_enter Tryz.func97, Tryz.ntmps97
  go_wp2_with fail
  refine HI.mono ?_
  rintro e w1 ⟨i, rfl, hi, hb⟩
  have HH : Hid (decide (0 ≤ i) = !fitsO xs) := hi
  clear hi HI
  go_wp2
  go_ret
  exact ⟨ret_bool HH.out, hb⟩

/-- A part of a snapshot. -/
structure Sn where
  task : Int
  off : Int
  mark : Int
  marks : List Int
  panes : List Pn
  outs : List Ot
def snb (s : Sn) : List Nat := be 2 s.task.toNat ++ (be 2 s.off.toNat ++ (sbe s.mark ++ ((be 2 s.marks.length ++ s.marks.flatMap sbe) ++ ((be 2 s.panes.length ++ s.panes.flatMap pnb) ++ (be 2 s.outs.length ++ s.outs.flatMap otb)))))
def Sn.big (s : Sn) : Bool := decide (4096 < s.panes.length ∨ 4096 < s.outs.length ∨ 65535 < s.marks.length)
def Sn.form (s : Sn) : Bool := decide (0 ≤ s.task ∧ s.task ≤ 65535) && (decide (0 ≤ s.off ∧ s.off ≤ 65535) && fitsO s.outs)
def sEr (s : Sn) : Int := if s.big then 12 else if s.form then 0 else 10
def sOut (s : Sn) : List Nat := if s.big then [] else if s.form then snb s else []
/-- The three lists of a part, as they lie. -/
structure SnSeg (B : Nat) (w : World) (vm vp vc : Value) (s : Sn) : Prop where
  m : LSeg 1 ics B w vm s.marks
  p : LSeg 4 Pn.cs B w vp s.panes
  c : LSeg 8 Ot.cs B w vc s.outs
theorem SnSeg.kept {B : Nat} {w w' : World} {vm vp vc : Value} {s : Sn} (h : SnSeg B w vm vp vc s) (hk : Kept B w w') (hB : B ≤ w.heap.size) : SnSeg B w' vm vp vc s := ⟨h.m.kept hk hB, h.p.kept hk hB, h.c.kept hk hB⟩
theorem SnSeg.below {B : Nat} {w w' : World} {vm vp vc : Value} {s : Sn} (h : SnSeg B w vm vp vc s) (hb : Below B w w') : SnSeg B w' vm vp vc s := ⟨h.m.below hb, h.p.below hb, h.c.below hb⟩
theorem SnSeg.mono {B B' : Nat} {w : World} {vm vp vc : Value} {s : Sn} (h : SnSeg B w vm vp vc s) (hB : B ≤ B') : SnSeg B' w vm vp vc s := ⟨h.m.mono hB, h.p.mono hB, h.c.mono hB⟩
theorem BoxT.cells6 {t : TypeId} {w : World} {k : Nat} {c0 c1 c2 c3 c4 c5 : Value} (h : BoxT t w k #[c0, c1, c2, c3, c4, c5]) :
    w.cell? ⟨k, 0, none⟩ = some c0 ∧ w.cell? ⟨k, 1, none⟩ = some c1 ∧ w.cell? ⟨k, 2, none⟩ = some c2 ∧ w.cell? ⟨k, 3, none⟩ = some c3 ∧ w.cell? ⟨k, 4, none⟩ = some c4 ∧ w.cell? ⟨k, 5, none⟩ = some c5 := by
  unfold BoxT at h
  simp [World.cell?, h]

set_option maxHeartbeats 2000000 in
set_option maxRecDepth 100000 in
theorem writeSnap_any (base : Nat) (s : Sn) (vm vp vc : Value) (w : World) (t0 : 0 ≤ s.task) (t1 : s.task ≤ 65535) (o0 : 0 ≤ s.off) (o1 : s.off ≤ 65535) (lm : s.marks.length ≤ 65535) (lp : s.panes.length ≤ 65535) (lc : s.outs.length ≤ 65535) (hf : ∀ o ∈ s.outs, o.fits = true) (hu : ∀ o ∈ s.outs, 0 ≤ o.f.n) (hb : base ≤ w.heap.size) (hseg : SnSeg base w vm vp vc s) :
    Calls Tryz.prog 99 #[.slice none 0 0, .agg #[.int .i64 s.task, .int .i64 s.off, .int .i64 s.mark, vm, vp, vc]] w fun e w' => ∃ v', e = .returned v' ∧ Own base w' v' (snb s) ∧ Kept base w w' := by
  obtain ⟨am, cm, hvm, _⟩ := hseg.m
  obtain ⟨ap, cp, hvp, _⟩ := hseg.p
  obtain ⟨ac, cc, hvc, _⟩ := hseg.c
  subst hvm hvp hvc
  have HS : Hid (SnSeg base w (.slice am s.marks.length cm) (.slice ap s.panes.length cp) (.slice ac s.outs.length cc) s) := hseg
  have HF : Hid (∀ o ∈ s.outs, o.fits = true) := hf
  have HU : Hid (∀ o ∈ s.outs, 0 ≤ o.f.n) := hu
  have hw1 : IntKind.u64.wrap s.task = s.task := by rw [IntKind.wrap_u64]; omega
  have hw2 : IntKind.u64.wrap s.off = s.off := by rw [IntKind.wrap_u64]; omega
  clear hseg hf hu
  have bx := BoxT.new 27 w #[.int .i64 s.task, .int .i64 s.off, .int .i64 s.mark, .slice am s.marks.length cm, .slice ap s.panes.length cp, .slice ac s.outs.length cc]
  have hk := (Kept.refl base w).alloc (.cells #[.int .i64 s.task, .int .i64 s.off, .int .i64 s.mark, .slice am s.marks.length cm, .slice ap s.panes.length cp, .slice ac s.outs.length cc] 27)
  go_enter Tryz.func99, Tryz.ntmps99
  go_wp2_with fail
  refine (writeNumber_at base _ [] _ s.task _ (by omega) (by omega) t0 (by simp) (by simp; omega) (Own.nil _ _)).mono ?_
  rintro e w1 ⟨v1, rfl, ho1, hk1⟩
  have bx := bx.kept hk1 (by decide)
  have hk := hk.trans hk1
  have hz := hk.size
  obtain ⟨c0, c1, c2, c3, c4, c5⟩ := bx.cells6
  clear hk1
  go_wp2_with fail
  refine (writeNumber_at base _ _ _ s.off _ (by omega) (by omega) o0 (by simp [be_length]) (by omega) ho1).mono ?_
  rintro e w2 ⟨v2, rfl, ho2, hk2⟩
  have bx := bx.kept hk2 (by decide)
  have hk := hk.trans hk2
  clear hk2 c0 c1 c2 c3 c4 c5 ho1 hz
  have hz := hk.size
  obtain ⟨c0, c1, c2, c3, c4, c5⟩ := bx.cells6
  go_wp2_with fail
  refine (writeSigned_any base _ _ s.mark _ (by simp [be_length]) (by omega) ho2).mono ?_
  rintro e w3 ⟨v3, rfl, ho3, hk3⟩
  have bx := bx.kept hk3 (by decide)
  have hk := hk.trans hk3
  clear hk3 c0 c1 c2 c3 c4 c5 ho2 hz
  have hz := hk.size
  obtain ⟨c0, c1, c2, c3, c4, c5⟩ := bx.cells6
  go_wp2_with fail
  refine (writeListI_any base _ _ _ s.marks w3 (by simp [be_length, sbe_len]) lm (by omega) ho3 (HS.out.kept hk hb).m).mono ?_
  rintro e w4 ⟨v4, rfl, ho4, hk4⟩
  have bx := bx.kept hk4 (by decide)
  have hk := hk.trans hk4
  clear hk4 c0 c1 c2 c3 c4 c5 ho3 hz
  have hz := hk.size
  obtain ⟨c0, c1, c2, c3, c4, c5⟩ := bx.cells6
  have hlm : (s.marks.flatMap sbe).length ≤ 8 * s.marks.length := flat_len sbe 8 (fun n => Nat.le_of_eq (sbe_len n)) _
  go_wp2_with fail
  refine (writeListP_any base _ _ _ s.panes w4 (by simp only [List.length_append, be_length, sbe_len, List.length_nil]; omega) lp (by omega) ho4 (HS.out.kept hk hb).p).mono ?_
  rintro e w5 ⟨v5, rfl, ho5, hk5⟩
  have bx := bx.kept hk5 (by decide)
  have hk := hk.trans hk5
  clear hk5 c0 c1 c2 c3 c4 c5 ho4 hz
  have hz := hk.size
  obtain ⟨c0, c1, c2, c3, c4, c5⟩ := bx.cells6
  have hlp : (s.panes.flatMap pnb).length ≤ 32 * s.panes.length := flat_len pnb 32 (fun n => Nat.le_of_eq (pnb_len n)) _
  go_wp2_with fail
  refine (writeListO_any base _ _ _ s.outs w5 (by simp only [List.length_append, be_length, sbe_len, List.length_nil]; omega) lc HF.out HU.out (by omega) ho5 (HS.out.kept hk hb).c).mono ?_
  rintro e w6 ⟨v6, rfl, ho6, hk6⟩
  have hk := hk.trans hk6
  clear hk6 c0 c1 c2 c3 c4 c5 ho5
  go_wp2
  go_ret
  exact ⟨_, rfl, by simpa [snb] using ho6, hk⟩

set_option maxHeartbeats 2000000 in
set_option maxRecDepth 100000 in
theorem Snap_any (s : Sn) (vm vp vc : Value) (w : World) (hu : ∀ o ∈ s.outs, 0 ≤ o.f.n) (hseg : SnSeg w.heap.size w vm vp vc s) :
    Calls Tryz.prog 65 #[.agg #[.int .i64 s.task, .int .i64 s.off, .int .i64 s.mark, vm, vp, vc]] w (WPost w (sEr s) (sOut s)) := by
  obtain ⟨am, cm, hvm, km, _⟩ := hseg.m
  obtain ⟨ap, cp, hvp, kp, _⟩ := hseg.p
  obtain ⟨ac, cc, hvc, kc, _⟩ := hseg.c
  subst hvm hvp hvc
  have HU : Hid (∀ o ∈ s.outs, 0 ≤ o.f.n) := hu
  have hb0 : Below w.heap.size w (w.alloc (.cells #[.int .i64 s.task, .int .i64 s.off, .int .i64 s.mark, .slice am s.marks.length cm, .slice ap s.panes.length cp, .slice ac s.outs.length cc] 27)) := (Below.refl _ _).alloc (Nat.le_refl _) _
  have bx := BoxT.new 27 w #[.int .i64 s.task, .int .i64 s.off, .int .i64 s.mark, .slice am s.marks.length cm, .slice ap s.panes.length cp, .slice ac s.outs.length cc]
  have HS : Hid (SnSeg w.heap.size (w.alloc (.cells #[.int .i64 s.task, .int .i64 s.off, .int .i64 s.mark, .slice am s.marks.length cm, .slice ap s.panes.length cp, .slice ac s.outs.length cc] 27)) (.slice am s.marks.length cm) (.slice ap s.panes.length cp) (.slice ac s.outs.length cc) s) := hseg.below hb0
  clear hseg hu
  by_cases hp : 4096 < s.panes.length
  · skip
    have hbg : s.big = true := decide_eq_true (by omega)
    have e1 : sEr s = 12 := by unfold sEr; rw [hbg]; rfl
    have e2 : sOut s = [] := by unfold sOut; rw [hbg]; rfl
    rw [e1, e2]
    clear hbg e1 e2 HU HS
    go_enter Tryz.func65, Tryz.ntmps65
    go_wp2
    go_ret2
    exact WPost.mk (Own.nil _ _) hb0
  by_cases hc : 4096 < s.outs.length
  · skip
    have hbg : s.big = true := decide_eq_true (by omega)
    have e1 : sEr s = 12 := by unfold sEr; rw [hbg]; rfl
    have e2 : sOut s = [] := by unfold sOut; rw [hbg]; rfl
    rw [e1, e2]
    clear hbg e1 e2 HU HS
    go_enter Tryz.func65, Tryz.ntmps65
    go_wp2
    go_ret2
    exact WPost.mk (Own.nil _ _) hb0
  by_cases hm : 65535 < s.marks.length
  · skip
    have hbg : s.big = true := decide_eq_true (by omega)
    have e1 : sEr s = 12 := by unfold sEr; rw [hbg]; rfl
    have e2 : sOut s = [] := by unfold sOut; rw [hbg]; rfl
    rw [e1, e2]
    clear hbg e1 e2 HU HS
    go_enter Tryz.func65, Tryz.ntmps65
    go_wp2
    go_ret2
    exact WPost.mk (Own.nil _ _) hb0
  have hbg : s.big = false := decide_eq_false (by omega)
  have e1 : sEr s = if s.form then 0 else 10 := by unfold sEr; rw [hbg]; rfl
  have e2 : sOut s = if s.form then snb s else [] := by unfold sOut; rw [hbg]; rfl
  rw [e1, e2]
  clear hbg e1 e2
  rcases (short_b s.task).out with ht | ht
  rotate_left
  · have hfm : s.form = false := by unfold Sn.form; rw [ht]; rfl
    rw [hfm]
    simp only [Bool.false_eq_true, if_false]
    clear hfm HU HS
    go_enter Tryz.func65, Tryz.ntmps65
    go_wp2_with fail
    refine (short_any s.task _).mono ?_
    rw [ht]
    rintro e w1 ⟨rfl, rfl⟩
    clear ht
    go_wp2
    go_ret2
    exact WPost.mk (Own.nil _ _) hb0
  rcases (short_b s.off).out with hf | hf
  rotate_left
  · have hfm : s.form = false := by unfold Sn.form; rw [ht, hf]; rfl
    rw [hfm]
    simp only [Bool.false_eq_true, if_false]
    clear hfm HU HS
    go_enter Tryz.func65, Tryz.ntmps65
    go_wp2_with fail
    refine (short_any s.task _).mono ?_
    rw [ht]
    rintro e w1 ⟨rfl, rfl⟩
    clear ht
    go_wp2_with fail
    refine (short_any s.off _).mono ?_
    rw [hf]
    rintro e w1 ⟨rfl, rfl⟩
    clear hf
    go_wp2
    go_ret2
    exact WPost.mk (Own.nil _ _) hb0
  have HCF := ContainsFuncO_any (.slice ac s.outs.length cc) s.outs _ (HS.out.c.mono (show w.heap.size ≤ (w.alloc (.cells #[.int .i64 s.task, .int .i64 s.off, .int .i64 s.mark, .slice am s.marks.length cm, .slice ap s.panes.length cp, .slice ac s.outs.length cc] 27)).heap.size by simp))
  rcases Bool.eq_false_or_eq_true (fitsO s.outs) with ho | ho
  rotate_left
  · have hfm : s.form = false := by unfold Sn.form; rw [ht, hf, ho]; rfl
    rw [hfm]
    simp only [Bool.false_eq_true, if_false]
    rw [ho] at HCF
    clear hfm HU HS ho
    go_enter Tryz.func65, Tryz.ntmps65
    go_wp2_with fail
    refine (short_any s.task _).mono ?_
    rw [ht]
    rintro e w1 ⟨rfl, rfl⟩
    clear ht
    go_wp2_with fail
    refine (short_any s.off _).mono ?_
    rw [hf]
    rintro e w1 ⟨rfl, rfl⟩
    clear hf
    go_wp2_with fail
    refine HCF.mono ?_
    rintro e w2 ⟨rfl, hb⟩
    have hbel := hb0.trans (hb.mono (by simp))
    clear HCF
    go_wp2
    go_ret2
    exact WPost.mk (Own.nil _ _) hbel
  have hfm : s.form = true := by unfold Sn.form; rw [ht, hf, ho]; rfl
  rw [hfm]
  simp only [if_true]
  rw [ho] at HCF
  have HFO : Hid (∀ o ∈ s.outs, o.fits = true) := fun o h => List.all_eq_true.1 ho o h
  have HT : Hid (0 ≤ s.task ∧ s.task ≤ 65535) := by
    have := of_decide_eq_true ht
    exact this
  have HO : Hid (0 ≤ s.off ∧ s.off ≤ 65535) := by
    have := of_decide_eq_true hf
    exact this
  clear hfm ho
  go_enter Tryz.func65, Tryz.ntmps65
  go_wp2_with fail
  refine (short_any s.task _).mono ?_
  rw [ht]
  rintro e w1 ⟨rfl, rfl⟩
  clear ht
  go_wp2_with fail
  refine (short_any s.off _).mono ?_
  rw [hf]
  rintro e w1 ⟨rfl, rfl⟩
  clear hf
  go_wp2_with fail
  refine HCF.mono ?_
  rintro e w2 ⟨rfl, hb⟩
  have hbel := hb0.trans (hb.mono (by simp))
  have bx := bx.kept (base := 0) (Kept.of_below hb) (by decide)
  have hs2 := HS.out.below (hb.mono (by simp))
  have HS2 : Hid (SnSeg w.heap.size w2 (.slice am s.marks.length cm) (.slice ap s.panes.length cp) (.slice ac s.outs.length cc) s) := hs2
  have hz := hbel.size
  clear HCF hb HS hs2
  obtain ⟨c0, c1, c2, c3, c4, c5⟩ := bx.cells6
  go_wp2_with fail
  refine (writeSnap_any w.heap.size s _ _ _ w2 HT.out.1 HT.out.2 HO.out.1 HO.out.2 (by omega) (by omega) (by omega) HFO.out HU.out hz HS2.out).mono ?_
  rintro e w3 ⟨v3, rfl, ho3, hk3⟩
  have hbel := hbel.trans (hk3.below hz)
  clear c0 c1 c2 c3 c4 c5
  go_wp2
  go_ret2
  exact WPost.mk ho3 hbel
end Go.Proofs.YtbfhcbihgleddaaGreatDoor
/-
  Walks over the document's writer of manifests.
-/
namespace Go.Proofs.YtbfhcbihgleddaaGreatDoor
open Go.RowKit

/-- append's law at rows of bytes, as one step of a region that draws. -/
theorem step_own {ops : Array Oper} {o : Oper} {a : Act} {w : World} {K : Act → World → Prop} {Q : Exit → Act → World → Prop} {E : Prop} (hgd : o.guard = none) (s x : Operand)
    (ho : o.op = .call { callee := .builtin .append, args := #[s, x], argTypes := #[22, 22] }) (base : Nat) (v : Value) (l : List Nat) (hs : a.eval s = v) (hown : Own base w v l)
    (ad : Addr) (c : Nat) (news : List Nat) (hx : a.eval x = .slice (some ad) news.length c) (hnews : ∀ j (h : j < news.length), w.cell? (ad.add j) = some (.int .u8 (news[j] : Nat)))
    (hl : l.length + news.length ≤ 100000000000) (hbase : base ≤ w.heap.size)
    (h : ∀ v' w', Own base w' v' (l ++ news) → Kept base w w' → K (a.put o.dst v') w') : if Region.wanted o (yielded ops a.tmps) = true then Oper.wp Tryz.prog o a w K Q else E := by
  have hw : Region.wanted o (yielded ops a.tmps) = true := by simp [Region.wanted, hgd]
  rw [if_pos hw]
  obtain ⟨i0, hi, hz0, hz1, hz2⟩ := info_parts Tryz.info5
  refine wp_append_own w s x 22 ho base 5 i0 (.int .u8 0) 1 1 Tryz.underlying22 hi hz0 hz1 hz2 rfl (by decide) v l.length (bs l) hs hown ad news.length c (bs news) hx (by simp [bs]) ?_ ?_ ?_ ?_ hbase ?_
  · intro j u hj
    have hj' : j < news.length := by have := (List.getElem?_eq_some_iff.1 hj).1; simpa [bs] using this
    rw [hnews j hj']
    have : (bs news)[j]? = some (.int .u8 (news[j] : Nat)) := by simp [bs, List.getElem?_map, List.getElem?_eq_getElem hj']
    rw [this] at hj; exact hj
  · intro u hu
    simp only [bs, List.mem_map] at hu
    obtain ⟨x, _, rfl⟩ := hu
    rfl
  · unfold maxLen; omega
  · omega
  · intro v' w' h1 h2 _
    refine h v' w' ?_ (Kept.of_grown hown h2)
    show w'.ownsRow base 5 1 v' (l ++ news).length (bs (l ++ news))
    rw [List.length_append, bs_append]; exact h1
theorem step_str {ops : Array Oper} {o : Oper} {a : Act} {w : World} {K : Act → World → Prop} {Q : Exit → Act → World → Prop} {E : Prop} (hgd : o.guard = none) (s x : Operand)
    (ho : o.op = .call { callee := .builtin .append, args := #[s, x], argTypes := #[22, 9] }) (base : Nat) (v : Value) (l : List Nat) (hs : a.eval s = v) (hown : Own base w v l)
    (st : ByteArray) (hx : a.eval x = .string st) (hl : l.length + st.size ≤ 100000000000) (hbase : base ≤ w.heap.size)
    (h : ∀ v' w', Own base w' v' (l ++ sb st) → Kept base w w' → K (a.put o.dst v') w') : if Region.wanted o (yielded ops a.tmps) = true then Oper.wp Tryz.prog o a w K Q else E := by
  have hw : Region.wanted o (yielded ops a.tmps) = true := by simp [Region.wanted, hgd]
  rw [if_pos hw]
  obtain ⟨i0, hi, hz0, hz1, hz2⟩ := info_parts Tryz.info5
  obtain ⟨v', w', hr, h2, h3, h4⟩ := Lib.run_append_own_string (P := Tryz.prog) w base 22 9 o.type 5 i0 Tryz.underlying22 Tryz.underlying9 hi hz0 hz1 hz2 v l.length (bs l) hown st (by unfold maxLen; omega) (by omega) hbase
  unfold Oper.wp
  simp [execOp, ho, resolve, invoke, builtin, hs, hx, hr, Result.andThen]
  refine h v' w' ?_ (Kept.of_grown hown h3)
  show w'.ownsRow base 5 1 v' (l ++ sb st).length (bs (l ++ sb st))
  rw [List.length_append, bs_append, sb_length, bs_sb]; exact h2

/-- The box of a manifest, and that nothing else has turned. -/
def Boxm (w0 w : World) (c : Array Value) : Prop := BoxT 110 w w0.heap.size c ∧ Kept w0.heap.size w0 w
theorem Boxm.kept {w0 w w' : World} {c : Array Value} (h : Boxm w0 w c) (hk : Kept w0.heap.size w w') : Boxm w0 w' c := ⟨h.1.kept hk (by decide), h.2.trans hk⟩
theorem Boxm.alloc {w0 w : World} {c : Array Value} (h : Boxm w0 w c) (o : Obj) : Boxm w0 (w.alloc o) c := ⟨h.1.alloc _, h.2.alloc _⟩
theorem Boxm.drew {w0 w : World} {c : Array Value} (h : Boxm w0 w c) : Boxm w0 w.drew c := ⟨h.1, h.2.drew⟩
theorem Boxm.new (w : World) (c : Array Value) : Boxm w (w.alloc (.cells c 110)) c := ⟨BoxT.new _ _ _, (Kept.refl _ _).alloc _⟩
theorem Boxm.size {w0 w : World} {c : Array Value} (h : Boxm w0 w c) : w0.heap.size ≤ w.heap.size := by have := h.1.lt; omega
theorem Boxm.reads {w0 w : World} {c0 c1 c2 : Value} (h : Boxm w0 w #[c0, c1, c2]) :
    (w.cell? ⟨w0.heap.size, 0, none⟩ = some c0 ∧ w.cell? ⟨w0.heap.size, 1, none⟩ = some c1 ∧ w.cell? ⟨w0.heap.size, 2, none⟩ = some c2) ∧ Boxm w0 w #[c0, c1, c2] := ⟨h.1.cells3, h⟩
theorem Boxm.elem {w0 w : World} {c0 c1 c2 : Value} {b j : Nat} {u : Value} (hb : b < w0.heap.size) (hc : w0.cell? ⟨b, j, none⟩ = some u) (h : Boxm w0 w #[c0, c1, c2]) :
    (w.cell? ⟨w0.heap.size, 2, none⟩ = some c2 ∧ w.cell? ⟨b, j, none⟩ = some u) ∧ Boxm w0 w #[c0, c1, c2] :=
  ⟨⟨h.1.cells3.2.2, (World.cell?_of_block (h.2.block b hb (.inl hb))).trans hc⟩, h⟩

end Go.Proofs.YtbfhcbihgleddaaGreatDoor
/-
  Walks over package codec's readers of manifests.
-/
namespace Go.Proofs.YtbfhcbihgleddaaGreatDoor
open Go.RowKit

def strOf (l : List Nat) : ByteArray := ⟨(l.map UInt8.ofNat).toArray⟩
theorem strOf_sb (s : ByteArray) : strOf (sb s) = s := by
  unfold strOf sb
  rw [List.map_map]
  have : (UInt8.ofNat ∘ fun b : UInt8 => b.toNat) = id := by funext b; simp
  rw [this, List.map_id]
theorem strOf_nums (l : List Nat) : strOfNums (l.map fun x : Nat => (x : Int)) = strOf l := by
  unfold strOfNums strOf
  rw [List.map_map]; rfl
theorem seg_convert {w : World} {v : Value} {l : List Nat} (h : Seg w v l) : (convert 22 9 v).run Tryz.prog w = .ok (.string (strOf l)) w := by
  obtain ⟨ao, cap, rfl, h1, h2, h3, h4⟩ := h
  rcases ao with _ | ad
  · have hm : l = [] := by
      rcases h4 with h4 | ⟨b, off, h5, _⟩
      · exact h4
      · cases h5
    subst hm
    exact run_convert_bytes_nil w 22 5 Tryz.underlying22 Tryz.underlying5 0 cap 9 Tryz.underlying9
  · by_cases h0 : l = []
    · subst h0
      have hl : (loadCells ad 0).run Tryz.prog w = .ok (([] : List Int).map (Value.int .u8)).toArray w := by
        have := run_loadCells_list (P := Tryz.prog) w ad [] (fun j v hj => by simp at hj)
        simpa using this
      have := run_bytesToString (P := Tryz.prog) w ad 0 cap [] hl
      show (convert 22 9 (.slice (some ad) 0 cap)).run Tryz.prog w = _
      rw [run_convert_bytes_string w 22 9 5 _ 0 cap Tryz.underlying22 Tryz.underlying5 Tryz.underlying9, this]
      rfl
    · rcases h4 with h4 | ⟨b, off, h5, _, h6⟩
      · exact absurd h4 h0
      · cases h5
        have := run_convert_bytes_arg (P := Tryz.prog) w 22 5 Tryz.underlying22 Tryz.underlying5 b off l.length cap (l.map fun x : Nat => (x : Int)) (by simp) (fun i hi => by
          rw [h6 i _ (List.getElem?_eq_getElem hi)]
          simp [List.getD, List.getElem?_eq_getElem hi]) 9 Tryz.underlying9
        rw [strOf_nums] at this
        exact this

def takeS (k : Nat) (s : List Nat × Bool) : List Nat × (List Nat × Bool) := if k ≤ s.1.length then (s.1.take k, (s.1.drop k, s.2)) else ([], (s.1, true))
theorem take_any {R : Nat} {w : World} {s : List Nat × Bool} {k : Nat} (h : RdS R w s) :
    Calls Tryz.prog 111 #[.pointer (some ⟨R, 0, none⟩), .int .i64 k] w fun e w' => ∃ v', e = .returned v' ∧ Seg w' v' (takeS k s).1 ∧ RdS R w' (takeS k s).2 ∧ w.grownBy w' (some R) := by
  have hR := h.lt
  unfold takeS
  by_cases hk : k ≤ s.1.length
  · rw [if_pos hk]
    refine (take_yes R w s.1 s.2 k h.1 hk).mono ?_
    rintro e w' ⟨v', rfl, hs, hr, hg⟩
    have := hg.size
    exact ⟨v', rfl, hs.seg (by omega), ⟨hr, h.2.drop _⟩, hg⟩
  · rw [if_neg hk]
    refine (take_no R w s.1 s.2 k h.1 (by omega)).mono ?_
    rintro e w' ⟨rfl, hr, hg⟩
    exact ⟨_, rfl, Seg.nil _, ⟨hr, h.2⟩, hg⟩

def rName (s : List Nat × Bool) : ByteArray × (List Nat × Bool) :=
  (strOf (takeS (num 1 s).1 (if 32 < (num 1 s).1 then ((num 1 s).2.1, true) else (num 1 s).2)).1, (takeS (num 1 s).1 (if 32 < (num 1 s).1 then ((num 1 s).2.1, true) else (num 1 s).2)).2)

set_option maxHeartbeats 1000000 in
set_option maxRecDepth 100000 in
theorem readName_any {R : Nat} {w : World} {s : List Nat × Bool} (h : RdS R w s) :
    Calls Tryz.prog 144 #[.pointer (some ⟨R, 0, none⟩)] w fun e w' => e = .returned (.string (rName s).1) ∧ RdS R w' (rName s).2 ∧ w.grownBy w' (some R) := by
  have hR := h.lt
  have hb0 := num_lt (k := 1) h.2
  have n0 := number_any (sz := 1) h (by omega) (by omega)
  rw [show (1 : Int).toNat = 1 from rfl] at n0
  unfold rName
  generalize num 1 s = p0 at *
  obtain ⟨k, s0⟩ := p0
  simp only at *
  have hk : k < 256 := hb0
  have hw : wrap64 (k : Int) = k := by unfold wrap64; omega
  have N0 := n0
  clear n0 hb0
  by_cases h32 : 32 < k
  · rw [if_pos h32]
    generalize hp : takeS k (s0.1, true) = p1
    have HP : Hid (takeS k (s0.1, true) = p1) := hp
    clear hp
    go_enter Tryz.func144, Tryz.ntmps144
    go_wp2_with fail
    refine N0.mono ?_
    rintro e w1 ⟨rfl, hr, hg⟩
    clear N0
    obtain ⟨ao, cap, r0, r1, rf⟩ := hr.cells
    have hrb := hr.bad
    have hg := grownBy_trans hg (grownBy_set w1 R 1 (.bool true))
    clear hr
    go_wp2_with fail
    refine (take_any hrb).mono ?_
    rw [HP.out]
    rintro e w2 ⟨v2, rfl, hs2, hr2, hg2⟩
    have hg := grownBy_trans hg hg2
    have hcv := seg_convert hs2
    clear hg2 hs2 hrb
    go_wp2
    go_ret
    exact ⟨rfl, hr2, hg⟩
  · rw [if_neg h32]
    generalize hp : takeS k s0 = p1
    have HP : Hid (takeS k s0 = p1) := hp
    clear hp
    go_enter Tryz.func144, Tryz.ntmps144
    go_wp2_with fail
    refine N0.mono ?_
    rintro e w1 ⟨rfl, hr, hg⟩
    clear N0
    go_wp2_with fail
    refine (take_any hr).mono ?_
    rw [HP.out]
    rintro e w2 ⟨v2, rfl, hs2, hr2, hg2⟩
    have hg := grownBy_trans hg hg2
    have hcv := seg_convert hs2
    clear hg2 hs2 hr
    go_wp2
    go_ret
    exact ⟨rfl, hr2, hg⟩

/-- What readList reads: so many as it was told, till something is wrong. -/
def rListS : Nat → (List Nat × Bool) → List ByteArray × (List Nat × Bool)
  | 0, s => ([], s)
  | n + 1, s => if s.2 then ([], s) else ((rName s).1 :: (rListS n (rName s).2).1, (rListS n (rName s).2).2)
/-- v is a slice of just the strings ss, at the head of a row of strings that lies from block base on. -/
def OwnS (base : Nat) (w : World) (v : Value) (ss : List ByteArray) : Prop := w.ownsRow base 9 1 v ss.length (ss.map Value.string)
theorem OwnS.nil (base : Nat) (w : World) : OwnS base w (.slice none 0 0) [] := World.ownsRow_nil _ _ _ _
theorem OwnS.grown {base R : Nat} {w w' : World} {v : Value} {ss : List ByteArray} (h : OwnS base w v ss) (hg : w.grownBy w' (some R)) (hR : R < base) : OwnS base w' v ss := by
  refine ⟨h.1, ?_⟩
  rcases h.2 with h | ⟨g, cap, cur, h1, h2, h3, h4⟩
  · exact .inl h
  · exact .inr ⟨g, cap, cur, h1, h2, by rw [hg.block g (Array.getElem?_eq_some_iff.1 h3).1 (by simp; omega)]; exact h3, h4⟩
theorem OwnS.sseg {base B : Nat} {w : World} {v : Value} {ss : List ByteArray} (h : OwnS base w v ss) (hl : ss.length ≤ 140737488355328) (hB : w.heap.size ≤ B) : SSeg B w v ss := by
  rcases h.2 with ⟨rfl, h0⟩ | ⟨g, cap, cur, rfl, h2, h3, h4, h5, _⟩
  · have : ss = [] := List.length_eq_zero_iff.1 h0
    subst this
    exact ⟨none, 0, rfl, by simp, .inl rfl⟩
  · refine ⟨_, cap, rfl, hl, .inr ⟨g, 0, rfl, by have := (Array.getElem?_eq_some_iff.1 h3).1; omega, fun i s hs => ?_⟩⟩
    obtain ⟨hi, rfl⟩ := List.getElem?_eq_some_iff.1 hs
    rw [Nat.zero_add, World.ownsRow.cellAt h i (by omega)]
    simp [List.getElem?_eq_getElem hi]
theorem OwnS.shape {base : Nat} {w : World} {v : Value} {ss : List ByteArray} (h : OwnS base w v ss) : ∃ ao cap, v = .slice ao ss.length cap := by
  rcases h.2 with ⟨rfl, h0⟩ | ⟨g, cap, cur, rfl, _⟩
  · exact ⟨none, 0, by rw [h0]⟩
  · exact ⟨_, cap, rfl⟩
theorem Tryz.info9 : (Tryz.prog.info? 9).map (fun i => (i.zero, i.size, i.bytes)) = some (some (.string ByteArray.empty), 1, 16) := by kernel_rfl

/-- append's law at rows of strings. -/
theorem app_ownS {w : World} {ops : Array Oper} {rest : List Oper} {o : Oper} {a : Act} {Q : Exit → Act → World → Prop} (hgd : o.guard = none) (s x : Operand)
    (ho : o.op = .call { callee := .builtin .append, args := #[s, x], argTypes := #[69, 69] }) (base : Nat) (v : Value) (ss : List ByteArray) (hs : a.eval s = v) (hown : OwnS base w v ss)
    (ad : Addr) (c : Nat) (st : ByteArray) (hx : a.eval x = .slice (some ad) 1 c) (hnews : w.cell? (ad.add 0) = some (.string st)) (hl : ss.length ≤ 1000000) (hbase : base ≤ w.heap.size)
    (h : ∀ v' w', OwnS base w' v' (ss ++ [st]) → w.grownBy w' v.ownBlock → wpList Tryz.prog ops Q rest (a.put o.dst v') w') : wpList Tryz.prog ops Q (o :: rest) a w := by
  obtain ⟨i0, hi, hz0, hz1, hz2⟩ := info_parts Tryz.info9
  refine wpList_append_own w hgd s x 69 ho base 9 i0 (.string ByteArray.empty) 1 16 Tryz.underlying69 hi hz0 hz1 hz2 rfl (by decide) v ss.length (ss.map Value.string) hs hown ad 1 c [.string st] hx rfl ?_ ?_ ?_ ?_ hbase ?_
  · intro j u hj
    match j, hj with
    | 0, hj => simp at hj; subst hj; exact hnews
  · intro u hu; simp at hu; subst hu; rfl
  · unfold maxLen; omega
  · omega
  · intro v' w' h1 h2 _
    refine h v' w' ?_ h2
    show w'.ownsRow base 9 1 v' (ss ++ [st]).length ((ss ++ [st]).map Value.string)
    rw [List.length_append, List.map_append]; exact h1
theorem RdS.own {R base : Nat} {w w' : World} {s : List Nat × Bool} {v : Value} {ss : List ByteArray} (h : RdS R w s) (ho : OwnS base w v ss) (hg : w.grownBy w' v.ownBlock) (hR : R < base) : RdS R w' s :=
  h.keep fun i hi => hg.block i (by have := h.lt; omega) (fun e => by have := (World.ownsRow.lt ho i e.symm).1; omega)
theorem grown_own {R base : Nat} {w0 w w' : World} {v : Value} {ss : List ByteArray} (h : w0.grownBy w (some R)) (ho : OwnS base w v ss) (hg : w.grownBy w' v.ownBlock) (hb : w0.heap.size ≤ base) : w0.grownBy w' (some R) :=
  ⟨hg.os.trans h.os, hg.tape.trans h.tape, hg.output.trans h.output, Nat.le_trans h.size hg.size, fun k hk hne => (hg.block k (Nat.lt_of_lt_of_le hk h.size) (fun e => by have := (World.ownsRow.lt ho k e.symm).1; omega)).trans (h.block k hk hne)⟩
theorem rListS_bad (n : Nat) (l : List Nat) : rListS n (l, true) = ([], (l, true)) := by cases n <;> rfl

set_option maxHeartbeats 2000000 in
set_option maxRecDepth 100000 in
theorem readListS_any {R : Nat} {w : World} {s : List Nat × Bool} (h : RdS R w s) :
    Calls Tryz.prog 143 #[.pointer (some ⟨R, 0, none⟩), .int .i64 65535, .func (.func 144) #[] #[]] w fun e w' => ∃ v, e = .returned v ∧ OwnS w.heap.size w' v (rListS (num 2 s).1 (num 2 s).2).1 ∧ RdS R w' (rListS (num 2 s).1 (num 2 s).2).2 ∧ w.grownBy w' (some R) := by
  have hR := h.lt
  have hb0 := num_lt (k := 2) h.2
  have n0 := number_any (sz := 2) h (by omega) (by omega)
  rw [show (2 : Int).toNat = 2 from rfl] at n0
  generalize num 2 s = p0 at *
  obtain ⟨n, s0⟩ := p0
  simp only at *
  have hn : n < 65536 := hb0
  have hw : wrap64 (n : Int) = n := by unfold wrap64; omega
  have N0 := n0
  clear n0 hb0
  generalize hrl : rListS n s0 = rl
  have HRL : Hid (rListS n s0 = rl) := hrl
  clear hrl
  go_enter Tryz.func143, Tryz.ntmps143
  go_wp2_with fail
  refine N0.mono ?_
  rintro e w1 ⟨rfl, hr, hg⟩
  clear N0
  have HR1 : Hid (RdS R w1 s0) := hr
  clear hr
  go_wp2
  go_loopw [8, 9] (fun v i wr => ∃ (k : Nat) (sk : List Nat × Bool) (acc : List ByteArray), k ≤ n ∧ i = .int .i64 k ∧ Hid (acc.length = k) ∧ Hid (RdS R wr sk) ∧ Hid (OwnS w.heap.size wr v acc) ∧ Hid (w.grownBy wr (some R)) ∧ Hid (rl = (acc ++ (rListS (n - k) sk).1, (rListS (n - k) sk).2))) (fun _ i _ => n - (intOf i).toNat)
  case atStart => exact ⟨0, s0, [], Nat.zero_le _, rfl, rfl, HR1, OwnS.nil _ _, hg, by show rl = _; rw [← HRL.out]; rfl⟩
  case round =>
    obtain ⟨k, ⟨lk, bad⟩, acc, hk, rfl, HL, HRk, HO, HG, HE⟩ := hrel
    obtain ⟨ao, cap, r0, r1, rf⟩ := HRk.out.cells
    simp only at r0 r1
    clear r0
    by_cases hlt : k < n
    · cases bad
      · go_wp2_with fail
        refine (readName_any HRk.out).mono ?_
        rintro e w2 ⟨rfl, hr2, hg2⟩
        have ho2 := HO.out.grown hg2 hR
        have hG2 := grownBy_trans HG.out hg2
        have hz2 := hG2.size
        have hR2 := hr2.alloc (.cells #[.string (rName (lk, false)).1] 9)
        have hO2 : OwnS w.heap.size (w2.alloc (.cells #[.string (rName (lk, false)).1] 9)) _ acc := World.ownsRow.alloc ho2 _
        have hG3 := grown_alloc hG2 (.cells #[.string (rName (lk, false)).1] 9)
        have hla : acc.length ≤ 1000000 := by have := HL.out; omega
        have HR2 : Hid (RdS R (w2.alloc (.cells #[.string (rName (lk, false)).1] 9)) (rName (lk, false)).2) := hR2
        have HO2 : Hid (OwnS w.heap.size (w2.alloc (.cells #[.string (rName (lk, false)).1] 9)) _ acc) := hO2
        have HG3 : Hid (w.grownBy (w2.alloc (.cells #[.string (rName (lk, false)).1] 9)) (some R)) := hG3
        clear hr2 hg2 ho2 hG2 hR2 hO2 hG3
        go_wp2_with (first | (at_builtin; refine app_ownS rfl _ _ rfl w.heap.size _ acc rfl HO2.out ⟨w2.heap.size, 0, none⟩ 1 (rName (lk, false)).1 rfl (by simp [Addr.add]) hla (by simp; omega) ?_) | fail)
        intro v3 w3 ho3 hg3
        have HO3 : Hid (OwnS w.heap.size w3 v3 (acc ++ [(rName (lk, false)).1])) := ho3
        have HR3 : Hid (RdS R w3 (rName (lk, false)).2) := HR2.out.own HO2.out hg3 hR
        have HG4 : Hid (w.grownBy w3 (some R)) := grown_own HG3.out HO2.out hg3 (Nat.le_refl _)
        clear ho3 hg3 r1 rf
        go_wp2
        go_roundw
        case rel =>
          refine ⟨k + 1, (rName (lk, false)).2, acc ++ [(rName (lk, false)).1], by omega, by go_num, ?_, HR3, HO3, HG4, ?_⟩
          · show _ = _; rw [List.length_append, HL.out]; rfl
          · show rl = _
            rw [HE.out, show n - k = (n - (k + 1)) + 1 from by omega]
            simp [rListS]
        case measure => simp [intOf]; omega
      · go_wp2
        go_ret
        refine ⟨_, rfl, ?_, ?_, HG.out⟩
        · rw [HE.out, rListS_bad]; simpa using HO.out
        · rw [HE.out, rListS_bad]; exact HRk.out
    · go_wp2
      go_ret
      refine ⟨_, rfl, ?_, ?_, HG.out⟩
      · rw [HE.out, show n - k = 0 from by omega]; simpa [rListS] using HO.out
      · rw [HE.out, show n - k = 0 from by omega]; exact HRk.out
end Go.Proofs.YtbfhcbihgleddaaGreatDoor
