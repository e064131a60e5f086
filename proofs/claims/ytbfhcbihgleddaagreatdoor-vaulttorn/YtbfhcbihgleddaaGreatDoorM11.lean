/-
  Texts of the vault, in build order: Snap, RefMan.
-/
import Derived.Test.YtbfhcbihgleddaaGreatDoorM10
import Derived.Test.YtbfhcbihgleddaaGreatDoorM09
import Derived.Deep.RegionHeld3
/-
  Walks over package codec's writers of parts of snapshots: the whole.
-/
namespace Go.Proofs.YtbfhcbihgleddaaGreatDoor
open Go.RowKit

theorem short_b (n : Int) : Hid (decide (0 ≤ n ∧ n ≤ 65535) = true ∨ decide (0 ≤ n ∧ n ≤ 65535) = false) := (Bool.eq_false_or_eq_true _)
set_option maxHeartbeats 1000000 in
set_option maxRecDepth 100000 in
theorem unfitOut_any (ch kd ke ti va ma n : Int) (ov : Bool) (w : World) :
    Calls Tryz.prog 98 #[.agg #[.int .i64 ch, .int .i64 kd, .int .i64 ke, .int .i64 ti, .int .i64 va, .int .i64 ma, .int .u64 n, .bool ov]] w fun e w' => e = .returned (.bool (!(decide (0 ≤ ch ∧ ch ≤ 65535) && fits kd ke ti va ma n ov))) ∧ Below w.heap.size w w' := by
  have hb0 : Below w.heap.size w (w.alloc (.cells #[.int .i64 ch, .int .i64 kd, .int .i64 ke, .int .i64 ti, .int .i64 va, .int .i64 ma, .int .u64 n, .bool ov] 151)) := (Below.refl _ _).alloc (Nat.le_refl _) _
  rcases (short_b ch).out with hs | hs
  · rw [hs, Bool.true_and]
    go_enter Tryz.func98, Tryz.ntmps98
    go_wp2_with fail
    refine (short_any ch _).mono ?_
    rw [hs]
    rintro e w1 ⟨rfl, rfl⟩
    clear hs
    go_wp2_with fail
    refine (frameFits_any kd ke ti va ma n ov _).mono ?_
    rintro e w2 ⟨rfl, hb⟩
    have hbel := hb0.trans (hb.mono (by simp))
    go_wp2
    go_ret
    exact ⟨ret_bool (by cases fits kd ke ti va ma n ov <;> rfl), hbel⟩
  · rw [hs, Bool.false_and]
    go_enter Tryz.func98, Tryz.ntmps98
    go_wp2_with fail
    refine (short_any ch _).mono ?_
    rw [hs]
    rintro e w1 ⟨rfl, rfl⟩
    clear hs
    go_wp2
    go_ret
    exact ⟨rfl, hb0⟩

def fitsO (xs : List Ot) : Bool := xs.all Ot.fits
theorem fitsO_succ (xs : List Ot) (k : Nat) (x : Ot) (h : xs[k]? = some x) : fitsO (xs.take (k + 1)) = (fitsO (xs.take k) && x.fits) := by
  unfold fitsO
  rw [List.take_add_one, h, List.all_append]; simp

set_option maxHeartbeats 2000000 in
set_option maxRecDepth 100000 in
theorem IndexFuncO_any (vs : Value) (xs : List Ot) (w : World) (hseg : LSeg 8 Ot.cs w.heap.size w vs xs) :
    Calls Tryz.prog 124 #[vs, .func (.func 98) #[] #[]] w fun e w' => ∃ i : Int, e = .returned (.int .i64 i) ∧ (decide (0 ≤ i) = !fitsO xs) ∧ Below w.heap.size w w' := by
  obtain ⟨ao, cap, rfl, h2, h4⟩ := hseg
  by_cases h0 : xs = []
  · subst h0
    clear h4
    simp only [List.length_nil] at *
    go_enter Tryz.func124, Tryz.ntmps124
    go_wp2
    refine wp_loop_rounds 1 ?_
    rw [rounds_succ]
    go_wp2
    go_ret
    exact ⟨_, rfl, by decide, Below.refl _ _⟩
  rcases h4 with h4 | ⟨b, off, rfl, hbB, hcell⟩
  · exact absurd h4 h0
  have HC : Hid (∀ (i : Nat) (x : Ot), xs[i]? = some x → ∀ (j : Nat) (u : Value), (Ot.cs x)[j]? = some u → w.cell? ⟨b, off + i * 8 + j, none⟩ = some u) := hcell
  clear hcell h0
  generalize hnn : xs.length = n at *
  have HN : Hid (xs.length = n) := hnn
  clear hnn
  go_enter Tryz.func124, Tryz.ntmps124
  go_wp2
  go_loopw [8] (fun i wr => ∃ k : Nat, k ≤ n ∧ i = .int .i64 k ∧ Hid (fitsO (xs.take k) = true) ∧ Below w.heap.size w wr) (fun i _ => n - (intOf i).toNat)
  case atStart => exact ⟨0, Nat.zero_le _, rfl, rfl, Below.refl _ _⟩
  case round =>
    obtain ⟨k, hk, rfl, HF, hbel⟩ := hrel
    by_cases hlt : k < n
    · obtain ⟨x, hx⟩ : ∃ x : Ot, xs[k]? = some x := ⟨_, List.getElem?_eq_getElem (by have := HN.out; omega)⟩
      have hcw : ∀ (j : Nat) (u : Value), (Ot.cs x)[j]? = some u → wr.cell? ⟨b, off + k * 8 + j, none⟩ = some u := fun j u hu => (hbel.cell (p := ⟨b, off + k * 8 + j, none⟩) hbB).trans (HC.out k x hx j u hu)
      have hc0 : wr.cell? ⟨b, off + k * 8, none⟩ = some (.int .i64 x.ch) := hcw 0 _ rfl
      have hc1 : wr.cell? ⟨b, off + k * 8 + 1, none⟩ = some (.int .i64 x.f.kd) := hcw 1 _ rfl
      have hc2 : wr.cell? ⟨b, off + k * 8 + 2, none⟩ = some (.int .i64 x.f.ke) := hcw 2 _ rfl
      have hc3 : wr.cell? ⟨b, off + k * 8 + 3, none⟩ = some (.int .i64 x.f.ti) := hcw 3 _ rfl
      have hc4 : wr.cell? ⟨b, off + k * 8 + 4, none⟩ = some (.int .i64 x.f.va) := hcw 4 _ rfl
      have hc5 : wr.cell? ⟨b, off + k * 8 + 5, none⟩ = some (.int .i64 x.f.ma) := hcw 5 _ rfl
      have hc6 : wr.cell? ⟨b, off + k * 8 + 6, none⟩ = some (.int .u64 x.f.n) := hcw 6 _ rfl
      have hc7 : wr.cell? ⟨b, off + k * 8 + 7, none⟩ = some (.bool x.f.ov) := hcw 7 _ rfl
      have HX : Hid (xs[k]? = some x) := hx
      have hu := unfitOut_any x.ch x.f.kd x.f.ke x.f.ti x.f.va x.f.ma x.f.n x.f.ov wr
      have hz := hbel.size
      rcases Bool.eq_false_or_eq_true x.fits with hxf | hxf
      · have hxf' : (decide (0 ≤ x.ch ∧ x.ch ≤ 65535) && fits x.f.kd x.f.ke x.f.ti x.f.va x.f.ma x.f.n x.f.ov) = true := hxf
        rw [hxf'] at hu
        have HXF : Hid (x.fits = true) := hxf
        clear hx hcw hxf hxf'
        go_wp2_with fail
        refine hu.mono ?_
        rintro e w3 ⟨rfl, hb3⟩
        have hbel := hbel.trans (hb3.mono hz)
        clear hu hb3
        go_wp2
        go_roundw
        case rel => exact ⟨k + 1, by omega, by go_num, by
          show fitsO _ = true
          rw [fitsO_succ xs k x HX.out, HF.out, HXF.out]; rfl, hbel⟩
        case measure => simp [intOf]; omega
      · have hxf' : (decide (0 ≤ x.ch ∧ x.ch ≤ 65535) && fits x.f.kd x.f.ke x.f.ti x.f.va x.f.ma x.f.n x.f.ov) = false := hxf
        rw [hxf'] at hu
        have HXF : Hid (x.fits = false) := hxf
        clear hx hcw hxf hxf'
        go_wp2_with fail
        refine hu.mono ?_
        rintro e w3 ⟨rfl, hb3⟩
        have hbel := hbel.trans (hb3.mono hz)
        clear hu hb3
        go_wp2
        go_ret
        refine ⟨_, rfl, ?_, hbel⟩
        have hf : fitsO xs = false := by
          unfold fitsO
          rw [List.all_eq_false]
          exact ⟨x, List.mem_of_getElem? HX.out, by rw [HXF.out]; decide⟩
        rw [hf]; simp
    · go_wp2
      go_ret
      refine ⟨_, rfl, ?_, hbel⟩
      have := HF.out
      rw [List.take_of_length_le (by have := HN.out; omega)] at this
      rw [this]; decide

set_option maxHeartbeats 1000000 in
set_option maxRecDepth 100000 in
theorem ContainsFuncO_any (vs : Value) (xs : List Ot) (w : World) (hseg : LSeg 8 Ot.cs w.heap.size w vs xs) :
    Calls Tryz.prog 97 #[vs, .func (.func 98) #[] #[]] w fun e w' => e = .returned (.bool (!fitsO xs)) ∧ Below w.heap.size w w' := by
  have HI := IndexFuncO_any vs xs w hseg
  clear hseg
  go_enter Tryz.func97, Tryz.ntmps97
  go_wp2_with fail
  refine HI.mono ?_
  rintro e w1 ⟨i, rfl, hi, hb⟩
  have HH : Hid (decide (0 ≤ i) = !fitsO xs) := hi
  clear hi HI
  go_wp2
  go_ret
  exact ⟨ret_bool HH.out, hb⟩

/-- A part of a snapshot. -/
structure Sn where
  task : Int
  off : Int
  mark : Int
  marks : List Int
  panes : List Pn
  outs : List Ot
def snb (s : Sn) : List Nat := be 2 s.task.toNat ++ (be 2 s.off.toNat ++ (sbe s.mark ++ ((be 2 s.marks.length ++ s.marks.flatMap sbe) ++ ((be 2 s.panes.length ++ s.panes.flatMap pnb) ++ (be 2 s.outs.length ++ s.outs.flatMap otb)))))
def Sn.big (s : Sn) : Bool := decide (4096 < s.panes.length ∨ 4096 < s.outs.length ∨ 65535 < s.marks.length)
def Sn.form (s : Sn) : Bool := decide (0 ≤ s.task ∧ s.task ≤ 65535) && (decide (0 ≤ s.off ∧ s.off ≤ 65535) && fitsO s.outs)
def sEr (s : Sn) : Int := if s.big then 12 else if s.form then 0 else 10
def sOut (s : Sn) : List Nat := if s.big then [] else if s.form then snb s else []
/-- The three lists of a part, as they lie. -/
structure SnSeg (B : Nat) (w : World) (vm vp vc : Value) (s : Sn) : Prop where
  m : LSeg 1 ics B w vm s.marks
  p : LSeg 4 Pn.cs B w vp s.panes
  c : LSeg 8 Ot.cs B w vc s.outs
theorem SnSeg.kept {B : Nat} {w w' : World} {vm vp vc : Value} {s : Sn} (h : SnSeg B w vm vp vc s) (hk : Kept B w w') (hB : B ≤ w.heap.size) : SnSeg B w' vm vp vc s := ⟨h.m.kept hk hB, h.p.kept hk hB, h.c.kept hk hB⟩
theorem SnSeg.below {B : Nat} {w w' : World} {vm vp vc : Value} {s : Sn} (h : SnSeg B w vm vp vc s) (hb : Below B w w') : SnSeg B w' vm vp vc s := ⟨h.m.below hb, h.p.below hb, h.c.below hb⟩
theorem SnSeg.mono {B B' : Nat} {w : World} {vm vp vc : Value} {s : Sn} (h : SnSeg B w vm vp vc s) (hB : B ≤ B') : SnSeg B' w vm vp vc s := ⟨h.m.mono hB, h.p.mono hB, h.c.mono hB⟩
theorem BoxT.cells6 {t : TypeId} {w : World} {k : Nat} {c0 c1 c2 c3 c4 c5 : Value} (h : BoxT t w k #[c0, c1, c2, c3, c4, c5]) :
    w.cell? ⟨k, 0, none⟩ = some c0 ∧ w.cell? ⟨k, 1, none⟩ = some c1 ∧ w.cell? ⟨k, 2, none⟩ = some c2 ∧ w.cell? ⟨k, 3, none⟩ = some c3 ∧ w.cell? ⟨k, 4, none⟩ = some c4 ∧ w.cell? ⟨k, 5, none⟩ = some c5 := by
  unfold BoxT at h
  simp [World.cell?, h]

set_option maxHeartbeats 2000000 in
set_option maxRecDepth 100000 in
theorem writeSnap_any (base : Nat) (s : Sn) (vm vp vc : Value) (w : World) (t0 : 0 ≤ s.task) (t1 : s.task ≤ 65535) (o0 : 0 ≤ s.off) (o1 : s.off ≤ 65535) (lm : s.marks.length ≤ 65535) (lp : s.panes.length ≤ 65535) (lc : s.outs.length ≤ 65535) (hf : ∀ o ∈ s.outs, o.fits = true) (hu : ∀ o ∈ s.outs, 0 ≤ o.f.n) (hb : base ≤ w.heap.size) (hseg : SnSeg base w vm vp vc s) :
    Calls Tryz.prog 99 #[.slice none 0 0, .agg #[.int .i64 s.task, .int .i64 s.off, .int .i64 s.mark, vm, vp, vc]] w fun e w' => ∃ v', e = .returned v' ∧ Own base w' v' (snb s) ∧ Kept base w w' := by
  obtain ⟨am, cm, hvm, _⟩ := hseg.m
  obtain ⟨ap, cp, hvp, _⟩ := hseg.p
  obtain ⟨ac, cc, hvc, _⟩ := hseg.c
  subst hvm hvp hvc
  have HS : Hid (SnSeg base w (.slice am s.marks.length cm) (.slice ap s.panes.length cp) (.slice ac s.outs.length cc) s) := hseg
  have HF : Hid (∀ o ∈ s.outs, o.fits = true) := hf
  have HU : Hid (∀ o ∈ s.outs, 0 ≤ o.f.n) := hu
  have hw1 : IntKind.u64.wrap s.task = s.task := by rw [IntKind.wrap_u64]; omega
  have hw2 : IntKind.u64.wrap s.off = s.off := by rw [IntKind.wrap_u64]; omega
  clear hseg hf hu
  have bx := BoxT.new 27 w #[.int .i64 s.task, .int .i64 s.off, .int .i64 s.mark, .slice am s.marks.length cm, .slice ap s.panes.length cp, .slice ac s.outs.length cc]
  have hk := (Kept.refl base w).alloc (.cells #[.int .i64 s.task, .int .i64 s.off, .int .i64 s.mark, .slice am s.marks.length cm, .slice ap s.panes.length cp, .slice ac s.outs.length cc] 27)
  go_enter Tryz.func99, Tryz.ntmps99
  go_wp2_with fail
  refine (writeNumber_at base _ [] _ s.task _ (by omega) (by omega) t0 (by simp) (by simp; omega) (Own.nil _ _)).mono ?_
  rintro e w1 ⟨v1, rfl, ho1, hk1⟩
  have bx := bx.kept hk1 (by decide)
  have hk := hk.trans hk1
  have hz := hk.size
  obtain ⟨c0, c1, c2, c3, c4, c5⟩ := bx.cells6
  clear hk1
  go_wp2_with fail
  refine (writeNumber_at base _ _ _ s.off _ (by omega) (by omega) o0 (by simp [be_length]) (by omega) ho1).mono ?_
  rintro e w2 ⟨v2, rfl, ho2, hk2⟩
  have bx := bx.kept hk2 (by decide)
  have hk := hk.trans hk2
  clear hk2 c0 c1 c2 c3 c4 c5 ho1 hz
  have hz := hk.size
  obtain ⟨c0, c1, c2, c3, c4, c5⟩ := bx.cells6
  go_wp2_with fail
  refine (writeSigned_any base _ _ s.mark _ (by simp [be_length]) (by omega) ho2).mono ?_
  rintro e w3 ⟨v3, rfl, ho3, hk3⟩
  have bx := bx.kept hk3 (by decide)
  have hk := hk.trans hk3
  clear hk3 c0 c1 c2 c3 c4 c5 ho2 hz
  have hz := hk.size
  obtain ⟨c0, c1, c2, c3, c4, c5⟩ := bx.cells6
  go_wp2_with fail
  refine (writeListI_any base _ _ _ s.marks w3 (by simp [be_length, sbe_len]) lm (by omega) ho3 (HS.out.kept hk hb).m).mono ?_
  rintro e w4 ⟨v4, rfl, ho4, hk4⟩
  have bx := bx.kept hk4 (by decide)
  have hk := hk.trans hk4
  clear hk4 c0 c1 c2 c3 c4 c5 ho3 hz
  have hz := hk.size
  obtain ⟨c0, c1, c2, c3, c4, c5⟩ := bx.cells6
  have hlm : (s.marks.flatMap sbe).length ≤ 8 * s.marks.length := flat_len sbe 8 (fun n => Nat.le_of_eq (sbe_len n)) _
  go_wp2_with fail
  refine (writeListP_any base _ _ _ s.panes w4 (by simp only [List.length_append, be_length, sbe_len, List.length_nil]; omega) lp (by omega) ho4 (HS.out.kept hk hb).p).mono ?_
  rintro e w5 ⟨v5, rfl, ho5, hk5⟩
  have bx := bx.kept hk5 (by decide)
  have hk := hk.trans hk5
  clear hk5 c0 c1 c2 c3 c4 c5 ho4 hz
  have hz := hk.size
  obtain ⟨c0, c1, c2, c3, c4, c5⟩ := bx.cells6
  have hlp : (s.panes.flatMap pnb).length ≤ 32 * s.panes.length := flat_len pnb 32 (fun n => Nat.le_of_eq (pnb_len n)) _
  go_wp2_with fail
  refine (writeListO_any base _ _ _ s.outs w5 (by simp only [List.length_append, be_length, sbe_len, List.length_nil]; omega) lc HF.out HU.out (by omega) ho5 (HS.out.kept hk hb).c).mono ?_
  rintro e w6 ⟨v6, rfl, ho6, hk6⟩
  have hk := hk.trans hk6
  clear hk6 c0 c1 c2 c3 c4 c5 ho5
  go_wp2
  go_ret
  exact ⟨_, rfl, by simpa [snb] using ho6, hk⟩

set_option maxHeartbeats 2000000 in
set_option maxRecDepth 100000 in
theorem Snap_any (s : Sn) (vm vp vc : Value) (w : World) (hu : ∀ o ∈ s.outs, 0 ≤ o.f.n) (hseg : SnSeg w.heap.size w vm vp vc s) :
    Calls Tryz.prog 65 #[.agg #[.int .i64 s.task, .int .i64 s.off, .int .i64 s.mark, vm, vp, vc]] w (WPost w (sEr s) (sOut s)) := by
  obtain ⟨am, cm, hvm, km, _⟩ := hseg.m
  obtain ⟨ap, cp, hvp, kp, _⟩ := hseg.p
  obtain ⟨ac, cc, hvc, kc, _⟩ := hseg.c
  subst hvm hvp hvc
  have HU : Hid (∀ o ∈ s.outs, 0 ≤ o.f.n) := hu
  have hb0 : Below w.heap.size w (w.alloc (.cells #[.int .i64 s.task, .int .i64 s.off, .int .i64 s.mark, .slice am s.marks.length cm, .slice ap s.panes.length cp, .slice ac s.outs.length cc] 27)) := (Below.refl _ _).alloc (Nat.le_refl _) _
  have bx := BoxT.new 27 w #[.int .i64 s.task, .int .i64 s.off, .int .i64 s.mark, .slice am s.marks.length cm, .slice ap s.panes.length cp, .slice ac s.outs.length cc]
  have HS : Hid (SnSeg w.heap.size (w.alloc (.cells #[.int .i64 s.task, .int .i64 s.off, .int .i64 s.mark, .slice am s.marks.length cm, .slice ap s.panes.length cp, .slice ac s.outs.length cc] 27)) (.slice am s.marks.length cm) (.slice ap s.panes.length cp) (.slice ac s.outs.length cc) s) := hseg.below hb0
  clear hseg hu
  by_cases hp : 4096 < s.panes.length
  · skip
    have hbg : s.big = true := decide_eq_true (by omega)
    have e1 : sEr s = 12 := by unfold sEr; rw [hbg]; rfl
    have e2 : sOut s = [] := by unfold sOut; rw [hbg]; rfl
    rw [e1, e2]
    clear hbg e1 e2 HU HS
    go_enter Tryz.func65, Tryz.ntmps65
    go_wp2
    go_ret2
    exact WPost.mk (Own.nil _ _) hb0
  by_cases hc : 4096 < s.outs.length
  · skip
    have hbg : s.big = true := decide_eq_true (by omega)
    have e1 : sEr s = 12 := by unfold sEr; rw [hbg]; rfl
    have e2 : sOut s = [] := by unfold sOut; rw [hbg]; rfl
    rw [e1, e2]
    clear hbg e1 e2 HU HS
    go_enter Tryz.func65, Tryz.ntmps65
    go_wp2
    go_ret2
    exact WPost.mk (Own.nil _ _) hb0
  by_cases hm : 65535 < s.marks.length
  · skip
    have hbg : s.big = true := decide_eq_true (by omega)
    have e1 : sEr s = 12 := by unfold sEr; rw [hbg]; rfl
    have e2 : sOut s = [] := by unfold sOut; rw [hbg]; rfl
    rw [e1, e2]
    clear hbg e1 e2 HU HS
    go_enter Tryz.func65, Tryz.ntmps65
    go_wp2
    go_ret2
    exact WPost.mk (Own.nil _ _) hb0
  have hbg : s.big = false := decide_eq_false (by omega)
  have e1 : sEr s = if s.form then 0 else 10 := by unfold sEr; rw [hbg]; rfl
  have e2 : sOut s = if s.form then snb s else [] := by unfold sOut; rw [hbg]; rfl
  rw [e1, e2]
  clear hbg e1 e2
  rcases (short_b s.task).out with ht | ht
  rotate_left
  · have hfm : s.form = false := by unfold Sn.form; rw [ht]; rfl
    rw [hfm]
    simp only [Bool.false_eq_true, if_false]
    clear hfm HU HS
    go_enter Tryz.func65, Tryz.ntmps65
    go_wp2_with fail
    refine (short_any s.task _).mono ?_
    rw [ht]
    rintro e w1 ⟨rfl, rfl⟩
    clear ht
    go_wp2
    go_ret2
    exact WPost.mk (Own.nil _ _) hb0
  rcases (short_b s.off).out with hf | hf
  rotate_left
  · have hfm : s.form = false := by unfold Sn.form; rw [ht, hf]; rfl
    rw [hfm]
    simp only [Bool.false_eq_true, if_false]
    clear hfm HU HS
    go_enter Tryz.func65, Tryz.ntmps65
    go_wp2_with fail
    refine (short_any s.task _).mono ?_
    rw [ht]
    rintro e w1 ⟨rfl, rfl⟩
    clear ht
    go_wp2_with fail
    refine (short_any s.off _).mono ?_
    rw [hf]
    rintro e w1 ⟨rfl, rfl⟩
    clear hf
    go_wp2
    go_ret2
    exact WPost.mk (Own.nil _ _) hb0
  have HCF := ContainsFuncO_any (.slice ac s.outs.length cc) s.outs _ (HS.out.c.mono (show w.heap.size ≤ (w.alloc (.cells #[.int .i64 s.task, .int .i64 s.off, .int .i64 s.mark, .slice am s.marks.length cm, .slice ap s.panes.length cp, .slice ac s.outs.length cc] 27)).heap.size by simp))
  rcases Bool.eq_false_or_eq_true (fitsO s.outs) with ho | ho
  rotate_left
  · have hfm : s.form = false := by unfold Sn.form; rw [ht, hf, ho]; rfl
    rw [hfm]
    simp only [Bool.false_eq_true, if_false]
    rw [ho] at HCF
    clear hfm HU HS ho
    go_enter Tryz.func65, Tryz.ntmps65
    go_wp2_with fail
    refine (short_any s.task _).mono ?_
    rw [ht]
    rintro e w1 ⟨rfl, rfl⟩
    clear ht
    go_wp2_with fail
    refine (short_any s.off _).mono ?_
    rw [hf]
    rintro e w1 ⟨rfl, rfl⟩
    clear hf
    go_wp2_with fail
    refine HCF.mono ?_
    rintro e w2 ⟨rfl, hb⟩
    have hbel := hb0.trans (hb.mono (by simp))
    clear HCF
    go_wp2
    go_ret2
    exact WPost.mk (Own.nil _ _) hbel
  have hfm : s.form = true := by unfold Sn.form; rw [ht, hf, ho]; rfl
  rw [hfm]
  simp only [if_true]
  rw [ho] at HCF
  have HFO : Hid (∀ o ∈ s.outs, o.fits = true) := fun o h => List.all_eq_true.1 ho o h
  have HT : Hid (0 ≤ s.task ∧ s.task ≤ 65535) := by
    have := of_decide_eq_true ht
    exact this
  have HO : Hid (0 ≤ s.off ∧ s.off ≤ 65535) := by
    have := of_decide_eq_true hf
    exact this
  clear hfm ho
  go_enter Tryz.func65, Tryz.ntmps65
  go_wp2_with fail
  refine (short_any s.task _).mono ?_
  rw [ht]
  rintro e w1 ⟨rfl, rfl⟩
  clear ht
  go_wp2_with fail
  refine (short_any s.off _).mono ?_
  rw [hf]
  rintro e w1 ⟨rfl, rfl⟩
  clear hf
  go_wp2_with fail
  refine HCF.mono ?_
  rintro e w2 ⟨rfl, hb⟩
  have hbel := hb0.trans (hb.mono (by simp))
  have bx := bx.kept (base := 0) (Kept.of_below hb) (by decide)
  have hs2 := HS.out.below (hb.mono (by simp))
  have HS2 : Hid (SnSeg w.heap.size w2 (.slice am s.marks.length cm) (.slice ap s.panes.length cp) (.slice ac s.outs.length cc) s) := hs2
  have hz := hbel.size
  clear HCF hb HS hs2
  obtain ⟨c0, c1, c2, c3, c4, c5⟩ := bx.cells6
  go_wp2_with fail
  refine (writeSnap_any w.heap.size s _ _ _ w2 HT.out.1 HT.out.2 HO.out.1 HO.out.2 (by omega) (by omega) (by omega) HFO.out HU.out hz HS2.out).mono ?_
  rintro e w3 ⟨v3, rfl, ho3, hk3⟩
  have hbel := hbel.trans (hk3.below hz)
  clear c0 c1 c2 c3 c4 c5
  go_wp2
  go_ret2
  exact WPost.mk ho3 hbel
end Go.Proofs.YtbfhcbihgleddaaGreatDoor
/-
  Walks over the document's writer of manifests.
-/
namespace Go.Proofs.YtbfhcbihgleddaaGreatDoor
open Go.RowKit

/-- append's law at rows of bytes, as one step of a region that draws. -/
theorem step_own {ops : Array Oper} {o : Oper} {a : Act} {w : World} {K : Act → World → Prop} {Q : Exit → Act → World → Prop} {E : Prop} (hgd : o.guard = none) (s x : Operand)
    (ho : o.op = .call { callee := .builtin .append, args := #[s, x], argTypes := #[22, 22] }) (base : Nat) (v : Value) (l : List Nat) (hs : a.eval s = v) (hown : Own base w v l)
    (ad : Addr) (c : Nat) (news : List Nat) (hx : a.eval x = .slice (some ad) news.length c) (hnews : ∀ j (h : j < news.length), w.cell? (ad.add j) = some (.int .u8 (news[j] : Nat)))
    (hl : l.length + news.length ≤ 100000000000) (hbase : base ≤ w.heap.size)
    (h : ∀ v' w', Own base w' v' (l ++ news) → Kept base w w' → K (a.put o.dst v') w') : if Region.wanted o (yielded ops a.tmps) = true then Oper.wp Tryz.prog o a w K Q else E := by
  have hw : Region.wanted o (yielded ops a.tmps) = true := by simp [Region.wanted, hgd]
  rw [if_pos hw]
  obtain ⟨i0, hi, hz0, hz1, hz2⟩ := info_parts Tryz.info5
  refine wp_append_own w s x 22 ho base 5 i0 (.int .u8 0) 1 1 Tryz.underlying22 hi hz0 hz1 hz2 rfl (by decide) v l.length (bs l) hs hown ad news.length c (bs news) hx (by simp [bs]) ?_ ?_ ?_ ?_ hbase ?_
  · intro j u hj
    have hj' : j < news.length := by have := (List.getElem?_eq_some_iff.1 hj).1; simpa [bs] using this
    rw [hnews j hj']
    have : (bs news)[j]? = some (.int .u8 (news[j] : Nat)) := by simp [bs, List.getElem?_map, List.getElem?_eq_getElem hj']
    rw [this] at hj; exact hj
  · intro u hu
    simp only [bs, List.mem_map] at hu
    obtain ⟨x, _, rfl⟩ := hu
    rfl
  · unfold maxLen; omega
  · omega
  · intro v' w' h1 h2 _
    refine h v' w' ?_ (Kept.of_grown hown h2)
    show w'.ownsRow base 5 1 v' (l ++ news).length (bs (l ++ news))
    rw [List.length_append, bs_append]; exact h1
theorem step_str {ops : Array Oper} {o : Oper} {a : Act} {w : World} {K : Act → World → Prop} {Q : Exit → Act → World → Prop} {E : Prop} (hgd : o.guard = none) (s x : Operand)
    (ho : o.op = .call { callee := .builtin .append, args := #[s, x], argTypes := #[22, 9] }) (base : Nat) (v : Value) (l : List Nat) (hs : a.eval s = v) (hown : Own base w v l)
    (st : ByteArray) (hx : a.eval x = .string st) (hl : l.length + st.size ≤ 100000000000) (hbase : base ≤ w.heap.size)
    (h : ∀ v' w', Own base w' v' (l ++ sb st) → Kept base w w' → K (a.put o.dst v') w') : if Region.wanted o (yielded ops a.tmps) = true then Oper.wp Tryz.prog o a w K Q else E := by
  have hw : Region.wanted o (yielded ops a.tmps) = true := by simp [Region.wanted, hgd]
  rw [if_pos hw]
  obtain ⟨i0, hi, hz0, hz1, hz2⟩ := info_parts Tryz.info5
  obtain ⟨v', w', hr, h2, h3, h4⟩ := Lib.run_append_own_string (P := Tryz.prog) w base 22 9 o.type 5 i0 Tryz.underlying22 Tryz.underlying9 hi hz0 hz1 hz2 v l.length (bs l) hown st (by unfold maxLen; omega) (by omega) hbase
  unfold Oper.wp
  simp [execOp, ho, resolve, invoke, builtin, hs, hx, hr, Result.andThen]
  refine h v' w' ?_ (Kept.of_grown hown h3)
  show w'.ownsRow base 5 1 v' (l ++ sb st).length (bs (l ++ sb st))
  rw [List.length_append, bs_append, sb_length, bs_sb]; exact h2

/-- The box of a manifest, and that nothing else has turned. -/
def Boxm (w0 w : World) (c : Array Value) : Prop := BoxT 110 w w0.heap.size c ∧ Kept w0.heap.size w0 w
theorem Boxm.kept {w0 w w' : World} {c : Array Value} (h : Boxm w0 w c) (hk : Kept w0.heap.size w w') : Boxm w0 w' c := ⟨h.1.kept hk (by decide), h.2.trans hk⟩
theorem Boxm.alloc {w0 w : World} {c : Array Value} (h : Boxm w0 w c) (o : Obj) : Boxm w0 (w.alloc o) c := ⟨h.1.alloc _, h.2.alloc _⟩
theorem Boxm.drew {w0 w : World} {c : Array Value} (h : Boxm w0 w c) : Boxm w0 w.drew c := ⟨h.1, h.2.drew⟩
theorem Boxm.new (w : World) (c : Array Value) : Boxm w (w.alloc (.cells c 110)) c := ⟨BoxT.new _ _ _, (Kept.refl _ _).alloc _⟩
theorem Boxm.size {w0 w : World} {c : Array Value} (h : Boxm w0 w c) : w0.heap.size ≤ w.heap.size := by have := h.1.lt; omega
theorem Boxm.reads {w0 w : World} {c0 c1 c2 : Value} (h : Boxm w0 w #[c0, c1, c2]) :
    (w.cell? ⟨w0.heap.size, 0, none⟩ = some c0 ∧ w.cell? ⟨w0.heap.size, 1, none⟩ = some c1 ∧ w.cell? ⟨w0.heap.size, 2, none⟩ = some c2) ∧ Boxm w0 w #[c0, c1, c2] := ⟨h.1.cells3, h⟩
theorem Boxm.elem {w0 w : World} {c0 c1 c2 : Value} {b j : Nat} {u : Value} (hb : b < w0.heap.size) (hc : w0.cell? ⟨b, j, none⟩ = some u) (h : Boxm w0 w #[c0, c1, c2]) :
    (w.cell? ⟨w0.heap.size, 2, none⟩ = some c2 ∧ w.cell? ⟨b, j, none⟩ = some u) ∧ Boxm w0 w #[c0, c1, c2] :=
  ⟨⟨h.1.cells3.2.2, (World.cell?_of_block (h.2.block b hb (.inl hb))).trans hc⟩, h⟩

end Go.Proofs.YtbfhcbihgleddaaGreatDoor
