/-
  Texts in build order: SNext.
-/
import Derived.Test.YtdoldohcimbdaaaGreatM17
/-
  Next: the least watermark that a pane waits for.
-/
namespace Go.Proofs.YtdoldohcimbdaaaGreat
open Go.RowKit

def lastP (x : Pn) : Int := wrap64 (x.t - 1)
def nextP (M : List Pn) : Int := M.foldl (fun a x => min a (lastP x)) 9223372036854775807
theorem next_perm {M N : List Pn} (h : M.Perm N) : nextP M = nextP N := by
  have : ∀ {l m : List Pn}, l.Perm m → ∀ u : Int, l.foldl (fun a x => min a (lastP x)) u = m.foldl (fun a x => min a (lastP x)) u := by
    intro l m h
    induction h with
    | nil => intro u; rfl
    | cons x _ ih => intro u; exact ih _
    | swap x y l => intro u; simp only [List.foldl_cons]; rw [show min (min u (lastP y)) (lastP x) = min (min u (lastP x)) (lastP y) by omega]
    | trans _ _ ih1 ih2 => intro u; rw [ih1, ih2]
  exact this h _
/-- What Next has under way. -/
structure NxI (w wr : World) (m : Nat) (M d rs : List Pn) : Prop where
  rg : RangeAt Tryz.prog 89 wr m w.heap.size (M.map pEnt) (rs.map pEnt)
  all : (d ++ rs).Perm M
  bel : Below w.heap.size w wr
set_option maxHeartbeats 4000000 in
set_option maxRecDepth 100000 in
theorem Next_any {w : World} {s : Nat} {kd size slide ag : Int} {fp : Nat → Prop} {M : List Pn} (h : SA w s kd size slide ag fp M) :
    Calls Tryz.prog 24 #[.pointer (some ⟨s, 0, none⟩)] w fun e w' => e = .returned (.tuple #[.int .i64 (if M = [] then 0 else nextP M), .bool (decide (M ≠ []))]) ∧ Below w.heap.size w w' := by
  obtain ⟨m, o, fq, R, h, _⟩ := h
  obtain ⟨_, _, _, _, c4, _⟩ := h.cells
  have hm := hide h.mp
  clear h
  by_cases hM : M = []
  · rw [if_pos hM, decide_eq_false (by simpa using hM)]
    subst hM
    go_enter Tryz.func24, Tryz.ntmps24
    go_wp2_with (first | (at_len; refine wp_lenM _ rfl _ 72 rfl 2 Tryz.underlying72 rfl hm.out ?_) | fail)
    exact bodyPost_ret (v := .tuple #[.int .i64 0, .bool false]) (by simp [results, Tryz.results24, go_sem]) rfl ⟨rfl, Below.refl _ _⟩
  · rw [if_neg hM, decide_eq_true (by simpa using hM)]
    have hl : ¬ ((M.map pEnt).length : Int) = 0 := by rw [List.length_map]; have : M.length ≠ 0 := fun e => hM (List.length_eq_zero_iff.1 e); omega
    have hl2 : ¬ (M.length : Int) = 0 := by rw [List.length_map] at hl; exact hl
    have hl3 : ((M.length : Int) == 0) = false := by simpa using hl2
    clear hl
    have HNP : Hid (∀ d : List Pn, d.Perm M → d.foldl (fun a x => min a (lastP x)) 9223372036854775807 = nextP M) := fun d hd => next_perm hd
    generalize hNM : nextP M = NM at *
    clear hNM
    go_enter Tryz.func24, Tryz.ntmps24
    go_wp2_with (first | (at_len; refine wp_lenM _ rfl _ 72 rfl 2 Tryz.underlying72 rfl hm.out ?_) | (at_range; refine wp_rangeM _ rfl _ 72 rfl 2 Tryz.underlying72 rfl hm.out ?_; intro w0 hrg0 hg0 hs0) | fail)
    try go_frame
    have H0 : Hid (NxI w w0 m M [] M) := ⟨hrg0, .refl _, (Below.refl _ _).grown hg0 (Nat.le_refl _) (fun k e => by cases e)⟩
    clear hrg0 hg0 hs0 hm c4 hl2 hM
    go_loopg [4, 5, 17] (M.length + 1) (fun gh lv _ _ wr => ∃ d rs, rs.length + 1 ≤ gh ∧ lv = .int .i64 (d.foldl (fun a x => min a (lastP x)) 9223372036854775807) ∧ Hid (NxI w wr m M d rs))
    case atStart => exact ⟨[], M, Nat.le_refl _, rfl, H0⟩
    case round =>
      obtain ⟨d, rs, hgh, rfl, HI⟩ := hrel
      obtain ⟨go, rfl⟩ : ∃ go, gk = go + 1 := ⟨gk - 1, by omega⟩
      have hrg := hide HI.out.rg
      have HAL := hide HI.out.all
      have HF : Hid (∀ x : Pn, (d ++ [x]).foldl (fun a x => min a (lastP x)) 9223372036854775807 = min (d.foldl (fun a x => min a (lastP x)) 9223372036854775807) (lastP x)) := fun x => (by rw [List.foldl_append]; rfl)
      have HD : Hid (rs = [] → d.foldl (fun a x => min a (lastP x)) 9223372036854775807 = NM) := fun e => HNP.out d (by have := HAL.out; rw [e, List.append_nil] at this; exact this)
      generalize d.foldl (fun a x => min a (lastP x)) 9223372036854775807 = C at *
      go_wp2_with (first | (at_next; refine wp_nextM pEnt _ rfl _ rfl rfl hrg.out ?_ ?_) | fail)
      · intro hl0
        have e := HD.out hl0
        subst e
        go_wp2_with fail
        exact bodyPost_ret (v := .tuple #[.int .i64 C, .bool true]) (by simp [results, Tryz.results24, go_sem]) rfl ⟨rfl, HI.out.bel⟩
      · intro x rs' w1 hp hr1 hg1 hs1 hen
        have hl2 := hp.length_eq
        simp only [List.length_cons] at hl2
        have HB1 : Hid (Below w.heap.size w w1) := HI.out.bel.grown hg1 HI.out.bel.size (fun k e => by cases e; exact Nat.le_refl _)
        have HR1 := hide hr1
        have HPS := hide (perm_snoc HAL.out hp)
        have HFX := hide (HF.out x)
        clear hp hr1 hg1 hrg hs1
        obtain ⟨xk, xf, xt, xa⟩ := x
        simp only [pEnt, plV] at hen
        unfold pEnt plV
        simp only
        have HB2 := hide (below_box w1 (.cells #[.int .i64 xk, .int .i64 xf, .int .i64 xt] 89))
        have HLA := hide (last_any (w1.alloc (.cells #[.int .i64 xk, .int .i64 xf, .int .i64 xt] 89)) xf xt)
        have HLP : Hid (lastP ⟨xk, xf, xt, xa⟩ = wrap64 (xt - 1)) := (show _ = _ from rfl)
        rw [HLP.out] at HFX
        generalize wrap64 (xt - 1) = Y at *
        go_wp2_with (first | (go_at_call 37; refine HLA.out.mono ?_; rintro e w2 ⟨rfl, b2⟩; have B2 := hide (HB2.out.trans (b2.mono HB2.out.size)); clear b2) | fail)
        all_goals
          go_roundg go
          case rel => exact ⟨d ++ [⟨xk, xf, xt, xa⟩], rs', by omega, by rw [HFX.out], ⟨HR1.out.back (B2.out.block _ HR1.out.mapAt.lt) (B2.out.block _ HR1.out.lt), HPS.out, HB1.out.trans (B2.out.mono HB1.out.size)⟩⟩
          case measure => omega
end Go.Proofs.YtdoldohcimbdaaaGreat
