/-
  Texts in build order: ACalls, AFace, ARef.
-/
import Derived.Test.YtpcbhcdpegbfjaaGreatM00
import Derived.Laws.EntriesVeiled
/-
 The calls of package agg, and the document's.
-/
namespace Go.Proofs.YtpcbhcdpegbfjaaGreat
set_option maxHeartbeats 16000000
set_option maxRecDepth 100000
open Go.RowKit
theorem below_box (w : World) (o : Obj) : Below w.heap.size w (w.alloc o) := (Below.refl _ _).alloc (Nat.le_refl _) _
theorem runF19 (args : Array Value) (W : World) : (callFunc 126 args).run Tryz.prog W = .ok (.enter 126 args) W := by kernel_rfl
theorem runF20 (args : Array Value) (W : World) : (callFunc 127 args).run Tryz.prog W = .ok (.enter 127 args) W := by kernel_rfl
theorem runF21 (args : Array Value) (W : World) : (callFunc 128 args).run Tryz.prog W = .ok (.enter 128 args) W := by kernel_rfl
theorem runF22 (args : Array Value) (W : World) : (callFunc 129 args).run Tryz.prog W = .ok (.enter 129 args) W := by kernel_rfl
theorem runF23 (args : Array Value) (W : World) : (callFunc 130 args).run Tryz.prog W = .ok (.enter 130 args) W := by kernel_rfl
theorem runF24 (args : Array Value) (W : World) : (callFunc 131 args).run Tryz.prog W = .ok (.enter 131 args) W := by kernel_rfl
theorem runF25 (args : Array Value) (W : World) : (callFunc 132 args).run Tryz.prog W = .ok (.enter 132 args) W := by kernel_rfl
theorem itself_any (w : World) (x : Int) : Calls Tryz.prog 126 #[.int .i64 x] w fun e w' => e = .returned (.int .i64 x) ∧ w' = w := by
 go_enter Tryz.func126, Tryz.ntmps126
 go_wp2_with fail
 go_ret
 exact ⟨rfl, rfl⟩
theorem once_any (w : World) (x : Int) : Calls Tryz.prog 128 #[.int .i64 x] w fun e w' => e = .returned (.int .i64 1) ∧ w' = w := by
 go_enter Tryz.func128, Tryz.ntmps128
 go_wp2_with fail
 go_ret
 exact ⟨rfl, rfl⟩
theorem sum_any (w : World) (x y : Int) : Calls Tryz.prog 127 #[.int .i64 x, .int .i64 y] w fun e w' => e = .returned (.int .i64 (wrap64 (x + y))) ∧ w' = w := by
 go_enter Tryz.func127, Tryz.ntmps127
 go_wp2_with fail
 go_ret
 exact ⟨rfl, rfl⟩
theorem lesser_any (w : World) (x y : Int) : Calls Tryz.prog 129 #[.int .i64 x, .int .i64 y] w fun e w' => e = .returned (.int .i64 (if y < x then y else x)) ∧ w' = w := by
 go_enter Tryz.func129, Tryz.ntmps129
 go_wp2_with fail
 all_goals (go_ret; exact ⟨rfl, rfl⟩)
theorem greater_any (w : World) (x y : Int) : Calls Tryz.prog 130 #[.int .i64 x, .int .i64 y] w fun e w' => e = .returned (.int .i64 (if y > x then y else x)) ∧ w' = w := by
 go_enter Tryz.func130, Tryz.ntmps130
 go_wp2_with fail
 all_goals (go_ret; exact ⟨rfl, rfl⟩)
theorem unlike_any (w : World) (x y : Int) : Calls Tryz.prog 131 #[.int .i64 x, .int .i64 y] w fun e w' => e = .returned (.int .i64 (xr x y)) ∧ w' = w := by
 go_enter Tryz.func131, Tryz.ntmps131
 go_wp2_with fail
 go_ret
 exact ⟨rfl, rfl⟩
theorem nothing_any (w : World) (x y : Int) : Calls Tryz.prog 132 #[.int .i64 x, .int .i64 y] w fun e w' => e = .returned (.int .i64 0) ∧ w' = w := by
 go_enter Tryz.func132, Tryz.ntmps132
 go_wp2_with fail
 go_ret
 exact ⟨rfl, rfl⟩
def oneF (a : Int) : Nat := if a = 2 then 128 else 126
def joinF (a : Int) : Nat := if a = 1 then 127 else if a = 2 then 127 else if a = 3 then 129 else if a = 4 then 130 else if a = 5 then 131 else 132
def mon (a : Int) : Value := .agg #[.int .i64 (zr a), .func (.func (oneF a)) #[] #[], .func (.func (joinF a)) #[] #[]]
theorem oneF_run (a : Int) (args : Array Value) (W : World) : (callFunc (oneF a) args).run Tryz.prog W = .ok (.enter (oneF a) args) W := by
 unfold oneF; split
 ·exact runF21 _ _
 ·exact runF19 _ _
theorem joinF_run (a : Int) (args : Array Value) (W : World) : (callFunc (joinF a) args).run Tryz.prog W = .ok (.enter (joinF a) args) W := by
 unfold joinF
 split
 ·exact runF20 _ _
 split
 ·exact runF20 _ _
 split
 ·exact runF22 _ _
 split
 ·exact runF23 _ _
 split
 ·exact runF24 _ _
 ·exact runF25 _ _
theorem one_any (w : World) (a v : Int) : Calls Tryz.prog (oneF a) #[.int .i64 v] w fun e w' => e = .returned (.int .i64 (if a = 2 then 1 else v)) ∧ w' = w := by
 unfold oneF; split
 ·exact once_any w v
 ·exact itself_any w v
theorem join_any (w : World) (a x y : Int) : Calls Tryz.prog (joinF a) #[.int .i64 x, .int .i64 y] w fun e w' => e = .returned (.int .i64 (jn a x y)) ∧ w' = w := by
 unfold joinF jn
 split
 ·exact sum_any w x y
 split
 ·exact sum_any w x y
 split
 ·exact lesser_any w x y
 split
 ·exact greater_any w x y
 split
 ·exact unlike_any w x y
 ·exact nothing_any w x y
theorem find_any (w : World) (a : Int) : Calls Tryz.prog 117 #[.int .i64 a] w fun e w' => e = .returned (.tuple #[mon a, .bool (decide (1 ≤ a ∧ a ≤ 5))]) ∧ Below w.heap.size w w' := by
 by_cases h1 : a = 1
 ·subst h1
  have HE : Hid (Ending.returned (.tuple #[.agg #[.int .i64 (0), .func (.func 126) #[] #[], .func (.func 127) #[] #[]], .bool true]) = Ending.returned (.tuple #[mon 1, .bool (decide ((1 : Int) ≤ 1 ∧ (1 : Int) ≤ 5))])) := (show _ = _ by rfl)
  generalize mon 1 = M at *
  generalize decide ((1 : Int) ≤ 1 ∧ (1 : Int) ≤ 5) = d at *
  go_enter Tryz.func117, Tryz.ntmps117
  go_wp2_with fail
  exact bodyPost_ret (v := .tuple #[.agg #[.int .i64 (0), .func (.func 126) #[] #[], .func (.func 127) #[] #[]], .bool true]) (by simp [results, Tryz.results117, go_sem]; try rfl) rfl ⟨HE.out, below_box w _⟩
 by_cases h2 : a = 2
 ·subst h2
  have HE : Hid (Ending.returned (.tuple #[.agg #[.int .i64 (0), .func (.func 128) #[] #[], .func (.func 127) #[] #[]], .bool true]) = Ending.returned (.tuple #[mon 2, .bool (decide ((1 : Int) ≤ 2 ∧ (2 : Int) ≤ 5))])) := (show _ = _ by rfl)
  generalize mon 2 = M at *
  generalize decide ((1 : Int) ≤ 2 ∧ (2 : Int) ≤ 5) = d at *
  go_enter Tryz.func117, Tryz.ntmps117
  go_wp2_with fail
  exact bodyPost_ret (v := .tuple #[.agg #[.int .i64 (0), .func (.func 128) #[] #[], .func (.func 127) #[] #[]], .bool true]) (by simp [results, Tryz.results117, go_sem]; try rfl) rfl ⟨HE.out, below_box w _⟩
 by_cases h3 : a = 3
 ·subst h3
  have HE : Hid (Ending.returned (.tuple #[.agg #[.int .i64 (9223372036854775807), .func (.func 126) #[] #[], .func (.func 129) #[] #[]], .bool true]) = Ending.returned (.tuple #[mon 3, .bool (decide ((1 : Int) ≤ 3 ∧ (3 : Int) ≤ 5))])) := (show _ = _ by rfl)
  generalize mon 3 = M at *
  generalize decide ((1 : Int) ≤ 3 ∧ (3 : Int) ≤ 5) = d at *
  go_enter Tryz.func117, Tryz.ntmps117
  go_wp2_with fail
  exact bodyPost_ret (v := .tuple #[.agg #[.int .i64 (9223372036854775807), .func (.func 126) #[] #[], .func (.func 129) #[] #[]], .bool true]) (by simp [results, Tryz.results117, go_sem]; try rfl) rfl ⟨HE.out, below_box w _⟩
 by_cases h4 : a = 4
 ·subst h4
  have HE : Hid (Ending.returned (.tuple #[.agg #[.int .i64 (-9223372036854775808), .func (.func 126) #[] #[], .func (.func 130) #[] #[]], .bool true]) = Ending.returned (.tuple #[mon 4, .bool (decide ((1 : Int) ≤ 4 ∧ (4 : Int) ≤ 5))])) := (show _ = _ by rfl)
  generalize mon 4 = M at *
  generalize decide ((1 : Int) ≤ 4 ∧ (4 : Int) ≤ 5) = d at *
  go_enter Tryz.func117, Tryz.ntmps117
  go_wp2_with fail
  exact bodyPost_ret (v := .tuple #[.agg #[.int .i64 (-9223372036854775808), .func (.func 126) #[] #[], .func (.func 130) #[] #[]], .bool true]) (by simp [results, Tryz.results117, go_sem]; try rfl) rfl ⟨HE.out, below_box w _⟩
 by_cases h5 : a = 5
 ·subst h5
  have HE : Hid (Ending.returned (.tuple #[.agg #[.int .i64 (0), .func (.func 126) #[] #[], .func (.func 131) #[] #[]], .bool true]) = Ending.returned (.tuple #[mon 5, .bool (decide ((1 : Int) ≤ 5 ∧ (5 : Int) ≤ 5))])) := (show _ = _ by rfl)
  generalize mon 5 = M at *
  generalize decide ((1 : Int) ≤ 5 ∧ (5 : Int) ≤ 5) = d at *
  go_enter Tryz.func117, Tryz.ntmps117
  go_wp2_with fail
  exact bodyPost_ret (v := .tuple #[.agg #[.int .i64 (0), .func (.func 126) #[] #[], .func (.func 131) #[] #[]], .bool true]) (by simp [results, Tryz.results117, go_sem]; try rfl) rfl ⟨HE.out, below_box w _⟩
 ·have HE : Hid (Ending.returned (.tuple #[.agg #[.int .i64 0, .func (.func 126) #[] #[], .func (.func 132) #[] #[]], .bool false]) = Ending.returned (.tuple #[mon a, .bool (decide (1 ≤ a ∧ a ≤ 5))])) := (show _ = _ by
   rw [show decide (1 ≤ a ∧ a ≤ 5) = false from decide_eq_false (by omega)]
   simp [mon, zr, oneF, joinF, h1, h2, h3, h4, h5])
  generalize mon a = M at *
  generalize decide (1 ≤ a ∧ a ≤ 5) = d at *
  go_enter Tryz.func117, Tryz.ntmps117
  go_wp2_with fail
  exact bodyPost_ret (v := .tuple #[.agg #[.int .i64 (0), .func (.func 126) #[] #[], .func (.func 132) #[] #[]], .bool false]) (by simp [results, Tryz.results117, go_sem]; try rfl) rfl ⟨HE.out, below_box w _⟩
end Go.Proofs.YtpcbhcdpegbfjaaGreat
/-
 The face of package agg, and the document's.
-/
namespace Go.Proofs.YtpcbhcdpegbfjaaGreat
set_option maxHeartbeats 16000000
set_option maxRecDepth 100000
open Go.RowKit
theorem Zero_any (w : World) (a : Int) : Calls Tryz.prog 109 #[.int .i64 a] w fun e w' => e = .returned (.int .i64 (zr a)) ∧ Below w.heap.size w w' := by
 have HF := hide (find_any w a)
 unfold mon at HF
 generalize decide (1 ≤ a ∧ a ≤ 5) = d at *
 generalize zr a = z at *
 generalize oneF a = f at *
 generalize joinF a = g at *
 go_enter Tryz.func109, Tryz.ntmps109
 go_wp2_with (refine HF.out.mono ?_; rintro e w1 ⟨rfl, b1⟩)
 go_ret
 exact ⟨rfl, b1.trans ((below_box w1 _).mono b1.size)⟩
theorem add_any (w : World) (a x v : Int) : Calls Tryz.prog 118 #[mon a, .int .i64 x, .int .i64 v] w fun e w' => e = .returned (.int .i64 (ad a x v)) ∧ Below w.heap.size w w' := by
 have H1 := hide (fun w => one_any w a v)
 have H2 := hide (fun w => join_any w a x (if a = 2 then 1 else v))
 have hf := oneF_run a
 have hg := joinF_run a
 unfold mon ad
 generalize (if a = 2 then 1 else v) = y at *
 generalize jn a x y = r at *
 generalize zr a = z at *
 generalize oneF a = f at *
 generalize joinF a = g at *
 go_enter Tryz.func118, Tryz.ntmps118
 go_wp2_with fail
 go_quiet (first | (exact Calls.quiet_of_same (H1.out _)) | (exact Calls.quiet_of_same (H2.out _)))
 go_wp2_with fail
 go_ret
 exact ⟨rfl, below_drewN (below_box w _) _⟩
theorem Add_any (w : World) (a x v : Int) : Calls Tryz.prog 108 #[.int .i64 a, .int .i64 x, .int .i64 v] w fun e w' => e = .returned (.int .i64 (ad a x v)) ∧ Below w.heap.size w w' := by
 have HF := hide (find_any w a)
 have HA := hide (fun w => add_any w a x v)
 unfold mon at HF HA
 generalize decide (1 ≤ a ∧ a ≤ 5) = d at *
 generalize ad a x v = r at *
 generalize zr a = z at *
 generalize oneF a = f at *
 generalize joinF a = g at *
 go_enter Tryz.func108, Tryz.ntmps108
 go_wp2_with (first
  | (refine HF.out.mono ?_; rintro e w1 ⟨rfl, b1⟩)
  | (refine (HA.out _).mono ?_; rintro e w2 ⟨rfl, b2⟩))
 go_ret
 have hb := (below_box w1 (.cells #[.int .i64 z, .func (.func f) #[] #[], .func (.func g) #[] #[]] 164))
 exact ⟨rfl, (b1.trans (hb.mono b1.size)).trans (b2.mono (Nat.le_trans b1.size hb.size))⟩
theorem Merge_any (w : World) (a x y : Int) : Calls Tryz.prog 114 #[.int .i64 a, .int .i64 x, .int .i64 y] w fun e w' => e = .returned (.int .i64 (jn a x y)) ∧ Below w.heap.size w w' := by
 have HF := hide (find_any w a)
 have HA := hide (fun w => join_any w a x y)
 have hg := joinF_run a
 unfold mon at HF
 generalize decide (1 ≤ a ∧ a ≤ 5) = d at *
 generalize jn a x y = r at *
 generalize zr a = z at *
 generalize oneF a = f at *
 generalize joinF a = g at *
 go_enter Tryz.func114, Tryz.ntmps114
 go_wp2_with (first
  | (refine HF.out.mono ?_; rintro e w1 ⟨rfl, b1⟩)
  | (refine (HA.out _).mono ?_; rintro e w2 ⟨rfl, rfl⟩))
 go_ret
 have hb := (below_box w1 (.cells #[.int .i64 z, .func (.func f) #[] #[], .func (.func g) #[] #[]] 164))
 exact ⟨rfl, b1.trans (hb.mono b1.size)⟩
theorem BoxT.below {t : TypeId} {w w' : World} {k : Nat} {cs : Array Value} (h : BoxT t w k cs) (hb : Below w.heap.size w w') : BoxT t w' k cs := by
 have hk := h.lt
 unfold BoxT at *
 rw [hb.block k hk]; exact h
theorem lt_of_get {α : Type} {l : List α} {i : Nat} {x : α} (h : l[i]? = some x) : i < l.length := (List.getElem?_eq_some_iff.1 h).1
theorem get_of_lt {α : Type} {l : List α} {i : Nat} (h : i < l.length) : ∃ x, l[i]? = some x := ⟨_, List.getElem?_eq_getElem h⟩
theorem seg_int {B : Nat} {w : World} {ao : Option Addr} {n cap : Nat} {xs : List Int} (h : LSeg 1 i64cs B w (.slice ao n cap) xs) {t : Nat} {x : Int} (hx : xs[t]? = some x) : ∃ b o, ao = some ⟨b, o, none⟩ ∧ b < B ∧ w.cell? ⟨b, o + t, none⟩ = some (.int .i64 x) := by
 obtain ⟨ao', cap', e, _, hs⟩ := h
 cases e
 rcases hs with rfl | ⟨b, off, rfl, hb, hc⟩
 ·simp at hx
 ·exact ⟨b, off, rfl, hb, by simpa using hc t x hx 0 _ rfl⟩
theorem LSeg.shape {B : Nat} {w : World} {v : Value} {xs : List Int} (h : LSeg 1 i64cs B w v xs) : ∃ ao cap, v = .slice ao xs.length cap := by
 obtain ⟨ao, cap, e, _⟩ := h
 exact ⟨ao, cap, e⟩
end Go.Proofs.YtpcbhcdpegbfjaaGreat
/-
 All; the document's Zero, Add, Merge, All; the examples.
-/
namespace Go.Proofs.YtpcbhcdpegbfjaaGreat
open Go.RowKit
theorem RZero_any (w : World) (a : Int) : Calls Tryz.prog 41 #[.int .i64 a] w fun e w' => e = .returned (.int .i64 (zr a)) ∧ w' = w := by
 by_cases h3 : a = 3
 ·subst h3
  go_enter Tryz.func41, Tryz.ntmps41
  go_wp2_with fail
  go_ret
  exact ⟨rfl, rfl⟩
 by_cases h4 : a = 4
 ·subst h4
  go_enter Tryz.func41, Tryz.ntmps41
  go_wp2_with fail
  go_ret
  exact ⟨rfl, rfl⟩
 have HE : Hid (zr a = 0) := (show _ = _ by unfold zr; rw [if_neg h3, if_neg h4])
 generalize zr a = z at *
 go_enter Tryz.func41, Tryz.ntmps41
 go_wp2_with fail
 go_ret
 exact ⟨by rw [HE.out]; rfl, rfl⟩
theorem RMerge_any (w : World) (a x y : Int) : Calls Tryz.prog 43 #[.int .i64 a, .int .i64 x, .int .i64 y] w fun e w' => e = .returned (.int .i64 (jn a x y)) ∧ w' = w := by
 by_cases h1 : a = 1
 ·subst h1
  rw [jn1]
  go_enter Tryz.func43, Tryz.ntmps43
  go_wp2_with fail
  go_ret
  exact ⟨rfl, rfl⟩
 by_cases h2 : a = 2
 ·subst h2
  rw [jn2]
  go_enter Tryz.func43, Tryz.ntmps43
  go_wp2_with fail
  go_ret
  exact ⟨rfl, rfl⟩
 by_cases h3 : a = 3
 ·subst h3
  rw [jn3]
  go_enter Tryz.func43, Tryz.ntmps43
  go_wp2_with fail
  all_goals (go_ret; exact ⟨rfl, rfl⟩)
 by_cases h4 : a = 4
 ·subst h4
  rw [jn4]
  go_enter Tryz.func43, Tryz.ntmps43
  go_wp2_with fail
  all_goals (go_ret; exact ⟨rfl, rfl⟩)
 by_cases h5 : a = 5
 ·subst h5
  rw [jn5]
  go_enter Tryz.func43, Tryz.ntmps43
  go_wp2_with fail
  go_ret
  exact ⟨rfl, rfl⟩
 rw [jn_none (by omega)]
 go_enter Tryz.func43, Tryz.ntmps43
 go_wp2_with fail
 go_ret
 exact ⟨rfl, rfl⟩
theorem RAdd_any (w : World) (a x v : Int) : Calls Tryz.prog 40 #[.int .i64 a, .int .i64 x, .int .i64 v] w fun e w' => e = .returned (.int .i64 (ad a x v)) ∧ w' = w := by
 by_cases h2 : a = 2
 ·subst h2
  have HE : Hid (ad 2 x v = wrap64 (x + 1)) := (show _ = _ from rfl)
  generalize ad 2 x v = r at *
  go_enter Tryz.func40, Tryz.ntmps40
  go_wp2_with fail
  go_ret
  exact ⟨by rw [HE.out]; rfl, rfl⟩
 have HE : Hid (ad a x v = jn a x v) := (show _ = _ by unfold ad; rw [if_neg h2])
 have HM := hide (RMerge_any w a x v)
 generalize ad a x v = r at *
 generalize jn a x v = s at *
 go_enter Tryz.func40, Tryz.ntmps40
 go_wp2_with (refine HM.out.mono ?_; rintro e w1 ⟨rfl, rfl⟩)
 go_ret
 exact ⟨by rw [HE.out]; rfl, rfl⟩
end Go.Proofs.YtpcbhcdpegbfjaaGreat
