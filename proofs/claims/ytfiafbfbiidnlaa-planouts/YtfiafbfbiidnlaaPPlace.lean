/-
  places: the numbers of what fits.
-/
import Derived.Test.YtfiafbfbiidnlaaPTakes
namespace Go.Proofs.Ytfiafbfbiidnlaa
open Go.RowKit

/-- The numbers, from k on, of the things that fit. -/
def plc {α : Type} (p : α → Bool) (k : Nat) : List α → List Nat
  | [] => []
  | x :: r => if p x then k :: plc p (k + 1) r else plc p (k + 1) r
theorem plc_app {α : Type} (p : α → Bool) (l r : List α) : ∀ k, plc p k (l ++ r) = plc p k l ++ plc p (k + l.length) r := by
  induction l with
  | nil => intro k; rfl
  | cons x l ih =>
    intro k
    rw [List.cons_append, plc, plc, ih, List.length_cons, show k + 1 + l.length = k + (l.length + 1) by omega]
    split <;> rfl
theorem plc_take {α : Type} (p : α → Bool) {l : List α} {t : Nat} {x : α} (h : l[t]? = some x) : plc p 0 (l.take (t + 1)) = plc p 0 (l.take t) ++ (if p x then [t] else []) := by
  have hl := lt_of_get h
  rw [List.getElem?_eq_getElem hl] at h
  cases h
  rw [List.take_succ_eq_append_getElem hl, plc_app, List.length_take, Nat.min_eq_left (by omega), Nat.zero_add]
  rfl
theorem plc_len {α : Type} (p : α → Bool) (l : List α) : ∀ k, (plc p k l).length ≤ l.length := by
  induction l with
  | nil => intro k; exact Nat.le_refl _
  | cons x l ih =>
    intro k
    rw [plc]
    have := ih (k + 1)
    split <;> simp <;> omega

set_option maxHeartbeats 1000000 in
set_option maxRecDepth 100000 in
theorem placesC_any {w : World} {v : Value} {cs : List Cn} (hc : LSeg 3 Cn.cs w.heap.size w v cs) (hl : cs.length ≤ 100000) (F : Nat) (hF : ∀ (args : Array Value) (W : World), (callFunc F args).run Try.prog W = .ok (.enter F args) W) (bs : List Value) (p : Cn → Bool)
    (hf : ∀ x ∈ cs, ∀ w', Below w.heap.size w w' → Calls Try.prog F (x.val :: bs).toArray w' fun e w'' => e = .returned (.bool (p x)) ∧ Below w'.heap.size w' w'') :
    Calls Try.prog 32 #[v, .func (.func F) #[] bs.toArray] w fun e w' => ∃ u, e = .returned u ∧ OwnN w.heap.size w' u (plc p 0 cs) ∧ Below w.heap.size w w' := by
  obtain ⟨ao, cap, rfl⟩ := hc.shape
  have HC := hide hc
  have HF := hide hf
  clear hc hf
  go_enter Try.func32, Try.ntmps32
  go_wp2_with fail
  go_loopg [5, 10] (cs.length + 1) (fun g uv iv wr => ∃ t : Nat, iv = .int .i64 (t : Int) ∧ t ≤ cs.length ∧ cs.length + 1 ≤ g + t ∧ Hid (OwnN w.heap.size wr uv (plc p 0 (cs.take t))) ∧ Hid (Below w.heap.size w wr))
  case atStart => exact ⟨0, rfl, by omega, by omega, OwnL.nil _ _ _ _ _, Below.refl _ _⟩
  case round =>
    obtain ⟨t, rfl, ht, hg, GO, GB⟩ := hrel
    obtain ⟨go, rfl⟩ : ∃ go, gk = go + 1 := ⟨gk - 1, by omega⟩
    by_cases hlt : t < cs.length
    · obtain ⟨x, hx⟩ := get_of_lt hlt
      have bt : (t : Int) < (cs.length : Int) := by omega
      obtain ⟨nb, no, rfl, nlt, d0, d1, d2⟩ := seg_cn (HC.out.below GB.out) hx
      have hbx := below_box wr (.cells #[.int .i64 x.fr, .int .i64 x.tg, .int .i64 x.inp] 40)
      have HB := hide hbx
      have HCL := hide (HF.out x (List.mem_of_getElem? hx) _ (GB.out.trans (hbx.mono GB.out.size)))
      unfold Cn.val at HCL
      have HT := hide (plc_take p hx)
      have hpl : (plc p 0 (cs.take t)).length ≤ 1000000 := by have := plc_len p (cs.take t) 0; simp at this; omega
      have HPL := hide hpl
      clear hx hbx hpl
      cases hp : p x with
      | false =>
        rw [hp] at HCL HT
        clear hp
        go_wp2_with (refine HCL.out.mono ?_; rintro e w1 ⟨rfl, b1⟩)
        go_roundg go
        case rel =>
          have hb1 := HB.out.trans (b1.mono HB.out.size)
          exact ⟨t + 1, by go_num, by omega, by omega, (show OwnN _ _ _ _ by rw [HT.out]; simpa using GO.out.below hb1), GB.out.trans (hb1.mono GB.out.size)⟩
        case measure => omega
      | true =>
        rw [hp] at HCL HT
        clear hp
        go_wp2_with (first
          | (refine HCL.out.mono ?_; rintro e w1 ⟨rfl, b1⟩
             have hb1 := HB.out.trans (b1.mono HB.out.size)
             have O1 := hide (GO.out.below hb1)
             have B1 := hide (GB.out.trans (hb1.mono GB.out.size))
             have HNW : Hid ((w1.alloc (.cells #[.int .i64 (t : Int)] 3)).cell? ⟨w1.heap.size, 0, none⟩ = some (.int .i64 (t : Int))) := (show _ = _ by rw [(BoxT.new 3 w1 _).cellAt]; rfl)
             have HBS : Hid (w.heap.size ≤ (w1.alloc (.cells #[.int .i64 (t : Int)] 3)).heap.size) := (show _ ≤ _ by have := B1.out.size; simp; omega)
             clear hb1 b1)
          | (at_builtin; refine app_ownN (by kernel_rfl) rfl _ _ rfl w.heap.size u5 _ rfl (O1.out.alloc _) ⟨w1.heap.size, 0, none⟩ 1 t rfl HNW.out HPL.out HBS.out ?_; intro v4 w4 h4 g4 n4))
        go_roundg go
        case rel =>
          have ba : Below w.heap.size w (w1.alloc (.cells #[.int .i64 (t : Int)] 3)) := B1.out.alloc B1.out.size _
          exact ⟨t + 1, by go_num, by omega, by omega, (show OwnN _ _ _ _ by rw [HT.out]; simpa using h4), ba.grown g4 HBS.out (fun k e => O1.out.at k e)⟩
        case measure => omega
    · have bt : ¬ (t : Int) < (cs.length : Int) := by omega
      have HE : Hid (OwnN w.heap.size wr u5 (plc p 0 cs)) := (show OwnN _ _ _ _ by have := GO.out; rwa [List.take_of_length_le (by omega)] at this)
      go_wp2_with fail
      go_ret
      exact ⟨_, rfl, HE.out, GB.out⟩
set_option maxHeartbeats 1000000 in
set_option maxRecDepth 100000 in
theorem placesT_any {w : World} {v : Value} {cs : List Tk} (hc : LSeg 2 Tk.cs w.heap.size w v cs) (hl : cs.length ≤ 100000) (F : Nat) (hF : ∀ (args : Array Value) (W : World), (callFunc F args).run Try.prog W = .ok (.enter F args) W) (bs : List Value) (p : Tk → Bool)
    (hf : ∀ x ∈ cs, ∀ w', Below w.heap.size w w' → Calls Try.prog F (x.val :: bs).toArray w' fun e w'' => e = .returned (.bool (p x)) ∧ Below w'.heap.size w' w'') :
    Calls Try.prog 45 #[v, .func (.func F) #[] bs.toArray] w fun e w' => ∃ u, e = .returned u ∧ OwnN w.heap.size w' u (plc p 0 cs) ∧ Below w.heap.size w w' := by
  obtain ⟨ao, cap, rfl⟩ := hc.shape
  have HC := hide hc
  have HF := hide hf
  clear hc hf
  go_enter Try.func45, Try.ntmps45
  go_wp2_with fail
  go_loopg [5, 10] (cs.length + 1) (fun g uv iv wr => ∃ t : Nat, iv = .int .i64 (t : Int) ∧ t ≤ cs.length ∧ cs.length + 1 ≤ g + t ∧ Hid (OwnN w.heap.size wr uv (plc p 0 (cs.take t))) ∧ Hid (Below w.heap.size w wr))
  case atStart => exact ⟨0, rfl, by omega, by omega, OwnL.nil _ _ _ _ _, Below.refl _ _⟩
  case round =>
    obtain ⟨t, rfl, ht, hg, GO, GB⟩ := hrel
    obtain ⟨go, rfl⟩ : ∃ go, gk = go + 1 := ⟨gk - 1, by omega⟩
    by_cases hlt : t < cs.length
    · obtain ⟨x, hx⟩ := get_of_lt hlt
      have bt : (t : Int) < (cs.length : Int) := by omega
      obtain ⟨nb, no, rfl, nlt, d0, d1⟩ := seg_tk (HC.out.below GB.out) hx
      have hbx := below_box wr (.cells #[.int .i64 x.nd, .int .i64 x.pt] 42)
      have HB := hide hbx
      have HCL := hide (HF.out x (List.mem_of_getElem? hx) _ (GB.out.trans (hbx.mono GB.out.size)))
      unfold Tk.val at HCL
      have HT := hide (plc_take p hx)
      have hpl : (plc p 0 (cs.take t)).length ≤ 1000000 := by have := plc_len p (cs.take t) 0; simp at this; omega
      have HPL := hide hpl
      clear hx hbx hpl
      cases hp : p x with
      | false =>
        rw [hp] at HCL HT
        clear hp
        go_wp2_with (refine HCL.out.mono ?_; rintro e w1 ⟨rfl, b1⟩)
        go_roundg go
        case rel =>
          have hb1 := HB.out.trans (b1.mono HB.out.size)
          exact ⟨t + 1, by go_num, by omega, by omega, (show OwnN _ _ _ _ by rw [HT.out]; simpa using GO.out.below hb1), GB.out.trans (hb1.mono GB.out.size)⟩
        case measure => omega
      | true =>
        rw [hp] at HCL HT
        clear hp
        go_wp2_with (first
          | (refine HCL.out.mono ?_; rintro e w1 ⟨rfl, b1⟩
             have hb1 := HB.out.trans (b1.mono HB.out.size)
             have O1 := hide (GO.out.below hb1)
             have B1 := hide (GB.out.trans (hb1.mono GB.out.size))
             have HNW : Hid ((w1.alloc (.cells #[.int .i64 (t : Int)] 3)).cell? ⟨w1.heap.size, 0, none⟩ = some (.int .i64 (t : Int))) := (show _ = _ by rw [(BoxT.new 3 w1 _).cellAt]; rfl)
             have HBS : Hid (w.heap.size ≤ (w1.alloc (.cells #[.int .i64 (t : Int)] 3)).heap.size) := (show _ ≤ _ by have := B1.out.size; simp; omega)
             clear hb1 b1)
          | (at_builtin; refine app_ownN (by kernel_rfl) rfl _ _ rfl w.heap.size u5 _ rfl (O1.out.alloc _) ⟨w1.heap.size, 0, none⟩ 1 t rfl HNW.out HPL.out HBS.out ?_; intro v4 w4 h4 g4 n4))
        go_roundg go
        case rel =>
          have ba : Below w.heap.size w (w1.alloc (.cells #[.int .i64 (t : Int)] 3)) := B1.out.alloc B1.out.size _
          exact ⟨t + 1, by go_num, by omega, by omega, (show OwnN _ _ _ _ by rw [HT.out]; simpa using h4), ba.grown g4 HBS.out (fun k e => O1.out.at k e)⟩
        case measure => omega
    · have bt : ¬ (t : Int) < (cs.length : Int) := by omega
      have HE : Hid (OwnN w.heap.size wr u5 (plc p 0 cs)) := (show OwnN _ _ _ _ by have := GO.out; rwa [List.take_of_length_le (by omega)] at this)
      go_wp2_with fail
      go_ret
      exact ⟨_, rfl, HE.out, GB.out⟩
theorem runF33 (args : Array Value) (W : World) : (callFunc 33 args).run Try.prog W = .ok (.enter 33 args) W := by kernel_rfl
theorem runF34 (args : Array Value) (W : World) : (callFunc 34 args).run Try.prog W = .ok (.enter 34 args) W := by kernel_rfl
theorem runF37 (args : Array Value) (W : World) : (callFunc 37 args).run Try.prog W = .ok (.enter 37 args) W := by kernel_rfl
theorem runF46 (args : Array Value) (W : World) : (callFunc 46 args).run Try.prog W = .ok (.enter 46 args) W := by kernel_rfl
theorem runF55 (args : Array Value) (W : World) : (callFunc 55 args).run Try.prog W = .ok (.enter 55 args) W := by kernel_rfl
set_option maxHeartbeats 1000000 in
set_option maxRecDepth 100000 in
theorem from1_any {w : World} {K : Nat} {y : Int} (hK : BoxT 3 w K #[.int .i64 y]) (x : Cn) :
    Calls Try.prog 33 #[x.val, .pointer (some ⟨K, 0, none⟩)] w fun e w' => e = .returned (.bool (decide (x.fr = y))) ∧ Below w.heap.size w w' := by
  have HB := hide (below_box w (.cells #[.int .i64 x.fr, .int .i64 x.tg, .int .i64 x.inp] 40))
  have cK : (w.alloc (.cells #[.int .i64 x.fr, .int .i64 x.tg, .int .i64 x.inp] 40)).cell? ⟨K, 0, none⟩ = some (.int .i64 y) := by rw [(hK.below HB.out).cellAt]; rfl
  have HE : Hid ((x.fr == y) = decide (x.fr = y)) := (show _ = _ by by_cases h : x.fr = y <;> simp [h])
  generalize decide (x.fr = y) = d at *
  clear hK
  unfold Cn.val
  go_enter Try.func33, Try.ntmps33
  go_wp2_with fail
  go_ret
  exact ⟨ret_bool HE.out, HB.out⟩
set_option maxHeartbeats 1000000 in
set_option maxRecDepth 100000 in
theorem to1_any {w : World} {K : Nat} {y : Int} (hK : BoxT 3 w K #[.int .i64 y]) (x : Cn) :
    Calls Try.prog 34 #[x.val, .pointer (some ⟨K, 0, none⟩)] w fun e w' => e = .returned (.bool (decide (x.tg = y))) ∧ Below w.heap.size w w' := by
  have HB := hide (below_box w (.cells #[.int .i64 x.fr, .int .i64 x.tg, .int .i64 x.inp] 40))
  have cK : (w.alloc (.cells #[.int .i64 x.fr, .int .i64 x.tg, .int .i64 x.inp] 40)).cell? ⟨K, 0, none⟩ = some (.int .i64 y) := by rw [(hK.below HB.out).cellAt]; rfl
  have HE : Hid ((x.tg == y) = decide (x.tg = y)) := (show _ = _ by by_cases h : x.tg = y <;> simp [h])
  generalize decide (x.tg = y) = d at *
  clear hK
  unfold Cn.val
  go_enter Try.func34, Try.ntmps34
  go_wp2_with fail
  go_ret
  exact ⟨ret_bool HE.out, HB.out⟩
set_option maxHeartbeats 1000000 in
set_option maxRecDepth 100000 in
theorem chan1_any {w : World} {K : Nat} {y : Int} (hK : BoxT 3 w K #[.int .i64 y]) (x : Tk) :
    Calls Try.prog 46 #[x.val, .pointer (some ⟨K, 0, none⟩)] w fun e w' => e = .returned (.bool (decide (x.nd = y))) ∧ Below w.heap.size w w' := by
  have HB := hide (below_box w (.cells #[.int .i64 x.nd, .int .i64 x.pt] 42))
  have cK : (w.alloc (.cells #[.int .i64 x.nd, .int .i64 x.pt] 42)).cell? ⟨K, 0, none⟩ = some (.int .i64 y) := by rw [(hK.below HB.out).cellAt]; rfl
  have HE : Hid ((x.nd == y) = decide (x.nd = y)) := (show _ = _ by by_cases h : x.nd = y <;> simp [h])
  generalize decide (x.nd = y) = d at *
  clear hK
  unfold Tk.val
  go_enter Try.func46, Try.ntmps46
  go_wp2_with fail
  go_ret
  exact ⟨ret_bool HE.out, HB.out⟩
end Go.Proofs.Ytfiafbfbiidnlaa
