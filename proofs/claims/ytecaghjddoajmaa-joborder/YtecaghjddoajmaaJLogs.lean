/-
  Logs, Whole, Items of package job.
-/
import Derived.Test.YtecaghjddoajmaaJItem
namespace Go.Proofs.Ytecaghjddoajmaa
open Go.RowKit

/-- A partition, and where its items lie. -/
structure Pt where
  a : Option Addr
  c : Nat
  its : List It
def Pt.cs (p : Pt) : List Value := [.slice p.a p.its.length p.c]
theorem Pt.cs_len (p : Pt) : p.cs.length = 1 := rfl
/-- A node's partitions, and where they lie. -/
structure En where
  a : Option Addr
  c : Nat
  pts : List Pt
def En.cs (e : En) : List Value := [.slice e.a e.pts.length e.c]
theorem En.cs_len (e : En) : e.cs.length = 1 := rfl
structure PtsIn (B : Nat) (w : World) (v : Value) (ps : List Pt) : Prop where
  seg : LSeg 1 Pt.cs B w v ps
  its : ∀ p ∈ ps, LSeg 5 It.cs B w (.slice p.a p.its.length p.c) p.its
structure LogIn (B : Nat) (w : World) (v : Value) (ls : List En) : Prop where
  seg : LSeg 1 En.cs B w v ls
  pts : ∀ e ∈ ls, PtsIn B w (.slice e.a e.pts.length e.c) e.pts
section
variable {B B' : Nat} {w w' : World} {v : Value}
theorem PtsIn.below {ps : List Pt} (h : PtsIn B w v ps) (hb : Below B w w') : PtsIn B w' v ps := ⟨h.seg.below hb, fun p hp => (h.its p hp).below hb⟩
theorem PtsIn.mono {ps : List Pt} (h : PtsIn B w v ps) (hb : B ≤ B') : PtsIn B' w v ps := ⟨h.seg.mono hb, fun p hp => (h.its p hp).mono hb⟩
theorem LogIn.below {ls : List En} (h : LogIn B w v ls) (hb : Below B w w') : LogIn B w' v ls := ⟨h.seg.below hb, fun e he => (h.pts e he).below hb⟩
theorem LogIn.mono {ls : List En} (h : LogIn B w v ls) (hb : B ≤ B') : LogIn B' w v ls := ⟨h.seg.mono hb, fun e he => (h.pts e he).mono hb⟩
theorem LSeg.shape {α : Type} {sz : Nat} {cs : α → List Value} {xs : List α} (h : LSeg sz cs B w v xs) : ∃ ao cap, v = .slice ao xs.length cap := by
  obtain ⟨ao, cap, h1, _⟩ := h
  exact ⟨ao, cap, h1⟩
theorem LSeg.len {α : Type} {sz : Nat} {cs : α → List Value} {xs : List α} (h : LSeg sz cs B w v xs) : xs.length ≤ 140737488355328 := by
  obtain ⟨ao, cap, h1, h2, _⟩ := h
  exact h2
theorem LSeg.one {α : Type} {f : α → Value} {xs : List α} {ao : Option Addr} {m cap : Nat} (h : LSeg 1 (fun x => [f x]) B w (.slice ao m cap) xs) {k : Nat} {x : α} (hx : xs[k]? = some x) : ∃ b o, ao = some ⟨b, o, none⟩ ∧ b < B ∧ w.cell? ⟨b, o + k, none⟩ = some (f x) := by
  obtain ⟨ao', cap', e, h2, h4⟩ := h
  cases e
  rcases h4 with h4 | ⟨b, off, h5, h6, h7⟩
  · subst h4; simp at hx
  · exact ⟨b, off, h5, h6, by simpa using h7 k x hx 0 _ rfl⟩
theorem LSeg.item {xs : List It} {ao : Option Addr} {m cap : Nat} (h : LSeg 5 It.cs B w (.slice ao m cap) xs) {k : Nat} {x : It} (hx : xs[k]? = some x) : ∃ b o, ao = some ⟨b, o, none⟩ ∧ b < B ∧ w.cell? ⟨b, o + k * 5, none⟩ = some (.int .i64 x.kind) ∧
    w.cell? ⟨b, o + k * 5 + 1, none⟩ = some (.int .i64 x.key) ∧ w.cell? ⟨b, o + k * 5 + 2, none⟩ = some (.int .i64 x.time) ∧ w.cell? ⟨b, o + k * 5 + 3, none⟩ = some (.int .i64 x.val) ∧ w.cell? ⟨b, o + k * 5 + 4, none⟩ = some (.int .i64 x.mark) := by
  obtain ⟨ao', cap', e, h2, h4⟩ := h
  cases e
  rcases h4 with h4 | ⟨b, off, h5, h6, h7⟩
  · subst h4; simp at hx
  · exact ⟨b, off, h5, h6, h7 k x hx 0 _ rfl, h7 k x hx 1 _ rfl, h7 k x hx 2 _ rfl, h7 k x hx 3 _ rfl, h7 k x hx 4 _ rfl⟩
end
theorem any_take {α : Type} {f : α → Bool} {l : List α} {t : Nat} {x : α} (hx : l[t]? = some x) (h : (l.take t).any f = false) : (l.take (t + 1)).any f = f x := by
  have hl := lt_of_get hx
  rw [List.take_succ_eq_append_getElem hl, List.any_append, h]
  rw [List.getElem?_eq_getElem hl] at hx
  cases hx
  simp

set_option maxHeartbeats 1000000 in
set_option maxRecDepth 100000 in
theorem indexItem_any {w : World} {v : Value} {xs : List It} {F : FuncId} {p : It → Bool} (hF : F = 33 ∨ F = 40) (hp : ∀ (i : It) (w : World), Calls Try.prog F #[i.vl] w fun e w' => e = .returned (.bool (p i)) ∧ Below w.heap.size w w') (hj : LSeg 5 It.cs w.heap.size w v xs) :
    Calls Try.prog 41 #[v, .func (.func F) #[] #[]] w fun e w' => ∃ k : Int, e = .returned (.int .i64 k) ∧ (decide (0 ≤ k)) = xs.any p ∧ Below w.heap.size w w' := by
  obtain ⟨na, ncp, rfl⟩ := hj.shape
  have hlen := hj.len
  have HJ := hide hj
  have HPP := hide hp
  clear hj hp
  rcases hF with rfl | rfl
  all_goals
    go_enter Try.func41, Try.ntmps41
    go_wp2_with fail
    go_loopg [8] (xs.length + 1) (fun g iv wr => ∃ t : Nat, iv = .int .i64 (t : Int) ∧ t ≤ xs.length ∧ xs.length + 1 ≤ g + t ∧ Hid ((xs.take t).any p = false) ∧ Hid (Below w.heap.size w wr))
    case atStart => exact ⟨0, rfl, by omega, by omega, rfl, Below.refl _ _⟩
    case round =>
      obtain ⟨t, rfl, ht, hg, GA, GB⟩ := hrel
      obtain ⟨go, rfl⟩ : ∃ go, gk = go + 1 := ⟨gk - 1, by omega⟩
      by_cases hlt : t < xs.length
      · obtain ⟨x, hx⟩ := get_of_lt hlt
        have bt : (t : Int) < (xs.length : Int) := by omega
        obtain ⟨nb, no, rfl, -, d0, d1, d2, d3, d4⟩ := (HJ.out.below GB.out).item hx
        have HSK := hide (HPP.out x wr)
        have hany := hide (any_take (f := p) hx GA.out)
        have HT : Hid (p x = true → xs.any p = true) := fun h => List.any_eq_true.2 ⟨x, List.mem_of_getElem? hx, h⟩
        clear hx
        obtain ⟨b, hb⟩ : ∃ b, p x = b := ⟨_, rfl⟩
        rw [hb] at HSK hany HT
        clear hb
        obtain ⟨kd, ky, ti, va, mk⟩ := x
        unfold It.vl at HSK
        simp only at d0 d1 d2 d3 d4 HSK
        cases b with
        | true =>
          have HT2 := hide (HT.out rfl)
          clear HT
          go_wp2_with (first
            | (go_at_call 33; refine HSK.out.mono ?_; rintro e w1 ⟨rfl, b1⟩)
            | (go_at_call 40; refine HSK.out.mono ?_; rintro e w1 ⟨rfl, b1⟩))
          go_ret
          exact ⟨_, rfl, by rw [HT2.out]; simp, GB.out.trans (b1.mono GB.out.size)⟩
        | false =>
          go_wp2_with (first
            | (go_at_call 33; refine HSK.out.mono ?_; rintro e w1 ⟨rfl, b1⟩)
            | (go_at_call 40; refine HSK.out.mono ?_; rintro e w1 ⟨rfl, b1⟩))
          go_roundg go
          case rel => exact ⟨t + 1, by go_num, by omega, by omega, hany, GB.out.trans (b1.mono GB.out.size)⟩
          case measure => omega
      · have bt : ¬ (t : Int) < (xs.length : Int) := by omega
        have HT : Hid (xs.any p = false) := by
          have := GA.out
          rw [List.take_of_length_le (by omega)] at this
          exact this
        go_wp2_with fail
        go_ret
        exact ⟨_, rfl, by rw [HT.out]; simp, GB.out⟩
set_option maxHeartbeats 1000000 in
set_option maxRecDepth 100000 in
theorem hasItem_any {w : World} {v : Value} {xs : List It} {F : FuncId} {p : It → Bool} (hF : F = 33 ∨ F = 40) (hp : ∀ (i : It) (w : World), Calls Try.prog F #[i.vl] w fun e w' => e = .returned (.bool (p i)) ∧ Below w.heap.size w w') (hj : LSeg 5 It.cs w.heap.size w v xs) :
    Calls Try.prog 32 #[v, .func (.func F) #[] #[]] w fun e w' => e = .returned (.bool (xs.any p)) ∧ Below w.heap.size w w' := by
  have HX := hide (indexItem_any hF hp hj)
  go_enter Try.func32, Try.ntmps32
  go_wp2_with (go_at_call 41; refine HX.out.mono ?_; rintro e w1 ⟨k, rfl, hk, b1⟩; have HK := hide hk; clear hk)
  go_ret
  exact ⟨ret_bool HK.out, b1⟩

def partOk (p : Pt) : Bool := decide (p.its.length ≤ 4096) && !p.its.any noneB
def fitB (k par : Int) (ps : List Pt) : Bool := if k = 1 then decide ((ps.length : Int) = par) && ps.all partOk else decide (ps.length = 0)
theorem allP_take {α : Type} {f : α → Bool} {l : List α} {t : Nat} {x : α} (hx : l[t]? = some x) (h : (l.take t).all f = true) : (l.take (t + 1)).all f = f x := by
  have hl := lt_of_get hx
  rw [List.take_succ_eq_append_getElem hl, List.all_append, h]
  rw [List.getElem?_eq_getElem hl] at hx
  cases hx
  simp
theorem allP_not {α : Type} {f : α → Bool} {l : List α} {t : Nat} {x : α} (hx : l[t]? = some x) (h : f x = false) : l.all f = false := by
  rw [List.all_eq_false]
  exact ⟨x, List.mem_of_getElem? hx, by simp [h]⟩
set_option maxHeartbeats 1000000 in
set_option maxRecDepth 100000 in
theorem parts_any {w : World} {v : Value} {ps : List Pt} (n : Nd) (hj : PtsIn w.heap.size w v ps) :
    Calls Try.prog 31 #[n.val, v] w fun e w' => e = .returned (.bool (fitB n.kind n.par ps)) ∧ Below w.heap.size w w' := by
  obtain ⟨na, ncp, rfl⟩ := hj.seg.shape
  have hlen := hj.seg.len
  have HJ := hide hj
  clear hj
  obtain ⟨kd, ia, icp, ins, par, ⟨eo, en, ea, ec, el⟩, ag, wk, ws, wl⟩ := n
  unfold Nd.val fitB
  simp only
  have hb : Below w.heap.size w (w.alloc (.cells #[.int .i64 kd, .slice ia ins.length icp, .int .i64 par, .int .i64 eo, .int .i64 en, .slice ea el.length ec, .int .i64 ag, .int .i64 wk, .int .i64 ws, .int .i64 wl] 49)) := (Below.refl _ _).alloc (Nat.le_refl _) _
  have HB := hide hb
  clear hb
  by_cases k1 : kd = 1
  · rw [if_pos k1]
    subst k1
    by_cases hpar : (ps.length : Int) = par
    · have hd : decide ((ps.length : Int) = par) = true := by simp [hpar]
      rw [hd, Bool.true_and]
      have hq : ((ps.length : Int) != par) = false := by simp [hpar]
      obtain ⟨R, hR⟩ : ∃ R, ps.all partOk = R := ⟨_, rfl⟩
      rw [hR]
      have HR := hide hR
      clear hd hpar hR
      go_enter Try.func31, Try.ntmps31
      go_wp2_with fail
      go_loopg [20] (ps.length + 1) (fun g iv wr => ∃ t : Nat, iv = .int .i64 (t : Int) ∧ t ≤ ps.length ∧ ps.length + 1 ≤ g + t ∧ Hid ((ps.take t).all partOk = true) ∧ Hid (Below w.heap.size w wr))
      case atStart => exact ⟨0, rfl, by omega, by omega, rfl, HB⟩
      case round =>
        obtain ⟨t, rfl, ht, hg, GA, GB⟩ := hrel
        obtain ⟨go, rfl⟩ : ∃ go, gk = go + 1 := ⟨gk - 1, by omega⟩
        by_cases hlt : t < ps.length
        · obtain ⟨x, hx⟩ := get_of_lt hlt
          have bt : (t : Int) < (ps.length : Int) := by omega
          obtain ⟨nb, no, rfl, -, d0⟩ := LSeg.one (f := fun p : Pt => Value.slice p.a p.its.length p.c) (HJ.out.below GB.out).seg hx
          have hxi := (HJ.out.below GB.out).its x (List.mem_of_getElem? hx)
          have HCF := hide (hasItem_any (.inr rfl) none_any (hxi.mono GB.out.size))
          have hall := hide (allP_take (f := partOk) hx GA.out)
          have hnot : Hid (partOk x = false → R = false) := fun h => HR.out.symm.trans (allP_not hx h)
          have hil := hxi.len
          have hpk : partOk x = (decide (x.its.length ≤ 4096) && !x.its.any noneB) := rfl
          rw [hpk] at hall hnot
          clear hpk hx hxi
          obtain ⟨xa, xc, xi⟩ := x
          simp only at d0 HCF hall hnot hil
          by_cases h4 : xi.length ≤ 4096
          · have hd : decide (xi.length ≤ 4096) = true := by simp [h4]
            rw [hd, Bool.true_and] at hall hnot
            have c4 : (xi.length : Int) ≤ 4096 := by omega
            obtain ⟨b, hb⟩ : ∃ b, xi.any noneB = b := ⟨_, rfl⟩
            rw [hb] at HCF hall hnot
            clear hb hd h4
            cases b with
            | true =>
              have HN := hide (hnot.out rfl)
              go_wp2_with (go_at_call 32; refine HCF.out.mono ?_; rintro e w1 ⟨rfl, b1⟩)
              go_ret
              exact ⟨ret_bool HN.out.symm, GB.out.trans (b1.mono GB.out.size)⟩
            | false =>
              go_wp2_with (go_at_call 32; refine HCF.out.mono ?_; rintro e w1 ⟨rfl, b1⟩)
              go_roundg go
              case rel => exact ⟨t + 1, by go_num, by omega, by omega, hall, GB.out.trans (b1.mono GB.out.size)⟩
              case measure => omega
          · have hd : decide (xi.length ≤ 4096) = false := by simp; omega
            rw [hd, Bool.false_and] at hnot
            have HN := hide (hnot.out rfl)
            have c4 : ¬ (xi.length : Int) ≤ 4096 := by omega
            clear hd h4
            go_wp2_with fail
            go_ret
            exact ⟨ret_bool HN.out.symm, GB.out⟩
        · have bt : ¬ (t : Int) < (ps.length : Int) := by omega
          have HT : Hid (R = true) := by
            have := GA.out
            rw [List.take_of_length_le (by omega)] at this
            exact HR.out.symm.trans this
          go_wp2_with fail
          go_ret
          exact ⟨ret_bool HT.out.symm, GB.out⟩
    · have hd : decide ((ps.length : Int) = par) = false := by simp [hpar]
      have hq : ((ps.length : Int) != par) = true := by simp [hpar]
      rw [hd, Bool.false_and]
      clear hd hpar
      go_enter Try.func31, Try.ntmps31
      go_wp2_with fail
      go_ret
      exact ⟨rfl, HB.out⟩
  · rw [if_neg k1]
    have q1 : (kd != 1) = true := by simp [k1]
    clear k1
    by_cases hz : ps.length = 0
    · have hd : decide (ps.length = 0) = true := by simp [hz]
      have hq : ((ps.length : Int) == 0) = true := by simp; exact List.length_eq_zero_iff.1 hz
      rw [hd]
      clear hd hz
      go_enter Try.func31, Try.ntmps31
      go_wp2_with fail
      go_ret
      exact ⟨rfl, HB.out⟩
    · have hd : decide (ps.length = 0) = false := by simp; intro h; exact hz (by rw [h]; rfl)
      have hq : ((ps.length : Int) == 0) = false := by simp; intro h; exact hz (by rw [h]; rfl)
      rw [hd]
      clear hd hz
      go_enter Try.func31, Try.ntmps31
      go_wp2_with fail
      go_ret
      exact ⟨rfl, HB.out⟩
end Go.Proofs.Ytecaghjddoajmaa
