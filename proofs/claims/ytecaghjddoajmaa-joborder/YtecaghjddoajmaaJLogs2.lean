/-
  Logs, Whole, Items walked.
-/
import Derived.Test.YtecaghjddoajmaaJLogs
namespace Go.Proofs.Ytecaghjddoajmaa
open Go.RowKit

/-- Entry by entry. -/
def fitsL : List Nd → List En → Bool
  | n :: r, e :: s => fitB n.kind n.par e.pts && fitsL r s
  | _, _ => true
def logE (ns : List Nd) (ls : List En) : Int := if ls.length = ns.length then (if fitsL ns ls = true then 0 else 89) else 89
theorem fitsL_at {ns : List Nd} {ls : List En} {t : Nat} {n : Nd} {e : En} (hn : ns[t]? = some n) (he : ls[t]? = some e) : fitsL (ns.drop t) (ls.drop t) = (fitB n.kind n.par e.pts && fitsL (ns.drop (t + 1)) (ls.drop (t + 1))) := by
  have h1 := lt_of_get hn
  have h2 := lt_of_get he
  rw [List.drop_eq_getElem_cons h1, List.drop_eq_getElem_cons h2]
  rw [List.getElem?_eq_getElem h1] at hn
  rw [List.getElem?_eq_getElem h2] at he
  cases hn
  cases he
  rfl
set_option maxHeartbeats 1000000 in
set_option maxRecDepth 100000 in
theorem Logs_any {w : World} {v u : Value} {ns : List Nd} {ls : List En} (hj : JobIn w.heap.size w v ns) (hl : LogIn w.heap.size w u ls) :
    Calls Try.prog 17 #[.agg #[v], u] w fun e w' => e = .returned (.int .i64 (logE ns ls)) ∧ Below w.heap.size w w' := by
  obtain ⟨na, ncp, rfl⟩ := hj.shape
  obtain ⟨la, lcp, rfl⟩ := hl.seg.shape
  have hlen := hl.seg.len
  have hnlen := hj.seg.len
  have hb : Below w.heap.size w (w.alloc (.cells #[.slice na ns.length ncp] 24)) := (Below.refl _ _).alloc (Nat.le_refl _) _
  have HB := hide hb
  have HJ := hide hj
  have HL := hide hl
  clear hb hj hl
  unfold logE
  by_cases hln : ls.length = ns.length
  · rw [if_pos hln]
    have hq : ((ls.length : Int) != (ns.length : Int)) = false := by simp [hln]
    obtain ⟨R, hR⟩ : ∃ R, fitsL ns ls = R := ⟨_, rfl⟩
    rw [hR]
    have HR : Hid (fitsL (ns.drop 0) (ls.drop 0) = R) := hR
    have HLN := hide hln
    clear hR hln
    obtain ⟨X, hX⟩ : ∃ X : Int, (if R = true then 0 else 89) = X := ⟨_, rfl⟩
    rw [hX]
    have HX := hide hX
    clear hX
    go_enter Try.func17, Try.ntmps17
    go_wp2_with fail
    go_loopg [16] (ns.length + 1) (fun g iv wr => ∃ t : Nat, iv = .int .i64 (t : Int) ∧ t ≤ ns.length ∧ ns.length + 1 ≤ g + t ∧ Hid (fitsL (ns.drop t) (ls.drop t) = R) ∧ Hid (Below w.heap.size w wr))
    case atStart => exact ⟨0, rfl, by omega, by omega, HR, HB⟩
    case round =>
      obtain ⟨t, rfl, ht, hg, GF, GB⟩ := hrel
      obtain ⟨go, rfl⟩ : ∃ go, gk = go + 1 := ⟨gk - 1, by omega⟩
      by_cases hlt : t < ns.length
      · obtain ⟨n, hn⟩ := get_of_lt hlt
        obtain ⟨e, he⟩ := get_of_lt (l := ls) (i := t) (by rw [HLN.out]; exact hlt)
        have bt : (t : Int) < (ns.length : Int) := by omega
        have bl : (t : Int) < (ls.length : Int) := by have := lt_of_get he; omega
        obtain ⟨nb, no, rfl, nlt, d0, d1, d2, d3, d4, d5, d6, d7, d8, d9⟩ := (HJ.out.below GB.out).at_ hn
        obtain ⟨lb, lo, rfl, llt, e0⟩ := LSeg.one (f := fun e : En => Value.slice e.a e.pts.length e.c) (HL.out.below GB.out).seg he
        have hf := GF.out
        rw [fitsL_at hn he] at hf
        have hb1 : Below wr.heap.size wr (wr.alloc (.cells n.cs.toArray 49)) := (Below.refl _ _).alloc (Nat.le_refl _) _
        have hb2 : Below w.heap.size w (wr.alloc (.cells n.cs.toArray 49)) := GB.out.trans (hb1.mono GB.out.size)
        have HPF : Hid (Calls Try.prog 31 #[n.val, .slice e.a e.pts.length e.c] (wr.alloc (.cells n.cs.toArray 49)).drew fun r w' => r = .returned (.bool (fitB n.kind n.par e.pts)) ∧ Below ((wr.alloc (.cells n.cs.toArray 49)).drew).heap.size (wr.alloc (.cells n.cs.toArray 49)).drew w') :=
          parts_any n (((HL.out.pts e (List.mem_of_getElem? he)).below hb2.drew).mono hb2.drew.size)
        have HB2 := hide hb2.drew
        have e1 : (wr.alloc (.cells n.cs.toArray 49)).cell? ⟨lb, lo + t, none⟩ = some (.slice e.a e.pts.length e.c) := by
          rw [hb1.cell (p := ⟨lb, lo + t, none⟩) (by have := GB.out.size; show lb < wr.heap.size; omega)]; exact e0
        clear hb1 hb2 hn he
        obtain ⟨b, hbb⟩ : ∃ b, fitB n.kind n.par e.pts = b := ⟨_, rfl⟩
        rw [hbb] at HPF hf
        clear hbb
        obtain ⟨kd, ia, icp, ins, par, ⟨eo, en, ea, ec, el⟩, ag, wk, ws, wl⟩ := n
        obtain ⟨ya, yc, yp⟩ := e
        unfold Nd.val at HPF
        unfold Nd.cs at HPF HB2 e1
        simp only at d0 d1 d2 d3 d4 d5 d6 d7 d8 d9 HPF HB2 e0 e1
        cases b with
        | true =>
          rw [Bool.true_and] at hf
          have HF2 := hide hf
          clear hf
          go_wp2_with fail
          go_region_law (go_simp; go_at_call 31; refine HPF.out.mono ?_; rintro e w1 ⟨rfl, b1⟩)
          all_goals
            go_wp2_with fail
            go_roundg go
            case rel => exact ⟨t + 1, by go_num, by omega, by omega, HF2, HB2.out.trans (b1.mono HB2.out.size)⟩
            case measure => omega
        | false =>
          rw [Bool.false_and] at hf
          have HF2 := hide hf
          clear hf
          go_wp2_with fail
          go_region_law (go_simp; go_at_call 31; refine HPF.out.mono ?_; rintro e w1 ⟨rfl, b1⟩)
          all_goals
            go_wp2_with fail
            go_ret
            exact ⟨ret_int (by rw [← HX.out, ← HF2.out]; rfl), HB2.out.trans (b1.mono HB2.out.size)⟩
      · have bt : ¬ (t : Int) < (ns.length : Int) := by omega
        have HF2 : Hid (true = R) := by
          have := GF.out
          rw [List.drop_eq_nil_of_le (by omega)] at this
          exact this
        go_wp2_with fail
        go_ret
        exact ⟨ret_int (by rw [← HX.out, ← HF2.out]; rfl), GB.out⟩
  · rw [if_neg hln]
    have hq : ((ls.length : Int) != (ns.length : Int)) = true := by simp; omega
    clear hln
    go_enter Try.func17, Try.ntmps17
    go_wp2_with fail
    go_ret
    exact ⟨rfl, HB.out⟩

def wholeP (p : Pt) : Bool := p.its.any endB
def wholeB (ls : List En) : Bool := ls.all fun e => e.pts.all wholeP
set_option maxHeartbeats 1000000 in
set_option maxRecDepth 100000 in
theorem Whole_any {w : World} {u : Value} {ls : List En} (hl : LogIn w.heap.size w u ls) :
    Calls Try.prog 19 #[u] w fun e w' => e = .returned (.bool (wholeB ls)) ∧ Below w.heap.size w w' := by
  obtain ⟨la, lcp, rfl⟩ := hl.seg.shape
  have hlen := hl.seg.len
  have HL := hide hl
  clear hl
  obtain ⟨R, hR⟩ : ∃ R, wholeB ls = R := ⟨_, rfl⟩
  rw [hR]
  unfold wholeB at hR
  have HR := hide hR
  clear hR
  go_enter Try.func19, Try.ntmps19
  go_wp2_with fail
  go_loopg [9] (ls.length + 1) (fun g iv wr => ∃ t : Nat, iv = .int .i64 (t : Int) ∧ t ≤ ls.length ∧ ls.length + 1 ≤ g + t ∧ Hid (((ls.take t).all fun e => e.pts.all wholeP) = true) ∧ Hid (Below w.heap.size w wr))
  case atStart => exact ⟨0, rfl, by omega, by omega, rfl, Below.refl _ _⟩
  case round =>
    obtain ⟨t, rfl, ht, hg, GA, GB⟩ := hrel
    obtain ⟨go, rfl⟩ : ∃ go, gk = go + 1 := ⟨gk - 1, by omega⟩
    by_cases hlt : t < ls.length
    · obtain ⟨e, he⟩ := get_of_lt hlt
      have bt : (t : Int) < (ls.length : Int) := by omega
      obtain ⟨lb, lo, rfl, llt, e0⟩ := LSeg.one (f := fun e : En => Value.slice e.a e.pts.length e.c) (HL.out.below GB.out).seg he
      have HP := hide (HL.out.pts e (List.mem_of_getElem? he))
      have hplen := HP.out.seg.len
      have hall := hide (allP_take (f := fun e : En => e.pts.all wholeP) he GA.out)
      have hnot : Hid (e.pts.all wholeP = false → R = false) := fun h => HR.out.symm.trans (allP_not (f := fun e : En => e.pts.all wholeP) he h)
      clear he
      obtain ⟨ya, yc, yp⟩ := e
      simp only at e0 HP hplen hall hnot
      obtain ⟨Q, hQ⟩ : ∃ Q, yp.all wholeP = Q := ⟨_, rfl⟩
      rw [hQ] at hall hnot
      have HQ := hide hQ
      clear hQ
      go_wp2_with fail
      go_loopg [15] (yp.length + 1) (fun g iv wi => ∃ s : Nat, iv = .int .i64 (s : Int) ∧ s ≤ yp.length ∧ yp.length + 1 ≤ g + s ∧ Hid ((yp.take s).all wholeP = true) ∧ Hid (Below w.heap.size w wi))
      case atStart => exact ⟨0, rfl, by omega, by omega, rfl, GB⟩
      case round =>
        clear GB e0
        obtain ⟨s, rfl, hs, hgs, GS, GB⟩ := hrel
        obtain ⟨gi, rfl⟩ : ∃ gi, gk = gi + 1 := ⟨gk - 1, by omega⟩
        by_cases hls : s < yp.length
        · obtain ⟨x, hx⟩ := get_of_lt hls
          have bs : (s : Int) < (yp.length : Int) := by omega
          obtain ⟨pb, po, rfl, -, d0⟩ := LSeg.one (f := fun p : Pt => Value.slice p.a p.its.length p.c) (HP.out.below GB.out).seg hx
          have hxi := (HP.out.below GB.out).its x (List.mem_of_getElem? hx)
          have HCF := hide (hasItem_any (.inl rfl) end_any (hxi.mono GB.out.size))
          have hal2 := hide (allP_take (f := wholeP) hx GS.out)
          have hno2 : Hid (wholeP x = false → Q = false) := fun h => HQ.out.symm.trans (allP_not hx h)
          have hpk : wholeP x = x.its.any endB := rfl
          rw [hpk] at hal2 hno2
          clear hpk hx hxi
          obtain ⟨xa, xc, xi⟩ := x
          simp only at d0 HCF hal2 hno2
          obtain ⟨b, hb⟩ : ∃ b, xi.any endB = b := ⟨_, rfl⟩
          rw [hb] at HCF hal2 hno2
          clear hb
          cases b with
          | true =>
            clear hnot hno2
            go_wp2_with (go_at_call 32; refine HCF.out.mono ?_; rintro e w1 ⟨rfl, b1⟩)
            go_roundg gi
            case rel => exact ⟨s + 1, by go_num, by omega, by omega, hal2, GB.out.trans (b1.mono GB.out.size)⟩
            case measure => omega
          | false =>
            have HN := hide (hnot.out (hno2.out rfl))
            clear hnot hno2
            go_wp2_with (go_at_call 32; refine HCF.out.mono ?_; rintro e w1 ⟨rfl, b1⟩)
            go_ret
            exact ⟨ret_bool HN.out.symm, GB.out.trans (b1.mono GB.out.size)⟩
        · have bs : ¬ (s : Int) < (yp.length : Int) := by omega
          have HT : Hid (Q = true) := by
            have := GS.out
            rw [List.take_of_length_le (by omega)] at this
            exact HQ.out.symm.trans this
          have hal3 := hide (hall.out.trans HT.out)
          clear hnot
          go_wp2_with fail
          go_roundg go
          case rel => exact ⟨t + 1, by go_num, by omega, by omega, hal3, GB⟩
          case measure => omega
    · have bt : ¬ (t : Int) < (ls.length : Int) := by omega
      have HT : Hid (R = true) := by
        have := GA.out
        rw [List.take_of_length_le (by omega)] at this
        exact HR.out.symm.trans this
      go_wp2_with fail
      go_ret
      exact ⟨ret_bool HT.out.symm, GB.out⟩

def itemsP (ps : List Pt) : Nat := (ps.map fun p => p.its.length).sum
def itemsN (ls : List En) : Nat := (ls.map fun e => itemsP e.pts).sum
theorem sum_take {α : Type} {f : α → Nat} {l : List α} {t : Nat} {x : α} (hx : l[t]? = some x) : ((l.take (t + 1)).map f).sum = ((l.take t).map f).sum + f x := by
  have hl := lt_of_get hx
  rw [List.getElem?_eq_getElem hl] at hx
  cases hx
  rw [List.take_succ_eq_append_getElem hl, List.map_append, List.sum_append]
  simp
theorem sum_take_le {α : Type} (f : α → Nat) (l : List α) (t : Nat) : ((l.take t).map f).sum ≤ (l.map f).sum := by
  have : (l.map f).sum = ((l.take t).map f).sum + ((l.drop t).map f).sum := by
    rw [← List.sum_append, ← List.map_append, List.take_append_drop]
  omega
set_option maxHeartbeats 1000000 in
set_option maxRecDepth 100000 in
theorem Items_any {w : World} {u : Value} {ls : List En} (hl : LogIn w.heap.size w u ls) (hsm : itemsN ls ≤ 1000000) :
    Calls Try.prog 21 #[u] w fun e w' => e = .returned (.int .i64 (itemsN ls : Nat)) ∧ w = w' := by
  obtain ⟨la, lcp, rfl⟩ := hl.seg.shape
  have hlen := hl.seg.len
  have HL := hide hl
  clear hl
  obtain ⟨R, hR⟩ : ∃ R, itemsN ls = R := ⟨_, rfl⟩
  rw [hR] at hsm ⊢
  unfold itemsN at hR
  have HR := hide hR
  clear hR
  go_enter Try.func21, Try.ntmps21
  go_wp2_with fail
  go_loopg [3, 10] (ls.length + 1) (fun g nv iv wr => ∃ t : Nat, iv = .int .i64 (t : Int) ∧ nv = .int .i64 ((((ls.take t).map fun e => itemsP e.pts).sum : Nat) : Int) ∧ t ≤ ls.length ∧ ls.length + 1 ≤ g + t ∧ wr = w)
  case atStart => exact ⟨0, rfl, rfl, by omega, by omega, rfl⟩
  case round =>
    obtain ⟨t, rfl, rfl, ht, hg, rfl⟩ := hrel
    obtain ⟨go, rfl⟩ : ∃ go, gk = go + 1 := ⟨gk - 1, by omega⟩
    by_cases hlt : t < ls.length
    · obtain ⟨e, he⟩ := get_of_lt hlt
      have bt : (t : Int) < (ls.length : Int) := by omega
      obtain ⟨lb, lo, rfl, llt, e0⟩ := LSeg.one (f := fun e : En => Value.slice e.a e.pts.length e.c) HL.out.seg he
      have HP := hide (HL.out.pts e (List.mem_of_getElem? he))
      have hplen := HP.out.seg.len
      have hst := hide (sum_take (f := fun e : En => itemsP e.pts) he)
      have hle := sum_take_le (fun e : En => itemsP e.pts) ls (t + 1)
      rw [HR.out] at hle
      have HLE := hide hle
      clear he hle
      obtain ⟨ya, yc, yp⟩ := e
      simp only at e0 HP hplen hst HLE
      obtain ⟨q, hq⟩ : ∃ q, ((ls.take t).map fun e : En => itemsP e.pts).sum = q := ⟨_, rfl⟩
      rw [hq] at hst ⊢
      have hqs : q + itemsP yp ≤ 1000000 := by have := HLE.out; rw [hst.out] at this; omega
      clear hq
      go_wp2_with fail
      go_loopg [3, 16] (yp.length + 1) (fun g nv iv wi => ∃ s : Nat, iv = .int .i64 (s : Int) ∧ nv = .int .i64 (((q + ((yp.take s).map fun p => p.its.length).sum : Nat)) : Int) ∧ s ≤ yp.length ∧ yp.length + 1 ≤ g + s ∧ wi = wr)
      case atStart => exact ⟨0, rfl, rfl, by omega, by omega, rfl⟩
      case round =>
        obtain ⟨s, rfl, rfl, hs, hgs, rfl⟩ := hrel
        obtain ⟨gi, rfl⟩ : ∃ gi, gk = gi + 1 := ⟨gk - 1, by omega⟩
        by_cases hls : s < yp.length
        · obtain ⟨x, hx⟩ := get_of_lt hls
          have bs : (s : Int) < (yp.length : Int) := by omega
          obtain ⟨pb, po, rfl, -, d0⟩ := LSeg.one (f := fun p : Pt => Value.slice p.a p.its.length p.c) HP.out.seg hx
          have hst2 := hide (sum_take (f := fun p : Pt => p.its.length) hx)
          have hle2 := sum_take_le (fun p : Pt => p.its.length) yp (s + 1)
          rw [hst2.out] at hle2
          have hle3 : ((yp.take s).map fun p : Pt => p.its.length).sum + x.its.length ≤ itemsP yp := hle2
          clear hx hle2
          obtain ⟨xa, xc, xi⟩ := x
          simp only at d0 hst2 hle3
          obtain ⟨r, hr⟩ : ∃ r, ((yp.take s).map fun p : Pt => p.its.length).sum = r := ⟨_, rfl⟩
          rw [hr] at hst2 hle3 ⊢
          have hb1 : q + r + xi.length ≤ 1000000 := by omega
          clear hr
          push_cast
          go_wp2_with fail
          go_roundg gi
          case rel => exact ⟨s + 1, by go_num, by rw [hst2.out]; go_num, by omega, by omega, rfl⟩
          case measure => omega
        · have bs : ¬ (s : Int) < (yp.length : Int) := by omega
          have hse : ((yp.take s).map fun p : Pt => p.its.length).sum = itemsP yp := by rw [List.take_of_length_le (by omega)]; rfl
          rw [hse, ← hst.out]
          clear hse
          go_wp2_with fail
          go_roundg go
          case rel => exact ⟨t + 1, by go_num, by rw [List.map_take], by omega, by omega, rfl⟩
          case measure => omega
    · have bt : ¬ (t : Int) < (ls.length : Int) := by omega
      have hse : ((ls.take t).map fun e : En => itemsP e.pts).sum = R := by rw [List.take_of_length_le (by omega)]; exact HR.out
      rw [hse]
      clear hse
      go_wp2_with fail
      go_ret
      exact ⟨rfl, rfl⟩
end Go.Proofs.Ytecaghjddoajmaa
