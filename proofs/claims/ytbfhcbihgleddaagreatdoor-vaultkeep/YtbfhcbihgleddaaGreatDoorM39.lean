/-
  Texts of the vault, in build order: VBin, VGet, VWaste.
-/
import Derived.Test.YtbfhcbihgleddaaGreatDoorM38
/-
  The vault's place of a number: cmp.Compare, the binary search, at, Has.
-/
namespace Go.Proofs.YtbfhcbihgleddaaGreatDoor
open Go.RowKit

def cmpv (a t : Nat) : Int := if a < t then -1 else if t < a then 1 else 0
set_option maxRecDepth 100000 in
theorem isNaN_any (w : World) (a : Nat) : Calls Tryz.prog 60 #[.int .u64 (a : Int)] w fun e w' => e = .returned (.bool false) ∧ w' = w := by
  go_enter Tryz.func60, Tryz.ntmps60
  go_wp2
  go_ret
  exact ⟨by simp, rfl⟩
set_option maxRecDepth 100000 in
theorem Compare_any (w : World) (a t : Nat) : Calls Tryz.prog 35 #[.int .u64 (a : Int), .int .u64 (t : Int)] w fun e w' => e = .returned (.int .i64 (cmpv a t)) ∧ w' = w := by
  unfold cmpv
  by_cases h1 : a < t
  · rw [if_pos h1]
    have h1' : (a : Int) < t := by omega
    go_enter Tryz.func35, Tryz.ntmps35
    go_wp2_with (first | (go_at_call 60; refine (isNaN_any _ _).mono ?_; rintro e w1 ⟨rfl, rfl⟩) | fail)
    go_ret
    exact ⟨rfl, rfl⟩
  · rw [if_neg h1]
    have h1' : ¬ (a : Int) < t := by omega
    by_cases h2 : t < a
    · rw [if_pos h2]
      have h2' : (t : Int) < a := by omega
      go_enter Tryz.func35, Tryz.ntmps35
      go_wp2_with (first | (go_at_call 60; refine (isNaN_any _ _).mono ?_; rintro e w1 ⟨rfl, rfl⟩) | fail)
      go_ret
      exact ⟨rfl, rfl⟩
    · rw [if_neg h2]
      have h2' : ¬ (t : Int) < a := by omega
      go_enter Tryz.func35, Tryz.ntmps35
      go_wp2_with (first | (go_at_call 60; refine (isNaN_any _ _).mono ?_; rintro e w1 ⟨rfl, rfl⟩) | fail)
      go_ret
      exact ⟨rfl, rfl⟩
set_option maxRecDepth 100000 in
theorem at1_any (w : World) (a t : Nat) (e1 e2 e3 : Value) : Calls Tryz.prog 73 #[.agg #[.int .u64 (a : Int), e1, e2, e3], .int .u64 (t : Int)] w fun e w' => e = .returned (.int .i64 (cmpv a t)) ∧ Below w.heap.size w w' := by
  have ba : Below w.heap.size w (w.alloc (.cells #[.int .u64 (a : Int), e1, e2, e3] 84)) := (Below.refl _ _).alloc (Nat.le_refl _) _
  go_enter Tryz.func73, Tryz.ntmps73
  go_wp2_with fail
  refine (Compare_any _ a t).mono ?_
  rintro e w1 ⟨rfl, rfl⟩
  go_wp2
  go_ret
  exact ⟨rfl, ba⟩
/-- Numbers that rise. -/
def Srt (th : List SpV) : Prop := ∀ (i j : Nat) (x y : SpV), i < j → th[i]? = some x → th[j]? = some y → x.n < y.n
/-- i is the place of the first number that is not below t. -/
def Plc (th : List SpV) (t i : Nat) : Prop := i ≤ th.length ∧ ∀ (a : Nat) (x : SpV), th[a]? = some x → (a < i ↔ x.n < t)
def isAtN (th : List SpV) (t i : Nat) : Bool := match th[i]? with | some x => decide (x.n = t) | none => false
set_option maxHeartbeats 1000000 in
set_option maxRecDepth 100000 in
theorem bsearch_any {w : World} {base : Nat} {vt : Value} {th : List SpV} (hrow : Row 84 4 SpV.cs base w vt th) (hth : th.length ≤ 1000000) (hs : Srt th) (t : Nat) :
    Calls Tryz.prog 72 #[vt, .int .u64 (t : Int), .func (.func 73) #[] #[]] w fun e w' => (∃ i, Plc th t i ∧ e = .returned (.tuple #[.int .i64 (i : Nat), .bool (isAtN th t i)])) ∧ Below w.heap.size w w' := by
  obtain ⟨at1, ct1, hvt⟩ := hrow.shape
  subst hvt
  have HR := hide hrow
  have HS := hide hs
  clear hrow hs
  generalize hlt : th.length = m at *
  have HL := hide hlt
  clear hlt
  go_enter Tryz.func72, Tryz.ntmps72
  go_wp2_with fail
  go_loopw [9, 10, 11] (fun iv jv _ wr => ∃ (i j : Nat), i ≤ j ∧ j ≤ m ∧ iv = .int .i64 i ∧ jv = .int .i64 j ∧ Hid (Below w.heap.size w wr ∧ (∀ a x, a < i → th[a]? = some x → x.n < t) ∧ (∀ a x, j ≤ a → th[a]? = some x → t ≤ x.n))) (fun iv jv _ _ => (intOf jv).toNat - (intOf iv).toNat)
  case atStart => exact ⟨0, m, Nat.zero_le _, Nat.le_refl _, rfl, rfl, Below.refl _ _, fun a x ha => by omega, fun a x ha hx => by have := (List.getElem?_eq_some_iff.1 hx).1; have := HL.out; omega⟩
  case round =>
    obtain ⟨i, j, hij, hjm, rfl, rfl, HI⟩ := hrel
    by_cases hlt : i < j
    · obtain ⟨h, hh⟩ : ∃ h, (i + j) / 2 = h := ⟨_, rfl⟩
      have hh1 : i ≤ h := by omega
      have hh2 : h < j := by omega
      obtain ⟨x, hx⟩ : ∃ x, th[h]? = some x := ⟨_, List.getElem?_eq_getElem (by rw [HL.out]; omega)⟩
      obtain ⟨g, off, cap, e, hrd⟩ := (HR.out.below HI.out.1).read (fun _ => rfl) hx
      rw [HL.out] at e
      cases e
      have r0 := hrd 0 _ rfl
      have r1 := hrd 1 _ rfl
      have r2 := hrd 2 _ rfl
      have r3 := hrd 3 _ rfl
      simp only [SpV.vp, SpV.vc, Nat.add_zero, ← Nat.add_assoc] at r0 r1 r2 r3
      have HH := hide hh
      have HX := hide hx
      have hd : ((i : Int) + (j : Int)) / 2 = (h : Int) := by omega
      have hhm : h < m := by omega
      clear hrd hh hx
      go_wp2_with fail
      refine (at1_any wr x.n t _ _ _).mono ?_
      rintro e w2 ⟨rfl, b2⟩
      have B2 := hide (HI.out.1.trans (b2.mono HI.out.1.size))
      by_cases hc : x.n < t
      · have hcv : cmpv x.n t = -1 := by unfold cmpv; rw [if_pos hc]
        rw [hcv]
        clear r0 r1 r2 r3
        go_wp2
        go_roundw
        case rel =>
          refine ⟨h + 1, j, by omega, hjm, by go_num, rfl, B2.out, fun a y ha hy => ?_, HI.out.2.2⟩
          by_cases hah : a = h
          · subst hah
            have := HX.out
            rw [this] at hy
            cases hy
            exact hc
          · have := HS.out a h y x (by omega) hy HX.out
            omega
        case measure => simp [intOf]; omega
      · obtain ⟨cv, hcv, hc0⟩ : ∃ cv, cmpv x.n t = cv ∧ 0 ≤ cv := ⟨_, rfl, by unfold cmpv; rw [if_neg hc]; split <;> omega⟩
        rw [hcv]
        have hc1 : ¬ cv < 0 := by omega
        clear r0 r1 r2 r3 hcv
        go_wp2
        go_roundw
        case rel =>
          refine ⟨i, h, hh1, by omega, rfl, rfl, B2.out, HI.out.2.1, fun a y ha hy => ?_⟩
          by_cases hah : a = h
          · subst hah
            have := HX.out
            rw [this] at hy
            cases hy
            omega
          · have := HS.out h a x y (by omega) HX.out hy
            omega
        case measure => simp [intOf]; omega
    · obtain rfl : i = j := by omega
      have HP : Hid (Plc th t i) := ⟨by rw [HL.out]; exact hjm, fun a x hx => ⟨fun ha => HI.out.2.1 a x ha hx, fun hn => by
        by_cases ha : a < i
        · exact ha
        · have := HI.out.2.2 a x (by omega) hx; omega⟩⟩
      by_cases hlm : i < m
      · obtain ⟨x, hx⟩ : ∃ x, th[i]? = some x := ⟨_, List.getElem?_eq_getElem (by rw [HL.out]; omega)⟩
        obtain ⟨g, off, cap, e, hrd⟩ := (HR.out.below HI.out.1).read (fun _ => rfl) hx
        rw [HL.out] at e
        cases e
        have r0 := hrd 0 _ rfl
        have r1 := hrd 1 _ rfl
        have r2 := hrd 2 _ rfl
        have r3 := hrd 3 _ rfl
        simp only [SpV.vp, SpV.vc, Nat.add_zero, ← Nat.add_assoc] at r0 r1 r2 r3
        have hat : isAtN th t i = (cmpv x.n t == 0) := by
          unfold isAtN cmpv
          rw [hx]
          by_cases h1 : x.n < t
          · rw [if_pos h1]
            have : ¬ x.n = t := by omega
            simp [this]
          · rw [if_neg h1]
            by_cases h2 : t < x.n
            · rw [if_pos h2]
              have : ¬ x.n = t := by omega
              simp [this]
            · rw [if_neg h2]
              have : x.n = t := by omega
              simp [this]
        have HT := hide hat
        clear hrd hx hat
        go_wp2_with fail
        refine (at1_any wr x.n t _ _ _).mono ?_
        rintro e w2 ⟨rfl, b2⟩
        have B2 := hide (HI.out.1.trans (b2.mono HI.out.1.size))
        clear r0 r1 r2 r3
        generalize cmpv x.n t = cv at *
        go_wp2
        go_ret2
        exact ⟨⟨i, HP.out, by rw [HT.out]; rfl⟩, B2.out⟩
      · have hat : isAtN th t i = false := by
          unfold isAtN
          rw [List.getElem?_eq_none (by rw [HL.out]; omega)]
        have HT := hide hat
        clear hat
        have hge : ¬ ((i : Int) < m) := by omega
        go_wp2
        go_ret2
        exact ⟨⟨i, HP.out, by rw [HT.out]; rfl⟩, HI.out.1⟩
set_option maxRecDepth 100000 in
theorem at_any {w0 w : World} {V k b n : Nat} {p : Pd} {keep : Int} {vt vw : Value} {th : List SpV} {ws : List ByteArray} (h : VAt w0 w V k b n p keep vt vw th ws) (hth : th.length ≤ 1000000) (hs : Srt th) (t : Nat) :
    Calls Tryz.prog 42 #[.pointer (some ⟨V, 0, none⟩), .int .u64 (t : Int)] w fun e w' => (∃ i, Plc th t i ∧ e = .returned (.tuple #[.int .i64 (i : Nat), .bool (isAtN th t i)])) ∧ Below w.heap.size w w' := by
  obtain ⟨c0, c1, c2, c3⟩ := h.box.cells4
  have hb := bsearch_any h.tr hth hs t
  clear h hs
  go_enter Tryz.func42, Tryz.ntmps42
  go_wp2_with fail
  refine hb.mono ?_
  rintro e w1 ⟨⟨i, hi, rfl⟩, b1⟩
  go_wp2
  go_ret2
  exact ⟨⟨i, hi, rfl⟩, b1⟩
theorem plc_has {th : List SpV} {t i : Nat} (h : Plc th t i) (hs : Srt th) : isAtN th t i = th.any (fun x => x.n == t) := by
  unfold isAtN
  by_cases hx : ∃ x ∈ th, x.n = t
  · obtain ⟨x, hm, hn⟩ := hx
    obtain ⟨a, ha⟩ := List.getElem?_of_mem hm
    have h1 := (h.2 a x ha)
    have hal := (List.getElem?_eq_some_iff.1 ha).1
    have hil : i ≤ a := by by_cases hlt : a < i; · have := h1.1 hlt; omega
                           · omega
    obtain ⟨y, hy⟩ : ∃ y, th[i]? = some y := ⟨_, List.getElem?_eq_getElem (by omega)⟩
    have hyn := (h.2 i y hy)
    have hia : i = a := by
      by_cases e : i = a
      · exact e
      · have := hs i a y x (by omega) hy ha
        have := hyn.2 (by omega)
        omega
    subst hia
    rw [ha]
    rw [List.any_eq_true.2 ⟨x, hm, by simp [hn]⟩]
    simp [hn]
  · have h2 : th.any (fun x => x.n == t) = false := by
      rw [List.any_eq_false]
      intro x hm
      simp only [beq_iff_eq]
      exact fun e => hx ⟨x, hm, e⟩
    rw [h2]
    split
    · rename_i x hxi
      exact decide_eq_false (fun e => hx ⟨x, List.mem_of_getElem? hxi, e⟩)
    · rfl
set_option maxRecDepth 100000 in
theorem has_any {w0 w : World} {V k b n : Nat} {p : Pd} {keep : Int} {vt vw : Value} {th : List SpV} {ws : List ByteArray} (h : VAt w0 w V k b n p keep vt vw th ws) (hth : th.length ≤ 1000000) (hs : Srt th) (t : Nat) :
    Calls Tryz.prog 15 #[.pointer (some ⟨V, 0, none⟩), .int .u64 (t : Int)] w fun e w' => e = .returned (.bool (th.any (fun x => x.n == t))) ∧ Below w.heap.size w w' := by
  have hb := at_any h hth hs t
  have HS := hide hs
  clear h hs
  go_enter Tryz.func15, Tryz.ntmps15
  go_wp2_with fail
  refine hb.mono ?_
  rintro e w1 ⟨⟨i, hi, rfl⟩, b1⟩
  rw [plc_has hi HS.out]
  go_wp2
  go_ret
  exact ⟨rfl, b1⟩
end Go.Proofs.YtbfhcbihgleddaaGreatDoor
/-
  The vault's Get.
-/
namespace Go.Proofs.YtbfhcbihgleddaaGreatDoor
open Go.RowKit

/-- All parts of the chunks. -/
def gotS (ls : List (List Nat)) : List Sn := ls.flatMap fun l => (unpk l).getD []
theorem gotS_append (a b : List (List Nat)) : gotS (a ++ b) = gotS a ++ gotS b := by simp [gotS]
theorem stop_here {p : Prop} (h : Hid p) : p := h
theorem OwnL.put {α : Type} {t sz : Nat} {cs : α → List Value} {base : Nat} {w : World} {v : Value} {xs : List α} (h : OwnL t sz cs base w v xs) (hx : xs ≠ []) : ∃ g cap, v = .slice (some ⟨g, 0, none⟩) xs.length cap ∧ ∀ j u, (xs.flatMap cs)[j]? = some u → w.cell? ⟨g, j, none⟩ = some u := by
  rcases h.2 with ⟨_, h0⟩ | ⟨g, cap, cur, h1, h2, h3, h4, h5, h6, h7⟩
  · exact absurd (List.length_eq_zero_iff.1 h0) hx
  · refine ⟨g, cap, h1, fun j u hj => ?_⟩
    have hb : BoxT t w g cur := h3
    rw [hb.cellAt]
    rw [← h7, List.getElem?_take] at hj
    split at hj
    · simpa using hj
    · cases hj
/-- append's law: all of ys behind xs. -/
theorem app_ownLs {α : Type} {t sl sz by_ : Nat} {z : Value} {cs : α → List Value} (hinfo : (Tryz.prog.info? t).map (fun i => (i.zero, i.size, i.bytes)) = some (some z, sz, by_)) (hund : Tryz.prog.underlying sl = some (.slice t)) (hz : z.cells.size = sz) (hsz : 0 < sz) (hby : by_ ≤ 100)
    (hcs : ∀ x, (cs x).length = sz) (h1c : ∀ x, ∀ u ∈ cs x, u.oneCell' = true)
    {w : World} {ops : Array Oper} {rest : List Oper} {o : Oper} {a : Act} {Q : Exit → Act → World → Prop} (hgd : o.guard = none) (s x : Operand)
    (ho : o.op = .call { callee := .builtin .append, args := #[s, x], argTypes := #[sl, sl] }) (base : Nat) (v : Value) (xs : List α) (hs : a.eval s = v) (hown : OwnL t sz cs base w v xs)
    (base2 : Nat) (v2 : Value) (ys : List α) (hx : a.eval x = v2) (hown2 : OwnL t sz cs base2 w v2 ys) (hne : ys ≠ []) (hl : xs.length + ys.length ≤ 1000000) (hbase : base ≤ w.heap.size)
    (h : ∀ v' w', OwnL t sz cs base w' v' (xs ++ ys) → w.grownBy w' v.ownBlock → wpList Tryz.prog ops Q rest (a.put o.dst v') w') : wpList Tryz.prog ops Q (o :: rest) a w := by
  obtain ⟨i0, hi, hz0, hz1, hz2⟩ := info_parts hinfo
  obtain ⟨g, cap, rfl, hc⟩ := hown2.put hne
  refine wpList_append_own w hgd s x sl ho base t i0 z sz by_ hund hi hz0 hz1 hz2 hz hsz v xs.length (xs.flatMap cs) hs hown ⟨g, 0, none⟩ ys.length cap (ys.flatMap cs) hx (flat_size hcs ys) ?_ ?_ ?_ ?_ hbase ?_
  · intro j u hj
    rw [show (⟨g, 0, none⟩ : Addr).add j = ⟨g, j, none⟩ by unfold Addr.add; split <;> simp_all]
    exact hc j u hj
  · intro u hu
    simp only [List.mem_flatMap] at hu
    obtain ⟨y, _, hu⟩ := hu
    exact h1c y u hu
  · unfold maxLen; omega
  · have : (xs.length + ys.length) * by_ ≤ 1000001 * 100 := Nat.mul_le_mul (by omega) hby
    omega
  · intro v' w' h1 h2 _
    refine h v' w' ?_ h2
    show w'.ownsRow base t sz v' (xs ++ ys).length ((xs ++ ys).flatMap cs)
    rw [List.length_append, List.flatMap_append]; exact h1
/-- In the midst of Get. -/
structure GI (w wr : World) (v : Value) (xs : List SnV) (ls : List (List Nat)) : Prop where
  own : OwnL 27 6 SnV.cs w.heap.size wr v xs
  oks : ∀ x ∈ xs, x.ok w.heap.size wr
  bel : Below w.heap.size w wr
  is : xs.map SnV.s = gotS ls
set_option maxHeartbeats 2000000 in
set_option maxRecDepth 100000 in
theorem getN_any {w0 w : World} {V k b n : Nat} {p : Pd} {keep : Int} {vt vw : Value} {th : List SpV} {ws : List ByteArray} (h : VAt w0 w V k b n p keep vt vw th ws) (hth : th.length ≤ 1000000) (hs : Srt th) (t : Nat) (hno : ∀ x ∈ th, x.n ≠ t) :
    Calls Tryz.prog 25 #[.pointer (some ⟨V, 0, none⟩), .int .u64 (t : Int)] w fun e w' => e = .returned (.tuple #[.slice none 0 0, .int .u64 0, .int .i64 30]) ∧ Below w.heap.size w w' := by
  have hb := at_any h hth hs t
  have HS := hide hs
  have HN : Hid (th.any (fun x => x.n == t) = false) := by
    show _ = _
    rw [List.any_eq_false]
    intro x hm
    simp only [beq_iff_eq]
    exact hno x hm
  clear h hs hno
  go_enter Tryz.func25, Tryz.ntmps25
  go_wp2_with fail
  refine hb.mono ?_
  rintro e w1 ⟨⟨i, hi, rfl⟩, b1⟩
  rw [plc_has hi HS.out, HN.out]
  go_wp2
  go_ret3
  exact ⟨rfl, b1⟩
set_option maxHeartbeats 2000000 in
set_option maxRecDepth 100000 in
theorem get_any {w0 w : World} {V k b n : Nat} {p : Pd} {keep : Int} {vt vw : Value} {th : List SpV} {ws : List ByteArray} (h : VAt w0 w V k b n p keep vt vw th ws) (hg : Glob w0) (hth : th.length ≤ 1000000) (hs : Srt th) (x : SpV) (hx : x ∈ th) (hck : ∀ c ∈ x.ck, c.l.length ≤ 2000000 ∧ Byts c.l) (hkl : x.ck.length ≤ 1000000) (htot : (gotS (x.ck.map Ck.l)).length ≤ 1000000) :
    Calls Tryz.prog 25 #[.pointer (some ⟨V, 0, none⟩), .int .u64 (x.n : Int)] w fun e w' => ∃ v xs, e = .returned (.tuple #[v, .int .u64 x.ep, .int .i64 0]) ∧ GI w w' v xs (x.ck.map Ck.l) := by
  obtain ⟨xn, xep, xps, xap, xcp, xck, xac, xcc⟩ := x
  dsimp only at hck hkl htot ⊢
  have hb := at_any h hth hs xn
  have HS := hide hs
  have HX := hide hx
  have HV := hide h
  have HC := hide hck
  have HT := hide htot
  obtain ⟨c0, c1, c2, c3⟩ := h.box.cells4
  obtain ⟨ta, tc, hvt⟩ := h.tr.shape
  subst hvt
  have hVl := h.box.lt
  have hgw : Hid (Glob w) := hg.below h.st.since hg.1
  clear h hs hx hck htot hg
  go_enter Tryz.func25, Tryz.ntmps25
  go_wp2_with fail
  refine hb.mono ?_
  rintro e w1 ⟨⟨i, hi, rfl⟩, b1⟩
  clear hb
  have hany : th.any (fun y => y.n == xn) = true := List.any_eq_true.2 ⟨_, HX.out, by simp⟩
  have hisat := plc_has hi HS.out
  rw [hany] at hisat
  have hxi : th[i]? = some ⟨xn, xep, xps, xap, xcp, xck, xac, xcc⟩ := by
    obtain ⟨a, ha⟩ := List.getElem?_of_mem HX.out
    unfold isAtN at hisat
    split at hisat
    · rename_i y hy
      have hyn : y.n = xn := by simpa using hisat
      by_cases hia : i = a
      · subst hia; exact ha
      · rcases Nat.lt_or_gt_of_ne hia with hl | hl
        · have := HS.out i a y _ hl hy ha; dsimp only at this; omega
        · have := HS.out a i _ y hl ha hy; dsimp only at this; omega
    · cases hisat
  rw [hisat]
  have HI := hide hxi
  have hil := (List.getElem?_eq_some_iff.1 hxi).1
  clear hany hisat hi hxi
  have B1 := hide b1
  have hz1 := b1.size
  obtain ⟨g, off, cap, e, hrd⟩ := (HV.out.tr.below b1).read (fun _ => rfl) HI.out
  cases e
  have r1 := hrd 1 _ rfl
  have r3 := hrd 3 _ rfl
  simp only [SpV.vc, ← Nat.add_assoc] at r1 r3
  have d2 : w1.cell? ⟨V, 2, none⟩ = some (.slice (some ⟨g, off, none⟩) th.length tc) := (b1.cell (p := ⟨V, 2, none⟩) hVl).trans c2
  have hgl : g < w.heap.size := by
    obtain ⟨cur, hc⟩ := HV.out.tr.has g rfl
    exact hc.lt
  have HK : Hid (OwnL 22 1 Ck.cs w0.heap.size w (.slice xac xck.length xcc) xck ∧ ∀ c ∈ xck, c.ok w0.heap.size w) := ⟨(HV.out.oks _ HX.out).c, (HV.out.oks _ HX.out).ks⟩
  have H0 : Hid (GI w w1 (.slice none 0 0) [] ((xck.take 0).map Ck.l)) := ⟨OwnL.nil _ _ _ _ _, (fun x hx => by cases hx), b1, rfl⟩
  clear hrd b1 c0 c1 c2 c3
  go_wp2_with fail
  go_loopw [9, 31] (fun sv iv wr => ∃ (j : Nat) (xs : List SnV), j ≤ xck.length ∧ iv = .int .i64 j ∧ Hid (GI w wr sv xs ((xck.take j).map Ck.l))) (fun _ iv _ => xck.length - (intOf iv).toNat)
  case atStart => exact ⟨0, [], Nat.zero_le _, rfl, H0.out⟩
  case round =>
    clear H0 r1 r3 d2
    obtain ⟨j, xs, hj, rfl, HG⟩ := hrel
    by_cases hlt : j < xck.length
    · obtain ⟨c, hc⟩ : ∃ c, xck[j]? = some c := ⟨_, List.getElem?_eq_getElem hlt⟩
      have hcm := List.mem_of_getElem? hc
      obtain ⟨gc, cc, e, hcc⟩ := HK.out.1.put (by intro e; rw [e] at hlt; simp at hlt)
      cases e
      have hgc : gc < w.heap.size := HK.out.1.lt gc rfl
      have k0 : w.cell? ⟨gc, j, none⟩ = some c.v := hcc j _ (by simpa using flat_get (sz := 1) (fun _ => rfl) xck j 0 c c.v hc rfl)
      have k1 : wr.cell? ⟨gc, j, none⟩ = some (.slice c.a c.l.length c.c) := (HG.out.bel.cell (p := ⟨gc, j, none⟩) hgc).trans k0
      have hown : Own w0.heap.size wr (.slice c.a c.l.length c.c) c.l := (HK.out.2 c hcm).below HG.out.bel
      obtain ⟨hcl, hcb⟩ := HC.out c hcm
      have hun := unpack_any _ c.l wr (hown.seg (by omega)) hcb (hgw.out.below HG.out.bel hgw.out.1) hcl
      have hz := HG.out.bel.size
      have htake : (xck.take (j + 1)).map Ck.l = (xck.take j).map Ck.l ++ [c.l] := by
        rw [List.take_succ_eq_append_getElem hlt, List.map_append]
        have : xck[j] = c := by rw [List.getElem?_eq_getElem hlt] at hc; exact Option.some.inj hc
        rw [this]; rfl
      have hgs : gotS ((xck.take (j + 1)).map Ck.l) = gotS ((xck.take j).map Ck.l) ++ (unpk c.l).getD [] := by
        rw [htake]; simp [gotS]
      have hpre : (gotS ((xck.take (j + 1)).map Ck.l)).length ≤ 1000000 := by
        have h1 := HT.out
        have h2 : (gotS (xck.map Ck.l)).length = (gotS ((xck.take (j + 1)).map Ck.l)).length + (gotS ((xck.drop (j + 1)).map Ck.l)).length := by
          conv => lhs; rw [← List.take_append_drop (j + 1) xck]
          rw [List.map_append, gotS_append, List.length_append]
        omega
      rw [hgs, List.length_append] at hpre
      obtain ⟨sa, sc, hsv⟩ := HG.out.own.shape
      subst hsv
      have hxl : xs.length = (gotS ((xck.take j).map Ck.l)).length := by rw [← HG.out.is, List.length_map]
      have HGS := hide hgs
      have HXL := hide hxl
      clear hc hcm hcc k0 hown hcl hcb htake hgs hxl
      go_wp2_with fail
      refine hun.mono ?_
      rintro e w2 h2
      rcases h2 with ⟨ys, v', hr, hne, rfl, ho, hoks, b2⟩ | ⟨hr, rfl, b2⟩
      · have hyl : ys.length = ((unpk c.l).getD []).length := by rw [hr]; simp
        have hsum : xs.length + ys.length ≤ 1000000 := by rw [HXL.out, hyl]; exact hpre
        obtain ⟨ya, yc, hyv⟩ := ho.shape
        subst hyv
        have HO := hide (HG.out.own.below b2)
        have HY := hide ho
        have HOK := hide hoks
        have HB2 := hide (HG.out.bel.trans (b2.mono hz))
        have HXO : Hid (∀ x ∈ xs, x.ok w.heap.size w2) := fun x hx => (HG.out.oks x hx).below b2
        have HR := hide hr
        have hz2 := HB2.out.size
        clear hun ho hoks b2 hr k1 hyl
        go_wp2_with (first | (at_builtin; refine stop_here ?_) | fail)
        refine app_ownLs Tryz.info27 Tryz.underlying30 rfl (by decide) (by decide) (fun _ => rfl) (fun z u hu => by simp [SnV.cs] at hu; rcases hu with h | h | h | h | h | h <;> subst h <;> rfl) rfl _ _ rfl w.heap.size (.slice sa xs.length sc) xs rfl HO.out wr.heap.size (.slice ya ys.length yc) ys rfl HY.out hne hsum hz2 ?_
        intro v3 w3 o3 g3
        obtain ⟨va, vc, hv3⟩ := o3.shape
        have HN : Hid (GI w w3 v3 (xs ++ ys) ((xck.take (j + 1)).map Ck.l)) := by
          refine ⟨o3, fun x hx => ?_, HO.out.bel HB2.out g3 hz2, ?_⟩
          · rcases List.mem_append.1 hx with hx | hx
            · exact (HXO.out x hx).rowed HO.out g3
            · exact OwnSn.mono ((HOK.out x hx).rowed HO.out g3) hz
          · rw [List.map_append, HG.out.is, HGS.out, HR.out]; rfl
        clear o3 g3 HO HY HOK HXO HR
        subst hv3
        rw [List.length_append] at HN
        go_wp2
        go_roundw
        case rel => exact ⟨j + 1, xs ++ ys, by omega, by go_num, HN.out⟩
        case measure => simp [intOf]; omega
      · have HR : Hid ((unpk c.l).getD [] = []) := by
          show _ = _
          rcases hr with hr | hr <;> rw [hr] <;> rfl
        have HO := hide (HG.out.own.below b2)
        have HB2 := hide (HG.out.bel.trans (b2.mono hz))
        have HN : Hid (GI w w2 (.slice sa xs.length sc) xs ((xck.take (j + 1)).map Ck.l)) :=
          ⟨HO.out, fun x hx => (HG.out.oks x hx).below b2, HB2.out, by rw [HG.out.is, HGS.out, HR.out, List.append_nil]⟩
        clear hun b2 hr k1 HG
        go_wp2_with (first | (at_builtin; refine wpList_append_none_any rfl _ _ 30 rfl w.heap.size 27 _ 6 Tryz.underlying30 (info_parts Tryz.info27).choose_spec.1 (.slice sa xs.length sc) xs.length _ rfl HO.out 0 rfl ?_) | fail)
        go_roundw
        case rel => exact ⟨j + 1, xs, by omega, by go_num, HN.out⟩
        case measure => simp [intOf]; omega
    · obtain rfl : j = xck.length := by omega
      rw [List.take_length] at HG
      obtain ⟨sa, sc, hsv⟩ := HG.out.own.shape
      subst hsv
      obtain ⟨g2, off2, cap2, e, hrd⟩ := (HV.out.tr.below HG.out.bel).read (fun _ => rfl) HI.out
      cases e
      have r1 := hrd 1 _ rfl
      simp only [← Nat.add_assoc] at r1
      have d2 : wr.cell? ⟨V, 2, none⟩ = some (.slice (some ⟨g, off, none⟩) th.length tc) := (HG.out.bel.cell (p := ⟨V, 2, none⟩) hVl).trans HV.out.box.cells4.2.2.1
      clear hrd
      go_wp2
      go_quiet (fail)
      go_wp2
      go_ret3
      have hq := below_drewN' (Below.refl wr.heap.size wr) nq
      exact ⟨_, xs, rfl, HG.out.own.below hq, fun x hx => (HG.out.oks x hx).below hq, below_drewN' HG.out.bel nq, HG.out.is⟩
end Go.Proofs.YtbfhcbihgleddaaGreatDoor
/-
  The vault's wasted: names that are held, as a map; the names that are waste.
-/
namespace Go.Proofs.YtbfhcbihgleddaaGreatDoor
open Go.RowKit Go.Maps

/-- How nothing reads. -/
def unitR (v : Value) : Option (DataW Unit × List MemPlace) := match v with | .agg ⟨[]⟩ => some (.agg [], []) | _ => none
theorem unitR_mk : unitR (.agg #[]) = some (.agg [], []) := rfl
theorem unitR_inv {v : Value} {d : DataW Unit} {ps : List MemPlace} (h : unitR v = some (d, ps)) : v = .agg #[] := by
  unfold unitR at h
  split at h
  · rfl
  · cases h
/-- Is a name among these? -/
def inH (hd : List ByteArray) (s : ByteArray) : Bool := hd.any fun x => nm x == nm s
/-- A variable c that has a map of just the names hd. -/
structure HS (w : World) (c mb n : Nat) (hd : List ByteArray) : Prop where
  box : BoxT 119 w c #[.map (some mb)]
  map : ∃ D, w.ownsMap Tryz.prog 9 unitR mb n D ∧ ∀ s : ByteArray, s.size ≤ maxLen → has D (key s) = inH hd s
theorem HS.lt {w : World} {c mb n : Nat} {hd : List ByteArray} (h : HS w c mb n hd) : mb < w.heap.size := by
  obtain ⟨D, h1, _⟩ := h.map
  exact h1.lt
theorem HS.back {w w' : World} {c mb n : Nat} {hd : List ByteArray} (h : HS w c mb n hd) (hc : w'.heap[c]? = w.heap[c]?) (hm : w'.heap[mb]? = w.heap[mb]?) : HS w' c mb n hd := by
  obtain ⟨D, ⟨es, clock, h1, h2⟩, h3⟩ := h.map
  exact ⟨by have := h.box; unfold BoxT at *; rw [hc]; exact this, D, ⟨es, clock, hm.trans h1, h2⟩, h3⟩
theorem HS.below {w w' : World} {c mb n : Nat} {hd : List ByteArray} (h : HS w c mb n hd) (hb : Below w.heap.size w w') : HS w' c mb n hd := h.back (hb.block c h.box.lt) (hb.block mb h.lt)
theorem Tryz.zero120 (w : World) : (zeroValue 120).run Tryz.prog w = .ok (.agg #[]) w := by
  have h : (Tryz.prog.info? 120).map (fun i => i.zero) = some (some (.agg #[])) := by kernel_rfl
  obtain ⟨i, hi, hz⟩ := Option.map_eq_some_iff.1 h
  simp [zeroValue, typeInfo, hi, hz]
/-- Is it waste? -/
def isW (hd : List ByteArray) (s : ByteArray) : Bool := inH hd s || !ownN (nm s)
set_option maxHeartbeats 1000000 in
set_option maxRecDepth 100000 in
theorem keep_any {w : World} {c mb n : Nat} {hd : List ByteArray} (h : HS w c mb n hd) (s : ByteArray) (hs : s.size ≤ maxLen) :
    Calls Tryz.prog 63 #[.string s, .pointer (some ⟨c, 0, none⟩)] w fun e w' => e = .returned (.bool (isW hd s)) ∧ Below w.heap.size w w' := by
  obtain ⟨D, hm, hD⟩ := h.map
  obtain ⟨v, ps, hlk, hv⟩ := hm.look_ok (string_keyed Tryz.underlying9) Tryz.underlying119 (Tryz.zero120 w) unitR_mk (keyOf_name hs)
  have hv' := unitR_inv hv
  subst hv'
  rw [hD s hs] at hlk
  have c0 : w.cell? ⟨c, 0, none⟩ = some (.map (some mb)) := by
    have := h.box
    unfold BoxT at this
    simp [World.cell?, this]
  have ba : Below w.heap.size w (w.alloc (.cells #[] 120)) := (Below.refl _ _).alloc (Nat.le_refl _) _
  have BA := hide ba
  clear h hm hD hv ba
  unfold isW
  cases hin : inH hd s
  · rw [hin] at hlk
    go_enter Tryz.func63, Tryz.ntmps63
    go_wp2_with fail
    generalize w.alloc (.cells #[] 120) = w1 at *
    go_at_call 64
    refine (own_any s hs w1).mono ?_
    rintro e w2 ⟨rfl, rfl⟩
    go_wp2
    go_ret
    exact ⟨by simp, BA.out⟩
  · rw [hin] at hlk
    go_enter Tryz.func63, Tryz.ntmps63
    go_wp2
    go_ret
    exact ⟨rfl, BA.out⟩
end Go.Proofs.YtbfhcbihgleddaaGreatDoor
