/-
  The document's log: as it lies, Last.
-/
import Derived.Test.YteafnohponbbeaaKLaw
namespace Go.Proofs.Yteafnohponbbeaa
open Go.RowKit

/-- A transaction of the document's log as it lies. -/
structure Dx where
  pa : Int
  n : Nat
  a : Option Addr
  c : Nat
  rs : List Rc
  dn : Bool
def Dx.v (x : Dx) : Value := .slice x.a x.rs.length x.c
def Dx.cs (x : Dx) : List Value := [.int .i64 x.pa, .int .u64 (x.n : Int), x.v, .bool x.dn]
theorem Dx.cs_len (x : Dx) : x.cs.length = 4 := rfl
theorem Dx.cs_one (x : Dx) : ∀ u ∈ x.cs, u.oneCell' = true := by
  intro u hu
  simp only [Dx.cs, List.mem_cons, List.not_mem_nil, or_false] at hu
  rcases hu with rfl | rfl | rfl | rfl <;> rfl
theorem Try.infoDx : (Try.prog.info? 71).map (fun i => (i.zero, i.size, i.bytes)) = some (some (.agg #[.int .i64 0, .int .u64 0, .slice none 0 0, .bool false]), 4, 48) := by kernel_rfl
/-- Plainly. -/
structure Dp where
  pa : Int
  n : Nat
  rs : List Rc
  dn : Bool
def Dx.pr (x : Dx) : Dp := ⟨x.pa, x.n, x.rs, x.dn⟩
theorem LSeg.dx {B : Nat} {w : World} {ao : Option Addr} {n cap : Nat} {xs : List Dx} (h : LSeg 4 Dx.cs B w (.slice ao n cap) xs) {i : Nat} {x : Dx} (hx : xs[i]? = some x) : ∃ b o, ao = some ⟨b, o, none⟩ ∧ b < B ∧ w.cell? ⟨b, o + i * 4, none⟩ = some (.int .i64 x.pa) ∧ w.cell? ⟨b, o + i * 4 + 1, none⟩ = some (.int .u64 (x.n : Int)) ∧ w.cell? ⟨b, o + i * 4 + 2, none⟩ = some x.v ∧ w.cell? ⟨b, o + i * 4 + 3, none⟩ = some (.bool x.dn) := by
  obtain ⟨b, o, e, hb, _, d⟩ := h.readAt hx
  exact ⟨b, o, e, hb, d 0 _ rfl, d 1 _ rfl, d 2 _ rfl, d 3 _ rfl⟩
/-- The document's log as it lies. -/
structure RG (w : World) (r : Nat) (lv ov : Value) (fq : Nat → Prop) (D : List Dx) (O : List Rc) : Prop where
  box : BoxT 31 w r #[lv, ov]
  row : OwnL 71 4 Dx.cs 0 w lv D
  out : OwnL 39 3 Rc.cs 0 w ov O
  oks : ∀ x ∈ D, OwnL 39 3 Rc.cs 0 w x.v x.rs
  xf : ∀ x ∈ D, ∀ g, x.v.ownBlock = some g → fq g
  lf : ∀ g, lv.ownBlock = some g → fq g
  of : ∀ g, ov.ownBlock = some g → fq g
  ap : ∀ x ∈ D, ∀ g, x.v.ownBlock = some g → ov.ownBlock ≠ some g
  flt : ∀ i, fq i → i < w.heap.size
  nr : ¬ fq r
theorem RG.back {w w' : World} {r : Nat} {lv ov : Value} {fq : Nat → Prop} {D : List Dx} {O : List Rc} (h : RG w r lv ov fq D O) (hb : ∀ i, (i = r ∨ fq i) → w'.heap[i]? = w.heap[i]?) (hs : w.heap.size ≤ w'.heap.size) : RG w' r lv ov fq D O :=
  { box := h.box.back (hb r (.inl rfl)), row := h.row.back (fun g e => hb g (.inr (h.lf g e))), out := h.out.back (fun g e => hb g (.inr (h.of g e))), oks := fun x hx => (h.oks x hx).back (fun g e => hb g (.inr (h.xf x hx g e))), xf := h.xf, lf := h.lf, of := h.of, ap := h.ap, flt := fun i hi => Nat.lt_of_lt_of_le (h.flt i hi) hs, nr := h.nr }
theorem RG.below {w w' : World} {r : Nat} {lv ov : Value} {fq : Nat → Prop} {D : List Dx} {O : List Rc} (h : RG w r lv ov fq D O) (hb : Below w.heap.size w w') : RG w' r lv ov fq D O :=
  h.back (fun i hi => hb.block i (by rcases hi with rfl | hi; exact h.box.lt; exact h.flt i hi)) hb.size
/-- What is summed up: a part's greatest that is done; its numbers that are not; its records up to a number; what an abort leaves. -/
def dLast (d : List Dp) (k : Int) : Nat := d.foldl (fun m x => if x.pa = k ∧ x.dn = true then max m x.n else m) 0
def dStg (d : List Dp) (k : Int) : List Nat := (d.filter fun x => decide (x.pa = k) && !x.dn).map Dp.n
def dUp (d : List Dp) (k : Int) (n : Nat) : List Rc := ((d.filter fun x => decide (x.pa = k) && decide (x.n ≤ n)).map Dp.rs).flatten
def dAb (d : List Dp) (k : Int) (n : Nat) : List Dp := d.filter fun x => !decide (x.pa = k) || x.dn || decide (x.n ≤ n)
theorem last_snoc (d : List Dp) (k : Int) (x : Dp) : dLast (d ++ [x]) k = if x.pa = k ∧ x.dn = true then max (dLast d k) x.n else dLast d k := by
  unfold dLast; rw [List.foldl_append]; rfl
theorem stg_snoc (d : List Dp) (k : Int) (x : Dp) : dStg (d ++ [x]) k = if (decide (x.pa = k) && !x.dn) = true then dStg d k ++ [x.n] else dStg d k := by
  unfold dStg; rw [List.filter_append]
  cases h : (decide (x.pa = k) && !x.dn) <;> simp [h]
theorem up_snoc (d : List Dp) (k : Int) (n : Nat) (x : Dp) : dUp (d ++ [x]) k n = if (decide (x.pa = k) && decide (x.n ≤ n)) = true then dUp d k n ++ x.rs else dUp d k n := by
  unfold dUp; rw [List.filter_append]
  cases h : (decide (x.pa = k) && decide (x.n ≤ n)) <;> simp [h]
theorem take_snoc {α : Type} {l : List α} {i : Nat} {x : α} (h : l[i]? = some x) : l.take (i + 1) = l.take i ++ [x] := by
  obtain ⟨h1, rfl⟩ := List.getElem?_eq_some_iff.1 h
  exact List.take_succ_eq_append_getElem h1
theorem map_take_snoc {D : List Dx} {i : Nat} {x : Dx} (h : D[i]? = some x) : (D.take (i + 1)).map Dx.pr = (D.take i).map Dx.pr ++ [x.pr] := by
  rw [take_snoc h, List.map_append]; rfl
set_option maxHeartbeats 4000000 in
set_option maxRecDepth 100000 in
theorem rLast_any {w : World} {r : Nat} {lv ov : Value} {fq : Nat → Prop} {D : List Dx} {O : List Rc} (h : RG w r lv ov fq D O) (hn : D.length ≤ 500000) (k : Int) :
    Calls Try.prog 20 #[.pointer (some ⟨r, 0, none⟩), .int .i64 k] w fun e w' => e = .returned (.int .u64 (dLast (D.map Dx.pr) k : Int)) ∧ Below w.heap.size w w' := by
  obtain ⟨la, lc, rfl⟩ := h.row.shape
  have HG := hide h
  have hlen := hn
  clear h
  go_enter Try.func20, Try.ntmps20
  go_wp2_with fail
  go_loopg [5, 6] (D.length + 1) (fun gh mv iv wr => ∃ i m : Nat, iv = .int .i64 (i : Int) ∧ mv = .int .u64 (m : Int) ∧ i ≤ D.length ∧ D.length + 1 ≤ gh + i ∧ Hid (m = dLast ((D.take i).map Dx.pr) k) ∧ Hid (Below w.heap.size w wr))
  case atStart => exact ⟨0, 0, rfl, rfl, by omega, by omega, (show _ = _ by simp [dLast]), Below.refl _ _⟩
  case round =>
    obtain ⟨i, m, rfl, rfl, hi, hg, HE, HB⟩ := hrel
    obtain ⟨go, rfl⟩ : ∃ go, gk = go + 1 := ⟨gk - 1, by omega⟩
    have HR := hide (HG.out.below HB.out)
    obtain ⟨q0, q1⟩ := HR.out.box.cells2
    by_cases hlt : i < D.length
    · obtain ⟨x, hx⟩ := get_of_lt hlt
      have bt : (i : Int) < (D.length : Int) := by omega
      obtain ⟨nb, no, rfl, nlt, e0, e1, e2, e3⟩ := (HR.out.row.seg Dx.cs_len (by omega)).dx hx
      have HS := hide (map_take_snoc hx)
      have HXM := hide (List.mem_of_getElem? hx)
      obtain ⟨xp, hxp⟩ : ∃ xp, x.pa = xp := ⟨_, rfl⟩
      obtain ⟨xd, hxd⟩ : ∃ xd, x.dn = xd := ⟨_, rfl⟩
      obtain ⟨xn, hxn⟩ : ∃ xn, x.n = xn := ⟨_, rfl⟩
      rw [hxp] at e0
      rw [hxn] at e1
      rw [hxd] at e3
      have HXP := hide hxp
      have HXD := hide hxd
      have HXN := hide hxn
      clear hx hxp hxd hxn e2
      have HSN := hide (last_snoc ((D.take i).map Dx.pr) k x.pr)
      by_cases hk : xp = k
      · have mk : (xp == k) = true := by simp [hk]
        have HKK := hide hk
        clear hk
        cases xd with
        | true =>
          by_cases hm : m < xn
          · have hm1 : max (m : Int) (xn : Int) = (xn : Int) := by omega
            have hm2 : (m : Int) < (xn : Int) := by omega
            go_wp2_with fail
            go_roundg go
            case rel => exact ⟨i + 1, xn, by go_num, rfl, by omega, by omega, (show _ = _ by rw [HS.out, HSN.out, if_pos ⟨by show x.pa = k; rw [HXP.out]; exact HKK.out, HXD.out⟩, ← HE.out]; show xn = max m x.n; rw [HXN.out]; omega), HB⟩
            case measure => omega
          · have hm1 : max (m : Int) (xn : Int) = (m : Int) := by omega
            have hm2 : ¬ (m : Int) < (xn : Int) := by omega
            go_wp2_with fail
            go_roundg go
            case rel => exact ⟨i + 1, m, by go_num, rfl, by omega, by omega, (show _ = _ by rw [HS.out, HSN.out, if_pos ⟨by show x.pa = k; rw [HXP.out]; exact HKK.out, HXD.out⟩, ← HE.out]; show m = max m x.n; rw [HXN.out]; omega), HB⟩
            case measure => omega
        | false =>
          go_wp2_with fail
          go_roundg go
          case rel => exact ⟨i + 1, m, by go_num, rfl, by omega, by omega, (show _ = _ by rw [HS.out, HSN.out, if_neg (fun e => by have h1 : x.dn = true := e.2; rw [HXD.out] at h1; cases h1)]; exact HE.out), HB⟩
          case measure => omega
      · have mk : (xp == k) = false := by simp [hk]
        have HKK := hide hk
        clear hk
        go_wp2_with fail
        go_roundg go
        case rel => exact ⟨i + 1, m, by go_num, rfl, by omega, by omega, (show _ = _ by rw [HS.out, HSN.out, if_neg (fun e => HKK.out (by have h1 : x.pa = k := e.1; rw [HXP.out] at h1; exact h1))]; exact HE.out), HB⟩
        case measure => omega
    · obtain rfl : i = D.length := by omega
      have bt : ¬ ((D.length : Nat) : Int) < (D.length : Int) := by omega
      go_wp2_with fail
      go_ret
      have h1 := HE.out
      rw [List.take_of_length_le (Nat.le_refl _)] at h1
      rw [h1]
      exact ⟨rfl, HB.out⟩
set_option maxHeartbeats 4000000 in
set_option maxRecDepth 100000 in
theorem rStaged_any {w : World} {r : Nat} {lv ov : Value} {fq : Nat → Prop} {D : List Dx} {O : List Rc} (h : RG w r lv ov fq D O) (hn : D.length ≤ 500000) (k : Int) :
    Calls Try.prog 23 #[.pointer (some ⟨r, 0, none⟩), .int .i64 k] w fun e w' => ∃ u, e = .returned u ∧ OwnL 32 1 u64cs w.heap.size w' u (dStg (D.map Dx.pr) k) ∧ Below w.heap.size w w' := by
  obtain ⟨la, lc, rfl⟩ := h.row.shape
  have HG := hide h
  have hlen := hn
  clear h
  go_enter Try.func23, Try.ntmps23
  go_wp2_with fail
  go_loopg [5, 6] (D.length + 1) (fun gh uv iv wr => ∃ i : Nat, iv = .int .i64 (i : Int) ∧ i ≤ D.length ∧ D.length + 1 ≤ gh + i ∧ Hid (OwnL 32 1 u64cs w.heap.size wr uv (dStg ((D.take i).map Dx.pr) k)) ∧ Hid (Below w.heap.size w wr))
  case atStart => exact ⟨0, rfl, by omega, by omega, OwnL.nil _ _ _ _ _, Below.refl _ _⟩
  case round =>
    obtain ⟨i, rfl, hi, hg, HO, HB⟩ := hrel
    obtain ⟨go, rfl⟩ : ∃ go, gk = go + 1 := ⟨gk - 1, by omega⟩
    have HR := hide (HG.out.below HB.out)
    obtain ⟨q0, q1⟩ := HR.out.box.cells2
    by_cases hlt : i < D.length
    · obtain ⟨x, hx⟩ := get_of_lt hlt
      have bt : (i : Int) < (D.length : Int) := by omega
      obtain ⟨nb, no, rfl, nlt, e0, e1, e2, e3⟩ := (HR.out.row.seg Dx.cs_len (by omega)).dx hx
      have HS := hide (map_take_snoc hx)
      have HXM := hide (List.mem_of_getElem? hx)
      obtain ⟨xp, hxp⟩ : ∃ xp, x.pa = xp := ⟨_, rfl⟩
      obtain ⟨xd, hxd⟩ : ∃ xd, x.dn = xd := ⟨_, rfl⟩
      obtain ⟨xn, hxn⟩ : ∃ xn, x.n = xn := ⟨_, rfl⟩
      rw [hxp] at e0
      rw [hxn] at e1
      rw [hxd] at e3
      have HXP := hide hxp
      have HXD := hide hxd
      have HXN := hide hxn
      clear hx hxp hxd hxn e2
      have HSN := hide (stg_snoc ((D.take i).map Dx.pr) k x.pr)
      have HBS := HB.out.size
      have HLQ : Hid ((dStg ((D.take i).map Dx.pr) k).length ≤ 1000000) := (show _ ≤ _ by unfold dStg; rw [List.length_map]; have := List.length_filter_le (fun x : Dp => decide (x.pa = k) && !x.dn) ((D.take i).map Dx.pr); rw [List.length_map, List.length_take] at this; omega)
      have HNW := hide (newU wr xn)
      have HB2 := hide (HB.out.trans ((below_box wr (.cells #[.int .u64 (xn : Int)] 32)).mono HB.out.size))
      by_cases hk : xp = k
      · have mk : (xp == k) = true := by simp [hk]
        have HKK := hide hk
        clear hk
        cases xd with
        | false =>
          go_wp2_with (first | (at_builtin; refine app_L Try.infoU Try.underlying47 rfl (by decide) (by decide) u64cs_len u64cs_one rfl _ _ rfl w.heap.size _ _ rfl (HO.out.alloc _) _ _ xn rfl HNW.out HLQ.out (by have := HB2.out.size; omega) ?_; intro v4 w4 h4 g4 k4; have H4 := hide h4; have B4 := hide (HB2.out.grown g4 HB2.out.size (fun g e => HO.out.at g e)); clear h4 g4 k4) | fail)
          go_roundg go
          case rel => exact ⟨i + 1, by go_num, by omega, by omega, (show OwnL _ _ _ _ _ _ _ by rw [HS.out, HSN.out, if_pos (by show (decide (x.pa = k) && !x.dn) = true; rw [HXP.out, HXD.out, HKK.out]; simp)]; show OwnL _ _ _ _ _ _ (_ ++ [x.n]); rw [HXN.out]; exact H4.out), B4⟩
          case measure => omega
        | true =>
          go_wp2_with fail
          go_roundg go
          case rel => exact ⟨i + 1, by go_num, by omega, by omega, (show OwnL _ _ _ _ _ _ _ by rw [HS.out, HSN.out, if_neg (by show ¬ (decide (x.pa = k) && !x.dn) = true; rw [HXD.out]; simp)]; exact HO.out), HB⟩
          case measure => omega
      · have mk : (xp == k) = false := by simp [hk]
        have HKK := hide hk
        clear hk
        go_wp2_with fail
        go_roundg go
        case rel => exact ⟨i + 1, by go_num, by omega, by omega, (show OwnL _ _ _ _ _ _ _ by rw [HS.out, HSN.out, if_neg (by show ¬ (decide (x.pa = k) && !x.dn) = true; rw [HXP.out]; have := HKK.out; simp [this])]; exact HO.out), HB⟩
        case measure => omega
    · obtain rfl : i = D.length := by omega
      have bt : ¬ ((D.length : Nat) : Int) < (D.length : Int) := by omega
      go_wp2_with fail
      go_ret
      refine ⟨_, rfl, ?_, HB.out⟩
      have h1 := HO.out
      rw [List.take_of_length_le (Nat.le_refl _)] at h1
      exact h1
set_option maxHeartbeats 4000000 in
set_option maxRecDepth 100000 in
theorem rUpto_any {w : World} {r : Nat} {lv ov : Value} {fq : Nat → Prop} {D : List Dx} {O : List Rc} (h : RG w r lv ov fq D O) (hn : D.length ≤ 500000) (k : Int) (n : Nat) (hlb : ∀ i x, D[i]? = some x → (dUp ((D.take i).map Dx.pr) k n).length + x.rs.length ≤ 1000000) :
    Calls Try.prog 25 #[.pointer (some ⟨r, 0, none⟩), .int .i64 k, .int .u64 (n : Int)] w fun e w' => ∃ u, e = .returned u ∧ OwnL 39 3 Rc.cs w.heap.size w' u (dUp (D.map Dx.pr) k n) ∧ Below w.heap.size w w' := by
  obtain ⟨la, lc, rfl⟩ := h.row.shape
  have HG := hide h
  have hlen := hn
  clear h
  have HLB := hide hlb
  clear hlb
  go_enter Try.func25, Try.ntmps25
  go_wp2_with fail
  go_loopg [7, 8] (D.length + 1) (fun gh uv iv wr => ∃ i : Nat, iv = .int .i64 (i : Int) ∧ i ≤ D.length ∧ D.length + 1 ≤ gh + i ∧ Hid (OwnL 39 3 Rc.cs w.heap.size wr uv (dUp ((D.take i).map Dx.pr) k n)) ∧ Hid (Below w.heap.size w wr))
  case atStart => exact ⟨0, rfl, by omega, by omega, OwnL.nil _ _ _ _ _, Below.refl _ _⟩
  case round =>
    obtain ⟨i, rfl, hi, hg, HO, HB⟩ := hrel
    obtain ⟨go, rfl⟩ : ∃ go, gk = go + 1 := ⟨gk - 1, by omega⟩
    have HR := hide (HG.out.below HB.out)
    obtain ⟨q0, q1⟩ := HR.out.box.cells2
    by_cases hlt : i < D.length
    · obtain ⟨x, hx⟩ := get_of_lt hlt
      have bt : (i : Int) < (D.length : Int) := by omega
      obtain ⟨nb, no, rfl, nlt, e0, e1, e2, e3⟩ := (HR.out.row.seg Dx.cs_len (by omega)).dx hx
      have HS := hide (map_take_snoc hx)
      have HXM := hide (List.mem_of_getElem? hx)
      obtain ⟨xp, hxp⟩ : ∃ xp, x.pa = xp := ⟨_, rfl⟩
      obtain ⟨xd, hxd⟩ : ∃ xd, x.dn = xd := ⟨_, rfl⟩
      obtain ⟨xn, hxn⟩ : ∃ xn, x.n = xn := ⟨_, rfl⟩
      rw [hxp] at e0
      rw [hxn] at e1
      rw [hxd] at e3
      have HXP := hide hxp
      have HXD := hide hxd
      have HXN := hide hxn
      have hxq := hx
      clear hx hxp hxd hxn
      have HSN := hide (up_snoc ((D.take i).map Dx.pr) k n x.pr)
      have HBS := HB.out.size
      have HLQ := hide (HLB.out i x hxq)
      clear hxq
      have HXS : Hid (LSeg 3 Rc.cs wr.heap.size wr x.v x.rs) := (HR.out.oks x HXM.out).seg Rc.cs_len (by have := HLQ.out; omega)
      obtain ⟨xa, hxa⟩ : ∃ xa, x.a = xa := ⟨_, rfl⟩
      obtain ⟨xc, hxc⟩ : ∃ xc, x.c = xc := ⟨_, rfl⟩
      obtain ⟨xl, hxl⟩ : ∃ xl, x.rs.length = xl := ⟨_, rfl⟩
      have hxv : x.v = .slice xa xl xc := by unfold Dx.v; rw [hxa, hxl, hxc]
      rw [hxv] at e2 HXS
      clear hxa hxc hxl hxv
      by_cases hk : xp = k
      · have mk : (xp == k) = true := by simp [hk]
        have HKK := hide hk
        clear hk
        by_cases hq : xn ≤ n
        · have bq : (xn : Int) ≤ (n : Int) := by omega
          have HQ := hide hq
          clear hq
          go_wp2_with (first | (at_builtin; refine app_segL Try.infoRc Try.underlying29 rfl (by decide) (by decide) Rc.cs_len Rc.cs_one rfl _ _ rfl w.heap.size _ _ rfl HO.out wr.heap.size _ x.rs rfl HXS.out HLQ.out HBS ?_; intro v4 w4 h4 g4 k4; have H4 := hide h4; have B4 := hide (HB.out.grown g4 HBS (fun g e => HO.out.at g e)); clear h4 g4 k4) | fail)
          go_roundg go
          case rel => exact ⟨i + 1, by go_num, by omega, by omega, (show OwnL _ _ _ _ _ _ _ by rw [HS.out, HSN.out, if_pos (by show (decide (x.pa = k) && decide (x.n ≤ n)) = true; rw [HXP.out, HXN.out, HKK.out]; have := HQ.out; simp [this])]; exact H4.out), B4⟩
          case measure => omega
        · have bq : ¬ (xn : Int) ≤ (n : Int) := by omega
          have HQ := hide hq
          clear hq
          go_wp2_with fail
          go_roundg go
          case rel => exact ⟨i + 1, by go_num, by omega, by omega, (show OwnL _ _ _ _ _ _ _ by rw [HS.out, HSN.out, if_neg (by show ¬ (decide (x.pa = k) && decide (x.n ≤ n)) = true; rw [HXN.out]; have := HQ.out; simp [this])]; exact HO.out), HB⟩
          case measure => omega
      · have mk : (xp == k) = false := by simp [hk]
        have HKK := hide hk
        clear hk
        go_wp2_with fail
        go_roundg go
        case rel => exact ⟨i + 1, by go_num, by omega, by omega, (show OwnL _ _ _ _ _ _ _ by rw [HS.out, HSN.out, if_neg (by show ¬ (decide (x.pa = k) && decide (x.n ≤ n)) = true; rw [HXP.out]; have := HKK.out; simp [this])]; exact HO.out), HB⟩
        case measure => omega
    · obtain rfl : i = D.length := by omega
      have bt : ¬ ((D.length : Nat) : Int) < (D.length : Int) := by omega
      go_wp2_with fail
      go_ret
      refine ⟨_, rfl, ?_, HB.out⟩
      have h1 := HO.out
      rw [List.take_of_length_le (Nat.le_refl _)] at h1
      exact h1

end Go.Proofs.Yteafnohponbbeaa
