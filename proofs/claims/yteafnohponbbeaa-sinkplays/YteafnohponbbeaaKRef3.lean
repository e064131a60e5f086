/-
  The document's log: Commit.
-/
import Derived.Test.YteafnohponbbeaaKRef2
namespace Go.Proofs.Yteafnohponbbeaa
open Go.RowKit

def Dx.mk1 (x : Dx) : Dx := { x with dn := true }
def hitB (k : Int) (n : Nat) (x : Dx) : Bool := decide (x.pa = k) && !x.dn && decide (x.n ≤ n)
def mkD (k : Int) (n : Nat) (x : Dx) : Dx := if hitB k n x = true then x.mk1 else x
def nwD (k : Int) (n : Nat) (D : List Dx) : List Rc := ((D.filter (hitB k n)).map Dx.rs).flatten
def hitP (k : Int) (n : Nat) (x : Dp) : Bool := decide (x.pa = k) && !x.dn && decide (x.n ≤ n)
def dMark (d : List Dp) (k : Int) (n : Nat) : List Dp := d.map fun x => if hitP k n x = true then { x with dn := true } else x
def dNew (d : List Dp) (k : Int) (n : Nat) : List Rc := ((d.filter (hitP k n)).map Dp.rs).flatten
theorem mkD_pr (D : List Dx) (k : Int) (n : Nat) : (D.map (mkD k n)).map Dx.pr = dMark (D.map Dx.pr) k n := by
  unfold dMark
  rw [List.map_map, List.map_map]
  refine List.map_congr_left (fun x _ => ?_)
  show (mkD k n x).pr = if hitB k n x = true then _ else _
  unfold mkD
  split <;> rfl
theorem nwD_pr (D : List Dx) (k : Int) (n : Nat) : nwD k n D = dNew (D.map Dx.pr) k n := by
  unfold nwD dNew
  congr 1
  induction D with
  | nil => rfl
  | cons x l ih =>
    rw [List.filter_cons, List.map_cons, List.filter_cons]
    split
    · next h => rw [if_pos (by exact h), List.map_cons, List.map_cons, ih]; rfl
    · next h => rw [if_neg (by exact h)]; exact ih
theorem nwD_take (k : Int) (n : Nat) (D : List Dx) (j : Nat) : (nwD k n (D.take j)).length ≤ (nwD k n D).length := by
  have h : nwD k n D = nwD k n (D.take j) ++ nwD k n (D.drop j) := by
    unfold nwD
    rw [← List.flatten_append, ← List.map_append, ← List.filter_append, List.take_append_drop]
  rw [h, List.length_append]; omega
theorem nwD_snoc (k : Int) (n : Nat) (D : List Dx) (x : Dx) : nwD k n (D ++ [x]) = if hitB k n x = true then nwD k n D ++ x.rs else nwD k n D := by
  unfold nwD; rw [List.filter_append]
  cases h : hitB k n x <;> simp [h]
/-- Marked so far. -/
def mkI (k : Int) (n : Nat) (D : List Dx) (i : Nat) : List Dx := (D.take i).map (mkD k n) ++ D.drop i
theorem mkI_at {k : Int} {n : Nat} {D : List Dx} {i : Nat} {x : Dx} (h : D[i]? = some x) : (mkI k n D i)[i]? = some x := by
  obtain ⟨h1, rfl⟩ := List.getElem?_eq_some_iff.1 h
  unfold mkI
  rw [List.getElem?_append_right (by rw [List.length_map, List.length_take]; omega), List.length_map, List.length_take, Nat.min_eq_left (by omega), Nat.sub_self, List.getElem?_drop]
  simp
theorem mkI_len (k : Int) (n : Nat) (D : List Dx) {i : Nat} (h : i ≤ D.length) : (mkI k n D i).length = D.length := by
  unfold mkI
  rw [List.length_append, List.length_map, List.length_take, List.length_drop]; omega
theorem mkI_next {k : Int} {n : Nat} {D : List Dx} {i : Nat} {x : Dx} (h : D[i]? = some x) : mkI k n D (i + 1) = (mkI k n D i).set i (mkD k n x) := by
  obtain ⟨h1, rfl⟩ := List.getElem?_eq_some_iff.1 h
  have hl : ((D.take i).map (mkD k n)).length = i := by rw [List.length_map, List.length_take]; omega
  unfold mkI
  rw [List.take_succ_eq_append_getElem h1, List.map_append, List.append_assoc, List.set_append, if_neg (by omega), hl, Nat.sub_self]
  congr 1
  rw [List.drop_eq_getElem_cons h1]
  rfl
theorem mark_post {w : World} {r g n' c' : Nat} {ov : Value} {fq : Nat → Prop} {D : List Dx} {O : List Rc} {i : Nat} {x : Dx} (h : RG w r (.slice (some ⟨g, 0, none⟩) n' c') ov fq D O) (hx : D[i]? = some x) : RG (w.setCell ⟨g, i * 4 + 3, none⟩ (.bool true)) r (.slice (some ⟨g, 0, none⟩) n' c') ov fq (D.set i x.mk1) O ∧ FT (RP r fq) (RP r fq) w (w.setCell ⟨g, i * 4 + 3, none⟩ (.bool true)) := by
  obtain ⟨cur, hc⟩ := h.row.has g rfl
  have hg : BoxT 71 w g cur := hc
  have hset : ∀ y ∈ D.set i x.mk1, ∃ z ∈ D, y.v = z.v ∧ y.rs = z.rs := fun y hy => by
    rcases List.mem_or_eq_of_mem_set hy with hy | rfl
    · exact ⟨y, hy, rfl, rfl⟩
    · exact ⟨x, List.mem_of_getElem? hx, rfl, rfl⟩
  refine ⟨{ box := h.box.other _ _ (fun e => BoxT.ne (t := 31) (t' := 71) h.box hg (by decide) e), row := h.row.setField Dx.cs_len (by decide) hx (by decide) rfl, out := h.out.otherBox hg (by decide) _ _, oks := fun y hy => ?_, xf := fun y hy g' e => ?_, lf := h.lf, of := h.of, ap := fun y hy g' e => ?_, flt := fun i hi => by simpa using h.flt i hi, nr := h.nr }, FT.set w (show RP r fq g from .inr (h.lf g rfl)) _ _⟩
  · obtain ⟨z, hz, e1, e2⟩ := hset y hy
    rw [e1, e2]; exact (h.oks z hz).otherBox hg (by decide) _ _
  · obtain ⟨z, hz, e1, e2⟩ := hset y hy
    exact h.xf z hz g' (e1 ▸ e)
  · obtain ⟨z, hz, e1, e2⟩ := hset y hy
    exact h.ap z hz g' (e1 ▸ e)
theorem out_post {w w5 : World} {r : Nat} {lv ov v5 : Value} {fq : Nat → Prop} {D : List Dx} {O : List Rc} {rs : List Rc} (h : RG w r lv ov fq D O) (hg : w.grownBy w5 ov.ownBlock) (ho : OwnL 39 3 Rc.cs 0 w5 v5 (O ++ rs)) (hk : v5.ownBlock = ov.ownBlock ∨ v5.ownBlock = some w.heap.size) :
    RG (w5.setCell ⟨r, 1, none⟩ v5) r lv v5 (fun i => fq i ∨ v5.ownBlock = some i) D (O ++ rs) ∧ FT (RP r fq) (RP r (fun i => fq i ∨ v5.ownBlock = some i)) w (w5.setCell ⟨r, 1, none⟩ v5) := by
  have hk' : ∀ i, i ≠ r → (w5.setCell ⟨r, 1, none⟩ v5).heap[i]? = w5.heap[i]? := fun i hi => Below.heap_setCell w5 ⟨r, 1, none⟩ v5 i hi
  have hsz : (w5.setCell ⟨r, 1, none⟩ v5).heap.size = w5.heap.size := by simp
  have hfq : ∀ i, fq i → i ≠ r := fun i hi e => h.nr (e ▸ hi)
  have hbl : ∀ i, i < w.heap.size → ov.ownBlock ≠ some i → w5.heap[i]? = w.heap[i]? := fun i hi hne => hg.block i hi (fun e => hne e.symm)
  have hbox : BoxT 31 w5 r #[lv, ov] := h.box.back (hbl r h.box.lt (fun e => h.nr (h.of r e)))
  have hvn : ∀ g, v5.ownBlock = some g → (ov.ownBlock = some g) ∨ g = w.heap.size := fun g e => by
    rcases hk with e2 | e2
    · exact .inl (e2 ▸ e)
    · rw [e2] at e; cases e; exact .inr rfl
  refine ⟨{ box := by simpa using hbox.set 1 v5, row := h.row.back (fun g e => (hk' g (hfq g (h.lf g e))).trans (hbl g (h.flt g (h.lf g e)) (fun e2 => ?_))), out := ho.otherBox hbox (by decide) _ _, oks := fun x hx => (h.oks x hx).back (fun g e => (hk' g (hfq g (h.xf x hx g e))).trans (hbl g (h.flt g (h.xf x hx g e)) (h.ap x hx g e))), xf := fun x hx g e => .inl (h.xf x hx g e), lf := fun g e => .inl (h.lf g e), of := fun g e => .inr e, ap := fun x hx g e e2 => ?_, flt := fun i hi => ?_, nr := fun e => ?_ }, ?_⟩
  · obtain ⟨c1, h1⟩ := h.row.has g e
    obtain ⟨c2, h2⟩ := h.out.has g e2
    exact BoxT.ne (t := 71) (t' := 39) h1 h2 (by decide) rfl
  · rcases hvn g e2 with e3 | e3
    · exact h.ap x hx g e e3
    · have := h.flt g (h.xf x hx g e); omega
  · rw [hsz]
    rcases hi with e | e
    · exact Nat.lt_of_lt_of_le (h.flt i e) hg.size
    · exact ho.lt i e
  · rcases e with e | e
    · exact h.nr e
    · rcases hvn r e with e | e
      · exact h.nr (h.of r e)
      · have := h.box.lt; omega
  · have f1 : FT (RP r fq) (RP r fq) w w5 := FT.grow hg (fun g e => .inr (h.of g e))
    have f2 := f1.trans (FT.set w5 (show RP r fq r from .inl rfl) 1 v5)
    refine f2.to_ (fun i hi => ?_)
    rcases hi with e | e | e
    · exact .inl (.inl e)
    · exact .inl (.inr e)
    · rcases hvn i e with e | e
      · exact .inl (.inr (h.of i e))
      · exact .inr (by omega)
def dHas (d : List Dp) (k : Int) (n : Nat) : Prop := ∃ x ∈ d, x.pa = k ∧ x.n = n
def CPost (w w' : World) (r : Nat) (fq : Nat → Prop) (D : List Dx) (O : List Rc) (k : Int) (n : Nat) (e : Ending) : Prop := (e = .returned (.int .i64 0) ∧ n ≤ dLast (D.map Dx.pr) k ∧ Below w.heap.size w w') ∨ (e = .returned (.int .i64 171) ∧ ¬ n ≤ dLast (D.map Dx.pr) k ∧ ¬ dHas (D.map Dx.pr) k n ∧ Below w.heap.size w w') ∨ (e = .returned (.int .i64 0) ∧ ¬ n ≤ dLast (D.map Dx.pr) k ∧ dHas (D.map Dx.pr) k n ∧ RPost w w' r fq (dMark (D.map Dx.pr) k n) (O ++ dNew (D.map Dx.pr) k n))
/-- In the midst of the document's Commit. -/
def CJ (w wr : World) (r : Nat) (lv : Value) (fq : Nat → Prop) (D : List Dx) (O : List Rc) (k : Int) (n i : Nat) : Prop := ∃ ov1 fq1, RG wr r lv ov1 fq1 (mkI k n D i) (O ++ nwD k n (D.take i)) ∧ FT (RP r fq) (RP r fq1) w wr
set_option maxHeartbeats 4000000 in
set_option maxRecDepth 100000 in
theorem rCommit_any {w : World} {r : Nat} {lv ov : Value} {fq : Nat → Prop} {D : List Dx} {O : List Rc} (h : RG w r lv ov fq D O) (hn : D.length ≤ 500000) (k : Int) (n : Nat) (hO : (O ++ nwD k n D).length ≤ 500000) :
    Calls Try.prog 14 #[.pointer (some ⟨r, 0, none⟩), .int .i64 k, .int .u64 (n : Int)] w fun e w' => CPost w w' r fq D O k n e := by
  obtain ⟨la, lc, rfl⟩ := h.row.shape
  have HG := hide h
  have hlen := hn
  clear h
  have HLA := hide (rLast_any HG.out hlen k)
  have HO5 := hide hO
  clear hO
  obtain ⟨dl, hdl⟩ : ∃ dl, dLast (D.map Dx.pr) k = dl := ⟨_, rfl⟩
  rw [hdl] at HLA
  have HDL := hide hdl
  clear hdl
  by_cases hle : n ≤ dl
  · have ble : (n : Int) ≤ (dl : Int) := by omega
    have HLEN := hide hle
    clear hle
    go_enter Try.func14, Try.ntmps14
    go_wp2_with (first | (go_at_call 20; refine HLA.out.mono ?_; rintro e w1 ⟨rfl, b1⟩; have B1 := hide b1; clear b1) | fail)
    go_ret
    exact .inl ⟨rfl, (by rw [HDL.out]; exact HLEN.out), B1.out⟩
  have ble : ¬ (n : Int) ≤ (dl : Int) := by omega
  have bleD : decide (n ≤ dl) = false := by simp; omega
  have HNL : Hid (¬ n ≤ dLast (D.map Dx.pr) k) := (show ¬ _ by rw [HDL.out]; exact hle)
  clear hle
  go_enter Try.func14, Try.ntmps14
  go_wp2_with (first | (go_at_call 20; refine HLA.out.mono ?_; rintro e w1 ⟨rfl, b1⟩; have B1 := hide b1; clear b1) | fail)
  go_loopg [7, 8] (D.length + 1) (fun gh bv iv wr => ∃ (i : Nat) (b : Bool), iv = .int .i64 (i : Int) ∧ bv = .bool b ∧ i ≤ D.length ∧ D.length + 1 ≤ gh + i ∧ Hid (b = true ↔ ∃ x ∈ D.take i, x.pa = k ∧ x.n = n) ∧ wr = w1)
  case atStart => exact ⟨0, false, rfl, rfl, by omega, by omega, (show _ ↔ _ by simp), rfl⟩
  case round =>
    obtain ⟨i, b, rfl, rfl, hi, hg, HE, rfl⟩ := hrel
    obtain ⟨go, rfl⟩ : ∃ go, gk = go + 1 := ⟨gk - 1, by omega⟩
    have HR := hide (HG.out.below B1.out)
    obtain ⟨q0, q1⟩ := HR.out.box.cells2
    by_cases hlt : i < D.length
    · obtain ⟨x, hx⟩ := get_of_lt hlt
      have bt : (i : Int) < (D.length : Int) := by omega
      obtain ⟨nb, no, rfl, nlt, e0, e1, e2, e3⟩ := (HR.out.row.seg Dx.cs_len (by omega)).dx hx
      have HS := hide (map_take_snoc hx)
      have HXM := hide (List.mem_of_getElem? hx)
      obtain ⟨xp, hxp⟩ : ∃ xp, x.pa = xp := ⟨_, rfl⟩
      obtain ⟨xn, hxn⟩ : ∃ xn, x.n = xn := ⟨_, rfl⟩
      rw [hxp] at e0
      rw [hxn] at e1
      have HXP := hide hxp
      have HXN := hide hxn
      have HT := hide (take_snoc hx)
      clear hx hxp hxn e2 e3
      have HNX : Hid (∀ c : Bool, (c = true ↔ b = true ∨ (x.pa = k ∧ x.n = n)) → Hid (c = true ↔ ∃ y ∈ D.take (i + 1), y.pa = k ∧ y.n = n)) := fun c hc => (show _ ↔ _ by
        rw [hc, HE.out, HT.out]
        constructor
        · rintro (⟨y, hy, h1⟩ | h1)
          · exact ⟨y, List.mem_append_left _ hy, h1⟩
          · exact ⟨x, List.mem_append_right _ (List.mem_singleton.2 rfl), h1⟩
        · rintro ⟨y, hy, h1⟩
          rcases List.mem_append.1 hy with hy | hy
          · exact .inl ⟨y, hy, h1⟩
          · obtain rfl := List.mem_singleton.1 hy
            exact .inr h1)
      have HE2 := HE
      clear HE
      cases b with
      | true =>
        go_wp2_with fail
        go_roundg go
        case rel => exact ⟨i + 1, true, by go_num, rfl, by omega, by omega, HNX.out true (by simp), rfl⟩
        case measure => omega
      | false =>
        by_cases hk : xp = k
        · have mk : (xp == k) = true := by simp [hk]
          have HKK := hide hk
          clear hk
          by_cases hq : xn = n
          · have bq : ((xn : Int) == (n : Int)) = true := by simp [hq]
            have HQ := hide hq
            clear hq
            go_wp2_with fail
            go_roundg go
            case rel => exact ⟨i + 1, true, by go_num, rfl, by omega, by omega, HNX.out true (by rw [HXP.out, HXN.out, HKK.out, HQ.out]; simp), rfl⟩
            case measure => omega
          · have bq : ((xn : Int) == (n : Int)) = false := by simp; omega
            have HQ := hide hq
            clear hq
            go_wp2_with fail
            go_roundg go
            case rel => exact ⟨i + 1, false, by go_num, rfl, by omega, by omega, HNX.out false (by rw [HXN.out]; have := HQ.out; simp [this]), rfl⟩
            case measure => omega
        · have mk : (xp == k) = false := by simp [hk]
          have HKK := hide hk
          clear hk
          go_wp2_with fail
          go_roundg go
          case rel => exact ⟨i + 1, false, by go_num, rfl, by omega, by omega, HNX.out false (by rw [HXP.out]; have := HKK.out; simp [this]), rfl⟩
          case measure => omega
    · obtain rfl : i = D.length := by omega
      have bt : ¬ ((D.length : Nat) : Int) < (D.length : Int) := by omega
      have HEF : Hid (b = true ↔ dHas (D.map Dx.pr) k n) := (show _ ↔ _ by
        have h1 := HE.out
        rw [List.take_of_length_le (Nat.le_refl _)] at h1
        rw [h1]
        constructor
        · rintro ⟨x, hx, h2⟩
          exact ⟨x.pr, List.mem_map.2 ⟨x, hx, rfl⟩, h2⟩
        · rintro ⟨y, hy, h2⟩
          obtain ⟨x, hx, rfl⟩ := List.mem_map.1 hy
          exact ⟨x, hx, h2⟩)
      clear HE
      cases b with
      | false =>
        go_wp2_with fail
        go_ret
        exact .inr (.inl ⟨rfl, HNL.out, fun e => Bool.noConfusion (HEF.out.2 e), B1.out⟩)
      | true =>
        have HCJ0 : Hid (CJ w wr r (.slice la D.length lc) fq D O k n 0) := ⟨ov, fq, by rw [List.take_zero, show nwD k n [] = [] from rfl, List.append_nil]; exact HG.out.below B1.out, FT.of_below B1.out⟩
        obtain ⟨wo, rfl⟩ : ∃ wo, wo = wr := ⟨_, rfl⟩
        go_wp2_with fail
        clear HR q0 q1
        go_loopg [9] (D.length + 1) (fun gh iv wr => ∃ i : Nat, iv = .int .i64 (i : Int) ∧ i ≤ D.length ∧ D.length + 1 ≤ gh + i ∧ Hid (CJ w wr r (.slice la D.length lc) fq D O k n i))
        case atStart => exact ⟨0, rfl, by omega, by omega, HCJ0⟩
        case round =>
          clear HCJ0
          obtain ⟨i, rfl, hi, hg, HC⟩ := hrel
          obtain ⟨go, rfl⟩ : ∃ go, gk = go + 1 := ⟨gk - 1, by omega⟩
          obtain ⟨ov1, fq1, g1, f1⟩ := HC.out
          have HR := hide g1
          have HF := hide f1
          obtain ⟨q0, q1⟩ := g1.box.cells2
          have fr := g1.box.free
          clear g1 f1
          have hlm := mkI_len k n D hi
          by_cases hlt : i < D.length
          · obtain ⟨x, hx⟩ := get_of_lt hlt
            have bt : (i : Int) < (D.length : Int) := by omega
            have hxm := mkI_at (k := k) (n := n) hx
            have hseg := HR.out.row.seg Dx.cs_len (by rw [hlm]; omega)
            obtain ⟨g, no, e, nlt, e0, e1, e2, e3⟩ := hseg.dx hxm
            obtain ⟨gg, hgg⟩ : ∃ g, la = some ⟨g, 0, none⟩ := by
              rcases HR.out.row.2 with ⟨e4, e5⟩ | ⟨g, c4, cur, e4, _⟩
              · injection e4 with e6; rw [e6] at e; cases e
              · injection e4 with e6; exact ⟨g, e6⟩
            subst hgg
            cases e
            rw [Nat.zero_add] at e0 e1 e2 e3
            have HXM := hide hxm
            have HTS := hide (take_snoc hx)
            have HNX := hide (mkI_next (k := k) (n := n) hx)
            have HNS := hide (nwD_snoc k n (D.take i) x)
            have HLM := hide hlm
            have HXI := hide (List.mem_of_getElem? hxm)
            obtain ⟨xp, hxp⟩ : ∃ xp, x.pa = xp := ⟨_, rfl⟩
            obtain ⟨xd, hxd⟩ : ∃ xd, x.dn = xd := ⟨_, rfl⟩
            obtain ⟨xn, hxn⟩ : ∃ xn, x.n = xn := ⟨_, rfl⟩
            obtain ⟨xa, hxa⟩ : ∃ xa, x.a = xa := ⟨_, rfl⟩
            obtain ⟨xc, hxc⟩ : ∃ xc, x.c = xc := ⟨_, rfl⟩
            obtain ⟨xl, hxl⟩ : ∃ xl, x.rs.length = xl := ⟨_, rfl⟩
            have hxv : x.v = .slice xa xl xc := by unfold Dx.v; rw [hxa, hxl, hxc]
            rw [hxp] at e0
            rw [hxn] at e1
            rw [hxv] at e2
            rw [hxd] at e3
            have HXP := hide hxp
            have HXD := hide hxd
            have HXN := hide hxn
            have HXV := hide hxv
            have HXQ := hide hx
            clear hx hxm hseg hxp hxd hxn hxa hxc hxl hxv hlm
            by_cases hhit : hitB k n x = true
            · have hh := hhit
              unfold hitB at hh
              rw [HXP.out, HXD.out, HXN.out] at hh
              simp only [Bool.and_eq_true, decide_eq_true_eq, Bool.not_eq_true'] at hh
              obtain ⟨⟨hh1, rfl⟩, hh3⟩ := hh
              have mk : (xp == k) = true := by simp [hh1]
              have bq : (xn : Int) ≤ (n : Int) := by omega
              have HH := hide hhit
              clear hhit hh1 hh3
              have hmp := mark_post HR.out HXM.out
              obtain ⟨wm, hwm⟩ : ∃ wm, wm = wr.setCell ⟨g, i * 4 + 3, none⟩ (.bool true) := ⟨_, rfl⟩
              rw [← hwm] at hmp
              have HM := hide hmp.1
              have HMF := hide hmp.2
              clear hmp
              have HWM := hide hwm
              clear hwm
              have HMX : Hid (((mkI k n D i).set i x.mk1)[i]? = some x.mk1) := (show _ = _ by
                obtain ⟨h1, _⟩ := List.getElem?_eq_some_iff.1 HXM.out
                rw [List.getElem?_set_self h1])
              have HLEN : Hid ((O ++ nwD k n (D.take i)).length + x.rs.length ≤ 500000) := (show _ ≤ _ by
                have h1 := HO5.out
                have h2 := nwD_take k n D (i + 1)
                rw [HTS.out, HNS.out, if_pos HH.out] at h2
                simp only [List.length_append] at h1 h2 ⊢
                omega)
              have KC : Hid (∀ w' : World, (∀ b, b < wm.heap.size → w'.heap[b]? = wm.heap[b]? ∨ ov1.ownBlock = some b) → w'.cell? ⟨r, 0, none⟩ = some (.slice (some ⟨g, 0, none⟩) D.length lc) ∧ w'.cell? ⟨r, 1, none⟩ = some ov1 ∧ w'.cell? ⟨g, i * 4 + 2, none⟩ = some (.slice xa xl xc)) := fun w' hb => by
                have hM := HM.out
                obtain ⟨cur, hc⟩ := hM.row.has g rfl
                have hgb : BoxT 71 wm g cur := hc
                have hne : ∀ b, (b = r ∨ b = g) → ov1.ownBlock ≠ some b := fun b hb e => by
                  rcases hb with rfl | rfl
                  · exact hM.nr (hM.of _ e)
                  · obtain ⟨c2, h2⟩ := hM.out.has _ e
                    exact BoxT.ne (t := 71) (t' := 39) hgb h2 (by decide) rfl
                have hr : BoxT 31 w' r #[.slice (some ⟨g, 0, none⟩) D.length lc, ov1] := hM.box.back (by
                  rcases hb r hM.box.lt with e | e
                  · exact e
                  · exact absurd e (hne r (.inl rfl)))
                have hg2 : w'.heap[g]? = wm.heap[g]? := by
                  rcases hb g hgb.lt with e | e
                  · exact e
                  · exact absurd e (hne g (.inr rfl))
                obtain ⟨nb, no, e, nl, e0, e1, e2, e3⟩ := (hM.row.seg Dx.cs_len (by rw [List.length_set, HLM.out]; omega)).dx HMX.out
                cases e
                refine ⟨hr.cells2.1, hr.cells2.2, ?_⟩
                have h9 : x.mk1.v = x.v := rfl
                rw [h9, HXV.out, Nat.zero_add] at e2
                rw [← e2]
                unfold World.cell?
                rw [hg2]
              obtain ⟨cg, hcg⟩ := HR.out.row.has g rfl
              have frg := (show BoxT 71 wr g cg from hcg).free
              clear hcg
              go_upto_region 15 with fail
              have e16 := HWM.out
              rw [← e16]
              refine wp_region_M (S := fun w' => w'.cell? ⟨r, 0, none⟩ = some (.slice (some ⟨g, 0, none⟩) D.length lc) ∧ w'.cell? ⟨r, 1, none⟩ = some ov1 ∧ w'.cell? ⟨g, i * 4 + 2, none⟩ = some (.slice xa xl xc)) (late := [14, 15, 16]) (by kernel_rfl) (KC.out _ (fun b hb => .inl rfl)) (fun hHeld => ?_)
              (try simp only [List.size_toArray, List.length_cons, List.length_nil, Nat.zero_add, Nat.reduceAdd, Array.replicate, List.replicate])
              refine wpAnyM_take (i := 0) (oi := ⟨_, _, _, _, _, _⟩) (v := ?_) rfl (by kernel_rfl) (by kernel_rfl) (by kernel_rfl) (by kernel_rfl) (fun _ _ _ h => h) (Or.inl ⟨by rfl, ?_⟩) hHeld ?_
              rotate_left
              · (intro w' hSw; (try dsimp only at hSw); go_simp; try (with_reducible rfl))
              (try simp only [Act.put, List.setIfInBounds_toArray, List.set_cons_zero, List.set_cons_succ])
              refine wpAnyM_take (i := 1) (oi := ⟨_, _, _, _, _, _⟩) (v := ?_) rfl (by kernel_rfl) (by kernel_rfl) (by kernel_rfl) (by kernel_rfl) (fun _ _ _ h => h) (Or.inl ⟨by rfl, ?_⟩) hHeld ?_
              rotate_left
              · (intro w' hSw; (try dsimp only at hSw); go_simp; try (with_reducible rfl))
              (try simp only [Act.put, List.setIfInBounds_toArray, List.set_cons_zero, List.set_cons_succ])
              refine wpAnyM_take (i := 2) (oi := ⟨_, _, _, _, _, _⟩) (v := ?_) rfl (by kernel_rfl) (by kernel_rfl) (by kernel_rfl) (by kernel_rfl) (fun _ _ _ h => h) (Or.inl ⟨by rfl, ?_⟩) hHeld ?_
              rotate_left
              · (intro w' hSw; (try dsimp only at hSw); go_simp; try (with_reducible rfl))
              (try simp only [Act.put, List.setIfInBounds_toArray, List.set_cons_zero, List.set_cons_succ])
              refine wpAnyM_take (i := 3) (oi := ⟨_, _, _, _, _, _⟩) (v := ?_) rfl (by kernel_rfl) (by kernel_rfl) (by kernel_rfl) (by kernel_rfl) (fun _ _ _ h => h) (Or.inl ⟨by rfl, ?_⟩) hHeld ?_
              rotate_left
              · (intro w' hSw; (try dsimp only at hSw); go_simp; try (with_reducible rfl))
              (try simp only [Act.put, List.setIfInBounds_toArray, List.set_cons_zero, List.set_cons_succ])
              refine wpAnyM_take (i := 4) (oi := ⟨_, _, _, _, _, _⟩) (v := ?_) rfl (by kernel_rfl) (by kernel_rfl) (by kernel_rfl) (by kernel_rfl) (fun _ _ _ h => h) (Or.inl ⟨by rfl, ?_⟩) hHeld ?_
              rotate_left
              · (intro w' hSw; (try dsimp only at hSw); go_simp; try (with_reducible rfl))
              (try simp only [Act.put, List.setIfInBounds_toArray, List.set_cons_zero, List.set_cons_succ])
              refine wpAnyM_take (i := 5) (oi := ⟨_, _, _, _, _, _⟩) (v := ?_) rfl (by kernel_rfl) (by kernel_rfl) (by kernel_rfl) (by kernel_rfl) (fun _ _ _ h => h) (Or.inl ⟨by rfl, ?_⟩) hHeld ?_
              rotate_left
              · (intro w' hSw; (try dsimp only at hSw); go_simp; try (with_reducible rfl))
              (try simp only [Act.put, List.setIfInBounds_toArray, List.set_cons_zero, List.set_cons_succ])
              refine wpAnyM_take (i := 6) (oi := ⟨_, _, _, _, _, _⟩) (v := ?_) rfl (by kernel_rfl) (by kernel_rfl) (by kernel_rfl) (by kernel_rfl) (fun _ _ _ h => h) (Or.inl ⟨by rfl, ?_⟩) hHeld ?_
              rotate_left
              · (intro w' hSw; (try dsimp only at hSw); go_simp; try (with_reducible rfl))
              (try simp only [Act.put, List.setIfInBounds_toArray, List.set_cons_zero, List.set_cons_succ])
              refine wpAnyM_take (i := 7) (oi := ⟨_, _, _, _, _, _⟩) (v := ?_) rfl (by kernel_rfl) (by kernel_rfl) (by kernel_rfl) (by kernel_rfl) (fun _ _ _ h => h) (Or.inl ⟨by rfl, ?_⟩) hHeld ?_
              rotate_left
              · (intro w' hSw; (try dsimp only at hSw); go_simp; try (with_reducible rfl))
              (try simp only [Act.put, List.setIfInBounds_toArray, List.set_cons_zero, List.set_cons_succ])
              refine wpAnyM_take (i := 8) (oi := ⟨_, _, _, _, _, _⟩) (v := ?_) rfl (by kernel_rfl) (by kernel_rfl) (by kernel_rfl) (by kernel_rfl) (fun _ _ _ h => h) (Or.inl ⟨by rfl, ?_⟩) hHeld ?_
              rotate_left
              · (intro w' hSw; (try dsimp only at hSw); go_simp; try (with_reducible rfl))
              (try simp only [Act.put, List.setIfInBounds_toArray, List.set_cons_zero, List.set_cons_succ])
              refine wpAnyM_take (i := 9) (oi := ⟨_, _, _, _, _, _⟩) (v := ?_) rfl (by kernel_rfl) (by kernel_rfl) (by kernel_rfl) (by kernel_rfl) (fun _ _ _ h => h) (Or.inl ⟨by rfl, ?_⟩) hHeld ?_
              rotate_left
              · (intro w' hSw; (try dsimp only at hSw); go_simp; try (with_reducible rfl))
              (try simp only [Act.put, List.setIfInBounds_toArray, List.set_cons_zero, List.set_cons_succ])
              refine wpAnyM_take (i := 10) (oi := ⟨_, _, _, _, _, _⟩) (v := ?_) rfl (by kernel_rfl) (by kernel_rfl) (by kernel_rfl) (by kernel_rfl) (fun _ _ _ h => h) (Or.inl ⟨by rfl, ?_⟩) hHeld ?_
              rotate_left
              · (intro w' hSw; (try dsimp only at hSw); go_simp; try (with_reducible rfl))
              (try simp only [Act.put, List.setIfInBounds_toArray, List.set_cons_zero, List.set_cons_succ])
              refine wpAnyM_take (i := 11) (oi := ⟨_, _, _, _, _, _⟩) (v := ?_) rfl (by kernel_rfl) (by kernel_rfl) (by kernel_rfl) (by kernel_rfl) (fun _ _ _ h => h) (Or.inl ⟨by rfl, ?_⟩) hHeld ?_
              rotate_left
              · (intro w' hSw; (try dsimp only at hSw); go_simp; try (with_reducible rfl))
              (try simp only [Act.put, List.setIfInBounds_toArray, List.set_cons_zero, List.set_cons_succ])
              refine wpAnyM_take (i := 12) (oi := ⟨_, _, _, _, _, _⟩) (v := ?_) rfl (by kernel_rfl) (by kernel_rfl) (by kernel_rfl) (by kernel_rfl) (fun _ _ _ h => h) (Or.inl ⟨by rfl, ?_⟩) hHeld ?_
              rotate_left
              · (intro w' hSw; (try dsimp only at hSw); go_simp; try (with_reducible rfl))
              (try simp only [Act.put, List.setIfInBounds_toArray, List.set_cons_zero, List.set_cons_succ])
              refine wpAnyM_one (i := 13) (o := ⟨_, _, _, _, _, _⟩) (by kernel_rfl) rfl (fun K hK => ?_)
              (refine step_L Try.infoRc Try.underlying29 rfl (by decide) (by decide) Rc.cs_len Rc.cs_one rfl _ _ rfl 0 ov1 (O ++ nwD k n (D.take i)) rfl (HM.out.below (Below.refl _ _).drew).out _ _ x.rs rfl (by have h7 := ((HM.out.below (Below.refl _ _).drew).oks x.mk1 (List.mem_of_getElem? HMX.out)).seg Rc.cs_len (by show x.rs.length ≤ _; have := HLEN.out; omega); have h8 : x.mk1.v = x.v := rfl; rw [h8, HXV.out] at h7; exact h7) (by have := HLEN.out; omega) (Nat.zero_le _) ?_; intro v5 w5 o5 g5 k5)
              obtain ⟨a5, c5, hv5⟩ := o5.shape
              obtain ⟨n5, hn5⟩ : ∃ n5, ((O ++ nwD k n (D.take i)) ++ x.rs).length = n5 := ⟨_, rfl⟩
              rw [hn5] at hv5
              subst hv5
              have hop := out_post (HM.out.below (Below.refl _ _).drew) g5 o5 k5
              have HFIN : Hid (CJ w (w5.setCell ⟨r, 1, none⟩ (.slice a5 n5 c5)) r (.slice (some ⟨g, 0, none⟩) D.length lc) fq D O k n (i + 1)) := ⟨_, _, by
                  have h3 := hop.1
                  rw [HNX.out, HTS.out, HNS.out, if_pos HH.out, ← List.append_assoc, show mkD k n x = x.mk1 from by unfold mkD; rw [if_pos HH.out]]
                  exact h3, ((HF.out.trans HMF.out).trans (FT.of_below (Below.refl _ _).drew)).trans hop.2⟩
              have fr5 : Hid (BoxT 31 w5 r #[.slice (some ⟨g, 0, none⟩) D.length lc, ov1]) := ((HM.out.below (Below.refl _ _).drew).box).back (g5.block _ (HM.out.box.lt) (fun e => HM.out.nr (HM.out.of _ e.symm)))
              have ff5 := fr5.out.free
              clear hop hn5
              refine hK.out _ _ (KC.out _ (fun b hb => by by_cases e : ov1.ownBlock = some b; exact .inr e; exact .inl (g5.block b hb (fun e2 => e e2.symm)))) (fun hHeld => ?_)
              clear hK K
              (try simp only [List.setIfInBounds_toArray, List.set_cons_zero, List.set_cons_succ])
              refine wpAnyM_last (i := 14) (o := ⟨_, _, _, _, _, _⟩) (by kernel_rfl) (by rfl) rfl (fun K hK => ?_)
              go_simp
              refine hK.out _ _ ?_
              clear hK K
              (try simp only [List.setIfInBounds_toArray, List.set_cons_zero, List.set_cons_succ])
              refine wpAnyM_last (i := 15) (o := ⟨_, _, _, _, _, _⟩) (by kernel_rfl) (by rfl) rfl (fun K hK => ?_)
              go_simp
              refine hK.out _ _ ?_
              clear hK K
              (try simp only [List.setIfInBounds_toArray, List.set_cons_zero, List.set_cons_succ])
              refine wpAnyM_last (i := 16) (o := ⟨_, _, _, _, _, _⟩) (by kernel_rfl) (by rfl) rfl (fun K hK => ?_)
              go_simp
              refine hK.out _ _ ?_
              clear hK K
              (try simp only [List.setIfInBounds_toArray, List.set_cons_zero, List.set_cons_succ])
              refine wpAnyM_done (by kernel_rfl) ?_ _
              go_wp2_with fail
              go_roundg go
              case rel => exact ⟨i + 1, by go_num, by omega, by omega, HFIN⟩
              case measure => omega
            · have HMK : Hid (mkD k n x = x) := (show _ = _ by unfold mkD; rw [if_neg hhit])
              have HCN : Hid (CJ w wr r (.slice (some ⟨g, 0, none⟩) D.length lc) fq D O k n (i + 1)) := ⟨ov1, fq1, by
                rw [HNX.out, HMK.out, HTS.out, HNS.out, if_neg hhit]
                have e9 : (mkI k n D i).set i x = mkI k n D i := by
                  obtain ⟨h1, h2⟩ := List.getElem?_eq_some_iff.1 HXM.out
                  rw [← h2, List.set_getElem_self]
                rw [e9]; exact HR.out, HF.out⟩
              have hh := hhit
              unfold hitB at hh
              rw [HXP.out, HXD.out, HXN.out] at hh
              have HHH := hide hh
              clear hhit hh
              by_cases hk : xp = k
              · have mk : (xp == k) = true := by simp [hk]
                cases xd with
                | true =>
                  clear hk
                  go_wp2_with fail
                  go_roundg go
                  case rel => exact ⟨i + 1, by go_num, by omega, by omega, HCN⟩
                  case measure => omega
                | false =>
                  have bq : ¬ (xn : Int) ≤ (n : Int) := by have h1 := HHH.out; simp [hk] at h1; omega
                  clear hk
                  go_wp2_with fail
                  go_roundg go
                  case rel => exact ⟨i + 1, by go_num, by omega, by omega, HCN⟩
                  case measure => omega
              · have mk : (xp == k) = false := by simp [hk]
                clear hk
                go_wp2_with fail
                go_roundg go
                case rel => exact ⟨i + 1, by go_num, by omega, by omega, HCN⟩
                case measure => omega
          · obtain rfl : i = D.length := by omega
            have bt : ¬ ((D.length : Nat) : Int) < (D.length : Int) := by omega
            have e8 : mkI k n D D.length = D.map (mkD k n) := by unfold mkI; rw [List.take_of_length_le (Nat.le_refl _), List.drop_of_length_le (Nat.le_refl _), List.append_nil]
            have HR9 := HR.out
            rw [e8, List.take_of_length_le (Nat.le_refl _), nwD_pr] at HR9
            have HFIN := hide HR9
            clear HR9 e8 hlm
            go_wp2_with fail
            go_ret
            exact .inr (.inr ⟨rfl, HNL.out, HEF.out.1 (by first | rfl | trivial), _, ov1, fq1, _, HFIN.out, mkD_pr D k n, HF.out⟩)

end Go.Proofs.Yteafnohponbbeaa
