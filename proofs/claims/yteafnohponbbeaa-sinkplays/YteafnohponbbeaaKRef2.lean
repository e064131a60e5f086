/-
  The document's log: Abort, Stage.
-/
import Derived.Test.YteafnohponbbeaaKRef
namespace Go.Proofs.Yteafnohponbbeaa
open Go.RowKit

theorem OwnL.setField {α : Type} {t sz : Nat} {cs : α → List Value} (hcs : ∀ x, (cs x).length = sz) (hs : 0 < sz) {base : Nat} {w : World} {g n cap : Nat} {l : List α} (h : OwnL t sz cs base w (.slice (some ⟨g, 0, none⟩) n cap) l) {i j : Nat} {x y : α} {u : Value} (hx : l[i]? = some x) (hj : j < sz) (hy : cs y = (cs x).set j u) : OwnL t sz cs base (w.setCell ⟨g, i * sz + j, none⟩ u) (.slice (some ⟨g, 0, none⟩) n cap) (l.set i y) := by
  have hi := lt_of_get hx
  rcases h.2 with ⟨e, _⟩ | ⟨g', cap', cur, e, h2, h3, h4, h5, h6, h7⟩
  · cases e
  · cases e
    have hb : BoxT t w g cur := h3
    have hfit : i * sz + sz ≤ cur.size := by
      have h8 : (i + 1) * sz ≤ cap * sz := Nat.mul_le_mul_right _ (by omega)
      rw [Nat.succ_mul] at h8
      omega
    refine ⟨flat_size hcs _, .inr ⟨g, cap, cur.setIfInBounds (i * sz + j) u, by simp, h2, hb.set _ _, by simpa using h4, h5, by rw [Array.size_setIfInBounds]; exact h6, ?_⟩⟩
    apply List.ext_getElem?
    intro q
    rw [List.getElem?_take, List.length_set]
    by_cases hq : q < l.length * sz
    · rw [if_pos hq, Array.getElem?_toList]
      have hq4 : q / sz < l.length := (Nat.div_lt_iff_lt_mul hs).2 hq
      have hm : q % sz < sz := Nat.mod_lt _ hs
      have hdm : q / sz * sz + q % sz = q := by rw [Nat.mul_comm]; exact Nat.div_add_mod q sz
      have old : ∀ z, l[q / sz]? = some z → ∀ v, (cs z)[q % sz]? = some v → cur[q]? = some v := fun z hz v hv => by
        have h8 := flat_get hcs l (q / sz) (q % sz) z v hz hv
        rw [← h7, List.getElem?_take] at h8
        split at h8
        · rw [hdm] at h8; simpa using h8
        · cases h8
      by_cases hqi : q / sz = i
      · have hx' : (l.set i y)[q / sz]? = some y := by rw [hqi, List.getElem?_set_self hi]
        by_cases hqj : q % sz = j
        · have hu : (cs y)[q % sz]? = some u := by rw [hy, hqj, List.getElem?_set_self (by rw [hcs]; exact hj)]
          have h9 := flat_get hcs _ (q / sz) (q % sz) _ u hx' hu
          rw [hdm] at h9
          rw [h9, ← hqi, ← hqj, hdm, Array.getElem?_setIfInBounds_self_of_lt (by rw [hqi] at hdm; omega)]
        · obtain ⟨v, hv⟩ := get_of_lt (show q % sz < (cs x).length by rw [hcs]; exact hm)
          have hu : (cs y)[q % sz]? = some v := by rw [hy, List.getElem?_set_ne (fun e => hqj e.symm)]; exact hv
          have h9 := flat_get hcs _ (q / sz) (q % sz) _ v hx' hu
          rw [hdm] at h9
          rw [h9, Array.getElem?_setIfInBounds_ne (fun e => hqj (by rw [hqi] at hdm; omega))]
          exact old x (by rw [hqi]; exact hx) v hv
      · obtain ⟨z, hz⟩ := get_of_lt hq4
        have hx' : (l.set i y)[q / sz]? = some z := by rw [List.getElem?_set_ne (fun e => hqi e.symm)]; exact hz
        obtain ⟨v, hv⟩ := get_of_lt (show q % sz < (cs z).length by rw [hcs]; exact hm)
        have h9 := flat_get hcs _ (q / sz) (q % sz) _ v hx' hv
        rw [hdm] at h9
        rw [h9, Array.getElem?_setIfInBounds_ne (fun e => hqi (by rw [← e, Nat.mul_comm, Nat.mul_add_div hs, Nat.div_eq_of_lt hj]; rfl))]
        exact old z hz v hv
    · rw [if_neg hq, List.getElem?_eq_none (by rw [flat_size hcs, List.length_set]; omega)]
def RP (r : Nat) (fq : Nat → Prop) (i : Nat) : Prop := i = r ∨ fq i
/-- What a call of the document's leaves. -/
def RPost (w w' : World) (r : Nat) (fq : Nat → Prop) (d : List Dp) (o : List Rc) : Prop := ∃ lv ov fq' D, RG w' r lv ov fq' D o ∧ D.map Dx.pr = d ∧ FT (RP r fq) (RP r fq') w w'
theorem dAb_snoc (d : List Dp) (k : Int) (n : Nat) (x : Dp) : dAb (d ++ [x]) k n = if (!decide (x.pa = k) || x.dn || decide (x.n ≤ n)) = true then dAb d k n ++ [x] else dAb d k n := by
  unfold dAb; rw [List.filter_append]
  cases h : (!decide (x.pa = k) || x.dn || decide (x.n ≤ n)) <;> simp [h]
def kpA (D : List Dx) (k : Int) (n : Nat) : List Dx := D.filter fun x => !decide (x.pa = k) || x.dn || decide (x.n ≤ n)
theorem kpA_pr (D : List Dx) (k : Int) (n : Nat) : (kpA D k n).map Dx.pr = dAb (D.map Dx.pr) k n := by
  unfold kpA dAb
  induction D with
  | nil => rfl
  | cons x l ih =>
    rw [List.filter_cons, List.map_cons, List.filter_cons]
    split
    · next h => rw [if_pos (by exact h), List.map_cons, ih]
    · next h => rw [if_neg (by exact h)]; exact ih
theorem kpA_snoc (D : List Dx) (k : Int) (n : Nat) (x : Dx) : kpA (D ++ [x]) k n = if (!decide (x.pa = k) || x.dn || decide (x.n ≤ n)) = true then kpA D k n ++ [x] else kpA D k n := by
  unfold kpA; rw [List.filter_append]
  cases h : (!decide (x.pa = k) || x.dn || decide (x.n ≤ n)) <;> simp [h]
theorem newDx {w : World} {N : Nat} {x : Dx} (hb : BoxT 71 w N #[.int .i64 x.pa, .int .u64 (x.n : Int), x.v, .bool x.dn]) : ∀ (j : Nat) (u : Value), (Dx.cs x)[j]? = some u → w.cell? ((⟨N, 0, none⟩ : Addr).add j) = some u := by
  intro j u hu
  rw [add_plain2, hb.cellAt]
  simpa [Dx.cs] using hu
theorem abort_post {w wr : World} {r : Nat} {lv ov uv : Value} {fq : Nat → Prop} {D D' : List Dx} {O : List Rc} (h : RG w r lv ov fq D O) (hb : Below w.heap.size w wr) (ho : OwnL 71 4 Dx.cs w.heap.size wr uv D') (hs : ∀ x ∈ D', x ∈ D) : RPost w (wr.setCell ⟨r, 0, none⟩ uv) r fq (D'.map Dx.pr) O := by
  have h1 := h.below hb
  have hr := h.box.lt
  have hk : ∀ i, i ≠ r → (wr.setCell ⟨r, 0, none⟩ uv).heap[i]? = wr.heap[i]? := fun i hi => Below.heap_setCell wr ⟨r, 0, none⟩ uv i hi
  have hsz : (wr.setCell ⟨r, 0, none⟩ uv).heap.size = wr.heap.size := by simp
  have hfq : ∀ i, fq i → i ≠ r := fun i hi e => h.nr (e ▸ hi)
  refine ⟨uv, ov, fun i => fq i ∨ uv.ownBlock = some i, D', { box := by simpa using h1.box.set 0 uv, row := (ho.own).back (fun g e => hk g (fun e2 => by have := ho.at g e; omega)), out := h1.out.back (fun g e => hk g (hfq g (h.of g e))), oks := fun x hx => (h1.oks x (hs x hx)).back (fun g e => hk g (hfq g (h.xf x (hs x hx) g e))), xf := fun x hx g e => .inl (h.xf x (hs x hx) g e), lf := fun g e => .inr e, of := fun g e => .inl (h.of g e), ap := fun x hx => h.ap x (hs x hx), flt := fun i hi => ?_, nr := fun e => ?_ }, rfl, ?_⟩
  · rw [hsz]
    rcases hi with e | e
    · exact Nat.lt_of_lt_of_le (h.flt i e) hb.size
    · exact ho.lt i e
  · rcases e with e | e
    · exact h.nr e
    · have := ho.at r e; omega
  · have f1 : FT (RP r fq) (RP r fq) w wr := FT.of_below hb
    have f2 := f1.trans (FT.set wr (show RP r fq r from .inl rfl) 0 uv)
    refine f2.to_ (fun i hi => ?_)
    rcases hi with e | e | e
    · exact .inl (.inl e)
    · exact .inl (.inr e)
    · exact .inr (ho.at i e)
set_option maxHeartbeats 4000000 in
set_option maxRecDepth 100000 in
theorem rAbort_any {w : World} {r : Nat} {lv ov : Value} {fq : Nat → Prop} {D : List Dx} {O : List Rc} (h : RG w r lv ov fq D O) (hn : D.length ≤ 500000) (k : Int) (n : Nat) :
    Calls Try.prog 16 #[.pointer (some ⟨r, 0, none⟩), .int .i64 k, .int .u64 (n : Int)] w fun e w' => e = .returned (.tuple #[]) ∧ RPost w w' r fq (dAb (D.map Dx.pr) k n) O := by
  obtain ⟨la, lc, rfl⟩ := h.row.shape
  have HG := hide h
  have hlen := hn
  clear h
  go_enter Try.func16, Try.ntmps16
  go_wp2_with fail
  go_loopg [6, 7] (D.length + 1) (fun gh uv iv wr => ∃ i : Nat, iv = .int .i64 (i : Int) ∧ i ≤ D.length ∧ D.length + 1 ≤ gh + i ∧ Hid (OwnL 71 4 Dx.cs w.heap.size wr uv (kpA (D.take i) k n)) ∧ Hid (Below w.heap.size w wr))
  case atStart => exact ⟨0, rfl, by omega, by omega, OwnL.nil _ _ _ _ _, Below.refl _ _⟩
  case round =>
    obtain ⟨i, rfl, hi, hg, HO, HB⟩ := hrel
    obtain ⟨go, rfl⟩ : ∃ go, gk = go + 1 := ⟨gk - 1, by omega⟩
    have HR := hide (HG.out.below HB.out)
    obtain ⟨q0, q1⟩ := HR.out.box.cells2
    by_cases hlt : i < D.length
    · obtain ⟨x, hx⟩ := get_of_lt hlt
      have bt : (i : Int) < (D.length : Int) := by omega
      obtain ⟨nb, no, rfl, nlt, e0, e1, e2, e3⟩ := (HR.out.row.seg Dx.cs_len (by omega)).dx hx
      have HS := hide (map_take_snoc hx)
      have HXM := hide (List.mem_of_getElem? hx)
      obtain ⟨xp, hxp⟩ : ∃ xp, x.pa = xp := ⟨_, rfl⟩
      obtain ⟨xd, hxd⟩ : ∃ xd, x.dn = xd := ⟨_, rfl⟩
      obtain ⟨xn, hxn⟩ : ∃ xn, x.n = xn := ⟨_, rfl⟩
      obtain ⟨xa, hxa⟩ : ∃ xa, x.a = xa := ⟨_, rfl⟩
      obtain ⟨xc, hxc⟩ : ∃ xc, x.c = xc := ⟨_, rfl⟩
      obtain ⟨xl, hxl⟩ : ∃ xl, x.rs.length = xl := ⟨_, rfl⟩
      have hxv : x.v = .slice xa xl xc := by unfold Dx.v; rw [hxa, hxl, hxc]
      rw [hxp] at e0
      rw [hxn] at e1
      rw [hxv] at e2
      rw [hxd] at e3
      have HXP := hide hxp
      have HXD := hide hxd
      have HXN := hide hxn
      have HXV := hide hxv
      have HT := hide (take_snoc hx)
      clear hx hxp hxd hxn hxa hxc hxl hxv
      have HSN := hide (kpA_snoc (D.take i) k n x)
      have HBS := HB.out.size
      have HLQ : Hid ((kpA (D.take i) k n).length ≤ 1000000) := (show _ ≤ _ by unfold kpA; have := List.length_filter_le (fun x : Dx => !decide (x.pa = k) || x.dn || decide (x.n ≤ n)) (D.take i); rw [List.length_take] at this; omega)
      have HNB : Hid (BoxT 71 (wr.alloc (.cells #[.int .i64 xp, .int .u64 (xn : Int), .slice xa xl xc, .bool xd] 71)) wr.heap.size #[.int .i64 x.pa, .int .u64 (x.n : Int), x.v, .bool x.dn]) := (show BoxT _ _ _ _ by rw [HXP.out, HXN.out, HXV.out, HXD.out]; exact BoxT.new _ _ _)
      have HB2 := hide (HB.out.trans ((below_box wr (.cells #[.int .i64 xp, .int .u64 (xn : Int), .slice xa xl xc, .bool xd] 71)).mono HB.out.size))
      by_cases hk : xp = k
      · have mk : (xp == k) = true := by simp [hk]
        have mk2 : (xp != k) = false := by simp [hk]
        have HKK := hide hk
        clear hk
        cases xd with
        | true =>
          go_wp2_with (first | (at_builtin; refine app_L Try.infoDx Try.underlying28 rfl (by decide) (by decide) Dx.cs_len Dx.cs_one rfl _ _ rfl w.heap.size _ _ rfl (HO.out.alloc _) _ _ x rfl (newDx HNB.out) HLQ.out HB2.out.size ?_; intro v4 w4 h4 g4 k4; have H4 := hide h4; have B4 := hide (HB2.out.grown g4 HB2.out.size (fun g e => HO.out.at g e)); clear h4 g4 k4) | fail)
          go_roundg go
          case rel => exact ⟨i + 1, by go_num, by omega, by omega, (show OwnL _ _ _ _ _ _ _ by rw [HT.out, HSN.out, if_pos (by rw [HXD.out]; simp)]; exact H4.out), B4⟩
          case measure => omega
        | false =>
          by_cases hq : xn ≤ n
          · have bq : (xn : Int) ≤ (n : Int) := by omega
            have HQ := hide hq
            clear hq
            go_wp2_with (first | (at_builtin; refine app_L Try.infoDx Try.underlying28 rfl (by decide) (by decide) Dx.cs_len Dx.cs_one rfl _ _ rfl w.heap.size _ _ rfl (HO.out.alloc _) _ _ x rfl (newDx HNB.out) HLQ.out HB2.out.size ?_; intro v4 w4 h4 g4 k4; have H4 := hide h4; have B4 := hide (HB2.out.grown g4 HB2.out.size (fun g e => HO.out.at g e)); clear h4 g4 k4) | fail)
            go_roundg go
            case rel => exact ⟨i + 1, by go_num, by omega, by omega, (show OwnL _ _ _ _ _ _ _ by rw [HT.out, HSN.out, if_pos (by rw [HXN.out]; have := HQ.out; simp [this])]; exact H4.out), B4⟩
            case measure => omega
          · have bq : ¬ (xn : Int) ≤ (n : Int) := by omega
            have HQ := hide hq
            clear hq
            go_wp2_with fail
            go_roundg go
            case rel => exact ⟨i + 1, by go_num, by omega, by omega, (show OwnL _ _ _ _ _ _ _ by rw [HT.out, HSN.out, if_neg (by rw [HXN.out, HXD.out, HXP.out, HKK.out]; have := HQ.out; simp [this])]; exact HO.out), HB⟩
            case measure => omega
      · have mk : (xp == k) = false := by simp [hk]
        have mk2 : (xp != k) = true := by simp [hk]
        have HKK := hide hk
        clear hk
        go_wp2_with (first | (at_builtin; refine app_L Try.infoDx Try.underlying28 rfl (by decide) (by decide) Dx.cs_len Dx.cs_one rfl _ _ rfl w.heap.size _ _ rfl (HO.out.alloc _) _ _ x rfl (newDx HNB.out) HLQ.out HB2.out.size ?_; intro v4 w4 h4 g4 k4; have H4 := hide h4; have B4 := hide (HB2.out.grown g4 HB2.out.size (fun g e => HO.out.at g e)); clear h4 g4 k4) | fail)
        go_roundg go
        case rel => exact ⟨i + 1, by go_num, by omega, by omega, (show OwnL _ _ _ _ _ _ _ by rw [HT.out, HSN.out, if_pos (by rw [HXP.out]; have := HKK.out; simp [this])]; exact H4.out), B4⟩
        case measure => omega
    · obtain rfl : i = D.length := by omega
      have bt : ¬ ((D.length : Nat) : Int) < (D.length : Int) := by omega
      have h1 := HO.out
      rw [List.take_of_length_le (Nat.le_refl _)] at h1
      have hfin := abort_post HG.out HB.out h1 (fun x hx => (List.mem_filter.1 hx).1)
      rw [kpA_pr] at hfin
      obtain ⟨ua, uc, hu⟩ := h1.shape
      obtain ⟨un, hun⟩ : ∃ un, (kpA D k n).length = un := ⟨_, rfl⟩
      rw [hun] at hu
      subst hu
      have HFIN := hide hfin
      have fr := HR.out.box.free
      clear h1 hfin hun
      go_wp2_with fail
      go_end0
      exact ⟨rfl, HFIN.out⟩
def dSt (d : List Dp) (k : Int) (n : Nat) : Prop := (∃ x ∈ d, x.pa = k ∧ n ≤ x.n) ∨ n = 0
theorem stage_post {w w3 w5 : World} {r : Nat} {lv ov v5 : Value} {fq : Nat → Prop} {D : List Dx} {O : List Rc} {x : Dx} (h : RG w r lv ov fq D O) (hb : Below w.heap.size w w3) (hx : OwnL 39 3 Rc.cs w.heap.size w3 x.v x.rs) (hg : w3.grownBy w5 lv.ownBlock) (ho : OwnL 71 4 Dx.cs 0 w5 v5 (D ++ [x])) (hk : v5.ownBlock = lv.ownBlock ∨ v5.ownBlock = some w3.heap.size) :
    RPost w (w5.setCell ⟨r, 0, none⟩ v5) r fq (D.map Dx.pr ++ [x.pr]) O := by
  have h3 := h.below hb
  have hr := h.box.lt
  have hk' : ∀ i, i ≠ r → (w5.setCell ⟨r, 0, none⟩ v5).heap[i]? = w5.heap[i]? := fun i hi => Below.heap_setCell w5 ⟨r, 0, none⟩ v5 i hi
  have hsz : (w5.setCell ⟨r, 0, none⟩ v5).heap.size = w5.heap.size := by simp
  have hfq : ∀ i, fq i → i ≠ r := fun i hi e => h.nr (e ▸ hi)
  have hty : ∀ (t : TypeId) i cur, t ≠ 71 → BoxT t w3 i cur → w5.heap[i]? = w3.heap[i]? := fun t i cur ht hc => hg.block i hc.lt (fun e => by
    obtain ⟨c2, h2⟩ := h3.row.has i e.symm
    exact BoxT.ne (t := t) (t' := 71) hc h2 ht rfl)
  have hrow : ∀ {v : Value} {l : List Rc}, OwnL 39 3 Rc.cs 0 w3 v l → (∀ g, v.ownBlock = some g → g ≠ r) → OwnL 39 3 Rc.cs 0 (w5.setCell ⟨r, 0, none⟩ v5) v l := fun {v l} hv hne => hv.back (fun g e => by
    obtain ⟨cur, hc⟩ := hv.has g e
    exact (hk' g (hne g e)).trans (hty 39 g cur (by decide) hc))
  have hbox : BoxT 31 w5 r #[lv, ov] := h3.box.back (hty 31 r _ (by decide) h3.box)
  have hro : OwnL 71 4 Dx.cs 0 (w5.setCell ⟨r, 0, none⟩ v5) v5 (D ++ [x]) := ho.otherBox hbox (by decide) _ _
  have hvn : ∀ g, v5.ownBlock = some g → fq g ∨ w.heap.size ≤ g := fun g e => by
    rcases hk with e2 | e2
    · exact .inl (h.lf g (e2 ▸ e))
    · rw [e2] at e; cases e; exact .inr hb.size
  refine ⟨v5, ov, fun i => fq i ∨ v5.ownBlock = some i ∨ x.v.ownBlock = some i, D ++ [x], { box := by simpa using hbox.set 0 v5, row := hro, out := hrow h3.out (fun g e => hfq g (h.of g e)), oks := fun y hy => ?_, xf := fun y hy g e => ?_, lf := fun g e => .inr (.inl e), of := fun g e => .inl (h.of g e), ap := fun y hy g e => ?_, flt := fun i hi => ?_, nr := fun e => ?_ }, by rw [List.map_append]; rfl, ?_⟩
  · rcases List.mem_append.1 hy with hy | hy
    · exact hrow (h3.oks y hy) (fun g e => hfq g (h.xf y hy g e))
    · obtain rfl := List.mem_singleton.1 hy
      exact hrow hx.own (fun g e e2 => by have := hx.at g e; omega)
  · rcases List.mem_append.1 hy with hy | hy
    · exact .inl (h.xf y hy g e)
    · obtain rfl := List.mem_singleton.1 hy
      exact .inr (.inr e)
  · rcases List.mem_append.1 hy with hy | hy
    · exact h.ap y hy g e
    · obtain rfl := List.mem_singleton.1 hy
      exact fun e2 => by have := hx.at g e; have := h.flt g (h.of g e2); omega
  · rw [hsz]
    rcases hi with e | e | e
    · exact Nat.lt_of_lt_of_le (h3.flt i e) hg.size
    · exact ho.lt i e
    · exact Nat.lt_of_lt_of_le (hx.lt i e) hg.size
  · rcases e with e | e | e
    · exact h.nr e
    · obtain ⟨cur, hc⟩ := ho.has r e
      exact BoxT.ne (t := 71) (t' := 31) hc hbox (by decide) rfl
    · have := hx.at r e; omega
  · have f1 : FT (RP r fq) (RP r fq) w w3 := FT.of_below hb
    have f2 := (f1.trans (FT.grow hg (fun g e => .inr (h.lf g e)))).trans (FT.set w5 (show RP r fq r from .inl rfl) 0 v5)
    refine f2.to_ (fun i hi => ?_)
    rcases hi with e | e | e | e
    · exact .inl (.inl e)
    · exact .inl (.inr e)
    · rcases hvn i e with e | e
      · exact .inl (.inr e)
      · exact .inr e
    · exact .inr (hx.at i e)
set_option maxHeartbeats 4000000 in
set_option maxRecDepth 100000 in
theorem rStage_any {w : World} {r : Nat} {lv ov : Value} {fq : Nat → Prop} {D : List Dx} {O : List Rc} (h : RG w r lv ov fq D O) (hn : D.length ≤ 500000) (k : Int) (n : Nat) {B : Nat} {rv : Value} {rs : List Rc} (hrv : LSeg 3 Rc.cs B w rv rs) (hB : B ≤ w.heap.size) (hrl : rs.length ≤ 500000) :
    Calls Try.prog 12 #[.pointer (some ⟨r, 0, none⟩), .int .i64 k, .int .u64 (n : Int), rv] w fun e w' => (e = .returned (.int .i64 170) ∧ dSt (D.map Dx.pr) k n ∧ Below w.heap.size w w') ∨ (e = .returned (.int .i64 0) ∧ ¬ dSt (D.map Dx.pr) k n ∧ RPost w w' r fq (D.map Dx.pr ++ [⟨k, n, rs, false⟩]) O) := by
  obtain ⟨la, lc, rfl⟩ := h.row.shape
  have HG := hide h
  have hlen := hn
  clear h
  have HRV := hide hrv
  have HRL := hide hrl
  clear hrv hrl
  go_enter Try.func12, Try.ntmps12
  go_wp2_with fail
  go_loopg [9] (D.length + 1) (fun gh iv wr => ∃ i : Nat, iv = .int .i64 (i : Int) ∧ i ≤ D.length ∧ D.length + 1 ≤ gh + i ∧ Hid (∀ x ∈ D.take i, ¬ (x.pa = k ∧ n ≤ x.n)) ∧ wr = w)
  case atStart => exact ⟨0, rfl, by omega, by omega, (show ∀ x ∈ _, _ from fun x hx => by simp at hx), rfl⟩
  case round =>
    obtain ⟨i, rfl, hi, hg, HE, rfl⟩ := hrel
    obtain ⟨go, rfl⟩ : ∃ go, gk = go + 1 := ⟨gk - 1, by omega⟩
    have HR := hide (HG.out.below (Below.refl _ _))
    obtain ⟨q0, q1⟩ := HR.out.box.cells2
    by_cases hlt : i < D.length
    · obtain ⟨x, hx⟩ := get_of_lt hlt
      have bt : (i : Int) < (D.length : Int) := by omega
      obtain ⟨nb, no, rfl, nlt, e0, e1, e2, e3⟩ := (HR.out.row.seg Dx.cs_len (by omega)).dx hx
      have HS := hide (map_take_snoc hx)
      have HXM := hide (List.mem_of_getElem? hx)
      obtain ⟨xp, hxp⟩ : ∃ xp, x.pa = xp := ⟨_, rfl⟩
      obtain ⟨xn, hxn⟩ : ∃ xn, x.n = xn := ⟨_, rfl⟩
      rw [hxp] at e0
      rw [hxn] at e1
      have HXP := hide hxp
      have HXN := hide hxn
      have HT := hide (take_snoc hx)
      clear hx hxp hxn e2 e3
      have HNX : ¬ (x.pa = k ∧ n ≤ x.n) → Hid (∀ y ∈ D.take (i + 1), ¬ (y.pa = k ∧ n ≤ y.n)) := fun hno y hy => by
        rw [HT.out] at hy
        rcases List.mem_append.1 hy with hy | hy
        · exact HE.out y hy
        · obtain rfl := List.mem_singleton.1 hy
          exact hno
      have HNX2 := hide HNX
      clear HNX
      by_cases hk : xp = k
      · have mk : (xp == k) = true := by simp [hk]
        have HKK := hide hk
        clear hk
        by_cases hq : n ≤ xn
        · have bq : (n : Int) ≤ (xn : Int) := by omega
          have HQ := hide hq
          clear hq
          go_wp2_with fail
          go_ret
          exact .inl ⟨rfl, .inl ⟨x.pr, List.mem_map.2 ⟨x, HXM.out, rfl⟩, by show x.pa = k; rw [HXP.out]; exact HKK.out, by show n ≤ x.n; rw [HXN.out]; exact HQ.out⟩, Below.refl _ _⟩
        · have bq : ¬ (n : Int) ≤ (xn : Int) := by omega
          have HQ := hide hq
          clear hq
          go_wp2_with fail
          go_roundg go
          case rel => exact ⟨i + 1, by go_num, by omega, by omega, HNX2.out (fun e => HQ.out (by have h1 := e.2; rw [HXN.out] at h1; exact h1)), rfl⟩
          case measure => omega
      · have mk : (xp == k) = false := by simp [hk]
        have HKK := hide hk
        clear hk
        go_wp2_with fail
        go_roundg go
        case rel => exact ⟨i + 1, by go_num, by omega, by omega, HNX2.out (fun e => HKK.out (by have h1 := e.1; rw [HXP.out] at h1; exact h1)), rfl⟩
        case measure => omega
    · obtain rfl : i = D.length := by omega
      have bt : ¬ ((D.length : Nat) : Int) < (D.length : Int) := by omega
      by_cases h0 : n = 0
      · have b0 : ((n : Int) == 0) = true := by simp [h0]
        have H0 := hide h0
        clear h0
        go_wp2_with fail
        go_ret
        exact .inl ⟨rfl, .inr H0.out, Below.refl _ _⟩
      · have b0 : ((n : Int) == 0) = false := by simp; omega
        have H0 := hide h0
        clear h0
        go_upto_region 8 with fail
        have HNO : Hid (¬ dSt (D.map Dx.pr) k n) := fun e => by
          rcases e with ⟨y, hy, e1, e2⟩ | e
          · obtain ⟨z, hz, rfl⟩ := List.mem_map.1 hy
            have h1 := HE.out
            rw [List.take_of_length_le (Nat.le_refl _)] at h1
            exact h1 z hz ⟨e1, e2⟩
          · exact H0.out e
        have KC : Hid (∀ w' : World, Below wr.heap.size wr w' → w'.cell? ⟨r, 0, none⟩ = some (.slice la D.length lc)) := fun w' hb => (HR.out.below hb).box.cells2.1
        refine wp_region_M (S := fun w' => w'.cell? ⟨r, 0, none⟩ = some (.slice la D.length lc)) (late := [12, 13, 14]) (by kernel_rfl) (KC.out _ (Below.refl _ _).drew) (fun hHeld => ?_)
        (try simp only [List.size_toArray, List.length_cons, List.length_nil, Nat.zero_add, Nat.reduceAdd, Array.replicate, List.replicate])
        refine wpAnyM_take (i := 0) (oi := ⟨_, _, _, _, _, _⟩) (v := ?_) rfl (by kernel_rfl) (by kernel_rfl) (by kernel_rfl) (by kernel_rfl) (fun _ _ _ h => h) (Or.inl ⟨by rfl, ?_⟩) hHeld ?_
        rotate_left
        · (intro w' hSw; (try dsimp only at hSw); go_simp; try (with_reducible rfl))
        (try simp only [Act.put, List.setIfInBounds_toArray, List.set_cons_zero, List.set_cons_succ])
        refine wpAnyM_take (i := 1) (oi := ⟨_, _, _, _, _, _⟩) (v := ?_) rfl (by kernel_rfl) (by kernel_rfl) (by kernel_rfl) (by kernel_rfl) (fun _ _ _ h => h) (Or.inl ⟨by rfl, ?_⟩) hHeld ?_
        rotate_left
        · (intro w' hSw; (try dsimp only at hSw); go_simp; try (with_reducible rfl))
        (try simp only [Act.put, List.setIfInBounds_toArray, List.set_cons_zero, List.set_cons_succ])
        refine wpAnyM_take (i := 2) (oi := ⟨_, _, _, _, _, _⟩) (v := ?_) rfl (by kernel_rfl) (by kernel_rfl) (by kernel_rfl) (by kernel_rfl) (fun _ _ _ h => h) (Or.inl ⟨by rfl, ?_⟩) hHeld ?_
        rotate_left
        · (intro w' hSw; (try dsimp only at hSw); go_simp; try (with_reducible rfl))
        (try simp only [Act.put, List.setIfInBounds_toArray, List.set_cons_zero, List.set_cons_succ])
        refine wpAnyM_take (i := 3) (oi := ⟨_, _, _, _, _, _⟩) (v := ?_) rfl (by kernel_rfl) (by kernel_rfl) (by kernel_rfl) (by kernel_rfl) (fun _ _ _ h => h) (Or.inl ⟨by rfl, ?_⟩) hHeld ?_
        rotate_left
        · (intro w' hSw; (try dsimp only at hSw); go_simp; try (with_reducible rfl))
        (try simp only [Act.put, List.setIfInBounds_toArray, List.set_cons_zero, List.set_cons_succ])
        refine wpAnyM_take (i := 4) (oi := ⟨_, _, _, _, _, _⟩) (v := ?_) rfl (by kernel_rfl) (by kernel_rfl) (by kernel_rfl) (by kernel_rfl) (fun _ _ _ h => h) (Or.inl ⟨by rfl, ?_⟩) hHeld ?_
        rotate_left
        · (intro w' hSw; (try dsimp only at hSw); go_simp; try (with_reducible rfl))
        (try simp only [Act.put, List.setIfInBounds_toArray, List.set_cons_zero, List.set_cons_succ])
        refine wpAnyM_take (i := 5) (oi := ⟨_, _, _, _, _, _⟩) (v := ?_) rfl (by kernel_rfl) (by kernel_rfl) (by kernel_rfl) (by kernel_rfl) (fun _ _ _ h => h) (Or.inl ⟨by rfl, ?_⟩) hHeld ?_
        rotate_left
        · (intro w' hSw; (try dsimp only at hSw); go_simp; try (with_reducible rfl))
        (try simp only [Act.put, List.setIfInBounds_toArray, List.set_cons_zero, List.set_cons_succ])
        refine wpAnyM_take (i := 6) (oi := ⟨_, _, _, _, _, _⟩) (v := ?_) rfl (by kernel_rfl) (by kernel_rfl) (by kernel_rfl) (by kernel_rfl) (fun _ _ _ h => h) (Or.inl ⟨by rfl, ?_⟩) hHeld ?_
        rotate_left
        · (intro w' hSw; (try dsimp only at hSw); go_simp; try (with_reducible rfl))
        (try simp only [Act.put, List.setIfInBounds_toArray, List.set_cons_zero, List.set_cons_succ])
        refine wpAnyM_take (i := 7) (oi := ⟨_, _, _, _, _, _⟩) (v := ?_) rfl (by kernel_rfl) (by kernel_rfl) (by kernel_rfl) (by kernel_rfl) (fun _ _ _ h => h) (Or.inl ⟨by rfl, ?_⟩) hHeld ?_
        rotate_left
        · (intro w' hSw; (try dsimp only at hSw); go_simp; try (with_reducible rfl))
        (try simp only [Act.put, List.setIfInBounds_toArray, List.set_cons_zero, List.set_cons_succ])
        refine wpAnyM_one (i := 8) (o := ⟨_, _, _, _, _, _⟩) (by kernel_rfl) rfl (fun K hK => ?_)
        (refine step_L Try.infoRc Try.underlying29 rfl (by decide) (by decide) Rc.cs_len Rc.cs_one rfl _ _ rfl wr.heap.size (.slice none 0 0) [] rfl (OwnL.nil _ _ _ _ _) B rv rs rfl (HRV.out.below (Below.refl _ _).drew) (by have := HRL.out; simp; omega) (Nat.le_refl _) ?_; intro u2 w2 o2 g2 k2)
        rw [List.nil_append] at o2
        obtain ⟨ua, uc, hu2⟩ := o2.shape
        obtain ⟨rl, hrl2⟩ : ∃ rl, rs.length = rl := ⟨_, rfl⟩
        rw [hrl2] at hu2
        subst hu2
        have B2 : Hid (Below wr.heap.size wr w2) := ((Below.refl _ _).drew).grown g2 (Nat.le_refl _) (fun g e => by cases e)
        have O2 := hide o2
        have HRL2 := hide hrl2
        clear o2 g2 k2 hrl2
        refine hK.out _ _ (KC.out _ B2.out) (fun hHeld => ?_)
        clear hK K
        (try simp only [List.setIfInBounds_toArray, List.set_cons_zero, List.set_cons_succ])
        refine wpAnyM_take (i := 9) (oi := ⟨_, _, _, _, _, _⟩) (v := ?_) rfl (by kernel_rfl) (by kernel_rfl) (by kernel_rfl) (by kernel_rfl) (fun _ _ _ h => h) (Or.inl ⟨by rfl, ?_⟩) hHeld ?_
        rotate_left
        · (intro w' hSw; (try dsimp only at hSw); go_simp; try (with_reducible rfl))
        (try simp only [Act.put, List.setIfInBounds_toArray, List.set_cons_zero, List.set_cons_succ])
        have B3 : Hid (Below wr.heap.size wr (w2.alloc (.cells #[.int .i64 k, .int .u64 (n : Int), .slice ua rl uc, .bool false] 71))) := B2.out.alloc B2.out.size _
        have BX : Hid (BoxT 71 (w2.alloc (.cells #[.int .i64 k, .int .u64 (n : Int), .slice ua rl uc, .bool false] 71)) w2.heap.size #[.int .i64 k, .int .u64 (n : Int), .slice ua rl uc, .bool false]) := BoxT.new _ _ _
        have HXV : Hid ((⟨k, n, ua, uc, rs, false⟩ : Dx).v = .slice ua rl uc) := (show _ = _ by unfold Dx.v; simp only [HRL2.out])
        refine wpAnyM_one (i := 10) (o := ⟨_, _, _, _, _, _⟩) (by kernel_rfl) rfl (fun K hK => ?_)
        go_simp
        refine hK.out _ _ (KC.out _ B3.out) (fun hHeld => ?_)
        clear hK K
        (try simp only [List.setIfInBounds_toArray, List.set_cons_zero, List.set_cons_succ])
        refine wpAnyM_one (i := 11) (o := ⟨_, _, _, _, _, _⟩) (by kernel_rfl) rfl (fun K hK => ?_)
        (refine step_L Try.infoDx Try.underlying28 rfl (by decide) (by decide) Dx.cs_len Dx.cs_one rfl _ _ rfl 0 (.slice la D.length lc) D rfl (HR.out.below B3.out).row _ _ [(⟨k, n, ua, uc, rs, false⟩ : Dx)] rfl (seg_one _ BX.out BX.out.lt (fun j u hu => by simp only [Dx.cs, HXV.out] at hu; simpa using hu) 1) (by simp only [List.length_singleton]; omega) (Nat.zero_le _) ?_; intro v5 w5 o5 g5 k5)
        obtain ⟨a5, c5, hv5⟩ := o5.shape
        obtain ⟨n5, hn5⟩ : ∃ n5, (D ++ [(⟨k, n, ua, uc, rs, false⟩ : Dx)]).length = n5 := ⟨_, rfl⟩
        rw [hn5] at hv5
        subst hv5
        have HS5 : Hid (BoxT 31 w5 r #[.slice la D.length lc, ov]) := by
            have h4 := (HR.out.below B3.out).box
            exact h4.back (g5.block _ h4.lt (fun e => by
              obtain ⟨cur, hc⟩ := (HR.out.below B3.out).row.has _ e.symm
              exact BoxT.ne (t := 31) (t' := 71) h4 hc (by decide) rfl))
        have HFIN := hide (stage_post (x := ⟨k, n, ua, uc, rs, false⟩) HR.out B3.out (by rw [HXV.out]; exact O2.out.alloc _) g5 o5 k5)
        have fr5 := HS5.out.free
        clear o5 g5 k5 hn5
        refine hK.out _ _ (HS5.out.cells2.1) (fun hHeld => ?_)
        clear hK K
        (try simp only [List.setIfInBounds_toArray, List.set_cons_zero, List.set_cons_succ])
        refine wpAnyM_last (i := 12) (o := ⟨_, _, _, _, _, _⟩) (by kernel_rfl) (by rfl) rfl (fun K hK => ?_)
        go_simp
        refine hK.out _ _ ?_
        clear hK K
        (try simp only [List.setIfInBounds_toArray, List.set_cons_zero, List.set_cons_succ])
        refine wpAnyM_last (i := 13) (o := ⟨_, _, _, _, _, _⟩) (by kernel_rfl) (by rfl) rfl (fun K hK => ?_)
        go_simp
        refine hK.out _ _ ?_
        clear hK K
        (try simp only [List.setIfInBounds_toArray, List.set_cons_zero, List.set_cons_succ])
        refine wpAnyM_last (i := 14) (o := ⟨_, _, _, _, _, _⟩) (by kernel_rfl) (by rfl) rfl (fun K hK => ?_)
        go_simp
        refine hK.out _ _ ?_
        clear hK K
        (try simp only [List.setIfInBounds_toArray, List.set_cons_zero, List.set_cons_succ])
        refine wpAnyM_done (by kernel_rfl) ?_ _
        go_wp2_with fail
        go_ret
        exact .inr ⟨rfl, HNO.out, HFIN.out⟩

end Go.Proofs.Yteafnohponbbeaa
