/-
  Texts in build order: WBase, WCopy, ORow.
-/
import Derived.Test.YtpcbhcdpegbfjaaGreatM00
import Derived.Test.YtpcbhcdpegbfjaaGreatM01
import Derived.Test.YtpcbhcdpegbfjaaGreatM02
import Derived.Sort.Grow
/-
 Panes, spans and records as they lie; the comparison of panes.
-/
namespace Go.Proofs.YtpcbhcdpegbfjaaGreat
set_option maxHeartbeats 16000000
set_option maxRecDepth 100000
open Go.RowKit
structure Sp where
 f : Int
 t : Int
structure Rc where
 k : Int
 t : Int
 v : Int
def Pn.cs (x : Pn) : List Value := [.int .i64 x.k, .int .i64 x.f, .int .i64 x.t, .int .i64 x.a]
def Pn.val (x : Pn) : Value := .agg #[.int .i64 x.k, .int .i64 x.f, .int .i64 x.t, .int .i64 x.a]
def Sp.cs (x : Sp) : List Value := [.int .i64 x.f, .int .i64 x.t]
def Sp.val (x : Sp) : Value := .agg #[.int .i64 x.f, .int .i64 x.t]
def Rc.cs (x : Rc) : List Value := [.int .i64 x.k, .int .i64 x.t, .int .i64 x.v]
def Rc.val (x : Rc) : Value := .agg #[.int .i64 x.k, .int .i64 x.t, .int .i64 x.v]
theorem Pn.cs_len (x : Pn) : x.cs.length = 4 := rfl
theorem Sp.cs_len (x : Sp) : x.cs.length = 2 := rfl
theorem Rc.cs_len (x : Rc) : x.cs.length = 3 := rfl
theorem Pn.cs_one (n : Pn) : ∀ u ∈ n.cs, u.oneCell' = true := by
 intro u hu
 simp only [Pn.cs, List.mem_cons, List.not_mem_nil, or_false] at hu
 rcases hu with rfl | rfl | rfl | rfl <;> rfl
theorem Sp.cs_one (n : Sp) : ∀ u ∈ n.cs, u.oneCell' = true := by
 intro u hu
 simp only [Sp.cs, List.mem_cons, List.not_mem_nil, or_false] at hu
 rcases hu with rfl | rfl <;> rfl
theorem Rc.cs_one (n : Rc) : ∀ u ∈ n.cs, u.oneCell' = true := by
 intro u hu
 simp only [Rc.cs, List.mem_cons, List.not_mem_nil, or_false] at hu
 rcases hu with rfl | rfl | rfl <;> rfl
theorem Tryz.infoPn : (Tryz.prog.info? 79).map (fun i => (i.zero, i.size, i.bytes)) = some (some (.agg #[.int .i64 0, .int .i64 0, .int .i64 0, .int .i64 0]), 4, 32) := by kernel_rfl
theorem Tryz.infoSp : (Tryz.prog.info? 72).map (fun i => (i.zero, i.size, i.bytes)) = some (some (.agg #[.int .i64 0, .int .i64 0]), 2, 16) := by kernel_rfl
theorem Tryz.infoRc : (Tryz.prog.info? 38).map (fun i => (i.zero, i.size, i.bytes)) = some (some (.agg #[.int .i64 0, .int .i64 0, .int .i64 0]), 3, 24) := by kernel_rfl
theorem OwnL.seg {α : Type} {t sz : Nat} {cs : α → List Value} {base : Nat} {w : World} {v : Value} {xs : List α} (h : OwnL t sz cs base w v xs) (hcs : ∀ x, (cs x).length = sz) (hl : xs.length ≤ 140737488355328) : LSeg sz cs w.heap.size w v xs := by
 have hn := h.1
 rcases h.2 with ⟨rfl, h0⟩ | ⟨g, cap, cur, rfl, h2, h3, h4, h5, h6, h7⟩
 ·have : xs = [] := List.length_eq_zero_iff.1 h0
  subst this
  exact ⟨none, 0, rfl, by simp, .inl rfl⟩
 ·refine ⟨some ⟨g, 0, none⟩, cap, rfl, hl, .inr ⟨g, 0, rfl, (Array.getElem?_eq_some_iff.1 h3).1, fun i x hi j u hu => ?_⟩⟩
  have h8 := flat_get hcs xs i j x u hi hu
  rw [← h7, List.getElem?_take] at h8
  split at h8
  ·have hb : BoxT t w g cur := h3
   rw [hb.cellAt, Nat.zero_add]; simpa using h8
  ·cases h8
theorem LSeg.nil' {α : Type} (sz : Nat) (cs : α → List Value) (B : Nat) (w : World) : LSeg sz cs B w (.slice none 0 0) ([] : List α) := ⟨none, 0, rfl, by simp, .inl rfl⟩
theorem LSeg.shapeOf {α : Type} {sz : Nat} {cs : α → List Value} {B : Nat} {w : World} {v : Value} {xs : List α} (h : LSeg sz cs B w v xs) : ∃ ao cap, v = .slice ao xs.length cap := by
 obtain ⟨ao, cap, e, _⟩ := h
 exact ⟨ao, cap, e⟩
theorem LSeg.len {α : Type} {sz : Nat} {cs : α → List Value} {B : Nat} {w : World} {v : Value} {xs : List α} (h : LSeg sz cs B w v xs) : xs.length ≤ 140737488355328 := by
 obtain ⟨_, _, _, h, _⟩ := h
 exact h
theorem LSeg.readAt {α : Type} {sz : Nat} {cs : α → List Value} {B : Nat} {w : World} {ao : Option Addr} {n cap : Nat} {xs : List α} (h : LSeg sz cs B w (.slice ao n cap) xs) {i : Nat} {x : α} (hx : xs[i]? = some x) : ∃ b o, ao = some ⟨b, o, none⟩ ∧ b < B ∧ n = xs.length ∧ ∀ (j : Nat) (u : Value), (cs x)[j]? = some u → w.cell? ⟨b, o + i * sz + j, none⟩ = some u := by
 obtain ⟨ao', cap', e, _, hs⟩ := h
 cases e
 rcases hs with rfl | ⟨b, off, rfl, hb, hc⟩
 ·simp at hx
 ·exact ⟨b, off, rfl, hb, rfl, hc i x hx⟩
theorem ret_int {x y : Int} (h : x = y) : (Ending.returned (.int .i64 x)) = .returned (.int .i64 y) := by rw [h]
theorem ret_bool {x y : Bool} (h : x = y) : (Ending.returned (.bool x)) = .returned (.bool y) := by rw [h]
def cmpv (x y : Int) : Int := if x < y then -1 else if y < x then 1 else 0
theorem isNaN_any (w : World) (x : Int) : Calls Tryz.prog 136 #[.int .i64 x] w fun e w' => e = .returned (.bool false) ∧ w' = w := by
 go_enter Tryz.func136, Tryz.ntmps136
 go_wp2_with fail
 go_ret
 exact ⟨by simp, rfl⟩
theorem Compare_any (w : World) (a t : Int) : Calls Tryz.prog 123 #[.int .i64 a, .int .i64 t] w fun e w' => e = .returned (.int .i64 (cmpv a t)) ∧ w' = w := by
 unfold cmpv
 by_cases h1 : a < t
 ·rw [if_pos h1]
  go_enter Tryz.func123, Tryz.ntmps123
  go_wp2_with (first | (go_at_call 136; refine (isNaN_any _ _).mono ?_; rintro e w1 ⟨rfl, rfl⟩) | fail)
  go_ret
  exact ⟨rfl, rfl⟩
 ·rw [if_neg h1]
  by_cases h2 : t < a
  ·rw [if_pos h2]
   go_enter Tryz.func123, Tryz.ntmps123
   go_wp2_with (first | (go_at_call 136; refine (isNaN_any _ _).mono ?_; rintro e w1 ⟨rfl, rfl⟩) | fail)
   go_ret
   exact ⟨rfl, rfl⟩
  ·rw [if_neg h2]
   go_enter Tryz.func123, Tryz.ntmps123
   go_wp2_with (first | (go_at_call 136; refine (isNaN_any _ _).mono ?_; rintro e w1 ⟨rfl, rfl⟩) | fail)
   go_ret
   exact ⟨rfl, rfl⟩
def orv : List Int → Int
 | [] => 0
 | x :: r => if x = 0 then orv r else x
theorem drop_at {α : Type} {l : List α} {t : Nat} {x : α} (h : l[t]? = some x) : l.drop t = x :: l.drop (t + 1) := by
 have hl := lt_of_get h
 rw [List.getElem?_eq_getElem hl] at h
 cases h
 exact List.drop_eq_getElem_cons hl
theorem drop_end {α : Type} {l : List α} {t : Nat} (h : ¬ t < l.length) : l.drop t = [] := List.drop_eq_nil_of_le (by omega)
theorem Or_any {w : World} {v : Value} {l : List Int} {B : Nat} (hl : LSeg 1 i64cs B w v l) (hn : l.length ≤ 100000) : Calls Tryz.prog 122 #[v] w fun e w' => e = .returned (.int .i64 (orv l)) ∧ w' = w := by
 obtain ⟨ao, cap, rfl⟩ := hl.shape
 have HL := hide hl
 clear hl
 generalize hR : orv l = R
 have HR : Hid (orv (l.drop 0) = R) := (show _ = _ by rw [List.drop_zero]; exact hR)
 clear hR
 go_enter Tryz.func122, Tryz.ntmps122
 go_wp2_with fail
 go_loopg [5, 8] (l.length + 1) (fun gh xv iv wr => ∃ t : Nat, iv = .int .i64 (t : Int) ∧ t ≤ l.length ∧ l.length + 1 ≤ gh + t ∧ Hid (orv (l.drop t) = R) ∧ wr = w)
 case atStart => exact ⟨0, rfl, by omega, by omega, HR, rfl⟩
 case round =>
  obtain ⟨t, rfl, ht, hg, HR, rfl⟩ := hrel
  obtain ⟨go, rfl⟩ : ∃ go, gk = go + 1 := ⟨gk - 1, by omega⟩
  by_cases hlt : t < l.length
  ·obtain ⟨x, hx⟩ := get_of_lt hlt
   have bt : (t : Int) < (l.length : Int) := by omega
   obtain ⟨nb, no, rfl, nlt, d0⟩ := seg_int HL.out hx
   have hd := drop_at hx
   by_cases h0 : x = 0
   ·have HT : Hid (orv (l.drop (t + 1)) = R) := (show _ = _ by rw [← HR.out, hd, orv, if_pos h0])
    clear hx hd
    subst h0
    go_wp2_with fail
    go_roundg go
    case rel => exact ⟨t + 1, by go_num, by omega, by omega, HT, rfl⟩
    case measure => omega
   ·have HT : Hid (x = R) := (show _ = _ by rw [← HR.out, hd, orv, if_neg h0])
    clear hx hd
    go_wp2_with fail
    go_ret
    exact ⟨ret_int HT.out, rfl⟩
  ·have bt : ¬ (t : Int) < (l.length : Int) := by omega
   have HE : Hid (0 = R) := (show _ = _ by rw [← HR.out, drop_end hlt]; rfl)
   go_wp2_with fail
   go_ret
   exact ⟨ret_int HE.out, rfl⟩
end Go.Proofs.YtpcbhcdpegbfjaaGreat
/-
 copied: a list in memory of its own.
-/
namespace Go.Proofs.YtpcbhcdpegbfjaaGreat
set_option maxHeartbeats 16000000
set_option maxRecDepth 100000
open Go.RowKit
theorem flat_seg {α : Type} {sz : Nat} {cs : α → List Value} (hcs : ∀ x, (cs x).length = sz) (hs : 0 < sz) {w : World} {b off : Nat} {ys : List α} (hc : ∀ (i : Nat) (x : α), ys[i]? = some x → ∀ (j : Nat) (u : Value), (cs x)[j]? = some u → w.cell? ⟨b, off + i * sz + j, none⟩ = some u) (j : Nat) (u : Value) (hj : (ys.flatMap cs)[j]? = some u) : w.cell? ⟨b, off + j, none⟩ = some u := by
 have hl := lt_of_get hj
 rw [flat_size hcs] at hl
 have hi : j / sz < ys.length := (Nat.div_lt_iff_lt_mul hs).2 hl
 obtain ⟨x, hx⟩ := get_of_lt hi
 have hm : j % sz < (cs x).length := by rw [hcs]; exact Nat.mod_lt _ hs
 obtain ⟨u', hu⟩ := get_of_lt hm
 have h1 := flat_get hcs ys (j / sz) (j % sz) x u' hx hu
 have e : j / sz * sz + j % sz = j := by rw [Nat.mul_comm]; exact Nat.div_add_mod j sz
 rw [e, hj] at h1
 cases h1
 have := hc (j / sz) x hx (j % sz) u hu
 rw [Nat.add_assoc, e] at this
 exact this
theorem run_segL {α : Type} {t sl sz by_ : Nat} {z : Value} {cs : α → List Value} (hinfo : (Tryz.prog.info? t).map (fun i => (i.zero, i.size, i.bytes)) = some (some z, sz, by_)) (hund : Tryz.prog.underlying sl = some (.slice t)) (hz : z.cells.size = sz) (hsz : 0 < sz) (hby : by_ ≤ 100)
  (hcs : ∀ x, (cs x).length = sz) (h1c : ∀ x, ∀ u ∈ cs x, u.oneCell' = true) {w : World} (ty base : Nat) {v : Value} {xs : List α} (hown : OwnL t sz cs base w v xs) {B : Nat} {v2 : Value} {ys : List α} (hseg : LSeg sz cs B w v2 ys) (hl : xs.length + ys.length ≤ 1000000) (hbase : base ≤ w.heap.size) :
  ∃ v' w', (Builtin.append_ #[sl, sl] ty #[v, v2]).run Tryz.prog w = .ok v' w' ∧ OwnL t sz cs base w' v' (xs ++ ys) ∧ w.grownBy w' v.ownBlock ∧ (v'.ownBlock = v.ownBlock ∨ v'.ownBlock = some w.heap.size) := by
 obtain ⟨i0, hi, hz0, hz1, hz2⟩ := info_parts hinfo
 obtain ⟨ao, cap, rfl, hcap, hs⟩ := hseg
 have hb2 : (xs.length + ys.length) * by_ ≤ 140737488355328 := by
  have : (xs.length + ys.length) * by_ ≤ 1000000 * 100 := Nat.mul_le_mul hl hby
  omega
 by_cases hy : ys = []
 ·subst hy
  rw [List.append_nil]
  refine ⟨v, w, ?_, hown, grownBy_refl _ _, .inl rfl⟩
  have hown2 := hown
  rcases hown2.2 with ⟨rfl, h0⟩ | ⟨g, c, cur, rfl, _, _, hnc, _⟩
  ·cases ao <;> simp [Builtin.append_, run_underlying hund, sizeOf, typeInfo, hi, Builtin.lenOf, Builtin.firstCells, run_load0]
  ·cases ao <;> simp [Builtin.append_, run_underlying hund, sizeOf, typeInfo, hi, Builtin.lenOf, Builtin.firstCells, hnc, storeCells, run_load0]
 ·rcases hs with hs | ⟨b, off, rfl, hb, hc⟩
  ·exact absurd hs hy
  ·obtain ⟨v', w', r1, r2, r3, _, r4⟩ := run_append_own_at (P := Tryz.prog) w base sl ty t i0 z sz by_ hund hi hz0 hz1 hz2 hz hsz v xs.length (xs.flatMap cs) hown ⟨b, off, none⟩ ys.length cap (ys.flatMap cs) (flat_size hcs ys) (fun j u hj => by
    rw [add_plain2]
    exact flat_seg hcs hsz hc j u hj) (fun u hu => by
    simp only [List.mem_flatMap] at hu
    obtain ⟨y, _, hu⟩ := hu
    exact h1c y u hu) (by unfold maxLen; omega) hb2 hbase
   refine ⟨v', w', r1, ?_, r3, r4⟩
   show w'.ownsRow base t sz v' (xs ++ ys).length ((xs ++ ys).flatMap cs)
   rw [List.length_append, List.flatMap_append]; exact r2
theorem app_segL {α : Type} {t sl sz by_ : Nat} {z : Value} {cs : α → List Value} (hinfo : (Tryz.prog.info? t).map (fun i => (i.zero, i.size, i.bytes)) = some (some z, sz, by_)) (hund : Tryz.prog.underlying sl = some (.slice t)) (hz : z.cells.size = sz) (hsz : 0 < sz) (hby : by_ ≤ 100)
  (hcs : ∀ x, (cs x).length = sz) (h1c : ∀ x, ∀ u ∈ cs x, u.oneCell' = true) {w : World} {ops : Array Oper} {rest : List Oper} {o : Oper} {a : Act} {Q : Exit → Act → World → Prop} (hgd : o.guard = none) (s x : Operand)
  (ho : o.op = .call { callee := .builtin .append, args := #[s, x], argTypes := #[sl, sl] }) (base : Nat) (v : Value) (xs : List α) (hs : a.eval s = v) (hown : OwnL t sz cs base w v xs)
  (B : Nat) (v2 : Value) (ys : List α) (hx : a.eval x = v2) (hseg : LSeg sz cs B w v2 ys) (hl : xs.length + ys.length ≤ 1000000) (hbase : base ≤ w.heap.size)
  (h : ∀ v' w', OwnL t sz cs base w' v' (xs ++ ys) → w.grownBy w' v.ownBlock → (v'.ownBlock = v.ownBlock ∨ v'.ownBlock = some w.heap.size) → wpList Tryz.prog ops Q rest (a.put o.dst v') w') : wpList Tryz.prog ops Q (o :: rest) a w := by
 refine wpList_plain hgd fun K hK => ?_
 obtain ⟨v', w', hr, h2, h3, h4⟩ := run_segL hinfo hund hz hsz hby hcs h1c o.type base hown hseg hl hbase
 unfold Oper.wp execOp
 simp only [ho, resolve, invoke, builtin, Sem.run_bind, Sem.run_pure, Result.andThen_ok, List.map_toArray, List.map_cons, List.map_nil, hs, hx, hr]
 exact hK _ _ (h v' w' h2 h3 h4)
theorem app_L {α : Type} {t sl sz by_ : Nat} {z : Value} {cs : α → List Value} (hinfo : (Tryz.prog.info? t).map (fun i => (i.zero, i.size, i.bytes)) = some (some z, sz, by_)) (hund : Tryz.prog.underlying sl = some (.slice t)) (hz : z.cells.size = sz) (hsz : 0 < sz) (hby : by_ ≤ 100)
  (hcs : ∀ x, (cs x).length = sz) (h1c : ∀ x, ∀ u ∈ cs x, u.oneCell' = true)
  {w : World} {ops : Array Oper} {rest : List Oper} {o : Oper} {a : Act} {Q : Exit → Act → World → Prop} (hgd : o.guard = none) (s x : Operand)
  (ho : o.op = .call { callee := .builtin .append, args := #[s, x], argTypes := #[sl, sl] }) (base : Nat) (v : Value) (l : List α) (hs : a.eval s = v) (hown : OwnL t sz cs base w v l)
  (ad : Addr) (c : Nat) (y : α) (hx : a.eval x = .slice (some ad) 1 c) (hnews : ∀ (j : Nat) (u : Value), (cs y)[j]? = some u → w.cell? (ad.add j) = some u) (hl : l.length ≤ 1000000) (hbase : base ≤ w.heap.size)
  (h : ∀ v' w', OwnL t sz cs base w' v' (l ++ [y]) → w.grownBy w' v.ownBlock → (∀ g, v'.ownBlock = some g → v.ownBlock = some g ∨ w.heap.size ≤ g) → wpList Tryz.prog ops Q rest (a.put o.dst v') w') : wpList Tryz.prog ops Q (o :: rest) a w := by
 obtain ⟨i0, hi, hz0, hz1, hz2⟩ := info_parts hinfo
 have hb2 : (l.length + 1) * by_ ≤ 140737488355328 := by
  have : (l.length + 1) * by_ ≤ 1000001 * 100 := Nat.mul_le_mul (by omega) hby
  omega
 refine wpList_append_own_at w hgd s x sl ho base t i0 z sz by_ hund hi hz0 hz1 hz2 hz hsz v l.length (l.flatMap cs) hs hown ad 1 c (cs y) hx (by rw [hcs]; omega) hnews (h1c y) (by unfold maxLen; omega) hb2 hbase ?_
 intro v' w' h2 h3 _ h5
 refine h v' w' ?_ h3 (fun g e => ?_)
 ·show w'.ownsRow _ _ _ _ _ _
  rw [List.length_append, List.flatMap_append]; simpa using h2
 ·rcases h5 with h5 | h5
  ·exact .inl (h5 ▸ e)
  ·rw [h5] at e; cases e; exact .inr (Nat.le_refl _)
theorem copied_any {w : World} {v : Value} {l : List Pn} (hl : LSeg 4 Pn.cs w.heap.size w v l) (hn : l.length ≤ 1000000) : Calls Tryz.prog 120 #[v] w fun e w' => ∃ u, e = .returned u ∧ OwnL 79 4 Pn.cs w.heap.size w' u l ∧ Below w.heap.size w w' := by
 obtain ⟨ao, cap, rfl⟩ := hl.shapeOf
 have HL := hide hl
 have HN : Hid (([] : List Pn).length + l.length ≤ 1000000) := (show _ ≤ _ by simpa using hn)
 clear hl hn
 go_enter Tryz.func120, Tryz.ntmps120
 go_wp2_with (at_builtin; refine app_segL Tryz.infoPn Tryz.underlying47 rfl (by decide) (by decide) Pn.cs_len Pn.cs_one rfl _ _ rfl w.heap.size (.slice none 0 0) [] rfl (OwnL.nil _ _ _ _ _) _ _ l rfl HL.out HN.out (Nat.le_refl _) ?_; intro v1 w1 h1 g1 _; rw [List.nil_append] at h1)
 have b1 : Below w.heap.size w w1 := (Below.refl _ _).grown g1 (Nat.le_refl _) (fun k e => by cases e)
 go_ret
 exact ⟨_, rfl, h1, b1⟩
end Go.Proofs.YtpcbhcdpegbfjaaGreat
/-
 append of a list that can be read onto a row that begins anywhere.
-/
namespace Go.Proofs.YtpcbhcdpegbfjaaGreat
open Go.RowKit
theorem run_rowS {α : Type} {t sl sz by_ : Nat} {z : Value} {cs : α → List Value} (hinfo : (Tryz.prog.info? t).map (fun i => (i.zero, i.size, i.bytes)) = some (some z, sz, by_)) (hund : Tryz.prog.underlying sl = some (.slice t)) (hz : z.cells.size = sz) (hsz : 0 < sz) (hby : by_ ≤ 100)
  (hcs : ∀ x, (cs x).length = sz) (h1c : ∀ x, ∀ u ∈ cs x, u.oneCell' = true) {w : World} (ty base : Nat) {v : Value} {xs : List α} (hown : Row t sz cs base w v xs) {B : Nat} {v2 : Value} {ys : List α} (hseg : LSeg sz cs B w v2 ys) (hl : xs.length + ys.length ≤ 1000000) (hbase : base ≤ w.heap.size) :
  ∃ v' w', (Builtin.append_ #[sl, sl] ty #[v, v2]).run Tryz.prog w = .ok v' w' ∧ Row t sz cs base w' v' (xs ++ ys) ∧ w.grownBy w' v.ownBlock ∧ ∀ g, v'.ownBlock = some g → v.ownBlock = some g ∨ w.heap.size ≤ g := by
 rcases id hown with ⟨rfl, rfl⟩ | ⟨g, off, cap, cur, rfl, g2, g3, g4, g5, g6, g7⟩
 ·obtain ⟨v', w', r1, r2, r3, r4⟩ := run_segL hinfo hund hz hsz hby hcs h1c ty base (OwnL.nil t sz cs base w) hseg hl hbase
  refine ⟨v', w', r1, Row.of_own r2, r3, fun g e => ?_⟩
  rcases r4 with r4 | r4
  ·rw [r4] at e; cases e
  ·rw [r4] at e; cases e; exact .inr (Nat.le_refl _)
 ·obtain ⟨i0, hi, hz0, hz1, hz2⟩ := info_parts hinfo
  obtain ⟨ao, cap2, rfl, hcap, hs⟩ := hseg
  have hb2 : (xs.length + ys.length) * by_ ≤ 140737488355328 := by
   have : (xs.length + ys.length) * by_ ≤ 1000000 * 100 := Nat.mul_le_mul hl hby
   omega
  by_cases hy : ys = []
  ·subst hy
   rw [List.append_nil]
   refine ⟨_, w, ?_, hown, grownBy_refl _ _, fun g' e => .inl e⟩
   cases ao <;> simp [Builtin.append_, run_underlying hund, sizeOf, typeInfo, hi, Builtin.lenOf, Builtin.firstCells, g4, storeCells, run_load0]
  ·rcases hs with hs | ⟨b, off2, rfl, hb, hc⟩
   ·exact absurd hs hy
   ·have hnews : ∀ (j : Nat) (u : Value), (ys.flatMap cs)[j]? = some u → w.cell? ((⟨b, off2, none⟩ : Addr).add j) = some u := fun j u hj => by
     rw [add_plain2]
     exact flat_seg hcs hsz hc j u hj
    by_cases hr : xs.length + ys.length ≤ cap
    ·have hlen : (ys.flatMap cs).length = ys.length * sz := flat_size hcs ys
     have hfit : off + xs.length * sz + (ys.flatMap cs).length ≤ cur.size := by
      have : (xs.length + ys.length) * sz ≤ cap * sz := Nat.mul_le_mul_right _ hr
      rw [Nat.add_mul] at this; omega
     have hrun := run_append_room_cells (P := Tryz.prog) w sl ty t i0 hund hi g off xs.length cap ⟨b, off2, none⟩ ys.length cap2 (ys.flatMap cs) (by rw [hlen, hz1]) hnews (fun u hu => by
      simp only [List.mem_flatMap] at hu
      obtain ⟨y, _, hu⟩ := hu
      exact h1c y u hu) hr
      (fun j hj => by rw [hz1, g3.cellAt, Array.getElem?_eq_getElem (show off + xs.length * sz + j < cur.size by omega)]; rfl) (fun j _ => g3.free _)
     rw [hz1] at hrun
     refine ⟨_, _, hrun, ?_, grown_setCells g _ w _, fun g' e => .inl e⟩
     refine .inr ⟨g, off, cap, setL cur (off + xs.length * sz) (ys.flatMap cs), by simp, g2, g3.setCells _, by simpa using hr, g5, by rw [setL_size]; exact g6, fun j u hu => ?_⟩
     rw [List.flatMap_append] at hu
     by_cases hj : j < xs.length * sz
     ·rw [List.getElem?_append_left (by rw [flat_size hcs]; exact hj)] at hu
      rw [setL_out _ _ _ _ (.inl (by omega))]
      exact g7 j u hu
     ·rw [List.getElem?_append_right (by rw [flat_size hcs]; omega), flat_size hcs] at hu
      rw [show off + j = off + xs.length * sz + (j - xs.length * sz) by omega]
      exact setL_in _ _ _ _ _ hfit hu
    ·obtain ⟨v', w', r1, r2, r3⟩ := run_append_arg_grows (P := Tryz.prog) w sl ty t i0 z sz by_ hund hi hz0 hz1 hz2 hz hsz ⟨g, off, none⟩ xs.length cap (xs.flatMap cs) (flat_size hcs xs) (fun j u hj => by rw [add_plain2, g3.cellAt]; exact g7 j u hj) ⟨b, off2, none⟩ ys.length cap2 (ys.flatMap cs) (flat_size hcs ys) hnews (by omega) (by unfold maxLen; omega) hb2
     have h2 : OwnL t sz cs w.heap.size w' v' (xs ++ ys) := by
      show w'.ownsRow _ t sz v' (xs ++ ys).length ((xs ++ ys).flatMap cs)
      rw [List.length_append, List.flatMap_append]; exact r2
     exact ⟨v', w', r1, Row.of_own (h2.mono hbase), ⟨r3.os, r3.tape, r3.output, r3.size, fun i hi _ => r3.block i hi (by simp)⟩, fun g e => .inr (h2.at g e)⟩
theorem run_panesS {w : World} (ty base : Nat) {v : Value} {xs : List Pn} (hown : Row 79 4 Pn.cs base w v xs) {B : Nat} {v2 : Value} {ys : List Pn} (hseg : LSeg 4 Pn.cs B w v2 ys) (hl : xs.length + ys.length ≤ 1000000) (hbase : base ≤ w.heap.size) :
  ∃ v' w', (Builtin.append_ #[47, 47] ty #[v, v2]).run Tryz.prog w = .ok v' w' ∧ Row 79 4 Pn.cs base w' v' (xs ++ ys) ∧ w.grownBy w' v.ownBlock ∧ ∀ g, v'.ownBlock = some g → v.ownBlock = some g ∨ w.heap.size ≤ g :=
 run_rowS Tryz.infoPn Tryz.underlying47 rfl (by decide) (by decide) Pn.cs_len Pn.cs_one ty base hown hseg hl hbase
end Go.Proofs.YtpcbhcdpegbfjaaGreat
