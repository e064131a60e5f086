/-
  Texts in build order: ZJKnown, ZJBuild, ZJChain, ZJRefOrd.
-/
import Derived.Test.YtpcbhcdpegbfjaaGreatM22
/-
 known: the chapter's examples.
-/
namespace Go.Proofs.YtpcbhcdpegbfjaaGreat.J
open Go.RowKit
theorem LSeg.ofRow {α : Type} {sz t : Nat} {cs : α → List Value} (hcs : ∀ x, (cs x).length = sz) {B : Nat} {w : World} {g cap : Nat} {cur : Array Value} {xs : List α} (hb : BoxT t w g cur) (hg : g < B) (hl : xs.length ≤ 140737488355328) (hc : ∀ (j : Nat) (u : Value), (xs.flatMap cs)[j]? = some u → cur[j]? = some u) :
  LSeg sz cs B w (.slice (some ⟨g, 0, none⟩) xs.length cap) xs := by
 refine ⟨_, cap, rfl, hl, .inr ⟨g, 0, rfl, hg, fun i x hx j u hu => ?_⟩⟩
 rw [hb.cellAt, Nat.zero_add]
 exact hc _ u (flat_get hcs xs i j x u hx hu)
theorem LSeg.none {α : Type} {sz : Nat} {cs : α → List Value} {B : Nat} {w : World} {c : Nat} : LSeg sz cs B w (.slice none 0 c) ([] : List α) := ⟨_, c, rfl, by simp, .inl rfl⟩
def kn1 (a b : Nat) : List Nd := [⟨1, none, 0, [], 1, ⟨0, 0, none, 0, []⟩, 0, 0, 0, 0⟩, ⟨7, some ⟨a, 0, none⟩, 1, [0], 2, ⟨0, 0, none, 0, []⟩, 1, 2, 10, 3⟩, ⟨8, some ⟨b, 0, none⟩, 1, [1], 1, ⟨0, 0, none, 0, []⟩, 0, 0, 0, 0⟩]
def kn2 (a : Nat) : List Nd := [⟨5, some ⟨a, 0, none⟩, 1, [0], 1, ⟨0, 0, none, 0, []⟩, 0, 0, 0, 0⟩]
def kl1 (a b : Nat) : List En := [⟨some ⟨b, 0, none⟩, 1, [⟨some ⟨a, 0, none⟩, 1, [⟨2, 0, 0, 0, 9223372036854775807⟩]⟩]⟩, ⟨none, 0, []⟩, ⟨none, 0, []⟩]
theorem step_any {F : FuncId} {args : Array Value} {w : World} {Q : Ending → World → Prop} (h : ∀ w1, w1 = w → Calls Tryz.prog F args w1 Q) : Calls Tryz.prog F args w Q := h w rfl
structure Kn (b : Nat) (w : World) : Prop where
 j1 : JobIn (b + 10) w (.slice (some ⟨b + 1 + 1, 0, none⟩) 3 3) (kn1 b (b + 1))
 x1 : BoxT 62 w (b + 1 + 1 + 1) #[.slice (some ⟨b + 1 + 1, 0, none⟩) 3 3]
 j2 : JobIn (b + 10) w (.slice (some ⟨b + 1 + 1 + 1 + 1 + 1, 0, none⟩) 1 1) (kn2 (b + 1 + 1 + 1 + 1))
 x2 : BoxT 62 w (b + 1 + 1 + 1 + 1 + 1 + 1) #[.slice (some ⟨b + 1 + 1 + 1 + 1 + 1, 0, none⟩) 1 1]
 l1 : LogIn (b + 10) w (.slice (some ⟨b + 1 + 1 + 1 + 1 + 1 + 1 + 1 + 1 + 1, 0, none⟩) 3 3) (kl1 (b + 1 + 1 + 1 + 1 + 1 + 1 + 1) (b + 1 + 1 + 1 + 1 + 1 + 1 + 1 + 1))
 sz : b + 10 ≤ w.heap.size
theorem Kn.below {b : Nat} {w w' : World} (h : Kn b w) (hb : Below w.heap.size w w') : Kn b w' :=
 ⟨h.j1.below (hb.mono h.sz), h.x1.below hb, h.j2.below (hb.mono h.sz), h.x2.below hb, h.l1.below (hb.mono h.sz), Nat.le_trans h.sz hb.size⟩
end Go.Proofs.YtpcbhcdpegbfjaaGreat.J
/-
 A job that a law makes, node by node.
-/
namespace Go.Proofs.YtpcbhcdpegbfjaaGreat.J
open Go.RowKit
abbrev ndZero : Value := .agg #[.int .i64 0, .slice none 0 0, .int .i64 0, .int .i64 0, .int .i64 0, .slice none 0 0, .int .i64 0, .int .i64 0, .int .i64 0, .int .i64 0]
theorem Tryz.info29' : (Tryz.prog.info? 29).map (fun i => (i.zero, i.size, i.bytes)) = some (some ndZero, 10, 112) := by kernel_rfl
theorem Nd.cs_one (n : Nd) : ∀ u ∈ n.cs, u.oneCell' = true := by
 intro u hu
 simp only [Nd.cs, List.mem_cons, List.not_mem_nil, or_false] at hu
 rcases hu with rfl | rfl | rfl | rfl | rfl | rfl | rfl | rfl | rfl | rfl <;> rfl
theorem app_nd {w : World} {ops : Array Oper} {rest : List Oper} {o : Oper} {a : Act} {Q : Exit → Act → World → Prop} (hgd : o.guard = none) (s x : Operand)
  (ho : o.op = .call { callee := .builtin .append, args := #[s, x], argTypes := #[60, 60] }) (base : Nat) (v : Value) (l : List Nd) (hs : a.eval s = v) (hown : OwnL 29 10 Nd.cs base w v l)
  (ad : Addr) (c : Nat) (y : Nd) (hx : a.eval x = .slice (some ad) 1 c) (hnews : ∀ (j : Nat) (u : Value), y.cs[j]? = some u → w.cell? (ad.add j) = some u) (hl : l.length ≤ 1000) (hbase : base ≤ w.heap.size)
  (h : ∀ v' w', OwnL 29 10 Nd.cs base w' v' (l ++ [y]) → w.grownBy w' v.ownBlock → (∀ g, v'.ownBlock = some g → v.ownBlock = some g ∨ w.heap.size ≤ g) → wpList Tryz.prog ops Q rest (a.put o.dst v') w') : wpList Tryz.prog ops Q (o :: rest) a w := by
 obtain ⟨i0, hi, hz0, hz1, hz2⟩ := info_parts Tryz.info29'
 refine wpList_append_own_at w hgd s x 60 ho base 29 i0 ndZero 10 112 (by kernel_rfl) hi hz0 hz1 hz2 rfl (by omega) v l.length (l.flatMap Nd.cs) hs hown ad 1 c y.cs hx rfl hnews y.cs_one (by unfold maxLen; omega) (by omega) hbase ?_
 intro v' w' h2 h3 _ h5
 refine h v' w' ?_ h3 (fun g e => ?_)
 ·show w'.ownsRow _ _ _ _ _ _
  rw [List.length_append, List.flatMap_append]; simpa using h2
 ·rcases h5 with h5 | h5
  ·exact .inl (h5 ▸ e)
  ·rw [h5] at e; cases e; exact .inr (Nat.le_refl _)
theorem OwnL.lsegA {α : Type} {t sz : Nat} {cs : α → List Value} (hcs : ∀ x, (cs x).length = sz) {base : Nat} {w : World} {v : Value} {xs : List α} (h : OwnL t sz cs base w v xs) (hl : xs.length ≤ 1000) : LSeg sz cs w.heap.size w v xs := by
 rcases h.2 with ⟨rfl, h0⟩ | ⟨g, cap, cur, rfl, h2, h3, h4, h5, h6, h7⟩
 ·rw [List.length_eq_zero_iff.1 h0]; exact LSeg.none
 ·refine LSeg.ofRow hcs (t := t) (cur := cur) h3 (Array.getElem?_eq_some_iff.1 h3).1 (by omega) (fun j u hj => ?_)
  rw [← h7, List.getElem?_take] at hj
  split at hj
  ·simpa using hj
  ·cases hj
theorem OwnL.mk1 {α : Type} {t sz : Nat} {cs : α → List Value} {base : Nat} {w : World} {g : Nat} {x : α} (hcs : (cs x).length = sz) (hg : base ≤ g) (hb : BoxT t w g (cs x).toArray) : OwnL t sz cs base w (.slice (some ⟨g, 0, none⟩) 1 1) [x] :=
 ⟨by simp [hcs], .inr ⟨g, 1, (cs x).toArray, rfl, hg, hb, by simp, by unfold maxLen; omega, by simp [hcs], by subst hcs; simp⟩⟩
structure JB (base : Nat) (w : World) (K : Nat) (v : Value) (ns : List Nd) : Prop where
 box : BoxT 62 w K #[v]
 row : OwnL 29 10 Nd.cs base w v ns
 ins : ∀ n ∈ ns, OwnL 3 1 ic base w (.slice n.ia n.ins.length n.ic) n.ins
 kK : base ≤ K
section
variable {base : Nat} {w w' : World} {K : Nat} {v v' : Value} {ns : List Nd} {n : Nd}
theorem JB.below (h : JB base w K v ns) (hb : Below w.heap.size w w') : JB base w' K v ns := ⟨h.box.below hb, h.row.below hb, fun n hn => (h.ins n hn).below hb, h.kK⟩
theorem JB.job (h : JB base w K v ns) (hl : ns.length ≤ 1000) (hi : ∀ n ∈ ns, n.ins.length ≤ 1000) : JobIn w.heap.size w v ns :=
 ⟨h.row.lsegA Nd.cs_len hl, fun n hn => (h.ins n hn).lsegA ic_len (hi n hn)⟩
theorem JB.cell (h : JB base w K v ns) : w.cell? ⟨K, 0, none⟩ = some v ∧ w.frozen? ⟨K, 0, none⟩ = false := ⟨by rw [h.box.cellAt]; rfl, h.box.free 0⟩
theorem JB.vK (h : JB base w K v ns) : v.ownBlock ≠ some K := by
 intro e
 obtain ⟨cur, hc⟩ := h.row.has K e
 exact h.box.ne (t' := 29) hc (by decide) rfl
theorem JB.grown (h : JB base w K v ns) (ho : OwnL 29 10 Nd.cs base w' v' (ns ++ [n])) (hg : w.grownBy w' v.ownBlock) (hi : OwnL 3 1 ic base w (.slice n.ia n.ins.length n.ic) n.ins) :
  BoxT 62 w' K #[v] ∧ JB base (w'.setCell ⟨K, 0, none⟩ v') K v' (ns ++ [n]) := by
 have bK : BoxT 62 w' K #[v] := h.box.grownO hg (Ne.symm h.vK)
 have keep : ∀ {u : Value} {l : List Int}, OwnL 3 1 ic base w u l → OwnL 3 1 ic base (w'.setCell ⟨K, 0, none⟩ v') u l := by
  intro u l hu
  refine hu.back (fun g e => ?_)
  obtain ⟨cur, hc⟩ := hu.has g e
  rw [Below.heap_setCell w' ⟨K, 0, none⟩ v' g (BoxT.ne (t := 3) hc h.box (by decide))]
  refine hg.block g (hu.lt g e) (fun e' => ?_)
  obtain ⟨cur', hc'⟩ := h.row.has g e'.symm
  exact BoxT.ne (t := 3) (t' := 29) hc hc' (by decide) rfl
 refine ⟨bK, by simpa using bK.set 0 v', ?_, fun m hm => ?_, h.kK⟩
 ·refine ho.back (fun g e => Below.heap_setCell w' ⟨K, 0, none⟩ v' g (fun e' => ?_))
  obtain ⟨cur, hc⟩ := ho.has g e
  exact BoxT.ne (t := 29) hc bK (by decide) e'
 ·rcases List.mem_append.1 hm with hm | hm
  ·exact keep (h.ins m hm)
  ·rcases List.mem_singleton.1 hm with rfl
   exact keep hi
theorem JB.grownBelow (h : JB base w K v ns) (hg : w.grownBy w' v.ownBlock) (hb : base ≤ w.heap.size) : Below base w (w'.setCell ⟨K, 0, none⟩ v') := by
 refine Below.setCell ⟨hg.os, hg.tape, hg.output, hg.size, fun k hk => hg.block k (by omega) (fun e => ?_)⟩ (show base ≤ K from h.kK) _
 have := h.row.at k e.symm
 omega
end
/-! ### The circles -/
def e0 : Ex := ⟨0, 0, none, 0, []⟩
def cSrc : Nd := ⟨1, none, 0, [], 1, e0, 0, 0, 0, 0⟩
end Go.Proofs.YtpcbhcdpegbfjaaGreat.J
/-
 Jobs in a row: their order. No program in it.
-/
namespace Go.Proofs.YtpcbhcdpegbfjaaGreat.J
open Go.RowKit
def Chain (inss : List (List Int)) : Prop := ∀ (i : Nat) (is : List Int), inss[i]? = some is → (i = 0 → is = []) ∧ (0 < i → is ≠ [] ∧ ∀ x ∈ is, x = (i : Int) - 1)
def upTo (k n : Nat) : List Bool := (List.range n).map fun i => decide (i < k)
theorem upTo_get {k n i : Nat} (h : i < n) : (upTo k n)[i]? = some (decide (i < k)) := by
 unfold upTo
 rw [List.getElem?_map, List.getElem?_range h]; rfl
theorem upTo_len (k n : Nat) : (upTo k n).length = n := by simp [upTo]
theorem upTo_set {k n : Nat} (h : k < n) : (upTo k n).set k true = upTo (k + 1) n := by
 apply List.ext_getElem?
 intro i
 rw [get_set (by rw [upTo_len]; exact h)]
 by_cases hi : i < n
 ·rw [upTo_get hi, upTo_get hi]
  by_cases e : i = k
  ·subst e; simp
  ·rw [if_neg e]
   congr 1
   simp only [decide_eq_decide]
   omega
 ·have e : i ≠ k := by omega
  rw [if_neg e, List.getElem?_eq_none (by rw [upTo_len]; omega), List.getElem?_eq_none (by rw [upTo_len]; omega)]
theorem upTo_zero (n : Nat) : upTo 0 n = List.replicate n false := by
 apply List.ext_getElem?
 intro i
 by_cases hi : i < n
 ·rw [upTo_get hi, List.getElem?_replicate, if_pos hi]; simp
 ·rw [List.getElem?_eq_none (by rw [upTo_len]; omega), List.getElem?_eq_none (by simp; omega)]
/-! ### The document's order -/
def candI (n : Nat) (pl : List Bool) (x : Int) : Bool := decide (0 ≤ x) && (decide (x < (n : Int)) && pl.getD x.toNat false)
def cand (inss : List (List Int)) (pl : List Bool) (i : Nat) : Bool := !pl.getD i true && (inss.getD i []).all (candI inss.length pl)
def nextR (inss : List (List Int)) (pl : List Bool) : Option Nat := (List.range inss.length).find? (cand inss pl)
def ordR (inss : List (List Int)) : Nat → List Bool → List Nat
 | 0, _ => []
 | f + 1, pl => match nextR inss pl with
  | none => []
  | some i => i :: ordR inss f (pl.set i true)
theorem nextR_chain {inss : List (List Int)} (hc : Chain inss) {k : Nat} (hk : k < inss.length) : nextR inss (upTo k inss.length) = some k := by
 unfold nextR
 rw [List.find?_eq_some_iff_getElem]
 refine ⟨?_, k, by simpa using hk, by simp, fun j hj => ?_⟩
 ·obtain ⟨is, his⟩ := get_of_lt hk
  obtain ⟨c0, c1⟩ := hc k is his
  unfold cand
  rw [getD_of (upTo_get hk), getD_of his]
  simp only [Nat.lt_irrefl, decide_false, Bool.not_false, Bool.true_and]
  rw [List.all_eq_true]
  intro x hx
  by_cases k0 : k = 0
  ·rw [c0 k0] at hx; cases hx
  ·have := (c1 (by omega)).2 x hx
   unfold candI
   have h1 : x.toNat = k - 1 := by omega
   rw [h1, getD_of (upTo_get (show k - 1 < inss.length by omega))]
   simp
   omega
 ·rw [List.getElem_range]
  unfold cand
  rw [getD_of (upTo_get (show j < inss.length by omega))]
  simp [hj]
theorem nextR_done (inss : List (List Int)) : nextR inss (upTo inss.length inss.length) = none := by
 unfold nextR
 rw [List.find?_eq_none]
 intro j hj
 have hjl : j < inss.length := by simpa using hj
 unfold cand
 rw [getD_of (upTo_get hjl)]
 simp [hjl]
theorem ordR_chain {inss : List (List Int)} (hc : Chain inss) (d : Nat) : ∀ (k f : Nat), k + d = inss.length → d < f → ordR inss f (upTo k inss.length) = List.range' k d := by
 induction d with
 | zero =>
  intro k f hk hf
  obtain ⟨f, rfl⟩ : ∃ g, f = g + 1 := ⟨f - 1, by omega⟩
  obtain rfl : k = inss.length := by omega
  rw [ordR, nextR_done]
  rfl
 | succ d ih =>
  intro k f hk hf
  obtain ⟨f, rfl⟩ : ∃ g, f = g + 1 := ⟨f - 1, by omega⟩
  rw [ordR, nextR_chain hc (by omega)]
  simp only
  rw [upTo_set (by omega), ih (k + 1) f (by omega) (by omega)]
  rfl
end Go.Proofs.YtpcbhcdpegbfjaaGreat.J
/-
 The document's Order.
-/
namespace Go.Proofs.YtpcbhcdpegbfjaaGreat.J
set_option maxHeartbeats 16000000
set_option maxRecDepth 100000
open Go.RowKit
def lo (inss : List (List Int)) (pl : List Bool) (m : Nat) : Option Nat := (List.range' m (inss.length - m)).find? (cand inss pl)
def encO : Option Nat → Int
 | none => -1
 | some i => (i : Int)
theorem lo_end (inss : List (List Int)) (pl : List Bool) : lo inss pl inss.length = none := by unfold lo; rw [Nat.sub_self]; rfl
theorem lo_step {inss : List (List Int)} {pl : List Bool} {m : Nat} (h : m < inss.length) : lo inss pl m = if cand inss pl m = true then some m else lo inss pl (m + 1) := by
 unfold lo
 obtain ⟨d, hd⟩ : ∃ d, inss.length - m = d + 1 := ⟨inss.length - m - 1, by omega⟩
 rw [hd, show inss.length - (m + 1) = d by omega, List.range'_succ, List.find?_cons]
 cases cand inss pl m <;> simp
theorem lo_zero (inss : List (List Int)) (pl : List Bool) : lo inss pl 0 = nextR inss pl := by unfold lo nextR; rw [Nat.sub_zero, List.range_eq_range']
theorem lo_lt {inss : List (List Int)} {pl : List Bool} {i : Nat} (h : nextR inss pl = some i) : i < inss.length ∧ pl.getD i true = false := by
 unfold nextR at h
 have h1 := List.mem_of_find?_eq_some h
 have h2 := List.find?_some h
 unfold cand at h2
 rw [Bool.and_eq_true] at h2
 exact ⟨by simpa using h1, by simpa using h2.1⟩
theorem map_get_bool {l : List Bool} {i : Nat} {b : Bool} (h : l[i]? = some b) : (l.map Value.bool).toArray[i]? = some (.bool b) := by simp [h]
theorem RefOrder_any {w : World} {v : Value} {ns : List Nd} (hj : JobIn w.heap.size w v ns) (hn : ns.length ≤ 400) :
  Calls Tryz.prog 48 #[.agg #[v]] w fun e w' => ∃ rv, e = .returned rv ∧ OwnN w.heap.size w' rv (ordR (ns.map Nd.ins) (ns.length + 1) (List.replicate ns.length false)) ∧ Below w.heap.size w w' := by
 obtain ⟨na, ncp, rfl⟩ := hj.shape
 have hb0 : Below w.heap.size w (w.alloc (.cells #[.slice na ns.length ncp] 62)) := (Below.refl _ _).alloc (Nat.le_refl _) _
 have HJ := hide hj
 have HB := hide hb0
 have HX := hide (BoxT.new 62 w #[.slice na ns.length ncp])
 obtain ⟨R, hR⟩ : ∃ R, ordR (ns.map Nd.ins) (ns.length + 1) (List.replicate ns.length false) = R := ⟨_, rfl⟩
 rw [hR]
 have HR := hide hR
 have m1 : ∀ W : World, (Instr.makeSlice 121 (.int .i64 (ns.length : Int)) (.int .i64 (ns.length : Int))).run Tryz.prog W = _ := fun W => mkB W ns.length (by omega)
 obtain ⟨cA, hcA⟩ : ∃ c, ((List.replicate ns.length false).map Value.bool).toArray = c := ⟨_, rfl⟩
 rw [hcA] at m1
 have HA := hide hcA
 have hlm : (ns.map Nd.ins).length = ns.length := by simp
 have HLM := hide hlm
 clear hj hb0 hR hcA hlm
 go_enter Tryz.func48, Tryz.ntmps48
 go_wp2_with fail
 go_loopg [4] (ns.length + 1) (fun g ov wr => ∃ (pl : List Bool) (out : List Nat), Hid (BoxT 4 wr (w.heap.size + 1) (pl.map Value.bool).toArray) ∧ pl.length = ns.length ∧ Hid (OwnN w.heap.size wr ov out) ∧ Hid (out ++ ordR (ns.map Nd.ins) g pl = R) ∧ left pl + 1 ≤ g ∧ out.length + left pl ≤ ns.length ∧ Hid (Below w.heap.size w wr) ∧ Hid (BoxT 62 wr w.heap.size #[.slice na ns.length ncp]))
 case atStart =>
  refine ⟨List.replicate ns.length false, [], ?_, by simp, OwnL.nil _ _ _ _ _, HR, by rw [left_all]; omega, by rw [left_all]; simp, HB.out.alloc (by simp) _, HX.out.alloc _⟩
  rw [HA.out]
  exact BoxT.new_at (by simp)
 case round =>
  obtain ⟨pl, out, GA, hpl, GO, GR, g1, g2, GB, GX⟩ := hrel
  obtain ⟨go, rfl⟩ : ∃ go, gk = go + 1 := ⟨gk - 1, by omega⟩
  have cx : wr.cell? ⟨w.heap.size, 0, none⟩ = some (.slice na ns.length ncp) := by rw [GX.out.cellAt]; rfl
  have HPL := hide hpl
  have HAT : Hid (∀ (i : Nat) (b : Bool), pl[i]? = some b → wr.cell? ⟨w.heap.size + 1, i, none⟩ = some (.bool b)) := fun i b hb => by rw [GA.out.cellAt]; exact map_get_bool hb
  clear hpl
  go_wp2_with fail
  go_loopg [5, 6] (ns.length + 1) (fun g nv iv wi => ∃ m : Nat, m ≤ ns.length ∧ m + 1 ≤ g ∧ iv = .int .i64 ((m : Int) - 1) ∧ nv = .int .i64 (encO (lo (ns.map Nd.ins) pl m)) ∧ wr = wi)
  case atStart => exact ⟨ns.length, by omega, by omega, by go_num, by rw [← HLM.out, lo_end]; rfl, rfl⟩
  case round =>
   obtain ⟨m, hm, hgm, rfl, rfl, rfl⟩ := hrel
   obtain ⟨gi, rfl⟩ : ∃ gi, gk = gi + 1 := ⟨gk - 1, by omega⟩
   by_cases hm0 : m = 0
   ·subst hm0
    rw [lo_zero]
    cases hnx : nextR (ns.map Nd.ins) pl with
    | none =>
     have HE : Hid (out = R) := (show out = R by
      have := GR.out
      rw [ordR, hnx] at this
      simpa using this)
     clear GR hnx
     unfold encO
     go_wp2_with fail
     go_ret
     rw [← HE.out]
     exact ⟨_, rfl, GO.out, GB.out⟩
    | some i =>
     obtain ⟨hil, hip⟩ := lo_lt hnx
     rw [HLM.out] at hil
     have HE : Hid (out ++ i :: ordR (ns.map Nd.ins) go (pl.set i true) = R) := by
      have := GR.out
      rw [ordR, hnx] at this
      exact this
     obtain ⟨b, hb⟩ := get_of_lt (l := pl) (i := i) (by rw [HPL.out]; exact hil)
     have hbf : b = false := by rw [getD_of hb] at hip; exact hip
     subst hbf
     have ca := HAT.out i false hb
     have fa := GA.out.free i
     have HBI := hide hb
     have bi : (i : Int) < (ns.length : Int) := by omega
     have bi0 : ¬ (i : Int) < 0 := by omega
     have hol : out.length ≤ 1000000 := by omega
     clear GR hnx hip hb
     unfold encO
     have GA2 := hide (GA.out.set i (.bool true))
     have GO2 : Hid (OwnN w.heap.size (wr.setCell ⟨w.heap.size + 1, i, none⟩ (.bool true)) u4 out) := OwnN.other GO.out (fun g e => by
      obtain ⟨cur, hc⟩ := GO.out.has g e
      exact BoxT.ne (t := 3) hc GA.out (by decide))
     have GB2 := hide (GB.out.setCell (p := ⟨w.heap.size + 1, i, none⟩) (by simp) (.bool true))
     have GX2 := hide (GX.out.other (k' := w.heap.size + 1) i (.bool true) (by omega))
     have HNW : Hid (((wr.setCell ⟨w.heap.size + 1, i, none⟩ (.bool true)).alloc (.cells #[.int .i64 (i : Int)] 3)).cell? ⟨wr.heap.size, 0, none⟩ = some (.int .i64 (i : Int))) := by
      rw [(BoxT.new_at (t := 3) (w := wr.setCell ⟨w.heap.size + 1, i, none⟩ (.bool true)) (by simp)).cellAt]; rfl
     have HBS : Hid (w.heap.size ≤ ((wr.setCell ⟨w.heap.size + 1, i, none⟩ (.bool true)).alloc (.cells #[.int .i64 (i : Int)] 3)).heap.size) := (show _ ≤ _ by have := GB.out.size; simp; omega)
     go_wp2_with (at_builtin; refine app_ownN (by kernel_rfl) rfl _ _ rfl w.heap.size u4 out rfl (GO2.out.alloc _) ⟨wr.heap.size, 0, none⟩ 1 i rfl HNW.out hol HBS.out ?_; intro v4 w4 h4 g4 n4)
     go_roundg go
     case rel =>
      have hset := left_set HBI.out
      have ba : Below (wr.setCell ⟨w.heap.size + 1, i, none⟩ (.bool true)).heap.size (wr.setCell ⟨w.heap.size + 1, i, none⟩ (.bool true)) ((wr.setCell ⟨w.heap.size + 1, i, none⟩ (.bool true)).alloc (.cells #[.int .i64 (i : Int)] 3)) := (Below.refl _ _).alloc (Nat.le_refl _) _
      have hoo : ∀ k, u4.ownBlock = some k → w.heap.size ≤ k := fun k e => GO.out.at k e
      have h3 : ∀ {k : Nat} {ty : TypeId} {cs : Array Value}, BoxT ty (wr.setCell ⟨w.heap.size + 1, i, none⟩ (.bool true)) k cs → ty ≠ 3 → BoxT ty w4 k cs := fun hk hty => (hk.below ba).grownO g4 (fun e => by
       obtain ⟨cur, hc⟩ := GO2.out.has _ e.symm
       exact hk.ne (t' := 3) hc hty rfl)
      refine ⟨pl.set i true, out ++ [i], ?_, by rw [List.length_set]; exact HPL.out, h4, ?_, by omega, by simp; omega, ?_, h3 GX2.out (by decide)⟩
      ·have := h3 GA2.out (by decide)
       rwa [map_set Value.bool] at this
      ·show (out ++ [i]) ++ _ = R
       rw [List.append_assoc]
       exact HE.out
      ·exact GB2.out.trans ((ba.mono (by have := GB.out.size; simpa using this)).trans ⟨g4.os, g4.tape, g4.output, g4.size, fun k hk => g4.block k (by have := GB.out.size; simp; omega) (fun e => by have := hoo k e.symm; omega)⟩)
     case measure => omega
   ·obtain ⟨i, rfl⟩ : ∃ i, m = i + 1 := ⟨m - 1, by omega⟩
    have hil : i < ns.length := by omega
    obtain ⟨nd, hnd⟩ := get_of_lt (l := ns) (i := i) hil
    obtain ⟨b, hb⟩ := get_of_lt (l := pl) (i := i) (by rw [HPL.out]; exact hil)
    have ca := HAT.out i b hb
    obtain ⟨nb, no, rfl, nlt, -, ci, -⟩ := (HJ.out.below GB.out).at_ hnd
    have HLI := hide ((HJ.out.below GB.out).ins nd (List.mem_of_getElem? hnd))
    have hil2 := HLI.out.len
    have hstep := lo_step (pl := pl) (show i < (ns.map Nd.ins).length by rw [HLM.out]; exact hil)
    have hcd : cand (ns.map Nd.ins) pl i = (!b && nd.ins.all (candI ns.length pl)) := by
     unfold cand
     rw [getD_of hb, getD_of (show (ns.map Nd.ins)[i]? = some nd.ins by rw [List.getElem?_map, hnd]; rfl), HLM.out]
    rw [hcd] at hstep
    obtain ⟨nx, hnx⟩ : ∃ nx, encO (lo (ns.map Nd.ins) pl (i + 1)) = nx := ⟨_, rfl⟩
    have HST : Hid (∀ c, (!b && nd.ins.all (candI ns.length pl)) = c → encO (lo (ns.map Nd.ins) pl i) = if c = true then (i : Int) else nx) := fun c hc => by
     rw [hstep, hc]
     cases c
     ·simpa using hnx
     ·rfl
    rw [hnx]
    have bi : (i : Int) < (ns.length : Int) := by omega
    clear hstep hcd hnx hnd hb
    obtain ⟨kd, ia, icp, ins, par, ex, ag, wk, ws, wl⟩ := nd
    dsimp only at ci HLI hil2 HST
    have hi1 : (((i + 1 : Nat)) : Int) - 1 = (i : Int) := by omega
    rw [hi1]
    go_wp2_with fail
    go_loopg [7, 8, 9] (ins.length + 1) (fun g okv kv nv wi => ∃ q : Nat, q ≤ ins.length ∧ ins.length + 1 ≤ g + q ∧ kv = .int .i64 (q : Int) ∧ okv = .bool (!b && (ins.take q).all (candI ns.length pl)) ∧ wr = wi)
    case atStart => exact ⟨0, by omega, by omega, rfl, by simp, rfl⟩
    case round =>
     obtain ⟨q, hq, hgq, rfl, rfl, rfl⟩ := hrel
     obtain ⟨gq, rfl⟩ : ∃ gq, gk = gq + 1 := ⟨gk - 1, by omega⟩
     by_cases hlq : q < ins.length
     ·obtain ⟨x, hx⟩ := get_of_lt hlq
      have bq : (q : Int) < (ins.length : Int) := by omega
      obtain ⟨xb, xo, rfl, -, cx2⟩ := HLI.out.num hx
      have hall : (ins.take (q + 1)).all (candI ns.length pl) = ((ins.take q).all (candI ns.length pl) && candI ns.length pl x) := by
       have hl := lt_of_get hx
       rw [List.getElem?_eq_getElem hl] at hx
       cases hx
       rw [List.take_succ_eq_append_getElem hl, List.all_append]
       simp
      have HAL : Hid (∀ c, (!b && (ins.take q).all (candI ns.length pl)) = c → (!b && (ins.take (q + 1)).all (candI ns.length pl)) = (c && candI ns.length pl x)) := fun c hc => by rw [hall, ← Bool.and_assoc, hc]
      obtain ⟨c, hc⟩ : ∃ c, (!b && (ins.take q).all (candI ns.length pl)) = c := ⟨_, rfl⟩
      have HC := hide (HAL.out c hc)
      rw [hc]
      clear hx hall HAL hc HST
      cases c with
      | false =>
       go_wp2_with fail
       go_roundg gq
       case rel => exact ⟨q + 1, by omega, by omega, by go_num, by rw [show (!b && (ins.take (q + 1)).all (candI ns.length pl)) = false from HC.out], rfl⟩
       case measure => omega
      | true =>
       by_cases x0 : 0 ≤ x
       ·by_cases x1 : x < (ns.length : Int)
        ·obtain ⟨f, rfl⟩ : ∃ f : Nat, x = (f : Int) := ⟨x.toNat, by omega⟩
         obtain ⟨d, hd⟩ := get_of_lt (l := pl) (i := f) (by rw [HPL.out]; omega)
         have cd := HAT.out f d hd
         have hcx : candI ns.length pl (f : Int) = d := by
          unfold candI
          rw [Int.toNat_natCast, getD_of hd]
          simp; omega
         have HC2 : Hid ((!b && (ins.take (q + 1)).all (candI ns.length pl)) = d) := HC.out.trans (by rw [hcx]; rfl)
         clear hcx
         clear HC hd
         go_wp2_with fail
         go_roundg gq
         case rel => exact ⟨q + 1, by omega, by omega, by go_num, by rw [HC2.out], rfl⟩
         case measure => omega
        ·have hcx : candI ns.length pl x = false := by
          unfold candI
          simp [x1]
         have HC2 : Hid ((!b && (ins.take (q + 1)).all (candI ns.length pl)) = false) := HC.out.trans (by rw [hcx]; rfl)
         clear hcx
         clear HC
         go_wp2_with fail
         go_roundg gq
         case rel => exact ⟨q + 1, by omega, by omega, by go_num, by rw [HC2.out], rfl⟩
         case measure => omega
       ·have hcx : candI ns.length pl x = false := by
         unfold candI
         simp [x0]
        have HC2 : Hid ((!b && (ins.take (q + 1)).all (candI ns.length pl)) = false) := HC.out.trans (by rw [hcx]; rfl)
        clear hcx
        clear HC
        go_wp2_with fail
        go_roundg gq
        case rel => exact ⟨q + 1, by omega, by omega, by go_num, by rw [HC2.out], rfl⟩
        case measure => omega
     ·have bq : ¬ (q : Int) < (ins.length : Int) := by omega
      have htk : ins.take q = ins := List.take_of_length_le (by omega)
      rw [htk]
      obtain ⟨c, hc⟩ : ∃ c, (!b && ins.all (candI ns.length pl)) = c := ⟨_, rfl⟩
      have HC := hide (HST.out c hc)
      rw [hc]
      clear htk hc HST
      cases c with
      | false =>
       go_wp2_with fail
       go_roundg gi
       case rel => exact ⟨i, by omega, by omega, rfl, by rw [HC.out]; rfl, rfl⟩
       case measure => omega
      | true =>
       go_wp2_with fail
       go_roundg gi
       case rel => exact ⟨i, by omega, by omega, rfl, by rw [HC.out]; rfl, rfl⟩
       case measure => omega
end Go.Proofs.YtpcbhcdpegbfjaaGreat.J
