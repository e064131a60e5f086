/-
  Texts in build order: ZJKnown, ZJBuild, ZJChain.
-/
import Derived.Test.YtpcbhcdpegbfjaaGreatM22
import Derived.Test.YtpcbhcdpegbfjaaGreatM21
/-
  known: the chapter's examples.
-/
namespace Go.Proofs.YtpcbhcdpegbfjaaGreat.J
open Go.RowKit

theorem LSeg.ofRow {α : Type} {sz t : Nat} {cs : α → List Value} (hcs : ∀ x, (cs x).length = sz) {B : Nat} {w : World} {g cap : Nat} {cur : Array Value} {xs : List α} (hb : BoxT t w g cur) (hg : g < B) (hl : xs.length ≤ 140737488355328) (hc : ∀ (j : Nat) (u : Value), (xs.flatMap cs)[j]? = some u → cur[j]? = some u) :
    LSeg sz cs B w (.slice (some ⟨g, 0, none⟩) xs.length cap) xs := by
  refine ⟨_, cap, rfl, hl, .inr ⟨g, 0, rfl, hg, fun i x hx j u hu => ?_⟩⟩
  rw [hb.cellAt, Nat.zero_add]
  exact hc _ u (flat_get hcs xs i j x u hx hu)
theorem LSeg.none {α : Type} {sz : Nat} {cs : α → List Value} {B : Nat} {w : World} {c : Nat} : LSeg sz cs B w (.slice none 0 c) ([] : List α) := ⟨_, c, rfl, by simp, .inl rfl⟩

/-- The chapter's jobs and logs. -/
def kn1 (a b : Nat) : List Nd := [⟨1, none, 0, [], 1, ⟨0, 0, none, 0, []⟩, 0, 0, 0, 0⟩, ⟨7, some ⟨a, 0, none⟩, 1, [0], 2, ⟨0, 0, none, 0, []⟩, 1, 2, 10, 3⟩, ⟨8, some ⟨b, 0, none⟩, 1, [1], 1, ⟨0, 0, none, 0, []⟩, 0, 0, 0, 0⟩]
def kn2 (a : Nat) : List Nd := [⟨5, some ⟨a, 0, none⟩, 1, [0], 1, ⟨0, 0, none, 0, []⟩, 0, 0, 0, 0⟩]
def kl1 (a b : Nat) : List En := [⟨some ⟨b, 0, none⟩, 1, [⟨some ⟨a, 0, none⟩, 1, [⟨2, 0, 0, 0, 9223372036854775807⟩]⟩]⟩, ⟨none, 0, []⟩, ⟨none, 0, []⟩]
theorem step_any {F : FuncId} {args : Array Value} {w : World} {Q : Ending → World → Prop} (h : ∀ w1, w1 = w → Calls Tryz.prog F args w1 Q) : Calls Tryz.prog F args w Q := h w rfl
/-- What lies where known has made it. -/
structure Kn (b : Nat) (w : World) : Prop where
  j1 : JobIn (b + 10) w (.slice (some ⟨b + 1 + 1, 0, none⟩) 3 3) (kn1 b (b + 1))
  x1 : BoxT 62 w (b + 1 + 1 + 1) #[.slice (some ⟨b + 1 + 1, 0, none⟩) 3 3]
  j2 : JobIn (b + 10) w (.slice (some ⟨b + 1 + 1 + 1 + 1 + 1, 0, none⟩) 1 1) (kn2 (b + 1 + 1 + 1 + 1))
  x2 : BoxT 62 w (b + 1 + 1 + 1 + 1 + 1 + 1) #[.slice (some ⟨b + 1 + 1 + 1 + 1 + 1, 0, none⟩) 1 1]
  l1 : LogIn (b + 10) w (.slice (some ⟨b + 1 + 1 + 1 + 1 + 1 + 1 + 1 + 1 + 1, 0, none⟩) 3 3) (kl1 (b + 1 + 1 + 1 + 1 + 1 + 1 + 1) (b + 1 + 1 + 1 + 1 + 1 + 1 + 1 + 1))
  sz : b + 10 ≤ w.heap.size
theorem Kn.below {b : Nat} {w w' : World} (h : Kn b w) (hb : Below w.heap.size w w') : Kn b w' :=
  ⟨h.j1.below (hb.mono h.sz), h.x1.below hb, h.j2.below (hb.mono h.sz), h.x2.below hb, h.l1.below (hb.mono h.sz), Nat.le_trans h.sz hb.size⟩
end Go.Proofs.YtpcbhcdpegbfjaaGreat.J
/-
  A job that a law makes, node by node.
-/
namespace Go.Proofs.YtpcbhcdpegbfjaaGreat.J
open Go.RowKit

abbrev ndZero : Value := .agg #[.int .i64 0, .slice none 0 0, .int .i64 0, .int .i64 0, .int .i64 0, .slice none 0 0, .int .i64 0, .int .i64 0, .int .i64 0, .int .i64 0]
theorem Tryz.info29' : (Tryz.prog.info? 29).map (fun i => (i.zero, i.size, i.bytes)) = some (some ndZero, 10, 112) := by kernel_rfl
theorem Nd.cs_one (n : Nd) : ∀ u ∈ n.cs, u.oneCell' = true := by
  intro u hu
  simp only [Nd.cs, List.mem_cons, List.not_mem_nil, or_false] at hu
  rcases hu with rfl | rfl | rfl | rfl | rfl | rfl | rfl | rfl | rfl | rfl <;> rfl
/-- append of one node onto a row of one's own. -/
theorem app_nd {w : World} {ops : Array Oper} {rest : List Oper} {o : Oper} {a : Act} {Q : Exit → Act → World → Prop} (hgd : o.guard = none) (s x : Operand)
    (ho : o.op = .call { callee := .builtin .append, args := #[s, x], argTypes := #[60, 60] }) (base : Nat) (v : Value) (l : List Nd) (hs : a.eval s = v) (hown : OwnL 29 10 Nd.cs base w v l)
    (ad : Addr) (c : Nat) (y : Nd) (hx : a.eval x = .slice (some ad) 1 c) (hnews : ∀ (j : Nat) (u : Value), y.cs[j]? = some u → w.cell? (ad.add j) = some u) (hl : l.length ≤ 1000) (hbase : base ≤ w.heap.size)
    (h : ∀ v' w', OwnL 29 10 Nd.cs base w' v' (l ++ [y]) → w.grownBy w' v.ownBlock → (∀ g, v'.ownBlock = some g → v.ownBlock = some g ∨ w.heap.size ≤ g) → wpList Tryz.prog ops Q rest (a.put o.dst v') w') : wpList Tryz.prog ops Q (o :: rest) a w := by
  obtain ⟨i0, hi, hz0, hz1, hz2⟩ := info_parts Tryz.info29'
  refine wpList_append_own_at w hgd s x 60 ho base 29 i0 ndZero 10 112 (by kernel_rfl) hi hz0 hz1 hz2 rfl (by omega) v l.length (l.flatMap Nd.cs) hs hown ad 1 c y.cs hx rfl hnews y.cs_one (by unfold maxLen; omega) (by omega) hbase ?_
  intro v' w' h2 h3 _ h5
  refine h v' w' ?_ h3 (fun g e => ?_)
  · show w'.ownsRow _ _ _ _ _ _
    rw [List.length_append, List.flatMap_append]; simpa using h2
  · rcases h5 with h5 | h5
    · exact .inl (h5 ▸ e)
    · rw [h5] at e; cases e; exact .inr (Nat.le_refl _)
theorem OwnL.lsegA {α : Type} {t sz : Nat} {cs : α → List Value} (hcs : ∀ x, (cs x).length = sz) {base : Nat} {w : World} {v : Value} {xs : List α} (h : OwnL t sz cs base w v xs) (hl : xs.length ≤ 1000) : LSeg sz cs w.heap.size w v xs := by
  rcases h.2 with ⟨rfl, h0⟩ | ⟨g, cap, cur, rfl, h2, h3, h4, h5, h6, h7⟩
  · rw [List.length_eq_zero_iff.1 h0]; exact LSeg.none
  · refine LSeg.ofRow hcs (t := t) (cur := cur) h3 (Array.getElem?_eq_some_iff.1 h3).1 (by omega) (fun j u hj => ?_)
    rw [← h7, List.getElem?_take] at hj
    split at hj
    · simpa using hj
    · cases hj
theorem OwnL.mk1 {α : Type} {t sz : Nat} {cs : α → List Value} {base : Nat} {w : World} {g : Nat} {x : α} (hcs : (cs x).length = sz) (hg : base ≤ g) (hb : BoxT t w g (cs x).toArray) : OwnL t sz cs base w (.slice (some ⟨g, 0, none⟩) 1 1) [x] :=
  ⟨by simp [hcs], .inr ⟨g, 1, (cs x).toArray, rfl, hg, hb, by simp, by unfold maxLen; omega, by simp [hcs], by subst hcs; simp⟩⟩
/-- A job in the box K, with rows of the law's own. -/
structure JB (base : Nat) (w : World) (K : Nat) (v : Value) (ns : List Nd) : Prop where
  box : BoxT 62 w K #[v]
  row : OwnL 29 10 Nd.cs base w v ns
  ins : ∀ n ∈ ns, OwnL 3 1 ic base w (.slice n.ia n.ins.length n.ic) n.ins
  kK : base ≤ K
section
variable {base : Nat} {w w' : World} {K : Nat} {v v' : Value} {ns : List Nd} {n : Nd}
theorem JB.below (h : JB base w K v ns) (hb : Below w.heap.size w w') : JB base w' K v ns := ⟨h.box.below hb, h.row.below hb, fun n hn => (h.ins n hn).below hb, h.kK⟩
theorem JB.job (h : JB base w K v ns) (hl : ns.length ≤ 1000) (hi : ∀ n ∈ ns, n.ins.length ≤ 1000) : JobIn w.heap.size w v ns :=
  ⟨h.row.lsegA Nd.cs_len hl, fun n hn => (h.ins n hn).lsegA ic_len (hi n hn)⟩
theorem JB.cell (h : JB base w K v ns) : w.cell? ⟨K, 0, none⟩ = some v ∧ w.frozen? ⟨K, 0, none⟩ = false := ⟨by rw [h.box.cellAt]; rfl, h.box.free 0⟩
theorem JB.vK (h : JB base w K v ns) : v.ownBlock ≠ some K := by
  intro e
  obtain ⟨cur, hc⟩ := h.row.has K e
  exact h.box.ne (t' := 29) hc (by decide) rfl
/-- What the append leaves. -/
theorem JB.grown (h : JB base w K v ns) (ho : OwnL 29 10 Nd.cs base w' v' (ns ++ [n])) (hg : w.grownBy w' v.ownBlock) (hi : OwnL 3 1 ic base w (.slice n.ia n.ins.length n.ic) n.ins) :
    BoxT 62 w' K #[v] ∧ JB base (w'.setCell ⟨K, 0, none⟩ v') K v' (ns ++ [n]) := by
  have bK : BoxT 62 w' K #[v] := h.box.grownO hg (Ne.symm h.vK)
  have keep : ∀ {u : Value} {l : List Int}, OwnL 3 1 ic base w u l → OwnL 3 1 ic base (w'.setCell ⟨K, 0, none⟩ v') u l := by
    intro u l hu
    refine hu.back (fun g e => ?_)
    obtain ⟨cur, hc⟩ := hu.has g e
    rw [Below.heap_setCell w' ⟨K, 0, none⟩ v' g (BoxT.ne (t := 3) hc h.box (by decide))]
    refine hg.block g (hu.lt g e) (fun e' => ?_)
    obtain ⟨cur', hc'⟩ := h.row.has g e'.symm
    exact BoxT.ne (t := 3) (t' := 29) hc hc' (by decide) rfl
  refine ⟨bK, by simpa using bK.set 0 v', ?_, fun m hm => ?_, h.kK⟩
  · refine ho.back (fun g e => Below.heap_setCell w' ⟨K, 0, none⟩ v' g (fun e' => ?_))
    obtain ⟨cur, hc⟩ := ho.has g e
    exact BoxT.ne (t := 29) hc bK (by decide) e'
  · rcases List.mem_append.1 hm with hm | hm
    · exact keep (h.ins m hm)
    · rcases List.mem_singleton.1 hm with rfl
      exact keep hi
theorem JB.grownBelow (h : JB base w K v ns) (hg : w.grownBy w' v.ownBlock) (hb : base ≤ w.heap.size) : Below base w (w'.setCell ⟨K, 0, none⟩ v') := by
  refine Below.setCell ⟨hg.os, hg.tape, hg.output, hg.size, fun k hk => hg.block k (by omega) (fun e => ?_)⟩ (show base ≤ K from h.kK) _
  have := h.row.at k e.symm
  omega
end
/-! ### The circles -/
def e0 : Ex := ⟨0, 0, none, 0, []⟩
def cSrc : Nd := ⟨1, none, 0, [], 1, e0, 0, 0, 0, 0⟩
end Go.Proofs.YtpcbhcdpegbfjaaGreat.J
/-
  Jobs in a row: their order. No program in it.
-/
namespace Go.Proofs.YtpcbhcdpegbfjaaGreat.J
open Go.RowKit

/-- Each node's inputs are the one ahead of it, once or more. -/
def Chain (inss : List (List Int)) : Prop := ∀ (i : Nat) (is : List Int), inss[i]? = some is → (i = 0 → is = []) ∧ (0 < i → is ≠ [] ∧ ∀ x ∈ is, x = (i : Int) - 1)
def upTo (k n : Nat) : List Bool := (List.range n).map fun i => decide (i < k)
theorem upTo_get {k n i : Nat} (h : i < n) : (upTo k n)[i]? = some (decide (i < k)) := by
  unfold upTo
  rw [List.getElem?_map, List.getElem?_range h]; rfl
theorem upTo_len (k n : Nat) : (upTo k n).length = n := by simp [upTo]
theorem upTo_set {k n : Nat} (h : k < n) : (upTo k n).set k true = upTo (k + 1) n := by
  apply List.ext_getElem?
  intro i
  rw [get_set (by rw [upTo_len]; exact h)]
  by_cases hi : i < n
  · rw [upTo_get hi, upTo_get hi]
    by_cases e : i = k
    · subst e; simp
    · rw [if_neg e]
      congr 1
      simp only [decide_eq_decide]
      omega
  · have e : i ≠ k := by omega
    rw [if_neg e, List.getElem?_eq_none (by rw [upTo_len]; omega), List.getElem?_eq_none (by rw [upTo_len]; omega)]
theorem upTo_zero (n : Nat) : upTo 0 n = List.replicate n false := by
  apply List.ext_getElem?
  intro i
  by_cases hi : i < n
  · rw [upTo_get hi, List.getElem?_replicate, if_pos hi]; simp
  · rw [List.getElem?_eq_none (by rw [upTo_len]; omega), List.getElem?_eq_none (by simp; omega)]
/-! ### The document's order -/
def candI (n : Nat) (pl : List Bool) (x : Int) : Bool := decide (0 ≤ x) && (decide (x < (n : Int)) && pl.getD x.toNat false)
def cand (inss : List (List Int)) (pl : List Bool) (i : Nat) : Bool := !pl.getD i true && (inss.getD i []).all (candI inss.length pl)
def nextR (inss : List (List Int)) (pl : List Bool) : Option Nat := (List.range inss.length).find? (cand inss pl)
def ordR (inss : List (List Int)) : Nat → List Bool → List Nat
  | 0, _ => []
  | f + 1, pl => match nextR inss pl with
    | none => []
    | some i => i :: ordR inss f (pl.set i true)
theorem nextR_chain {inss : List (List Int)} (hc : Chain inss) {k : Nat} (hk : k < inss.length) : nextR inss (upTo k inss.length) = some k := by
  unfold nextR
  rw [List.find?_eq_some_iff_getElem]
  refine ⟨?_, k, by simpa using hk, by simp, fun j hj => ?_⟩
  · obtain ⟨is, his⟩ := get_of_lt hk
    obtain ⟨c0, c1⟩ := hc k is his
    unfold cand
    rw [getD_of (upTo_get hk), getD_of his]
    simp only [Nat.lt_irrefl, decide_false, Bool.not_false, Bool.true_and]
    rw [List.all_eq_true]
    intro x hx
    by_cases k0 : k = 0
    · rw [c0 k0] at hx; cases hx
    · have := (c1 (by omega)).2 x hx
      unfold candI
      have h1 : x.toNat = k - 1 := by omega
      rw [h1, getD_of (upTo_get (show k - 1 < inss.length by omega))]
      simp
      omega
  · rw [List.getElem_range]
    unfold cand
    rw [getD_of (upTo_get (show j < inss.length by omega))]
    simp [hj]
theorem nextR_done (inss : List (List Int)) : nextR inss (upTo inss.length inss.length) = none := by
  unfold nextR
  rw [List.find?_eq_none]
  intro j hj
  have hjl : j < inss.length := by simpa using hj
  unfold cand
  rw [getD_of (upTo_get hjl)]
  simp [hjl]
theorem ordR_chain {inss : List (List Int)} (hc : Chain inss) (d : Nat) : ∀ (k f : Nat), k + d = inss.length → d < f → ordR inss f (upTo k inss.length) = List.range' k d := by
  induction d with
  | zero =>
    intro k f hk hf
    obtain ⟨f, rfl⟩ : ∃ g, f = g + 1 := ⟨f - 1, by omega⟩
    obtain rfl : k = inss.length := by omega
    rw [ordR, nextR_done]
    rfl
  | succ d ih =>
    intro k f hk hf
    obtain ⟨f, rfl⟩ : ∃ g, f = g + 1 := ⟨f - 1, by omega⟩
    rw [ordR, nextR_chain hc (by omega)]
    simp only
    rw [upTo_set (by omega), ih (k + 1) f (by omega) (by omega)]
    rfl
end Go.Proofs.YtpcbhcdpegbfjaaGreat.J
