/-
  Texts in build order: ZJHeap2, ZJHeap3, ZJPure.
-/
import Derived.Test.YtpcbhcdpegbfjaaGreatM18
import Derived.WalkSmall
/-
 container/heap's up, down, Push, Pop over such a heap.
-/
namespace Go.Proofs.YtpcbhcdpegbfjaaGreat.J
open Go.RowKit
def upP : Nat → List Nat → Nat → List Nat
 | 0, l, _ => l
 | f + 1, l, j => if (j - 1) / 2 = j ∨ ¬ l.getD j 0 < l.getD ((j - 1) / 2) 0 then l else upP f (swp l ((j - 1) / 2) j) ((j - 1) / 2)
end Go.Proofs.YtpcbhcdpegbfjaaGreat.J
/-
 container/heap's Push and Pop.
-/
namespace Go.Proofs.YtpcbhcdpegbfjaaGreat.J
open Go.RowKit
def pushP (l : List Nat) (x : Nat) : List Nat := upP (l.length + 1) (l ++ [x]) l.length
end Go.Proofs.YtpcbhcdpegbfjaaGreat.J
/-
 The order of a job's nodes, as plain functions: what look, place and Order of package job do. No program in it but the heap's plain functions.
-/
namespace Go.Proofs.YtpcbhcdpegbfjaaGreat.J
open Go.RowKit
theorem swp_perm {l : List Nat} {i j : Nat} (hi : i < l.length) (hj : j < l.length) : (swp l i j).Perm l := by
 unfold swp
 have h1 : l.getD j 0 = l[j] := by simp [List.getD_eq_getElem?_getD, hj]
 have h2 : l.getD i 0 = l[i] := by simp [List.getD_eq_getElem?_getD, hi]
 rw [h1, h2]
 exact List.set_set_perm hi hj
theorem upP_perm (f : Nat) : ∀ (l : List Nat) (j : Nat), j < l.length → (upP f l j).Perm l := by
 induction f with
 | zero => intro l j _; exact List.Perm.refl _
 | succ f ih =>
  intro l j hj
  rw [upP]
  split
  ·exact List.Perm.refl _
  ·exact (ih _ _ (by rw [swp_len]; omega)).trans (swp_perm (by omega) hj)
theorem pushP_perm (l : List Nat) (x : Nat) : (pushP l x).Perm (l ++ [x]) := upP_perm _ _ _ (by simp)
def sc (n : Nat) (pl : List Bool) : List Int → Nat → Nat × Option (Option Nat)
 | [], p => (p, none)
 | x :: r, p => if x < 0 ∨ (n : Int) ≤ x then (p, some none) else if pl.getD x.toNat false = true then sc n pl r (p + 1) else (p, some (some x.toNat))
abbrev LS := List Nat × List (List Nat) × List Nat
def look2 (s : LS) (i : Nat) : Nat × Option (Option Nat) → LS
 | (p, none) => (s.1.set i p, s.2.1, pushP s.2.2 i)
 | (p, some none) => (s.1.set i p, s.2.1, s.2.2)
 | (p, some (some f)) => (s.1.set i p, s.2.1.set f (s.2.1.getD f [] ++ [i]), s.2.2)
def look1 (inss : List (List Int)) (pl : List Bool) (s : LS) (i : Nat) : LS := look2 s i (sc inss.length pl ((inss.getD i []).drop (s.1.getD i 0)) (s.1.getD i 0))
def lookP (inss : List (List Int)) (pl : List Bool) (s : LS) (wt : List Nat) : LS := wt.foldl (look1 inss pl) s
theorem sc_spec (n : Nat) (pl : List Bool) (hn : pl.length = n) (is : List Int) : ∀ (m p : Nat), is.length - p = m → p ≤ is.length →
  p ≤ (sc n pl (is.drop p) p).1 ∧ (sc n pl (is.drop p) p).1 ≤ is.length ∧ (∀ k y, p ≤ k → k < (sc n pl (is.drop p) p).1 → is[k]? = some y → 0 ≤ y ∧ pl[y.toNat]? = some true) ∧
  ((sc n pl (is.drop p) p).2 = none → (sc n pl (is.drop p) p).1 = is.length) ∧
  ((sc n pl (is.drop p) p).2 = some none → ∃ y, is[(sc n pl (is.drop p) p).1]? = some y ∧ (y < 0 ∨ (n : Int) ≤ y)) ∧
  (∀ f, (sc n pl (is.drop p) p).2 = some (some f) → is[(sc n pl (is.drop p) p).1]? = some (f : Int) ∧ pl[f]? = some false) := by
 intro m
 induction m with
 | zero =>
  intro p h1 h2
  rw [List.drop_eq_nil_of_le (by omega)]
  simp only [sc]
  exact ⟨Nat.le_refl _, h2, fun k y h3 h4 => by omega, fun _ => by omega, fun h => by simp at h, fun f h => by simp at h⟩
 | succ m ih =>
  intro p h1 h2
  have hp : p < is.length := by omega
  rw [List.drop_eq_getElem_cons hp]
  simp only [sc]
  by_cases c1 : is[p] < 0 ∨ (n : Int) ≤ is[p]
  ·rw [if_pos c1]
   exact ⟨Nat.le_refl _, h2, fun k y h3 h4 => by omega, fun h => by simp at h, fun _ => ⟨is[p], List.getElem?_eq_getElem hp, c1⟩, fun f h => by simp at h⟩
  ·rw [if_neg c1]
   have hl : is[p].toNat < pl.length := by omega
   by_cases c2 : pl.getD is[p].toNat false = true
   ·rw [if_pos c2]
    obtain ⟨g1, g2, g3, g4, g5, g6⟩ := ih (p + 1) (by omega) (by omega)
    refine ⟨by omega, g2, fun k y h3 h4 h5 => ?_, g4, g5, g6⟩
    by_cases hk : k = p
    ·subst hk
     rw [List.getElem?_eq_getElem hp] at h5
     cases h5
     refine ⟨by omega, ?_⟩
     rw [List.getD_eq_getElem?_getD, List.getElem?_eq_getElem hl] at c2
     rw [List.getElem?_eq_getElem hl]
     simpa using c2
    ·exact g3 k y (by omega) h4 h5
   ·rw [if_neg c2]
    refine ⟨Nat.le_refl _, h2, fun k y h3 h4 => by omega, fun h => by simp at h, fun h => by simp at h, fun f h => ?_⟩
    simp only [Option.some.injEq] at h
    subst h
    refine ⟨by rw [List.getElem?_eq_getElem hp]; congr 1; omega, ?_⟩
    rw [List.getD_eq_getElem?_getD, List.getElem?_eq_getElem hl] at c2
    rw [List.getElem?_eq_getElem hl]
    simpa using c2
structure Inv (inss : List (List Int)) (pl : List Bool) (ps : List Nat) (bs : List (List Nat)) (rs wt : List Nat) : Prop where
 l1 : pl.length = inss.length
 l2 : ps.length = inss.length
 l3 : bs.length = inss.length
 rn : rs.Nodup
 rr : ∀ x ∈ rs, pl[x]? = some false ∧ ∃ is : List Int, inss[x]? = some is ∧ ps[x]? = some is.length
 bn : ∀ (j : Nat) (b : List Nat), pl[j]? = some false → bs[j]? = some b → b.Nodup
 br : ∀ (j : Nat) (b : List Nat), pl[j]? = some false → bs[j]? = some b → ∀ x ∈ b, pl[x]? = some false ∧ ∃ (is : List Int) (p : Nat), inss[x]? = some is ∧ ps[x]? = some p ∧ is[p]? = some (j : Int)
 wn : wt.Nodup
 wr : ∀ x ∈ wt, pl[x]? = some false ∧ x ∉ rs ∧ ∀ (j : Nat) (b : List Nat), pl[j]? = some false → bs[j]? = some b → x ∉ b
 pf : ∀ (x : Nat) (is : List Int) (p : Nat), inss[x]? = some is → ps[x]? = some p → p ≤ is.length ∧ ∀ (k : Nat) (y : Int), k < p → is[k]? = some y → 0 ≤ y ∧ pl[y.toNat]? = some true
 al : ∀ x : Nat, pl[x]? = some false → x ∈ rs ∨ x ∈ wt ∨ (∃ (j : Nat) (b : List Nat), pl[j]? = some false ∧ bs[j]? = some b ∧ x ∈ b) ∨ (∃ (is : List Int) (p : Nat) (y : Int), inss[x]? = some is ∧ ps[x]? = some p ∧ is[p]? = some y ∧ (y < 0 ∨ (inss.length : Int) ≤ y))
theorem lt_of_get {α : Type} {l : List α} {i : Nat} {x : α} (h : l[i]? = some x) : i < l.length := (List.getElem?_eq_some_iff.1 h).1
theorem get_of_lt {α : Type} {l : List α} {i : Nat} (h : i < l.length) : ∃ x, l[i]? = some x := ⟨_, List.getElem?_eq_getElem h⟩
theorem getD_of {α : Type} {l : List α} {i : Nat} {x d : α} (h : l[i]? = some x) : l.getD i d = x := by rw [List.getD_eq_getElem?_getD, h]; rfl
theorem get_set {α : Type} {l : List α} {i : Nat} (hi : i < l.length) (v : α) (k : Nat) : (l.set i v)[k]? = if k = i then some v else l[k]? := by
 rw [List.getElem?_set]
 by_cases h : k = i
 ·subst h; simp [hi]
 ·rw [if_neg (by omega), if_neg h]
theorem Inv.look {inss : List (List Int)} {pl : List Bool} {s : LS} {i : Nat} {wt : List Nat} (h : Inv inss pl s.1 s.2.1 s.2.2 (i :: wt)) :
  Inv inss pl (look1 inss pl s i).1 (look1 inss pl s i).2.1 (look1 inss pl s i).2.2 wt := by
 obtain ⟨ps, bs, rs⟩ := s
 simp only at h
 obtain ⟨hpi, hir, hib⟩ := h.wr i (by simp)
 have hil : i < inss.length := by rw [← h.l1]; exact lt_of_get hpi
 obtain ⟨is, his⟩ := get_of_lt hil
 obtain ⟨p, hp⟩ := get_of_lt (show i < ps.length by rw [h.l2]; exact hil)
 obtain ⟨hple, hpf⟩ := h.pf i is p his hp
 have hips : i < ps.length := lt_of_get hp
 have hwt : i ∉ wt ∧ wt.Nodup := List.nodup_cons.1 h.wn
 obtain ⟨g1, g2, g3, g4, g5, g6⟩ := sc_spec inss.length pl h.l1 is _ p rfl hple
 have e1 : inss.getD i [] = is := getD_of his
 have e2 : ps.getD i 0 = p := getD_of hp
 -- how far others are stays
 have pfo : ∀ q, p ≤ q → q ≤ is.length → (∀ (k : Nat) (y : Int), p ≤ k → k < q → is[k]? = some y → 0 ≤ y ∧ pl[y.toNat]? = some true) → ∀ (x : Nat) (is' : List Int) (p' : Nat), inss[x]? = some is' → (ps.set i q)[x]? = some p' → p' ≤ is'.length ∧ ∀ (k : Nat) (y : Int), k < p' → is'[k]? = some y → 0 ≤ y ∧ pl[y.toNat]? = some true := by
  intro q hq1 hq2 hq3 x is' p' h1 h2
  rw [get_set hips] at h2
  by_cases hx : x = i
  ·subst hx
   rw [if_pos rfl] at h2
   cases h2
   rw [his] at h1
   cases h1
   refine ⟨hq2, fun k y hk hy => ?_⟩
   by_cases hkp : k < p
   ·exact hpf k y hkp hy
   ·exact hq3 k y (by omega) hk hy
  ·rw [if_neg hx] at h2
   exact h.pf x is' p' h1 h2
 have keep : ∀ q (x : Nat), x ≠ i → (ps.set i q)[x]? = ps[x]? := by
  intro q x hx
  rw [get_set hips, if_neg hx]
 unfold look1 look2
 simp only [e1, e2]
 generalize hsc : sc inss.length pl (is.drop p) p = r at *
 obtain ⟨q, o⟩ := r
 simp only at g1 g2 g3 g4 g5 g6
 match o with
 | none =>
  have hq := g4 rfl
  subst hq
  simp only
  have hpm := pushP_perm rs i
  refine ⟨h.l1, by simpa using h.l2, h.l3, ?_, fun x hx => ?_, h.bn, fun j b hj hb x hx => ?_, hwt.2, fun x hx => ?_, pfo _ g1 (Nat.le_refl _) (fun k y h1 h2 h3 => g3 k y h1 h2 h3), fun x hx => ?_⟩
  ·rw [hpm.nodup_iff, List.nodup_append]
   exact ⟨h.rn, by simp, fun a ha b hb => by simp at hb; subst hb; intro e; subst e; exact hir ha⟩
  ·rcases List.mem_append.1 (hpm.mem_iff.1 hx) with hx | hx
   ·have hne : x ≠ i := fun e => hir (e ▸ hx)
    obtain ⟨a1, is', a2, a3⟩ := h.rr x hx
    exact ⟨a1, is', a2, by rw [keep _ x hne]; exact a3⟩
   ·simp at hx
    subst hx
    exact ⟨hpi, is, his, by rw [get_set hips, if_pos rfl]⟩
  ·have hne : x ≠ i := fun e => hib j b hj hb (e ▸ hx)
   obtain ⟨a1, is', p', a2, a3, a4⟩ := h.br j b hj hb x hx
   exact ⟨a1, is', p', a2, by rw [keep _ x hne]; exact a3, a4⟩
  ·obtain ⟨a1, a2, a3⟩ := h.wr x (by simp [hx])
   refine ⟨a1, fun hm => ?_, a3⟩
   rcases List.mem_append.1 (hpm.mem_iff.1 hm) with hm | hm
   ·exact a2 hm
   ·simp at hm
    subst hm
    exact hwt.1 hx
  ·rcases h.al x hx with a | a | a | ⟨is', p', y, a1, a2, a3⟩
   ·exact .inl (hpm.mem_iff.2 (by simp [a]))
   ·rcases List.mem_cons.1 a with rfl | a
    ·exact .inl (hpm.mem_iff.2 (by simp))
    ·exact .inr (.inl a)
   ·exact .inr (.inr (.inl a))
   ·by_cases hne : x = i
    ·subst hne
     exact .inl (hpm.mem_iff.2 (by simp))
    ·exact .inr (.inr (.inr ⟨is', p', y, a1, by rw [keep _ x hne]; exact a2, a3⟩))
 | some none =>
  obtain ⟨y0, hy0, hy1⟩ := g5 rfl
  simp only
  refine ⟨h.l1, by simpa using h.l2, h.l3, h.rn, fun x hx => ?_, h.bn, fun j b hj hb x hx => ?_, hwt.2, fun x hx => h.wr x (by simp [hx]), pfo _ g1 g2 (fun k y h1 h2 h3 => g3 k y h1 h2 h3), fun x hx => ?_⟩
  ·have hne : x ≠ i := fun e => hir (e ▸ hx)
   obtain ⟨a1, is', a2, a3⟩ := h.rr x hx
   exact ⟨a1, is', a2, by rw [keep _ x hne]; exact a3⟩
  ·have hne : x ≠ i := fun e => hib j b hj hb (e ▸ hx)
   obtain ⟨a1, is', p', a2, a3, a4⟩ := h.br j b hj hb x hx
   exact ⟨a1, is', p', a2, by rw [keep _ x hne]; exact a3, a4⟩
  ·by_cases hne : x = i
   ·subst hne
    exact .inr (.inr (.inr ⟨is, q, y0, his, by rw [get_set hips, if_pos rfl], hy0, hy1⟩))
   ·rcases h.al x hx with a | a | a | ⟨is', p', y, a1, a2, a3⟩
    ·exact .inl a
    ·rcases List.mem_cons.1 a with e | a
     ·exact absurd e hne
     ·exact .inr (.inl a)
    ·exact .inr (.inr (.inl a))
    ·exact .inr (.inr (.inr ⟨is', p', y, a1, by rw [keep _ x hne]; exact a2, a3⟩))
 | some (some f) =>
  obtain ⟨hf1, hf2⟩ := g6 f rfl
  have hfb : f < bs.length := by rw [h.l3, ← h.l1]; exact lt_of_get hf2
  obtain ⟨b0, hb0⟩ := get_of_lt hfb
  simp only [getD_of hb0]
  have hnew : ∀ (j : Nat) (b : List Nat), (bs.set f (b0 ++ [i]))[j]? = some b → (j ≠ f ∧ bs[j]? = some b) ∨ (j = f ∧ b = b0 ++ [i]) := by
   intro j b hb
   rw [get_set hfb] at hb
   by_cases hj : j = f
   ·rw [if_pos hj] at hb
    exact .inr ⟨hj, (Option.some.inj hb).symm⟩
   ·rw [if_neg hj] at hb
    exact .inl ⟨hj, hb⟩
  refine ⟨h.l1, by simpa using h.l2, by simpa using h.l3, h.rn, fun x hx => ?_, fun j b hj hb => ?_, fun j b hj hb x hx => ?_, hwt.2, fun x hx => ?_, pfo _ g1 g2 (fun k y h1 h2 h3 => g3 k y h1 h2 h3), fun x hx => ?_⟩
  ·have hne : x ≠ i := fun e => hir (e ▸ hx)
   obtain ⟨a1, is', a2, a3⟩ := h.rr x hx
   exact ⟨a1, is', a2, by rw [keep _ x hne]; exact a3⟩
  ·rcases hnew j b hb with ⟨_, hb⟩ | ⟨rfl, rfl⟩
   ·exact h.bn j b hj hb
   ·rw [List.nodup_append]
    exact ⟨h.bn j b0 hj hb0, by simp, fun a ha c hc => by simp at hc; subst hc; intro e; subst e; exact hib j b0 hj hb0 ha⟩
  ·rcases hnew j b hb with ⟨_, hb⟩ | ⟨rfl, rfl⟩
   ·have hne : x ≠ i := fun e => hib j b hj hb (e ▸ hx)
    obtain ⟨a1, is', p', a2, a3, a4⟩ := h.br j b hj hb x hx
    exact ⟨a1, is', p', a2, by rw [keep _ x hne]; exact a3, a4⟩
   ·rcases List.mem_append.1 hx with hx | hx
    ·have hne : x ≠ i := fun e => hib j b0 hj hb0 (e ▸ hx)
     obtain ⟨a1, is', p', a2, a3, a4⟩ := h.br j b0 hj hb0 x hx
     exact ⟨a1, is', p', a2, by rw [keep _ x hne]; exact a3, a4⟩
    ·simp at hx
     subst hx
     exact ⟨hpi, is, q, his, by rw [get_set hips, if_pos rfl], hf1⟩
  ·obtain ⟨a1, a2, a3⟩ := h.wr x (by simp [hx])
   refine ⟨a1, a2, fun j b hj hb hm => ?_⟩
   rcases hnew j b hb with ⟨_, hb⟩ | ⟨rfl, rfl⟩
   ·exact a3 j b hj hb hm
   ·rcases List.mem_append.1 hm with hm | hm
    ·exact a3 j b0 hj hb0 hm
    ·simp at hm
     subst hm
     exact hwt.1 hx
  ·have old : ∀ (j : Nat) (b : List Nat), pl[j]? = some false → bs[j]? = some b → x ∈ b → ∃ (j : Nat) (b : List Nat), pl[j]? = some false ∧ (bs.set f (b0 ++ [i]))[j]? = some b ∧ x ∈ b := by
    intro j b hj hb hm
    by_cases hjf : j = f
    ·subst hjf
     rw [hb0] at hb
     cases hb
     exact ⟨j, _, hj, by rw [get_set hfb, if_pos rfl], by simp [hm]⟩
    ·exact ⟨j, b, hj, by rw [get_set hfb, if_neg hjf]; exact hb, hm⟩
   by_cases hne : x = i
   ·subst hne
    exact .inr (.inr (.inl ⟨f, b0 ++ [x], hf2, by rw [get_set hfb, if_pos rfl], by simp⟩))
   ·rcases h.al x hx with a | a | ⟨j, b, a1, a2, a3⟩ | ⟨is', p', y, a1, a2, a3⟩
    ·exact .inl a
    ·rcases List.mem_cons.1 a with e | a
     ·exact absurd e hne
     ·exact .inr (.inl a)
    ·exact .inr (.inr (.inl (old j b a1 a2 a3)))
    ·exact .inr (.inr (.inr ⟨is', p', y, a1, by rw [keep _ x hne]; exact a2, a3⟩))
theorem Inv.take {inss : List (List Int)} {pl : List Bool} {ps : List Nat} {bs : List (List Nat)} {rs r b : List Nat} {i : Nat} (h : Inv inss pl ps bs rs []) (hp : rs.Perm (r ++ [i])) (hb : bs[i]? = some b) :
  Inv inss (pl.set i true) ps bs r b := by
 have hi : i ∈ rs := hp.mem_iff.2 (by simp)
 obtain ⟨hpi, is, his, hps⟩ := h.rr i hi
 have hil : i < pl.length := lt_of_get hpi
 have hset : ∀ x, (pl.set i true)[x]? = some false → x ≠ i ∧ pl[x]? = some false := by
  intro x hx
  rw [get_set hil] at hx
  by_cases hxi : x = i
  ·rw [if_pos hxi] at hx; cases hx
  ·rw [if_neg hxi] at hx; exact ⟨hxi, hx⟩
 have hback : ∀ x : Nat, x ≠ i → pl[x]? = some false → (pl.set i true)[x]? = some false := fun x h1 h2 => by rw [get_set hil, if_neg h1]; exact h2
 have hnd := (hp.nodup_iff.1 h.rn)
 rw [List.nodup_append] at hnd
 have hri : ∀ x ∈ r, x ∈ rs ∧ x ≠ i := fun x hx => ⟨hp.mem_iff.2 (by simp [hx]), fun e => hnd.2.2 x hx i (by simp) e⟩
 -- who waits is not ready
 have hbr : ∀ (j : Nat) (b' : List Nat), pl[j]? = some false → bs[j]? = some b' → ∀ x ∈ b', x ∉ rs := by
  intro j b' hj hb' x hx hm
  obtain ⟨_, is', p', a2, a3, a4⟩ := h.br j b' hj hb' x hx
  obtain ⟨_, is2, c2, c3⟩ := h.rr x hm
  rw [a2] at c2; cases c2
  rw [a3] at c3; cases c3
  simp at a4
 refine ⟨by simpa using h.l1, h.l2, h.l3, hnd.1, fun x hx => ?_, fun j b' hj hb' => h.bn j b' (hset j hj).2 hb', fun j b' hj hb' x hx => ?_, h.bn i b hpi hb, fun x hx => ?_, fun x is' p' h1 h2 => ?_, fun x hx => ?_⟩
 ·obtain ⟨h1, h2⟩ := hri x hx
  obtain ⟨a1, a2⟩ := h.rr x h1
  exact ⟨hback x h2 a1, a2⟩
 ·obtain ⟨a1, a2⟩ := h.br j b' (hset j hj).2 hb' x hx
  exact ⟨hback x (fun e => hbr j b' (hset j hj).2 hb' x hx (e ▸ hi)) a1, a2⟩
 ·obtain ⟨a1, is', p', a2, a3, a4⟩ := h.br i b hpi hb x hx
  have hxr := hbr i b hpi hb x hx
  refine ⟨hback x (fun e => hxr (e ▸ hi)) a1, fun hm => hxr (hri x hm).1, fun j b' hj hb' hm => ?_⟩
  obtain ⟨_, is2, p2, c2, c3, c4⟩ := h.br j b' (hset j hj).2 hb' x hm
  rw [a2] at c2; cases c2
  rw [a3] at c3; cases c3
  rw [a4] at c4
  have : (i : Int) = (j : Int) := Option.some.inj c4
  exact (hset j hj).1 (by omega)
 ·obtain ⟨a1, a2⟩ := h.pf x is' p' h1 h2
  refine ⟨a1, fun k y hk hy => ?_⟩
  obtain ⟨c1, c2⟩ := a2 k y hk hy
  refine ⟨c1, ?_⟩
  rw [get_set hil]
  by_cases e : y.toNat = i
  ·rw [if_pos e]
  ·rw [if_neg e]; exact c2
 ·obtain ⟨hxi, hx⟩ := hset x hx
  rcases h.al x hx with a | a | ⟨j, b', a1, a2, a3⟩ | a
  ·rcases List.mem_append.1 (hp.mem_iff.1 a) with a | a
   ·exact .inl a
   ·simp at a; exact absurd a hxi
  ·cases a
  ·by_cases hj : j = i
   ·subst hj
    rw [hb] at a2; cases a2
    exact .inr (.inl a3)
   ·exact .inr (.inr (.inl ⟨j, b', hback j hj a1, a2, a3⟩))
  ·exact .inr (.inr (.inr a))
def start (inss : List (List Int)) : LS := lookP inss (List.replicate inss.length false) (List.replicate inss.length 0, List.replicate inss.length [], []) (List.range inss.length)
def left (pl : List Bool) : Nat := pl.countP (fun b => !b)
theorem left_set {pl : List Bool} {i : Nat} (h : pl[i]? = some false) : left (pl.set i true) + 1 = left pl := by
 induction pl generalizing i with
 | nil => simp at h
 | cons b r ih =>
  match i, h with
  | 0, h =>
   obtain rfl : b = false := by simpa using h
   simp [left]
  | i + 1, h =>
   have := ih (i := i) (by simpa using h)
   simp only [left, List.set_cons_succ, List.countP_cons] at *
   omega
theorem left_all (n : Nat) : left (List.replicate n false) = n := by
 induction n with
 | zero => rfl
 | succ n ih => rw [List.replicate_succ, left, List.countP_cons]; unfold left at ih; rw [ih]; rfl
end Go.Proofs.YtpcbhcdpegbfjaaGreat.J
