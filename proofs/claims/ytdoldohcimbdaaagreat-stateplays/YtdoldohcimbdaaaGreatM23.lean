/-
  Texts in build order: SGathP.
-/
import Derived.Test.YtdoldohcimbdaaaGreatM22
/-
  A session takes in all that it overlaps: the pure side.
-/
namespace Go.Proofs.YtdoldohcimbdaaaGreat
open Go.RowKit

theorem fold_lo {c : Int} (g : List Sp) : ∀ s : Sp, c ≤ s.f → (∀ x ∈ g, c ≤ x.f) → c ≤ (g.foldl jsp s).f := by
  induction g with
  | nil => intro s h _; exact h
  | cons x g ih => intro s h h2; exact ih _ (by have := h2 x (List.mem_cons_self ..); simp only [jsp]; omega) (fun y hy => h2 y (List.mem_cons_of_mem _ hy))
theorem fold_hi {c : Int} (g : List Sp) : ∀ s : Sp, s.t ≤ c → (∀ x ∈ g, x.t ≤ c) → (g.foldl jsp s).t ≤ c := by
  induction g with
  | nil => intro s h _; exact h
  | cons x g ih => intro s h h2; exact ih _ (by have := h2 x (List.mem_cons_self ..); simp only [jsp]; omega) (fun y hy => h2 y (List.mem_cons_of_mem _ hy))
theorem fold_over (g : List Sp) : ∀ s : Sp, (g.foldl jsp s).f ≤ s.f ∧ s.t ≤ (g.foldl jsp s).t := by
  induction g with
  | nil => intro s; exact ⟨Int.le_refl _, Int.le_refl _⟩
  | cons x g ih => intro s; have := ih (jsp s x); simp only [jsp] at this ⊢; simp only [List.foldl_cons]; simp only [jsp]; omega
theorem part_mem {l : List Sp} {a b : Nat} {x : Sp} (h : x ∈ (l.take b).drop a) : ∃ i, a ≤ i ∧ i < b ∧ l[i]? = some x := by
  obtain ⟨j, hj⟩ := List.getElem?_of_mem h
  rw [List.getElem?_drop, List.getElem?_take] at hj
  split at hj
  · exact ⟨a + j, by omega, by omega, hj⟩
  · cases hj
theorem mem_part {l : List Sp} {a b i : Nat} {x : Sp} (h1 : a ≤ i) (h2 : i < b) (hx : l[i]? = some x) : ((l.take b).drop a)[i - a]? = some x := by
  rw [List.getElem?_drop, List.getElem?_take, show a + (i - a) = i by omega, if_pos h2]; exact hx
/-- The panes of the first i spans of gone are out. -/
structure GI (M : List Pn) (k : Int) (gone : List Sp) (i : Nat) (G N : List Pn) : Prop where
  all : M.Perm (G ++ N)
  len : G.length = i
  sp : ∀ (q : Nat) (x : Pn) (s : Sp), G[q]? = some x → gone[q]? = some s → x.k = k ∧ x.f = s.f ∧ x.t = s.t
def Places (M : List Pn) : Prop := M.Pairwise fun x y => ¬ (x.k = y.k ∧ x.f = y.f ∧ x.t = y.t)
theorem places_of {w : World} {m : Nat} {M : List Pn} (h : MapAt Tryz.prog 89 w m (M.map pEnt)) : Places M := by
  have h1 := h.nodup
  rw [List.map_map] at h1
  have h2 := List.pairwise_map.1 h1
  exact h2.imp (fun hne e => hne (by simp only [Function.comp, pEnt, plV]; rw [e.1, e.2.1, e.2.2]))
theorem Places.perm {M N : List Pn} (h : Places M) (hp : M.Perm N) : Places N := List.Pairwise.perm h hp (fun h1 h2 => h1 ⟨h2.1.symm, h2.2.1.symm, h2.2.2.symm⟩)
theorem GI.next {M : List Pn} {k : Int} {gone : List Sp} {i : Nat} {G N : List Pn} (h : GI M k gone i G N) (hdn : ∀ s ∈ gone, ∃ x ∈ M, x.k = k ∧ x.f = s.f ∧ x.t = s.t) (hfull : ∀ s ∈ gone, s.f < s.t) (hrise : gone.Pairwise fun a b => a.t ≤ b.f) {s : Sp} (hs : gone[i]? = some s) :
    ∃ x N', x.k = k ∧ x.f = s.f ∧ x.t = s.t ∧ x ∈ M ∧ N.Perm (x :: N') ∧ GI M k gone (i + 1) (G ++ [x]) N' := by
  obtain ⟨x, hx, e1, e2, e3⟩ := hdn s (List.mem_of_getElem? hs)
  rcases List.mem_append.1 (h.all.mem_iff.1 hx) with hg | hn
  · exfalso
    obtain ⟨q, hq⟩ := List.getElem?_of_mem hg
    have hql := lt_of_get hq
    rw [h.len] at hql
    obtain ⟨s', hs'⟩ := get_of_lt (show q < gone.length by have := lt_of_get hs; omega)
    have h1 := h.sp q x s' hq hs'
    have h2 := rise_get hrise hql hs' hs
    have h3 := hfull s' (List.mem_of_getElem? hs')
    omega
  · obtain ⟨u, v, rfl⟩ := List.append_of_mem hn
    refine ⟨x, u ++ v, e1, e2, e3, hx, List.perm_middle, ⟨?_, by simp [h.len], fun q y s' hy hs' => ?_⟩⟩
    · refine h.all.trans ?_
      rw [List.append_assoc]
      exact List.Perm.append_left G List.perm_middle
    · by_cases hq : q < G.length
      · rw [List.getElem?_append_left hq] at hy; exact h.sp q y s' hy hs'
      · have hq2 : q = G.length := by have := lt_of_get hy; simp at this; omega
        subst hq2
        simp at hy
        subst hy
        rw [h.len, hs] at hs'
        cases hs'
        exact ⟨e1, e2, e3⟩
theorem GI.spans {M : List Pn} {k : Int} {gone : List Sp} {G N : List Pn} (h : GI M k gone gone.length G N) : G.map (fun x => (⟨x.f, x.t⟩ : Sp)) = gone := by
  apply List.ext_getElem?
  intro q
  rw [List.getElem?_map]
  by_cases hq : q < gone.length
  · obtain ⟨s, hs⟩ := get_of_lt hq
    obtain ⟨x, hx⟩ := get_of_lt (show q < G.length by rw [h.len]; exact hq)
    have := h.sp q x s hx hs
    rw [hx, hs]
    cases s
    simp_all
  · have hl := h.len
    rw [List.getElem?_eq_none (show gone.length ≤ q by omega), List.getElem?_eq_none (show G.length ≤ q by omega)]; rfl
theorem fold_reds {J : Int → Int → Int} (fr : Pn) (N O : List Pn) : ∀ wh : Pn, Over fr wh → (∀ x ∈ O, mt true fr x) → Reds true J (wh :: (O ++ N)) (O.foldl (jp J) wh :: N) := by
  induction O with
  | nil => intro wh _ _; exact .refl _
  | cons p O ih =>
    intro wh hw hO
    have h1 := Reds.pair (J := J) (O ++ N) (hw.meets (hO p (List.mem_cons_self ..)))
    exact h1.trans (ih (jp J wh p) (hw.jp p) fun x hx => hO x (List.mem_cons_of_mem _ hx))
theorem fold_val {J : Int → Int → Int} (hc : ∀ x y, J x y = J y x) (G : List Pn) : ∀ p : Pn, G.foldl (jp J) p = ⟨p.k, ((G.map (fun x => (⟨x.f, x.t⟩ : Sp))).foldl jsp ⟨p.f, p.t⟩).f, ((G.map (fun x => (⟨x.f, x.t⟩ : Sp))).foldl jsp ⟨p.f, p.t⟩).t, G.foldl (fun a x => J x.a a) p.a⟩ := by
  induction G with
  | nil => intro p; rfl
  | cons x G ih =>
    intro p
    rw [List.foldl_cons, ih]
    simp only [List.map_cons, List.foldl_cons, jp, jsp]
    rw [hc p.a x.a]
/-- What a session comes to, and the sessions behind it. -/
theorem gath_pure {w : World} {s m o : Nat} {size slide ag : Int} {fq : Nat → Prop} {M : List Pn} {R R0 : List SRow} {k f t c : Int} {v v' : Value} {l : List Sp} {a b : Nat} {G N : List Pn} (h : StAt w s m o 3 size slide ag fq M R) (hr : RowOf R R0 k v l) (hf : f < t) (hA : AddR l f t a b) (hG : GI M k ((l.take b).drop a) ((l.take b).drop a).length G N) :
    Comes true (jn ag) (⟨k, f, t, c⟩ :: M) (G.foldl (jp (jn ag)) ⟨k, f, t, c⟩ :: N) ∧ (∀ y ∈ N, ¬ (y.k = k ∧ y.f = (whl ⟨f, t⟩ l a b).f ∧ y.t = (whl ⟨f, t⟩ l a b).t)) ∧
    (G.foldl (jp (jn ag)) ⟨k, f, t, c⟩ = ⟨k, (whl ⟨f, t⟩ l a b).f, (whl ⟨f, t⟩ l a b).t, G.foldl (fun a x => jn ag x.a a) c⟩) ∧ Inv 3 (G.foldl (jp (jn ag)) ⟨k, f, t, c⟩ :: N) (⟨k, v', l.take a ++ whl ⟨f, t⟩ l a b :: l.drop b⟩ :: R0) := by
  have hpl := places_of h.mp
  have hkeys : (R.map SRow.k).Nodup := by
    have h1 := h.om.op.nodup
    rw [List.map_map] at h1
    have h2 := List.pairwise_map.1 h1
    exact List.pairwise_map.2 (h2.imp (fun hne e => hne (by simp only [Function.comp, sEnt]; rw [e])))
  have hlrow : ∀ sp ∈ l, sp.f < sp.t ∧ ∃ x ∈ M, x.k = k ∧ x.f = sp.f ∧ x.t = sp.t := fun sp hsp => by
    rcases hr with ⟨_, _, _, rfl⟩ | hp
    · cases hsp
    · exact h.inv.dn _ (hp.mem_iff.2 (List.mem_cons_self ..)) sp hsp
  have hrise : l.Pairwise fun a b => a.t ≤ b.f := by
    rcases hr with ⟨_, _, _, rfl⟩ | hp
    · exact .nil
    · exact h.inv.rise _ (hp.mem_iff.2 (List.mem_cons_self ..))
  have hR0 : ∀ r ∈ R0, r ∈ R ∧ r.k ≠ k := fun r hr0 => by
    rcases hr with ⟨rfl, h1, _, _⟩ | hp
    · exact ⟨hr0, h1 r hr0⟩
    · refine ⟨hp.mem_iff.2 (List.mem_cons_of_mem _ hr0), fun e => ?_⟩
      have h2 : ((⟨k, v, l⟩ :: R0).map SRow.k).Nodup := (hp.map SRow.k).nodup_iff.1 hkeys
      rw [List.map_cons, List.nodup_cons] at h2
      exact h2.1 (List.mem_map.2 ⟨r, hr0, e⟩)
  have hup : ∀ x ∈ M, x.f < x.t → x.k = k → (⟨x.f, x.t⟩ : Sp) ∈ l := fun x hx hlt hk => by
    obtain ⟨r, h1, h2, h3⟩ := h.inv.up rfl x hx hlt
    rcases hr with ⟨rfl, h4, _, _⟩ | hp
    · exact absurd (h2.trans hk) (h4 r h1)
    · rcases List.mem_cons.1 (hp.mem_iff.1 h1) with rfl | h5
      · exact h3
      · exact absurd (h2.trans hk) (hR0 r h5).2
  have hGm : ∀ x ∈ G, x ∈ M ∧ ∃ i, a ≤ i ∧ i < b ∧ l[i]? = some (⟨x.f, x.t⟩ : Sp) ∧ x.k = k := fun x hx => by
    refine ⟨hG.all.mem_iff.2 (List.mem_append_left _ hx), ?_⟩
    obtain ⟨q, hq⟩ := List.getElem?_of_mem hx
    have hql := lt_of_get hq
    rw [hG.len] at hql
    obtain ⟨sp, hsp⟩ := get_of_lt hql
    have h1 := hG.sp q x sp hq hsp
    obtain ⟨i, i1, i2, i3⟩ := part_mem (List.mem_of_getElem? hsp)
    refine ⟨i, i1, i2, ?_, h1.1⟩
    rw [i3, h1.2.1, h1.2.2]
  have hNm : ∀ x ∈ N, x ∈ M := fun x hx => hG.all.mem_iff.2 (List.mem_append_right _ hx)
  have hmeet : ∀ x ∈ G, mt true ⟨k, f, t, c⟩ x := fun x hx => by
    obtain ⟨hxm, i, i1, i2, i3, i4⟩ := hGm x hx
    have h1 := hA.mi i _ i1 i2 i3
    have h2 := (hlrow _ (List.mem_of_getElem? i3)).1
    exact ⟨i4.symm, .inl ⟨rfl, by simp only at h1 h2 ⊢; omega, hf, by simp only at h1 h2 ⊢; omega, h2⟩⟩
  have hGN : ∀ x ∈ N, ∀ y ∈ G, ¬ (x.k = y.k ∧ x.f = y.f ∧ x.t = y.t) := fun x hx y hy e => by
    have h1 := hpl.perm hG.all
    have h2 := (List.pairwise_append.1 h1).2.2 y hy x hx
    exact h2 ⟨e.1.symm, e.2.1.symm, e.2.2.symm⟩
  have hout : ∀ x ∈ N, x.k = k → x.f < x.t → ∃ i, (i < a ∨ b ≤ i) ∧ l[i]? = some (⟨x.f, x.t⟩ : Sp) := fun x hx hk hlt => by
    obtain ⟨i, hi⟩ := List.getElem?_of_mem (hup x (hNm x hx) hlt hk)
    refine ⟨i, ?_, hi⟩
    by_cases h1 : i < a
    · exact .inl h1
    · by_cases h2 : b ≤ i
      · exact .inr h2
      · exfalso
        have h3 := mem_part (a := a) (b := b) (by omega) (by omega) hi
        obtain ⟨y, hy⟩ := get_of_lt (show i - a < G.length by rw [hG.len]; exact lt_of_get h3)
        have h4 := hG.sp _ y _ hy h3
        exact hGN x hx y (List.mem_of_getElem? hy) ⟨hk.trans h4.1.symm, h4.2.1.symm, h4.2.2.symm⟩
  have hno : ∀ x ∈ N, ¬ mt true ⟨k, f, t, c⟩ x := fun x hx hm => by
    obtain ⟨e1, ⟨_, e2⟩ | ⟨e2, _⟩⟩ := hm
    · simp only at e1 e2
      obtain ⟨i, hi, hl⟩ := hout x hx e1.symm e2.2.2.2
      rcases hi with hi | hi
      · have := hA.lo i _ hi hl; simp only at this; omega
      · have := hA.hi i _ hi hl; simp only at this; omega
    · cases e2
  have hMap : Apart true M := by
    have h1 : ∀ x ∈ M, ∀ y ∈ M, mt true x y → x.k = y.k ∧ x.f = y.f ∧ x.t = y.t := fun x hx y hy hm => by
      obtain ⟨e1, ⟨_, e2⟩ | ⟨e2, _⟩⟩ := hm
      · obtain ⟨r, r1, r2, r3⟩ := h.inv.up rfl x hx e2.2.1
        obtain ⟨r', q1, q2, q3⟩ := h.inv.up rfl y hy e2.2.2.2
        have hrr : r' = r := by
          obtain ⟨u1, u2, rfl⟩ := List.append_of_mem r1
          have h2 : ((r :: (u1 ++ u2)).map SRow.k).Nodup := (List.perm_middle.map SRow.k).nodup_iff.1 hkeys
          rw [List.map_cons, List.nodup_cons] at h2
          rcases List.mem_cons.1 (List.perm_middle.mem_iff.1 q1) with e | e
          · exact e
          · exact absurd (List.mem_map.2 ⟨r', e, by omega⟩) h2.1
        subst hrr
        obtain ⟨i, hi⟩ := List.getElem?_of_mem r3
        obtain ⟨j, hj⟩ := List.getElem?_of_mem q3
        rcases Nat.lt_trichotomy i j with e | e | e
        · have := rise_get (h.inv.rise r' r1) e hi hj; simp only at this; omega
        · subst e; rw [hi] at hj; simp at hj; exact ⟨e1, hj.1, hj.2⟩
        · have := rise_get (h.inv.rise r' r1) e hj hi; simp only at this; omega
      · cases e2
    exact List.Pairwise.imp_of_mem (fun hx hy hne hm => hne (h1 _ hx _ hy hm)) hpl
  have hNap : Apart true N := ((List.pairwise_append.1 (hMap.perm hG.all)).2.1)
  have hspans := hG.spans
  have hwh : G.foldl (jp (jn ag)) ⟨k, f, t, c⟩ = ⟨k, (whl ⟨f, t⟩ l a b).f, (whl ⟨f, t⟩ l a b).t, G.foldl (fun a x => jn ag x.a a) c⟩ := by
    rw [fold_val (jn_comm ag), hspans]; rfl
  have hov := fold_over ((l.take b).drop a) ⟨f, t⟩
  have hwf : (whl ⟨f, t⟩ l a b).f ≤ f ∧ t ≤ (whl ⟨f, t⟩ l a b).t := hov
  have hNpl : ∀ y ∈ N, ¬ (y.k = k ∧ y.f = (whl ⟨f, t⟩ l a b).f ∧ y.t = (whl ⟨f, t⟩ l a b).t) := fun y hy e => by
    exact hno y hy ⟨e.1.symm, .inl ⟨rfl, by show f < y.t; omega, hf, by show y.f < t; omega, by omega⟩⟩
  refine And.intro (And.intro ?_ ?_) (And.intro hNpl (And.intro hwh ?_))
  · exact (fold_reds (J := jn ag) ⟨k, f, t, c⟩ N G _ (Over.refl _) hmeet).perm (.cons _ hG.all.symm) (.refl _)
  · refine List.pairwise_cons.2 ⟨fun x hx hm => ?_, hNap⟩
    by_cases hxf : x.f < x.t
    · refine sess_away (J := jn ag) ⟨k, f, t, c⟩ x hxf G _ (Over.refl _) hmeet (fun y hy hmy => ?_) (hno x hx) hm
      have h1 := (List.pairwise_append.1 (hMap.perm hG.all)).2.2 y hy x hx
      exact h1 (mt_symm hmy)
    · obtain ⟨_, ⟨_, e2⟩ | ⟨e2, _⟩⟩ := hm
      · exact hxf e2.2.2.2
      · cases e2
  · rw [hwh]
    refine ⟨fun e => absurd rfl e, fun _ x hx hlt => ?_, fun r hrm sp hsp => ?_, fun r hrm => ?_⟩
    · rcases List.mem_cons.1 hx with rfl | hx
      · exact ⟨_, List.mem_cons_self .., rfl, List.mem_append_right _ (List.mem_cons_self ..)⟩
      · by_cases hk : x.k = k
        · obtain ⟨i, hi, hl⟩ := hout x hx hk hlt
          refine ⟨_, List.mem_cons_self .., hk.symm, ?_⟩
          rcases hi with hi | hi
          · refine List.mem_append_left _ (List.mem_of_getElem? (i := i) ?_)
            rw [List.getElem?_take, if_pos hi]; exact hl
          · refine List.mem_append_right _ (List.mem_cons_of_mem _ (List.mem_of_getElem? (i := i - b) ?_))
            rw [List.getElem?_drop, show b + (i - b) = i by omega]; exact hl
        · obtain ⟨r, r1, r2, r3⟩ := h.inv.up rfl x (hNm x hx) hlt
          refine ⟨r, List.mem_cons_of_mem _ ?_, r2, r3⟩
          rcases hr with ⟨rfl, _⟩ | hp
          · exact r1
          · rcases List.mem_cons.1 (hp.mem_iff.1 r1) with rfl | e
            · exact absurd r2.symm hk
            · exact e
    · rcases List.mem_cons.1 hrm with rfl | hrm
      · have hold : ∀ i, (i < a ∨ b ≤ i) → l[i]? = some sp → sp.f < sp.t ∧ ∃ x ∈ (⟨k, (whl ⟨f, t⟩ l a b).f, (whl ⟨f, t⟩ l a b).t, G.foldl (fun a x => jn ag x.a a) c⟩ :: N : List Pn), x.k = k ∧ x.f = sp.f ∧ x.t = sp.t := fun i hi hl => by
          obtain ⟨h1, x, h2, h3⟩ := hlrow sp (List.mem_of_getElem? hl)
          refine ⟨h1, x, List.mem_cons_of_mem _ ?_, h3⟩
          rcases List.mem_append.1 (hG.all.mem_iff.1 h2) with hg | hn
          · exfalso
            obtain ⟨_, j, j1, j2, j3, _⟩ := hGm x hg
            have e : (⟨x.f, x.t⟩ : Sp) = sp := by cases sp; simp_all
            rw [e] at j3
            rcases Nat.lt_trichotomy i j with u | u | u
            · have := rise_get hrise u hl j3; omega
            · omega
            · have := rise_get hrise u j3 hl; omega
          · exact hn
        rcases List.mem_append.1 hsp with hsp | hsp
        · obtain ⟨i, hi⟩ := List.getElem?_of_mem hsp
          rw [List.getElem?_take] at hi
          split at hi
          · exact hold i (.inl (by assumption)) hi
          · cases hi
        · rcases List.mem_cons.1 hsp with rfl | hsp
          · exact ⟨by omega, _, List.mem_cons_self .., rfl, rfl, rfl⟩
          · obtain ⟨i, hi⟩ := List.getElem?_of_mem hsp
            rw [List.getElem?_drop] at hi
            exact hold (b + i) (.inr (by omega)) hi
      · obtain ⟨h1, x, h2, h3⟩ := h.inv.dn r (hR0 r hrm).1 sp hsp
        refine ⟨h1, x, List.mem_cons_of_mem _ ?_, h3⟩
        rcases List.mem_append.1 (hG.all.mem_iff.1 h2) with hg | hn
        · obtain ⟨_, _, _, _, _, e⟩ := hGm x hg
          exact absurd (h3.1.symm.trans e) (hR0 r hrm).2
        · exact hn
    · rcases List.mem_cons.1 hrm with rfl | hrm
      · have hloF : ∀ y ∈ l.take a, y.t ≤ (whl ⟨f, t⟩ l a b).f := fun y hy => by
          obtain ⟨i, hi⟩ := List.getElem?_of_mem hy
          rw [List.getElem?_take] at hi
          split at hi
          · next hia =>
            refine fold_lo _ _ (hA.lo i y hia hi) (fun z hz => ?_)
            obtain ⟨j, j1, j2, j3⟩ := part_mem hz
            exact rise_get hrise (by omega) hi j3
          · cases hi
        have hhiT : ∀ z ∈ l.drop b, (whl ⟨f, t⟩ l a b).t ≤ z.f := fun z hz => by
          obtain ⟨i, hi⟩ := List.getElem?_of_mem hz
          rw [List.getElem?_drop] at hi
          refine fold_hi _ _ (hA.hi _ z (by omega) hi) (fun y hy => ?_)
          obtain ⟨j, j1, j2, j3⟩ := part_mem hy
          exact rise_get hrise (by omega) j3 hi
        refine List.pairwise_append.2 ⟨hrise.sublist (List.take_sublist ..), List.pairwise_cons.2 ⟨hhiT, hrise.sublist (List.drop_sublist ..)⟩, fun y hy z hz => ?_⟩
        rcases List.mem_cons.1 hz with rfl | hz
        · exact hloF y hy
        · have h1 := hloF y hy
          have h2 := hhiT z hz
          omega
      · exact h.inv.rise r (hR0 r hrm).1
end Go.Proofs.YtdoldohcimbdaaaGreat
