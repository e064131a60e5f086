/-
  What records come to: Put, again and again.
-/
import Derived.Test.YtlikikiglicdlaaWKnown
namespace Go.Proofs.Ytlikikiglicdlaa
open Go.RowKit

def frs (k size slide a : Int) (r : Rc) : List Pn := (pSpans k size slide r.t).map fun sp => ⟨r.k, sp.f, sp.t, jn a (zr a) (vOf a r.v)⟩
def allF (k size slide a : Int) (rs : List Rc) : List Pn := rs.flatMap (frs k size slide a)
def putsP (k size slide a : Int) (rs : List Rc) : List Pn := rs.foldl (pPut k size slide a) []
/-- Records as they may be. -/
def RcOk (r : Rc) : Prop := TimeOk r.t ∧ In64 r.v
def sess (k : Int) : Bool := decide (k = 3)
theorem sess_three {k : Int} (h : sess k = true) : k = 3 := of_decide_eq_true h
theorem vOf_in {a v : Int} (h : In64 v) : In64 (vOf a v) := by
  unfold vOf
  split
  · unfold In64; omega
  · exact h
theorem zero_left {a v : Int} (ha : 1 ≤ a ∧ a ≤ 5) (h : In64 v) : jn a (zr a) v = v := by rw [jn_comm, jn_zero ha h]
theorem step_comes {k a : Int} {r : Rc} (ha : 1 ≤ a ∧ a ≤ 5) (hv : In64 r.v) {l : List Pn} (h : Apart (sess k) l) (hf : sess k = true → ∀ x ∈ l, Full x) (s : Sp) : Comes (sess k) (jn a) (⟨r.k, s.f, s.t, jn a (zr a) (vOf a r.v)⟩ :: l) (stepP k a r l s) := by
  unfold stepP
  cases hs : sess k with
  | true =>
    have h3 := sess_three hs
    rw [hs] at h hf
    rw [if_pos h3]
    exact sess_comes (fr := ⟨r.k, s.f, s.t, zr a⟩) (jn_comm a) (jn_assoc a) (vOf a r.v) (hf rfl) h
  | false =>
    have h3 : ¬ k = 3 := of_decide_eq_false hs
    rw [hs] at h
    rw [if_neg h3]
    exact span_comes (fr := ⟨r.k, s.f, s.t, zr a⟩) (jn_comm a) (zero_left ha (vOf_in hv)) h
theorem fold_comes {k a : Int} {r : Rc} (ha : 1 ≤ a ∧ a ≤ 5) (hv : In64 r.v) (ss : List Sp) : ∀ {l : List Pn}, (sess k = true → ∀ s ∈ ss, s.f < s.t) → Apart (sess k) l → (sess k = true → ∀ x ∈ l, Full x) →
    Comes (sess k) (jn a) (ss.map (fun sp => ⟨r.k, sp.f, sp.t, jn a (zr a) (vOf a r.v)⟩) ++ l) (ss.foldl (stepP k a r) l) := by
  induction ss with
  | nil => intro l _ h _; exact Comes.refl h
  | cons s ss ih =>
    intro l hss h hf
    have h1 := step_comes ha hv h hf s
    have hf2 : sess k = true → ∀ x ∈ stepP k a r l s, Full x := fun hs => h1.1.keeps (P := Full) (fun x y hm hx hy => jp_full hm hx hy) fun x hx => by
      rcases List.mem_cons.1 hx with rfl | hx
      · exact hss hs s (List.mem_cons_self ..)
      · exact hf hs x hx
    have h2 := ih (fun hs s' h' => hss hs s' (List.mem_cons_of_mem _ h')) h1.2 hf2
    have h3 := Comes.step h1 h2
    exact h3.perm List.perm_middle (.refl _)
theorem spans_full {k size slide : Int} {t : Int} (hw : FitW k size slide) (ht : TimeOk t) (hs : sess k = true) : ∀ s ∈ pSpans k size slide t, s.f < s.t := by
  have h3 := sess_three hs
  obtain ⟨_, _, h1, h2, _⟩ := hw
  subst h3
  unfold pSpans TimeOk at *
  rw [if_neg (by omega), if_neg (by omega), if_neg (by omega), if_pos rfl]
  intro s h
  obtain rfl := List.mem_singleton.1 h
  show t < wrap64 (t + size)
  unfold wrap64; omega
theorem put_comes {k size slide a : Int} {r : Rc} (hw : FitW k size slide) (ha : 1 ≤ a ∧ a ≤ 5) (hr : RcOk r) {l : List Pn} (h : Apart (sess k) l) (hf : sess k = true → ∀ x ∈ l, Full x) : Comes (sess k) (jn a) (frs k size slide a r ++ l) (pPut k size slide a l r) := by
  have h1 := fold_comes (k := k) ha hr.2 (pSpans k size slide r.t) (l := l) (spans_full hw hr.1) h hf
  exact h1.perm (.refl _) (srt_perm _).symm
theorem frs_full {k size slide a : Int} {r : Rc} (hw : FitW k size slide) (hr : RcOk r) (hs : sess k = true) : ∀ x ∈ frs k size slide a r, Full x := by
  intro x hx
  obtain ⟨s, h1, rfl⟩ := List.mem_map.1 hx
  exact spans_full hw hr.1 hs s h1
theorem put_full {k size slide a : Int} {r : Rc} (hw : FitW k size slide) (ha : 1 ≤ a ∧ a ≤ 5) (hr : RcOk r) {l : List Pn} (h : Apart (sess k) l) (hf : sess k = true → ∀ x ∈ l, Full x) : sess k = true → ∀ x ∈ pPut k size slide a l r, Full x := fun hs =>
  (put_comes hw ha hr h hf).1.keeps (P := Full) (fun x y hm hx hy => jp_full hm hx hy) fun x hx => by
    rcases List.mem_append.1 hx with hx | hx
    · exact frs_full hw hr hs x hx
    · exact hf hs x hx
theorem putsP_snoc (k size slide a : Int) (rs : List Rc) (r : Rc) : putsP k size slide a (rs ++ [r]) = pPut k size slide a (putsP k size slide a rs) r := by
  unfold putsP; rw [List.foldl_append]; rfl
theorem allF_snoc (k size slide a : Int) (rs : List Rc) (r : Rc) : allF k size slide a (rs ++ [r]) = allF k size slide a rs ++ frs k size slide a r := by
  unfold allF; rw [List.flatMap_append]; simp
theorem snoc_ind {P : List Rc → Prop} (h0 : P []) (h1 : ∀ rs r, P rs → P (rs ++ [r])) (rs : List Rc) : P rs := by
  have h2 : ∀ n, ∀ rs : List Rc, rs.length = n → P rs := by
    intro n
    induction n with
    | zero => intro rs h; rw [List.length_eq_zero_iff.1 h]; exact h0
    | succ n ih =>
      intro rs h
      have hne : rs ≠ [] := by intro e; rw [e] at h; simp at h
      have e := List.dropLast_concat_getLast hne
      rw [← e]
      exact h1 _ _ (ih _ (by simp [h]))
  exact h2 _ rs rfl
theorem puts_comes {k size slide a : Int} (hw : FitW k size slide) (ha : 1 ≤ a ∧ a ≤ 5) (rs : List Rc) : (∀ r ∈ rs, RcOk r) → Comes (sess k) (jn a) (allF k size slide a rs) (putsP k size slide a rs) ∧ (sess k = true → ∀ x ∈ putsP k size slide a rs, Full x) := by
  refine snoc_ind (P := fun rs => (∀ r ∈ rs, RcOk r) → Comes (sess k) (jn a) (allF k size slide a rs) (putsP k size slide a rs) ∧ (sess k = true → ∀ x ∈ putsP k size slide a rs, Full x)) ?_ ?_ rs
  · intro _; exact ⟨Comes.refl .nil, fun _ x hx => by cases hx⟩
  · intro rs r ih hr
    obtain ⟨h1, h2⟩ := ih fun x hx => hr x (List.mem_append_left _ hx)
    have hrr := hr r (List.mem_append_right _ (List.mem_singleton.2 rfl))
    rw [putsP_snoc, allF_snoc]
    refine ⟨?_, put_full hw ha hrr h1.2 h2⟩
    exact (Comes.step h1 (put_comes hw ha hrr h1.2 h2)).perm List.perm_append_comm (.refl _)
theorem puts_rising (k size slide a : Int) (rs : List Rc) : Rising (putsP k size slide a rs) := by
  refine snoc_ind (P := fun rs => Rising (putsP k size slide a rs)) .nil ?_ rs
  intro rs r _
  rw [putsP_snoc]
  exact srt_rising _
theorem allF_perm (k size slide a : Int) {rs rs' : List Rc} (h : rs.Perm rs') : (allF k size slide a rs).Perm (allF k size slide a rs') := List.Perm.flatMap_right _ h
theorem puts_perm {k size slide a : Int} (hw : FitW k size slide) (ha : 1 ≤ a ∧ a ≤ 5) {rs rs' : List Rc} (hp : rs.Perm rs') (hr : ∀ r ∈ rs, RcOk r) : putsP k size slide a rs = putsP k size slide a rs' := by
  have h1 := (puts_comes hw ha rs hr).1
  have h2 := (puts_comes hw ha rs' fun r h => hr r (hp.mem_iff.2 h)).1
  exact rising_eq (puts_rising ..) (puts_rising ..) (Comes.unique (jn_comm a) (jn_assoc a) h1 (h2.perm (allF_perm _ _ _ _ hp).symm (.refl _)))
theorem puts_len (k size slide a : Int) (rs : List Rc) : (putsP k size slide a rs).length ≤ 64 * rs.length := by
  refine snoc_ind (P := fun rs => (putsP k size slide a rs).length ≤ 64 * rs.length) (by simp [putsP]) ?_ rs
  intro rs r ih
  rw [putsP_snoc]
  have := pPut_len k size slide a (putsP k size slide a rs) r
  simp; omega
theorem puts_take {k size slide a : Int} {rs : List Rc} {i : Nat} {r : Rc} (h : rs[i]? = some r) : putsP k size slide a (rs.take (i + 1)) = pPut k size slide a (putsP k size slide a (rs.take i)) r := by
  have hlt := lt_of_get h
  have e : rs[i] = r := by rw [List.getElem?_eq_getElem hlt] at h; exact Option.some.inj h
  rw [List.take_succ_eq_append_getElem hlt, e, putsP_snoc]
/-- Sessions of one key don't overlap. -/
theorem puts_apart {size slide a : Int} (hw : FitW 3 size slide) (ha : 1 ≤ a ∧ a ≤ 5) {rs : List Rc} (hr : ∀ r ∈ rs, RcOk r) {i : Nat} {x y : Pn} (hx : (putsP 3 size slide a rs)[i]? = some x) (hy : (putsP 3 size slide a rs)[i + 1]? = some y) (hk : y.k = x.k) : x.t ≤ y.f := by
  obtain ⟨h1, h2⟩ := puts_comes hw ha rs hr
  have hr2 := puts_rising 3 size slide a rs
  have hap : Apart true (putsP 3 size slide a rs) := h1.2
  have hfx := h2 rfl x (List.mem_of_getElem? hx)
  have hfy := h2 rfl y (List.mem_of_getElem? hy)
  have hix := lt_of_get hx
  have hiy := lt_of_get hy
  rw [List.getElem?_eq_getElem hix] at hx
  rw [List.getElem?_eq_getElem hiy] at hy
  cases hx
  cases hy
  have h3 := List.pairwise_iff_getElem.1 hap i (i + 1) hix hiy (by omega)
  have h4 := plb_iff.1 (List.pairwise_iff_getElem.1 hr2 i (i + 1) hix hiy (by omega))
  generalize (putsP 3 size slide a rs)[i] = x at *
  generalize (putsP 3 size slide a rs)[i + 1] = y at *
  unfold mt Full at *
  have h5 : ¬ (x.f < y.t ∧ x.f < x.t ∧ y.f < x.t ∧ y.f < y.t) := fun e => h3 ⟨hk.symm, .inl ⟨rfl, e⟩⟩
  omega
end Go.Proofs.Ytlikikiglicdlaa
