/-
  Records in two lists; keys apart; sums.
-/
import Derived.Test.YtlikikiglicdlaaWPure2
namespace Go.Proofs.Ytlikikiglicdlaa
open Go.RowKit

theorem allF_app (k size slide a : Int) (xs ys : List Rc) : allF k size slide a (xs ++ ys) = allF k size slide a xs ++ allF k size slide a ys := by
  unfold allF; rw [List.flatMap_append]
theorem halves_eq {size slide a : Int} (hw : FitW 3 size slide) (ha : 1 ≤ a ∧ a ≤ 5) {rs xs ys : List Rc} (hp : (xs ++ ys).Perm rs) (hr : ∀ r ∈ rs, RcOk r) : pJoin (jn a) (putsP 3 size slide a ys ++ putsP 3 size slide a xs) = putsP 3 size slide a rs := by
  have hx := puts_comes hw ha xs fun r h => hr r (hp.mem_iff.1 (List.mem_append_left _ h))
  have hy := puts_comes hw ha ys fun r h => hr r (hp.mem_iff.1 (List.mem_append_right _ h))
  have hall := puts_comes hw ha rs hr
  have hf : ∀ x ∈ putsP 3 size slide a ys ++ putsP 3 size slide a xs, Full x := fun x h => by
    rcases List.mem_append.1 h with h | h
    · exact hy.2 rfl x h
    · exact hx.2 rfl x h
  have hj := join_comes (jn a) hf
  have h1 : Comes true (jn a) (allF 3 size slide a rs) (pJoin (jn a) (putsP 3 size slide a ys ++ putsP 3 size slide a xs)) := by
    refine ⟨Reds.trans ?_ hj.1, hj.2⟩
    have h2 : Reds true (jn a) (allF 3 size slide a ys ++ allF 3 size slide a xs) _ := Reds.both hy.1.1 hx.1.1
    refine h2.perm ?_ (.refl _)
    rw [← allF_app]
    exact allF_perm _ _ _ _ (List.perm_append_comm.trans hp)
  exact rising_eq (join_rising _ _) (puts_rising ..) (Comes.unique (jn_comm a) (jn_assoc a) h1 hall.1)
theorem puts_key {k size slide a : Int} (hw : FitW k size slide) (ha : 1 ≤ a ∧ a ≤ 5) {rs : List Rc} (hr : ∀ r ∈ rs, RcOk r) {P : Int → Prop} (hP : ∀ r ∈ rs, P r.k) : ∀ x ∈ putsP k size slide a rs, P x.k := by
  refine (puts_comes hw ha rs hr).1.1.keeps (P := fun x => P x.k) (fun x y _ hx _ => hx) fun x hx => ?_
  obtain ⟨r, h1, h2⟩ := List.mem_flatMap.1 hx
  obtain ⟨s, _, rfl⟩ := List.mem_map.1 h2
  exact hP r h1
theorem keys_eq {k size slide a : Int} (hw : FitW k size slide) (ha : 1 ≤ a ∧ a ≤ 5) {rs ev ot : List Rc} (hp : (ev ++ ot).Perm rs) (hr : ∀ r ∈ rs, RcOk r) (he : ∀ r ∈ ev, r.k.tmod 2 = 0) (ho : ∀ r ∈ ot, ¬ r.k.tmod 2 = 0) : srt (putsP k size slide a ot ++ putsP k size slide a ev) = putsP k size slide a rs := by
  have hre : ∀ r ∈ ev, RcOk r := fun r h => hr r (hp.mem_iff.1 (List.mem_append_left _ h))
  have hro : ∀ r ∈ ot, RcOk r := fun r h => hr r (hp.mem_iff.1 (List.mem_append_right _ h))
  have h1 := puts_comes hw ha ev hre
  have h2 := puts_comes hw ha ot hro
  have hall := puts_comes hw ha rs hr
  have k1 := puts_key hw ha hre (P := fun k => k.tmod 2 = 0) he
  have k2 := puts_key hw ha hro (P := fun k => ¬ k.tmod 2 = 0) ho
  have h3 : Comes (sess k) (jn a) (allF k size slide a rs) (putsP k size slide a ot ++ putsP k size slide a ev) := by
    refine ⟨?_, List.pairwise_append.2 ⟨h2.1.2, h1.1.2, fun x hx y hy hm => ?_⟩⟩
    · refine (Reds.both h2.1.1 h1.1.1).perm ?_ (.refl _)
      rw [← allF_app]
      exact allF_perm _ _ _ _ (List.perm_append_comm.trans hp)
    · have e1 := k1 y hy
      have e2 := k2 x hx
      rw [hm.1] at e2
      exact e2 e1
  exact (srt_of ((Comes.unique (jn_comm a) (jn_assoc a) hall.1 h3).trans (.refl _)) (puts_rising ..)).symm
/-- The sum of what panes are worth, modulo 2^64. -/
def sumA (l : List Pn) : Int := l.foldr (fun x s => wrap64 (x.a + s)) 0
theorem sumA_cons (x : Pn) (l : List Pn) : sumA (x :: l) = wrap64 (x.a + sumA l) := rfl
theorem wrap_add (x y : Int) : wrap64 (wrap64 x + y) = wrap64 (x + y) := by unfold wrap64; omega
theorem wrap_add' (x y : Int) : wrap64 (x + wrap64 y) = wrap64 (x + y) := by unfold wrap64; omega
theorem sumA_perm {l m : List Pn} (h : l.Perm m) : sumA l = sumA m := by
  induction h with
  | nil => rfl
  | cons x _ ih => simp only [sumA, List.foldr_cons] at *; rw [ih]
  | swap x y l => simp only [sumA, List.foldr_cons]; rw [wrap_add', wrap_add']; congr 1; omega
  | trans _ _ ih1 ih2 => rw [ih1, ih2]
theorem sumA_red {s : Bool} {a : Int} (ha : a = 1 ∨ a = 2) {l m : List Pn} (h : Reds s (jn a) l m) : sumA l = sumA m := by
  obtain ⟨n, h⟩ := h
  induction n generalizing l with
  | zero => exact sumA_perm h
  | succ n ih =>
    obtain ⟨l1, ⟨x, y, r, _, hp, he⟩, b⟩ := h
    rw [← ih b, sumA_perm hp, sumA_perm he]
    simp only [sumA, List.foldr_cons]
    have e : (jp (jn a) x y).a = wrap64 (x.a + y.a) := by
      rcases ha with rfl | rfl
      · exact jn1 _ _
      · exact jn2 _ _
    rw [e, wrap_add, wrap_add']
    congr 1; omega
theorem sumA_app (l m : List Pn) : sumA (l ++ m) = wrap64 (sumA l + sumA m) := by
  induction l with
  | nil =>
    have : sumA m = wrap64 (sumA m) := by
      cases m with
      | nil => simp [sumA, wrap64]
      | cons x m => simp only [sumA, List.foldr_cons]; unfold wrap64; omega
    simp only [List.nil_append]
    show _ = wrap64 (0 + _)
    rw [Int.zero_add, ← this]
  | cons x l ih =>
    have e1 : sumA (x :: l ++ m) = wrap64 (x.a + sumA (l ++ m)) := rfl
    have e2 : sumA (x :: l) = wrap64 (x.a + sumA l) := rfl
    rw [e1, e2, ih, wrap_add', wrap_add]
    congr 1; omega
theorem wrap0 : wrap64 0 = 0 := by unfold wrap64; omega
theorem row_sum (k u v : Int) (hu : u = wrap64 v) (ss : List Sp) : sumA (ss.map fun sp => (⟨k, sp.f, sp.t, u⟩ : Pn)) = wrap64 (ss.length * v) := by
  induction ss with
  | nil =>
    rw [List.length_nil, Int.natCast_zero, Int.zero_mul, wrap0]
    rfl
  | cons s ss ih =>
    have e : ((ss.length + 1 : Nat) : Int) * v = v + ss.length * v := by rw [Int.natCast_succ, Int.add_mul, Int.one_mul, Int.add_comm]
    rw [List.map_cons, sumA_cons, ih, wrap_add', List.length_cons, e]
    simp only
    rw [hu, wrap_add]
theorem frs_sum {k size slide a : Int} (r : Rc) (v : Int) (h : jn a (zr a) (vOf a r.v) = wrap64 v) : sumA (frs k size slide a r) = wrap64 ((pSpans k size slide r.t).length * v) :=
  row_sum r.k _ v h _
/-- Without what it is worth. -/
def bare (x : Pn) : Pn := ⟨x.k, x.f, x.t, 0⟩
theorem bare_comes {k size slide a : Int} (hw : FitW k size slide) (ha : 1 ≤ a ∧ a ≤ 5) {rs : List Rc} (hr : ∀ r ∈ rs, RcOk r) : Comes (sess k) (fun _ _ => 0) ((allF k size slide a rs).map bare) ((putsP k size slide a rs).map bare) :=
  (puts_comes hw ha rs hr).1.map (φ := bare) (fun _ _ => Iff.rfl) (fun _ _ _ => rfl)
theorem bare_row (k u : Int) (ss : List Sp) : (ss.map fun sp => (⟨k, sp.f, sp.t, u⟩ : Pn)).map bare = ss.map fun sp => ⟨k, sp.f, sp.t, 0⟩ := by rw [List.map_map]; rfl
theorem bare_frs (k size slide a : Int) (r : Rc) : (frs k size slide a r).map bare = (pSpans k size slide r.t).map fun sp => ⟨r.k, sp.f, sp.t, 0⟩ := by
  unfold frs
  generalize jn a (zr a) (vOf a r.v) = u
  exact bare_row _ _ _
theorem bare_all (k size slide a b : Int) (rs : List Rc) : (allF k size slide a rs).map bare = (allF k size slide b rs).map bare := by
  unfold allF
  rw [List.map_flatMap, List.map_flatMap]
  have e : (fun r => (frs k size slide a r).map bare) = fun r => (frs k size slide b r).map bare := by
    funext r
    rw [bare_frs, bare_frs]
  rw [e]
theorem puts_same_len {k size slide a b : Int} (hw : FitW k size slide) (ha : 1 ≤ a ∧ a ≤ 5) (hb : 1 ≤ b ∧ b ≤ 5) {rs : List Rc} (hr : ∀ r ∈ rs, RcOk r) : (putsP k size slide a rs).length = (putsP k size slide b rs).length := by
  have h1 := bare_comes hw ha hr
  have h2 := bare_comes hw hb hr
  rw [bare_all k size slide b a rs] at h2
  have := (Comes.unique (fun _ _ => rfl) (fun _ _ _ => rfl) h1 h2).length_eq
  simpa using this
end Go.Proofs.Ytlikikiglicdlaa
