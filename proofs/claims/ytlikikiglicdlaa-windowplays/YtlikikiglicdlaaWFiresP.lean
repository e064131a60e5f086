/-
  What mark after mark fires (pure).
-/
import Derived.Test.YtlikikiglicdlaaWLaw2
namespace Go.Proofs.Ytlikikiglicdlaa
open Go.RowKit

def PnOk (p : Pn) : Prop := TimeOk p.f ∧ TimeOk p.t ∧ p.f < p.t
def PnsOk (l : List Pn) : Prop := l.length ≤ 200 ∧ ∀ p ∈ l, PnOk p
def minI : Int := -9223372036854775808
/-- What is left, what was told, the highest mark. -/
structure FS where
  left : List Pn
  all : List Rc
  top : Int
def stF (s : FS) (m : Int) : FS := ⟨leftF m (srt s.left), s.all ++ outF m (srt s.left), max s.top m⟩
def runF (l : List Pn) (ms : List Int) : FS := ms.foldl stF ⟨l, [], minI⟩
theorem run_take {l : List Pn} {ms : List Int} {i : Nat} {m : Int} (h : ms[i]? = some m) : runF l (ms.take (i + 1)) = stF (runF l (ms.take i)) m := by
  unfold runF; rw [take_snoc h, List.foldl_append]; rfl
theorem ovr_max (a b : Int) (p : Pn) : ovr (max a b) p = (ovr a p || ovr b p) := by
  unfold ovr
  rw [Bool.eq_iff_iff]
  simp only [Bool.or_eq_true, decide_eq_true_eq]
  omega
theorem ovr_min {p : Pn} (h : PnOk p) : ovr minI p = false := by
  have h2 := h.2.1
  unfold TimeOk at h2
  unfold ovr minI wrap64
  rw [decide_eq_false_iff_not]; omega
theorem parts_perm {α : Type} (p q : α → Bool) (l : List α) : (l.filter p ++ l.filter (fun x => !p x && q x)).Perm (l.filter fun x => p x || q x) := by
  induction l with
  | nil => exact .refl _
  | cons a l ih =>
    cases hp : p a <;> cases hq : q a <;> simp only [List.filter_cons, hp, hq, Bool.or_true, Bool.or_false, Bool.false_eq_true, Bool.not_false, Bool.not_true, Bool.and_true, Bool.and_false, if_true, if_false, List.cons_append]
    · exact ih
    · exact List.perm_middle.trans (ih.cons a)
    · exact ih.cons a
    · exact ih.cons a
structure FOk (l : List Pn) (s : FS) : Prop where
  left : s.left.Perm (l.filter fun p => !ovr s.top p)
  all : s.all.Perm ((l.filter (ovr s.top)).map rcOf)
theorem fok_start {l : List Pn} (h : PnsOk l) : FOk l ⟨l, [], minI⟩ := by
  constructor
  · show l.Perm _
    rw [List.filter_eq_self.2 (fun p hp => by rw [ovr_min (h.2 p hp)]; rfl)]
  · show List.Perm [] _
    rw [List.filter_eq_nil_iff.2 (fun p hp => by rw [ovr_min (h.2 p hp)]; decide)]
    exact .refl _
theorem fok_step {l : List Pn} {s : FS} (h : FOk l s) (m : Int) : FOk l (stF s m) := by
  have e1 : (fun p => !ovr (max s.top m) p) = fun p => (!ovr m p && !ovr s.top p) := by
    funext p; rw [ovr_max]; cases ovr s.top p <;> cases ovr m p <;> rfl
  have e2 : (ovr (max s.top m)) = fun p => (ovr s.top p || ovr m p) := funext fun p => ovr_max _ _ p
  have hs : (srt s.left).Perm (l.filter fun p => !ovr s.top p) := (srt_perm _).trans h.left
  constructor
  · show (leftF m (srt s.left)).Perm (l.filter fun p => !ovr (max s.top m) p)
    rw [e1]
    unfold leftF
    refine (hs.filter _).trans ?_
    rw [List.filter_filter]
  · show (s.all ++ outF m (srt s.left)).Perm ((l.filter (ovr (max s.top m))).map rcOf)
    rw [e2]
    unfold outF
    refine (h.all.append ((hs.filter _).map rcOf)).trans ?_
    rw [List.filter_filter, ← List.map_append]
    refine List.Perm.map _ ?_
    have e3 : (fun p => ovr m p && !ovr s.top p) = fun p => (!ovr s.top p && ovr m p) := by funext p; rw [Bool.and_comm]
    rw [e3]
    exact parts_perm _ _ _
theorem fok_run {l : List Pn} (h : PnsOk l) (ms : List Int) : FOk l (runF l ms) := by
  unfold runF
  have : ∀ (ms : List Int) (s : FS), FOk l s → FOk l (ms.foldl stF s) := by
    intro ms
    induction ms with
    | nil => exact fun s h => h
    | cons m ms ih => exact fun s h => ih _ (fok_step h m)
  exact this ms _ (fok_start h)
theorem FOk.out {l : List Pn} {s : FS} (h : FOk l s) : s.all.Perm (outF s.top (srt l)) := by
  unfold outF
  exact h.all.trans (((srt_perm l).symm.filter _).map _)
theorem FOk.rest {l : List Pn} {s : FS} (h : FOk l s) : leftF s.top (srt l) = srt s.left := by
  refine srt_of ?_ ?_
  · unfold leftF
    exact ((srt_perm l).filter _).trans h.left.symm
  · exact List.Pairwise.filter _ (srt_rising l)
theorem FOk.len {l : List Pn} {s : FS} (h : FOk l s) : s.all.length ≤ l.length ∧ s.left.length ≤ l.length := by
  have h1 := h.all.length_eq
  have h2 := h.left.length_eq
  rw [List.length_map] at h1
  have h3 := List.length_filter_le (ovr s.top) l
  have h4 := List.length_filter_le (fun p => !ovr s.top p) l
  omega
theorem FOk.times {l : List Pn} {s : FS} (h : FOk l s) : ∀ r ∈ s.all, r.t ≤ s.top := by
  intro r hr
  obtain ⟨p, hp, rfl⟩ := List.mem_map.1 (h.all.mem_iff.1 hr)
  have := (List.mem_filter.1 hp).2
  exact of_decide_eq_true this
theorem left_times {m : Int} {l : List Pn} : ∀ p ∈ leftF m l, ¬ wrap64 (p.t - 1) ≤ m := by
  intro p hp
  have := (List.mem_filter.1 hp).2
  unfold ovr at this
  simpa using this
theorem none_out {l : List Pn} (h : PnsOk l) : outF minI (srt l) = [] ∧ (leftF minI (srt l)).length = l.length := by
  have h1 : ∀ p ∈ srt l, ovr minI p = false := fun p hp => ovr_min (h.2 p ((srt_perm l).mem_iff.1 hp))
  constructor
  · unfold outF; rw [List.filter_eq_nil_iff.2 (fun p hp => by rw [h1 p hp]; decide)]; rfl
  · unfold leftF; rw [List.filter_eq_self.2 (fun p hp => by rw [h1 p hp]; rfl), srt_len]
/-- The law's sum. -/
def nm (r : Rc) : Int := r.v * 7 + r.t * 3 + r.k
def nms (l : List Rc) : Int := (l.map nm).sum
theorem nms_perm {l m : List Rc} (h : l.Perm m) : nms l = nms m := by
  unfold nms
  induction h with
  | nil => rfl
  | cons x _ ih => simp only [List.map_cons, List.sum_cons, ih]
  | swap x y l => simp only [List.map_cons, List.sum_cons]; omega
  | trans _ _ h1 h2 => exact h1.trans h2
theorem nms_step {l : List Rc} {i : Nat} {r : Rc} (h : l[i]? = some r) : nms (l.take (i + 1)) = nms (l.take i) + nm r := by
  unfold nms; rw [take_snoc h, List.map_append, List.sum_append]; simp
theorem wrap_sub (x y : Int) : wrap64 (wrap64 x - y) = wrap64 (x - y) := by unfold wrap64; omega
theorem wrap_sub' (x y : Int) : wrap64 (x - wrap64 y) = wrap64 (x - y) := by unfold wrap64; omega
theorem wk (x : Int) : ∃ k, wrap64 x = x + 18446744073709551616 * k := by
  unfold wrap64; exact ⟨-((x + 9223372036854775808) / 18446744073709551616), by omega⟩
theorem wm (x k : Int) : wrap64 (x + 18446744073709551616 * k) = wrap64 x := by unfold wrap64; omega
theorem sum_up (s v t k : Int) : wrap64 (wrap64 (wrap64 (wrap64 s + wrap64 (v * 7)) + wrap64 (t * 3)) + k) = wrap64 (s + (v * 7 + t * 3 + k)) := by
  obtain ⟨a, ha⟩ := wk s
  obtain ⟨b, hb⟩ := wk (v * 7)
  obtain ⟨c, hc⟩ := wk (t * 3)
  rw [ha, hb, hc]
  obtain ⟨d, hd⟩ := wk (s + 18446744073709551616 * a + (v * 7 + 18446744073709551616 * b))
  rw [hd]
  obtain ⟨e, he⟩ := wk (s + 18446744073709551616 * a + (v * 7 + 18446744073709551616 * b) + 18446744073709551616 * d + (t * 3 + 18446744073709551616 * c))
  rw [he]
  exact (congrArg wrap64 (show _ = (s + (v * 7 + t * 3 + k)) + 18446744073709551616 * (a + b + c + d + e) by omega)).trans (wm _ _)
theorem sum_down (s v t k : Int) : wrap64 (wrap64 (wrap64 (wrap64 s - wrap64 (v * 7)) - wrap64 (t * 3)) - k) = wrap64 (s - (v * 7 + t * 3 + k)) := by
  obtain ⟨a, ha⟩ := wk s
  obtain ⟨b, hb⟩ := wk (v * 7)
  obtain ⟨c, hc⟩ := wk (t * 3)
  rw [ha, hb, hc]
  obtain ⟨d, hd⟩ := wk (s + 18446744073709551616 * a - (v * 7 + 18446744073709551616 * b))
  rw [hd]
  obtain ⟨e, he⟩ := wk (s + 18446744073709551616 * a - (v * 7 + 18446744073709551616 * b) + 18446744073709551616 * d - (t * 3 + 18446744073709551616 * c))
  rw [he]
  exact (congrArg wrap64 (show _ = (s - (v * 7 + t * 3 + k)) + 18446744073709551616 * (a - b - c + d + e) by omega)).trans (wm _ _)
end Go.Proofs.Ytlikikiglicdlaa
