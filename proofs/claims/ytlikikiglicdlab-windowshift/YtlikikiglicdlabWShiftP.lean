/-
  Later records make later panes (pure).
-/
import Derived.Test.YtlikikiglicdlabWSpP
namespace Go.Proofs.Ytlikikiglicdlab
open Go.RowKit

theorem since_emod {n t : Int} (h : 1 ≤ n) : sinceOf n t = t % n := by
  obtain ⟨h1, h2⟩ := since_in (t := t) h
  have hq : ∃ q, sinceOf n t = t + n * q := by
    have e : t.tmod n = t - n * t.tdiv n := by have := Int.mul_tdiv_add_tmod t n; omega
    unfold sinceOf
    split
    · exact ⟨1 - t.tdiv n, by rw [Int.mul_sub]; omega⟩
    · exact ⟨-t.tdiv n, by rw [Int.mul_neg]; omega⟩
  obtain ⟨q, hq⟩ := hq
  rw [← Int.emod_eq_of_lt h1 h2, hq, Int.add_mul_emod_self_left]
theorem since_shift {n t q : Int} (h : 1 ≤ n) : sinceOf n (t + n * q) = sinceOf n t := by
  rw [since_emod h, since_emod h, Int.add_mul_emod_self_left]
def shS (d : Int) (s : Sp) : Sp := ⟨s.f + d, s.t + d⟩
def sh (d : Int) (p : Pn) : Pn := ⟨p.k, p.f + d, p.t + d, p.a⟩
def shR (d : Int) (r : Rc) : Rc := ⟨r.k, r.t + d, r.v⟩
theorem bkS_shift (size slide s0 d : Int) (c : Nat) : bkS size slide (s0 + d) c = (bkS size slide s0 c).map (shS d) := by
  unfold bkS
  rw [List.map_map]
  apply List.map_congr_left
  intro i _
  simp only [Function.comp, shS, Sp.mk.injEq]
  constructor <;> omega
theorem spans_shift {k size slide t m d : Int} (hw : FitW k size slide) (ht : TimeOk t) (hd : d = size * max slide 1 * m) (ht' : TimeOk (t + d)) : pSpans k size slide (t + d) = (pSpans k size slide t).map (shS d) := by
  have hs := fit_size hw
  have hk : k = 1 ∨ k = 2 ∨ k = 3 := by obtain ⟨h1, h2, _⟩ := hw; omega
  rcases hk with rfl | rfl | rfl
  · rw [spans_one hw ht, spans_one hw ht']
    have e : d = size * (max slide 1 * m) := by rw [hd, Int.mul_assoc]
    have e2 : sinceOf size (t + d) = sinceOf size t := by rw [e]; exact since_shift hs.1
    rw [e2]
    simp only [List.map_cons, List.map_nil, shS, List.cons.injEq, Sp.mk.injEq, and_true]
    constructor <;> omega
  · rw [spans_two hw ht, spans_two hw ht']
    have h2 : 1 ≤ slide := by obtain ⟨_, _, _, _, ⟨_, h2, _, _⟩ | ⟨h2, _⟩⟩ := hw; exact h2; exact absurd rfl h2
    have e : d = slide * (size * m) := by
      rw [hd, Int.max_eq_left h2, Int.mul_comm size slide, Int.mul_assoc]
    have e2 : sinceOf slide (t + d) = sinceOf slide t := by rw [e]; exact since_shift h2
    rw [e2, show t + d - sinceOf slide t = t - sinceOf slide t + d by omega, bkS_shift, List.map_reverse]
  · rw [spans_three hw ht, spans_three hw ht']
    simp only [List.map_cons, List.map_nil, shS, List.cons.injEq, Sp.mk.injEq, and_true, true_and]
    omega
theorem frs_shift {k size slide a m d : Int} {r : Rc} (hw : FitW k size slide) (ht : TimeOk r.t) (hd : d = size * max slide 1 * m) (ht' : TimeOk (r.t + d)) : frs k size slide a (shR d r) = (frs k size slide a r).map (sh d) := by
  unfold frs shR
  dsimp only
  rw [spans_shift hw ht hd ht', List.map_map, List.map_map]
  rfl
theorem allF_shift {k size slide a m d : Int} (hw : FitW k size slide) (hd : d = size * max slide 1 * m) (rs : List Rc) (h : ∀ r ∈ rs, TimeOk r.t ∧ TimeOk (r.t + d)) : allF k size slide a (rs.map (shR d)) = (allF k size slide a rs).map (sh d) := by
  induction rs with
  | nil => rfl
  | cons r rs ih =>
    have h1 := h r (List.mem_cons_self ..)
    have h2 := ih fun x hx => h x (List.mem_cons_of_mem _ hx)
    unfold allF at *
    rw [List.map_cons, List.flatMap_cons, List.flatMap_cons, List.map_append, h2, frs_shift hw h1.1 hd h1.2]
theorem mt_shift (s : Bool) (d : Int) (x y : Pn) : mt s (sh d x) (sh d y) ↔ mt s x y := by
  unfold mt sh
  dsimp only
  constructor <;>
  · rintro ⟨h1, ⟨a, b, c, e, f⟩ | ⟨a, b, c⟩⟩
    · exact ⟨h1, .inl ⟨a, by omega, by omega, by omega, by omega⟩⟩
    · exact ⟨h1, .inr ⟨a, by omega, by omega⟩⟩
theorem jp_shift (J : Int → Int → Int) (d : Int) (x y : Pn) : sh d (jp J x y) = jp J (sh d x) (sh d y) := by
  unfold jp sh
  simp only [Pn.mk.injEq, true_and, and_true]
  constructor <;> omega
theorem rising_shift (d : Int) {l : List Pn} (h : Rising l) : Rising (l.map (sh d)) := by
  unfold Rising at *
  rw [List.pairwise_map]
  refine h.imp fun {x y} hxy => ?_
  rw [plb_iff] at hxy ⊢
  unfold sh
  dsimp only
  omega
theorem puts_shift {k size slide a m d : Int} (hw : FitW k size slide) (ha : 1 ≤ a ∧ a ≤ 5) (hd : d = size * max slide 1 * m) (rs : List Rc) (h : ∀ r ∈ rs, RcOk r ∧ RcOk (shR d r)) : putsP k size slide a (rs.map (shR d)) = (putsP k size slide a rs).map (sh d) := by
  have h1 := (puts_comes hw ha rs fun r hr => (h r hr).1).1
  have h2 := (puts_comes hw ha (rs.map (shR d)) fun r hr => by obtain ⟨r', hr', rfl⟩ := List.mem_map.1 hr; exact (h r' hr').2).1
  rw [allF_shift hw hd rs fun r hr => ⟨(h r hr).1.1, (h r hr).2.1⟩] at h2
  have h3 := h1.map (φ := sh d) (mt_shift _ d) (fun x y _ => jp_shift (jn a) d x y)
  exact rising_eq (puts_rising ..) (rising_shift d (puts_rising ..)) (Comes.unique (jn_comm a) (jn_assoc a) h2 h3)
/-- Bounds of what is put. -/
def Bd (p : Pn) : Prop := -1152921504606846976 ≤ p.f ∧ p.f ≤ 1152921504606846976 ∧ -1152921504606846976 ≤ p.t ∧ p.t ≤ 1152921504606846976
theorem spans_bd {k size slide t : Int} (hw : FitW k size slide) (ht : TimeOk t) : ∀ s ∈ pSpans k size slide t, -1152921504606846976 ≤ s.f ∧ s.f ≤ 1152921504606846976 ∧ -1152921504606846976 ≤ s.t ∧ s.t ≤ 1152921504606846976 := by
  have hs := fit_size hw
  have hk : k = 1 ∨ k = 2 ∨ k = 3 := by obtain ⟨h1, h2, _⟩ := hw; omega
  have ht2 := ht
  unfold TimeOk at ht2
  rcases hk with rfl | rfl | rfl
  · rw [spans_one hw ht]
    obtain ⟨h1, h2⟩ := since_in (t := t) hs.1
    intro s h
    obtain rfl := List.mem_singleton.1 h
    dsimp only
    omega
  · rw [spans_two hw ht]
    have h2 : 1 ≤ slide ∧ slide ≤ 68719476736 := by obtain ⟨_, _, _, _, ⟨_, h2, h3, _⟩ | ⟨h2, _⟩⟩ := hw; exact ⟨h2, h3⟩; exact absurd rfl h2
    obtain ⟨h3, h4⟩ := since_in (t := t) h2.1
    intro s h
    rw [List.mem_reverse] at h
    unfold bkS at h
    obtain ⟨i, hi, rfl⟩ := List.mem_map.1 h
    have h5 := (cnt_iff (size := size) (since := sinceOf slide t) h2.1 i).1 (List.mem_range.1 hi)
    have h6 : 0 ≤ (i : Int) * slide := Int.mul_nonneg (by omega) (by omega)
    dsimp only
    generalize (i : Int) * slide = z at *
    omega
  · rw [spans_three hw ht]
    intro s h
    obtain rfl := List.mem_singleton.1 h
    dsimp only
    omega
theorem puts_bd {k size slide a : Int} (hw : FitW k size slide) (ha : 1 ≤ a ∧ a ≤ 5) (rs : List Rc) (h : ∀ r ∈ rs, RcOk r) : ∀ p ∈ putsP k size slide a rs, Bd p := by
  have h1 := (puts_comes hw ha rs h).1.1
  refine Reds.keeps (P := Bd) ?_ h1 ?_
  · intro x y _ hx hy
    unfold Bd jp at *
    dsimp only
    omega
  · intro p hp
    unfold allF at hp
    obtain ⟨r, hr, hp⟩ := List.mem_flatMap.1 hp
    unfold frs at hp
    obtain ⟨s, hs, rfl⟩ := List.mem_map.1 hp
    exact spans_bd hw (h r hr).1 s hs
theorem back_eq {d x : Int} (hx : -1152921504606846976 ≤ x ∧ x ≤ 1152921504606846976) : wrap64 (x + d - d) = x := by
  rw [Int.add_sub_cancel]; unfold wrap64; omega
end Go.Proofs.Ytlikikiglicdlab
