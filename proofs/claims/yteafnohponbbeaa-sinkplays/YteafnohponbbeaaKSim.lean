/-
  The document’s log and ours, plainly: what lies by parts.
-/
import Derived.Test.YteafnohponbbeaaKRef3
import Derived.Test.YteafnohponbbeaaKLaw
namespace Go.Proofs.Yteafnohponbbeaa
open Go.RowKit

/-- What the document's row has of a part. -/
abbrev Qx := Nat × List Rc × Bool
def Qe (x : Dp) : Qx := (x.n, x.rs, x.dn)
def Q (d : List Dp) (k : Int) : List Qx := (d.filter fun x => decide (x.pa = k)).map Qe
def tr (b : Bool) (x : Nat × List Rc) : Qx := (x.1, x.2, b)
def mkQ (n : Nat) (y : Qx) : Qx := if (!y.2.2 && decide (y.1 ≤ n)) = true then (y.1, y.2.1, true) else y
def tp (A : List (Nat × List Rc)) : Nat := A.foldl (fun m x => max m x.1) 0
def SK (s : PS) (q : List Qx) : Prop := ∃ A B : List (Nat × List Rc), q = A.map (tr true) ++ B.map (tr false) ∧ (A ++ B).Pairwise (fun x y => x.1 < y.1) ∧ (∀ x ∈ A ++ B, 0 < x.1) ∧ s = ⟨keptP A, B, tp A⟩
def Sim (f : Int → PS) (d : List Dp) : Prop := ∀ k, SK (f k) (Q d k)
theorem Q_cons (x : Dp) (d : List Dp) (k : Int) : Q (x :: d) k = if x.pa = k then Qe x :: Q d k else Q d k := by
  unfold Q
  rw [List.filter_cons]
  by_cases h : x.pa = k
  · simp [h]
  · simp [h]
theorem Q_snoc (d : List Dp) (x : Dp) (k : Int) : Q (d ++ [x]) k = if x.pa = k then Q d k ++ [Qe x] else Q d k := by
  unfold Q
  rw [List.filter_append]
  by_cases h : x.pa = k
  · simp [h]
  · simp [h]
theorem Q_mark (d : List Dp) (k : Int) (n : Nat) (j : Int) : Q (dMark d k n) j = if j = k then (Q d k).map (mkQ n) else Q d j := by
  induction d with
  | nil => show ([] : List Qx) = _; split <;> rfl
  | cons x d ih =>
    have e : dMark (x :: d) k n = (if hitP k n x = true then { x with dn := true } else x) :: dMark d k n := rfl
    rw [e, Q_cons, ih]
    by_cases hj : j = k
    · subst hj
      rw [if_pos rfl, if_pos rfl, Q_cons]
      by_cases hp : x.pa = j
      · have h1 : (if hitP j n x = true then { x with dn := true } else x).pa = j := by split <;> exact hp
        rw [if_pos h1, if_pos hp, List.map_cons]
        congr 1
        unfold mkQ hitP Qe
        simp only [hp, decide_true, Bool.true_and]
        split <;> rfl
      · have h1 : ¬ (if hitP j n x = true then { x with dn := true } else x).pa = j := by split <;> exact hp
        rw [if_neg h1, if_neg hp]
    · rw [if_neg hj, if_neg hj, Q_cons]
      by_cases hp : x.pa = j
      · have h2 : hitP k n x = false := by unfold hitP; simp; intro e; exact absurd (hp.symm.trans e) hj
        rw [h2]; simp [hp]
      · have h1 : ¬ (if hitP k n x = true then { x with dn := true } else x).pa = j := by split <;> exact hp
        rw [if_neg h1, if_neg hp]
theorem Q_ab (d : List Dp) (k : Int) (n : Nat) (j : Int) : Q (dAb d k n) j = if j = k then (Q d k).filter (fun y => y.2.2 || decide (y.1 ≤ n)) else Q d j := by
  induction d with
  | nil => show ([] : List Qx) = _; split <;> rfl
  | cons x d ih =>
    have e : dAb (x :: d) k n = if (!decide (x.pa = k) || x.dn || decide (x.n ≤ n)) = true then x :: dAb d k n else dAb d k n := by unfold dAb; rw [List.filter_cons]
    rw [e]
    by_cases hj : j = k
    · subst hj
      rw [if_pos rfl] at ih ⊢
      rw [Q_cons]
      by_cases hp : x.pa = j
      · rw [if_pos hp, List.filter_cons]
        by_cases hb : (x.dn || decide (x.n ≤ n)) = true
        · have h1 : (!decide (x.pa = j) || x.dn || decide (x.n ≤ n)) = true := by simp only [hp, decide_true, Bool.not_true, Bool.false_or]; exact hb
          rw [if_pos h1, if_pos (by exact hb), Q_cons, if_pos hp, ih]
        · have h1 : ¬ (!decide (x.pa = j) || x.dn || decide (x.n ≤ n)) = true := by simp only [hp, decide_true, Bool.not_true, Bool.false_or]; exact hb
          rw [if_neg h1, if_neg (by exact hb), ih]
      · rw [if_neg hp]
        split
        · rw [Q_cons, if_neg hp, ih]
        · exact ih
    · rw [if_neg hj] at ih ⊢
      rw [Q_cons]
      by_cases hp : x.pa = j
      · have h1 : (!decide (x.pa = k) || x.dn || decide (x.n ≤ n)) = true := by
          have : ¬ x.pa = k := fun e => hj (hp.symm.trans e)
          simp [this]
        rw [if_pos h1, Q_cons, if_pos hp, if_pos hp, ih]
      · rw [if_neg hp]
        split
        · rw [Q_cons, if_neg hp, ih]
        · exact ih
theorem last_Q (d : List Dp) (k : Int) : dLast d k = (Q d k).foldl (fun m y => if y.2.2 = true then max m y.1 else m) 0 := by
  unfold dLast
  generalize (0 : Nat) = m0
  induction d generalizing m0 with
  | nil => rfl
  | cons x d ih =>
    rw [List.foldl_cons, ih, Q_cons]
    by_cases hp : x.pa = k
    · rw [if_pos hp, List.foldl_cons]
      congr 1
      unfold Qe
      simp [hp]
    · rw [if_neg hp]; simp [hp]
theorem stg_Q (d : List Dp) (k : Int) : dStg d k = ((Q d k).filter (fun y => !y.2.2)).map (fun y => y.1) := by
  unfold dStg Q
  rw [List.filter_map, List.map_map, List.filter_filter]
  congr 1
  refine List.filter_congr (fun x _ => ?_)
  exact Bool.and_comm _ _
theorem up_Q (d : List Dp) (k : Int) (n : Nat) : dUp d k n = (((Q d k).filter (fun y => decide (y.1 ≤ n))).map (fun y => y.2.1)).flatten := by
  unfold dUp Q
  rw [List.filter_map, List.map_map, List.filter_filter]
  congr 2
  refine List.filter_congr (fun x _ => ?_)
  exact Bool.and_comm _ _
theorem new_Q (d : List Dp) (k : Int) (n : Nat) : dNew d k n = (((Q d k).filter (fun y => !y.2.2 && decide (y.1 ≤ n))).map (fun y => y.2.1)).flatten := by
  unfold dNew Q
  rw [List.filter_map, List.map_map, List.filter_filter]
  congr 2
  refine List.filter_congr (fun x _ => ?_)
  unfold hitP
  show (decide (x.pa = k) && !x.dn && decide (x.n ≤ n)) = ((!x.dn && decide (x.n ≤ n)) && decide (x.pa = k))
  rw [Bool.and_assoc, Bool.and_comm]
theorem mem_Q {d : List Dp} {k : Int} {y : Qx} : y ∈ Q d k ↔ ∃ x ∈ d, x.pa = k ∧ Qe x = y := by
  unfold Q
  rw [List.mem_map]
  constructor
  · rintro ⟨x, hx, rfl⟩
    obtain ⟨h1, h2⟩ := List.mem_filter.1 hx
    exact ⟨x, h1, by simpa using h2, rfl⟩
  · rintro ⟨x, h1, h2, rfl⟩
    exact ⟨x, List.mem_filter.2 ⟨h1, by simpa using h2⟩, rfl⟩
theorem has_Q (d : List Dp) (k : Int) (n : Nat) : dHas d k n ↔ ∃ y ∈ Q d k, y.1 = n := by
  unfold dHas
  constructor
  · rintro ⟨x, h1, h2, h3⟩
    exact ⟨Qe x, mem_Q.2 ⟨x, h1, h2, rfl⟩, h3⟩
  · rintro ⟨y, h1, h2⟩
    obtain ⟨x, h3, h4, rfl⟩ := mem_Q.1 h1
    exact ⟨x, h3, h4, h2⟩
theorem st_Q (d : List Dp) (k : Int) (n : Nat) : dSt d k n ↔ (∃ y ∈ Q d k, n ≤ y.1) ∨ n = 0 := by
  unfold dSt
  constructor
  · rintro (⟨x, h1, h2, h3⟩ | h)
    · exact .inl ⟨Qe x, mem_Q.2 ⟨x, h1, h2, rfl⟩, h3⟩
    · exact .inr h
  · rintro (⟨y, h1, h2⟩ | h)
    · obtain ⟨x, h3, h4, rfl⟩ := mem_Q.1 h1
      exact .inl ⟨x, h3, h4, h2⟩
    · exact .inr h
theorem fA (A : List (Nat × List Rc)) (m : Nat) : (A.map (tr true)).foldl (fun m y => if y.2.2 = true then max m y.1 else m) m = A.foldl (fun m x => max m x.1) m := by
  induction A generalizing m with
  | nil => rfl
  | cons x A ih => rw [List.map_cons, List.foldl_cons, List.foldl_cons, ih]; rfl
theorem fB (B : List (Nat × List Rc)) (m : Nat) : (B.map (tr false)).foldl (fun m y => if y.2.2 = true then max m y.1 else m) m = m := by
  induction B generalizing m with
  | nil => rfl
  | cons x B ih => rw [List.map_cons, List.foldl_cons, ih]; rfl
theorem sk_last {s : PS} {q : List Qx} (h : SK s q) : q.foldl (fun m y => if y.2.2 = true then max m y.1 else m) 0 = s.last := by
  obtain ⟨A, B, rfl, h1, h2, rfl⟩ := h
  rw [List.foldl_append, fA, fB]; rfl
theorem ftr (p : Nat × List Rc → Bool) (b : Bool) (l : List (Nat × List Rc)) (g : Qx → Bool) (hg : ∀ x, g (tr b x) = p x) : (l.map (tr b)).filter g = (l.filter p).map (tr b) := by
  rw [List.filter_map]
  congr 1
  exact List.filter_congr (fun x _ => hg x)
theorem fno (l : List (Nat × List Rc)) : l.filter (fun _ => false) = [] := by induction l with
  | nil => rfl
  | cons x l ih => rw [List.filter_cons, ih]; rfl
theorem fall (l : List (Nat × List Rc)) : l.filter (fun _ => true) = l := by induction l with
  | nil => rfl
  | cons x l ih => rw [List.filter_cons, ih]; rfl
theorem sk_stg {s : PS} {q : List Qx} (h : SK s q) : (q.filter (fun y => !y.2.2)).map (fun y => y.1) = s.stg.map Prod.fst := by
  obtain ⟨A, B, rfl, h1, h2, rfl⟩ := h
  rw [List.filter_append, ftr (fun _ => false) true A _ (fun x => rfl), ftr (fun _ => true) false B _ (fun x => rfl), fno, fall, List.map_nil, List.nil_append, List.map_map]
  rfl
theorem kept_flat (l : List (Nat × List Rc)) (n : Nat) : (((keptP l).filter (fun x => decide (x.1 ≤ n))).map Prod.snd).flatten = ((l.filter (fun x => decide (x.1 ≤ n))).map Prod.snd).flatten := by
  unfold keptP
  induction l with
  | nil => rfl
  | cons x l ih =>
    obtain ⟨a, r⟩ := x
    cases r with
    | nil =>
      rw [List.filter_cons, if_neg (by simp), ih, List.filter_cons]
      split
      · rfl
      · rfl
    | cons y r =>
      rw [List.filter_cons, if_pos (by rfl), List.filter_cons, List.filter_cons]
      split
      · rw [List.map_cons, List.map_cons, List.flatten_cons, List.flatten_cons, ih]
      · exact ih
theorem kept_flat0 (l : List (Nat × List Rc)) : ((keptP l).map Prod.snd).flatten = (l.map Prod.snd).flatten := by
  unfold keptP
  induction l with
  | nil => rfl
  | cons x l ih =>
    obtain ⟨a, r⟩ := x
    cases r with
    | nil => rw [List.filter_cons, if_neg (by simp), ih]; rfl
    | cons y r => rw [List.filter_cons, if_pos (by rfl), List.map_cons, List.map_cons, List.flatten_cons, List.flatten_cons, ih]
theorem sk_up {s : PS} {q : List Qx} (h : SK s q) (n : Nat) : ((q.filter (fun y => decide (y.1 ≤ n))).map (fun y => y.2.1)).flatten = uptoS s n := by
  obtain ⟨A, B, rfl, h1, h2, rfl⟩ := h
  unfold uptoS
  rw [List.filter_append, ftr (fun x => decide (x.1 ≤ n)) true A _ (fun x => rfl), ftr (fun x => decide (x.1 ≤ n)) false B _ (fun x => rfl), List.map_append, List.flatten_append, List.map_append, List.flatten_append, kept_flat, List.map_map, List.map_map]
  rfl
theorem mem_tr {A B : List (Nat × List Rc)} {P : Nat → Prop} : (∃ y ∈ A.map (tr true) ++ B.map (tr false), P y.1) ↔ ∃ x ∈ A ++ B, P x.1 := by
  constructor
  · rintro ⟨y, hy, h⟩
    rcases List.mem_append.1 hy with hy | hy
    · obtain ⟨x, hx, rfl⟩ := List.mem_map.1 hy; exact ⟨x, List.mem_append_left _ hx, h⟩
    · obtain ⟨x, hx, rfl⟩ := List.mem_map.1 hy; exact ⟨x, List.mem_append_right _ hx, h⟩
  · rintro ⟨x, hx, h⟩
    rcases List.mem_append.1 hx with hx | hx
    · exact ⟨tr true x, List.mem_append_left _ (List.mem_map.2 ⟨x, hx, rfl⟩), h⟩
    · exact ⟨tr false x, List.mem_append_right _ (List.mem_map.2 ⟨x, hx, rfl⟩), h⟩
theorem tp_snoc (A : List (Nat × List Rc)) (x : Nat × List Rc) : tp (A ++ [x]) = max (tp A) x.1 := by unfold tp; rw [List.foldl_append]; rfl
theorem tp_ge (A : List (Nat × List Rc)) : ∀ x ∈ A, x.1 ≤ tp A := by
  suffices h : ∀ (A : List (Nat × List Rc)) (m : Nat), m ≤ A.foldl (fun m x => max m x.1) m ∧ ∀ x ∈ A, x.1 ≤ A.foldl (fun m x => max m x.1) m from (h A 0).2
  intro A
  induction A with
  | nil => intro m; exact ⟨Nat.le_refl _, fun x hx => (List.not_mem_nil hx).elim⟩
  | cons y A ih =>
    intro m
    rw [List.foldl_cons]
    obtain ⟨h1, h2⟩ := ih (max m y.1)
    refine ⟨by omega, fun x hx => ?_⟩
    rcases List.mem_cons.1 hx with rfl | hx
    · omega
    · exact h2 x hx
theorem tp_le (A : List (Nat × List Rc)) (n : Nat) (h : ∀ x ∈ A, x.1 ≤ n) : tp A ≤ n := by
  suffices hh : ∀ (A : List (Nat × List Rc)) (m : Nat), m ≤ n → (∀ x ∈ A, x.1 ≤ n) → A.foldl (fun m x => max m x.1) m ≤ n from hh A 0 (Nat.zero_le _) h
  intro A
  induction A with
  | nil => intro m hm _; exact hm
  | cons y A ih =>
    intro m hm hA
    rw [List.foldl_cons]
    exact ih _ (by have := hA y (List.mem_cons_self ..); omega) (fun x hx => hA x (List.mem_cons_of_mem _ hx))
theorem tp_mem (A : List (Nat × List Rc)) : tp A = 0 ∨ ∃ x ∈ A, x.1 = tp A := by
  suffices hh : ∀ (A : List (Nat × List Rc)) (m : Nat), A.foldl (fun m x => max m x.1) m = m ∨ ∃ x ∈ A, x.1 = A.foldl (fun m x => max m x.1) m from hh A 0
  intro A
  induction A with
  | nil => intro m; exact .inl rfl
  | cons y A ih =>
    intro m
    rw [List.foldl_cons]
    rcases ih (max m y.1) with h | ⟨x, hx, h⟩
    · by_cases hm : y.1 ≤ m
      · left; omega
      · right; exact ⟨y, List.mem_cons_self .., by omega⟩
    · exact .inr ⟨x, List.mem_cons_of_mem _ hx, h⟩
theorem sk_st {s : PS} {q : List Qx} (h : SK s q) (n : Nat) : ((∃ y ∈ q, n ≤ y.1) ∨ n = 0) ↔ n ≤ grS s := by
  obtain ⟨A, B, rfl, h1, h2, rfl⟩ := h
  rw [mem_tr (P := fun m => n ≤ m)]
  unfold grS
  show _ ↔ n ≤ (match B.getLast? with | none => tp A | some x => x.1)
  rcases List.eq_nil_or_concat B with rfl | ⟨B', b, rfl⟩
  · rw [List.append_nil, List.getLast?_nil]
    constructor
    · rintro (⟨x, hx, h⟩ | h)
      · exact Nat.le_trans h (tp_ge A x hx)
      · show n ≤ tp A; omega
    · intro h
      have h : n ≤ tp A := h
      rcases tp_mem A with e | ⟨x, hx, e⟩
      · exact .inr (by omega)
      · exact .inl ⟨x, hx, by omega⟩
  · rw [List.concat_eq_append] at h1 h2 ⊢
    rw [List.getLast?_concat, ← List.append_assoc]
    rw [← List.append_assoc] at h1
    constructor
    · rintro (⟨x, hx, h⟩ | h)
      · rcases List.mem_append.1 hx with hx | hx
        · have := (List.pairwise_append.1 h1).2.2 x hx b (List.mem_singleton.2 rfl)
          show n ≤ b.1; omega
        · obtain rfl := List.mem_singleton.1 hx; exact h
      · show n ≤ b.1; omega
    · exact fun h => .inl ⟨b, List.mem_append_right _ (List.mem_singleton.2 rfl), h⟩
theorem sk_stage {s : PS} {q : List Qx} (h : SK s q) {n : Nat} (hn : ¬ n ≤ grS s) (rs : List Rc) : SK (stageS s n rs) (q ++ [(n, rs, false)]) := by
  have h0 := fun hh => hn ((sk_st h n).1 hh)
  obtain ⟨A, B, rfl, h1, h2, rfl⟩ := h
  refine ⟨A, B ++ [(n, rs)], by rw [List.map_append, List.append_assoc]; rfl, ?_, fun x hx => ?_, rfl⟩
  · rw [← List.append_assoc]
    refine List.pairwise_append.2 ⟨h1, List.pairwise_singleton _ _, fun x hx y hy => ?_⟩
    obtain rfl := List.mem_singleton.1 hy
    have h5 : ¬ n ≤ x.1 := fun e => h0 (.inl ((mem_tr (P := fun m => n ≤ m)).2 ⟨x, hx, e⟩))
    show x.1 < n; omega
  · rw [← List.append_assoc] at hx
    rcases List.mem_append.1 hx with hx | hx
    · exact h2 x hx
    · obtain rfl := List.mem_singleton.1 hx
      have : ¬ n = 0 := fun e => h0 (.inr e)
      show 0 < n; omega
theorem sk_abort {s : PS} {q : List Qx} (h : SK s q) (n : Nat) : SK (abortS s n) (q.filter (fun y => y.2.2 || decide (y.1 ≤ n))) := by
  obtain ⟨A, B, rfl, h1, h2, rfl⟩ := h
  refine ⟨A, B.filter (fun x => decide (x.1 ≤ n)), by rw [List.filter_append, ftr (fun _ => true) true A _ (fun x => rfl), ftr (fun x => decide (x.1 ≤ n)) false B _ (fun x => rfl), fall], ?_, fun x hx => h2 x ?_, rfl⟩
  · exact h1.sublist (List.Sublist.append_left List.filter_sublist A)
  · rcases List.mem_append.1 hx with hx | hx
    · exact List.mem_append_left _ hx
    · exact List.mem_append_right _ (List.mem_filter.1 hx).1
theorem split_le (B : List (Nat × List Rc)) (h : B.Pairwise (fun x y => x.1 < y.1)) (n : Nat) : (B.map (tr false)).map (mkQ n) = (B.filter (fun x => decide (x.1 ≤ n))).map (tr true) ++ (B.filter (fun x => decide (n < x.1))).map (tr false) ∧ B = B.filter (fun x => decide (x.1 ≤ n)) ++ B.filter (fun x => decide (n < x.1)) := by
  induction B with
  | nil => exact ⟨rfl, rfl⟩
  | cons x B ih =>
    obtain ⟨h1, h2⟩ := List.pairwise_cons.1 h
    obtain ⟨i1, i2⟩ := ih h2
    by_cases hx : x.1 ≤ n
    · have e1 : decide (x.1 ≤ n) = true := decide_eq_true hx
      have e2 : ¬ decide (n < x.1) = true := by simp; omega
      have e3 : mkQ n (tr false x) = tr true x := by unfold mkQ tr; simp [hx]
      rw [List.map_cons, List.map_cons, i1, e3, List.filter_cons, if_pos e1, List.filter_cons, if_neg e2]
      exact ⟨rfl, by rw [List.cons_append, ← i2]⟩
    · have e1 : ¬ decide (x.1 ≤ n) = true := by simp; omega
      have e2 : decide (n < x.1) = true := by simp; omega
      have e3 : mkQ n (tr false x) = tr false x := by unfold mkQ tr; simp [hx]
      have e4 : B.filter (fun x => decide (x.1 ≤ n)) = [] := List.filter_eq_nil_iff.2 (fun y hy => by have := h1 y hy; simp; omega)
      rw [e4] at i1 i2
      rw [List.map_cons, List.map_cons, i1, e3, List.filter_cons, if_neg e1, List.filter_cons, if_pos e2, e4]
      exact ⟨rfl, by rw [List.nil_append, ← List.nil_append (B.filter _), ← i2]⟩
theorem mk_done (A : List (Nat × List Rc)) (n : Nat) : (A.map (tr true)).map (mkQ n) = A.map (tr true) := by
  rw [List.map_map]
  exact List.map_congr_left (fun x _ => rfl)
theorem sk_has {s : PS} {q : List Qx} (h : SK s q) {n : Nat} (hn : ¬ n ≤ s.last) : hasN s n = true ↔ ∃ y ∈ q, y.1 = n := by
  obtain ⟨A, B, rfl, h1, h2, rfl⟩ := h
  rw [mem_tr (P := fun m => m = n)]
  have hA : ∀ x ∈ A, ¬ x.1 = n := fun x hx e => hn (by have := tp_ge A x hx; show n ≤ tp A; omega)
  unfold hasN
  show (match (B.filter (fun x => decide (x.1 ≤ n))).getLast? with | none => false | some x => x.1 == n) = true ↔ _
  have hB := (List.pairwise_append.1 h1).2.1
  have hC : (B.filter (fun x => decide (x.1 ≤ n))).Pairwise (fun x y => x.1 < y.1) := hB.sublist List.filter_sublist
  have hM : (∃ x ∈ A ++ B, x.1 = n) ↔ ∃ x ∈ B.filter (fun x => decide (x.1 ≤ n)), x.1 = n := by
    constructor
    · rintro ⟨x, hx, e⟩
      rcases List.mem_append.1 hx with hx | hx
      · exact absurd e (hA x hx)
      · exact ⟨x, List.mem_filter.2 ⟨hx, by simp; omega⟩, e⟩
    · rintro ⟨x, hx, e⟩
      exact ⟨x, List.mem_append_right _ (List.mem_filter.1 hx).1, e⟩
  rw [hM]
  have hle : ∀ x ∈ B.filter (fun x => decide (x.1 ≤ n)), x.1 ≤ n := fun x hx => by simpa using (List.mem_filter.1 hx).2
  generalize B.filter (fun x => decide (x.1 ≤ n)) = C at hC hle
  rcases List.eq_nil_or_concat C with rfl | ⟨C', c, rfl⟩
  · rw [List.getLast?_nil]
    constructor
    · intro e; cases e
    · rintro ⟨x, hx, _⟩; exact (List.not_mem_nil hx).elim
  · rw [List.concat_eq_append] at hC hle ⊢
    rw [List.getLast?_concat]
    constructor
    · intro e; exact ⟨c, List.mem_append_right _ (List.mem_singleton.2 rfl), by simpa using e⟩
    · rintro ⟨x, hx, e⟩
      show (c.1 == n) = true
      have h9 : c.1 = n := by
        rcases List.mem_append.1 hx with hx | hx
        · have h5 := (List.pairwise_append.1 hC).2.2 x hx c (List.mem_singleton.2 rfl)
          have h6 := hle c (List.mem_append_right _ (List.mem_singleton.2 rfl))
          omega
        · obtain rfl := List.mem_singleton.1 hx; exact e
      simp [h9]
theorem sk_new {s : PS} {q : List Qx} (h : SK s q) (n : Nat) : ((q.filter (fun y => !y.2.2 && decide (y.1 ≤ n))).map (fun y => y.2.1)).flatten = (outS s n).flatten := by
  obtain ⟨A, B, rfl, h1, h2, rfl⟩ := h
  unfold outS dueS
  rw [kept_flat0, List.filter_append, ftr (fun _ => false) true A _ (fun x => rfl), ftr (fun x => decide (x.1 ≤ n)) false B _ (fun x => rfl), fno, List.map_nil, List.nil_append, List.map_map]
  rfl
theorem sk_commit {s : PS} {q : List Qx} (h : SK s q) {n : Nat} (hn : ¬ n ≤ s.last) (hh : ∃ y ∈ q, y.1 = n) : SK (commitS s n) (q.map (mkQ n)) := by
  obtain ⟨A, B, rfl, h1, h2, rfl⟩ := h
  obtain ⟨x, hx, e⟩ := (mem_tr (P := fun m => m = n)).1 hh
  have hA : ∀ x ∈ A, ¬ x.1 = n := fun x hx e => hn (by have := tp_ge A x hx; show n ≤ tp A; omega)
  have hxB : x ∈ B := by
    rcases List.mem_append.1 hx with hx | hx
    · exact absurd e (hA x hx)
    · exact hx
  obtain ⟨i1, i2⟩ := split_le B (List.pairwise_append.1 h1).2.1 n
  have hAB : A ++ B = (A ++ B.filter (fun x => decide (x.1 ≤ n))) ++ B.filter (fun x => decide (n < x.1)) := by rw [List.append_assoc, ← i2]
  refine ⟨A ++ B.filter (fun x => decide (x.1 ≤ n)), B.filter (fun x => decide (n < x.1)), ?_, by rw [← hAB]; exact h1, by rw [← hAB]; exact h2, ?_⟩
  · rw [List.map_append, mk_done, i1, List.map_append, List.append_assoc]
  · unfold commitS dueS
    have e1 : tp (A ++ B.filter (fun x => decide (x.1 ≤ n))) = n := by
      refine Nat.le_antisymm (tp_le _ n (fun y hy => ?_)) ?_
      · rcases List.mem_append.1 hy with hy | hy
        · have := tp_ge A y hy
          have h7 : ¬ n ≤ tp A := hn
          omega
        · simpa using (List.mem_filter.1 hy).2
      · have := tp_ge (A ++ B.filter (fun x => decide (x.1 ≤ n))) x (List.mem_append_right _ (List.mem_filter.2 ⟨hxB, by simp; omega⟩))
        omega
    rw [e1]
    show PS.mk (keptP A ++ keptP _) _ n = PS.mk (keptP (A ++ _)) _ n
    congr 1
    unfold keptP
    rw [List.filter_append]
/-- What the calls answer, and that they stay alike. -/
theorem Sim.start : Sim F0 [] := fun _ => ⟨[], [], rfl, List.Pairwise.nil, fun _ hx => (List.not_mem_nil hx).elim, rfl⟩
theorem Sim.st {f : Int → PS} {d : List Dp} (h : Sim f d) (k : Int) (n : Nat) : dSt d k n ↔ n ≤ grS (f k) := (st_Q d k n).trans (sk_st (h k) n)
theorem Sim.stage {f : Int → PS} {d : List Dp} (h : Sim f d) {k : Int} {n : Nat} (rs : List Rc) (hn : ¬ dSt d k n) : stE f k n = 0 ∧ Sim (stF f k n rs) (d ++ [⟨k, n, rs, false⟩]) := by
  have h1 := mt (h.st k n).2 hn
  refine ⟨by unfold stE; rw [if_neg h1], fun j => ?_⟩
  unfold stF
  rw [if_neg h1, Q_snoc]
  unfold upd
  by_cases hj : j = k
  · subst hj
    rw [if_pos rfl, if_pos rfl]
    exact sk_stage (h j) h1 rs
  · rw [if_neg hj, if_neg (show ¬ k = j from fun e => hj e.symm)]
    exact h j
theorem Sim.stageNo {f : Int → PS} {d : List Dp} (h : Sim f d) {k : Int} {n : Nat} (rs : List Rc) (hn : dSt d k n) : stE f k n = 170 ∧ stF f k n rs = f := by
  have h1 := (h.st k n).1 hn
  exact ⟨by unfold stE; rw [if_pos h1], by unfold stF; rw [if_pos h1]⟩
theorem Sim.last {f : Int → PS} {d : List Dp} (h : Sim f d) (k : Int) : dLast d k = (f k).last := by rw [last_Q]; exact sk_last (h k)
theorem Sim.staged {f : Int → PS} {d : List Dp} (h : Sim f d) (k : Int) : dStg d k = (f k).stg.map Prod.fst := by rw [stg_Q]; exact sk_stg (h k)
theorem Sim.upto {f : Int → PS} {d : List Dp} (h : Sim f d) (k : Int) (n : Nat) : dUp d k n = uptoS (f k) n := by rw [up_Q]; exact sk_up (h k) n
theorem Sim.abort {f : Int → PS} {d : List Dp} (h : Sim f d) (k : Int) (n : Nat) : Sim (abF f k n) (dAb d k n) := fun j => by
  rw [Q_ab]
  unfold abF upd
  by_cases hj : j = k
  · subst hj
    rw [if_pos rfl, if_pos rfl]
    exact sk_abort (h j) n
  · rw [if_neg hj, if_neg hj]
    exact h j
theorem Sim.commit0 {f : Int → PS} {d : List Dp} (h : Sim f d) {k : Int} {n : Nat} (hn : n ≤ dLast d k) : cmE f k n = 0 ∧ cmF f k n = f ∧ cmO f k n = [] := by
  rw [h.last] at hn
  exact ⟨by unfold cmE; rw [if_pos hn], by unfold cmF; rw [if_pos hn], by unfold cmO; rw [if_pos hn]⟩
theorem Sim.commit1 {f : Int → PS} {d : List Dp} (h : Sim f d) {k : Int} {n : Nat} (hn : ¬ n ≤ dLast d k) (hh : ¬ dHas d k n) : cmE f k n = 171 ∧ cmF f k n = f ∧ cmO f k n = [] := by
  rw [h.last] at hn
  have h1 : ¬ hasN (f k) n = true := fun e => hh ((has_Q d k n).2 ((sk_has (h k) hn).1 e))
  exact ⟨by unfold cmE; rw [if_neg hn, if_neg h1], by unfold cmF; rw [if_neg hn, if_neg h1], by unfold cmO; rw [if_neg hn, if_neg h1]⟩
theorem Sim.commit2 {f : Int → PS} {d : List Dp} (h : Sim f d) {k : Int} {n : Nat} (hn : ¬ n ≤ dLast d k) (hh : dHas d k n) : cmE f k n = 0 ∧ Sim (cmF f k n) (dMark d k n) ∧ (cmO f k n).flatten = dNew d k n := by
  rw [h.last] at hn
  have hq := (has_Q d k n).1 hh
  have h1 : hasN (f k) n = true := (sk_has (h k) hn).2 hq
  refine ⟨by unfold cmE; rw [if_neg hn, if_pos h1], fun j => ?_, by unfold cmO; rw [if_neg hn, if_pos h1, new_Q]; exact (sk_new (h k) n).symm⟩
  rw [Q_mark]
  unfold cmF
  rw [if_neg hn, if_pos h1]
  unfold upd
  by_cases hj : j = k
  · subst hj
    rw [if_pos rfl, if_pos rfl]
    exact sk_commit (h j) hn hq
  · rw [if_neg hj, if_neg hj]
    exact h j

end Go.Proofs.Yteafnohponbbeaa
