/-
  Texts in build order: WPure.
-/
import Derived.Test.YtpcbhcdpegbfjaaGreatM10
/-
  Panes as pure things: which meet, how they come together, and that whatever is joined first the end is the same.
-/
namespace Go.Proofs.YtpcbhcdpegbfjaaGreat

structure Pn where
  k : Int
  f : Int
  t : Int
  a : Int
theorem Pn.same {x y : Pn} (h1 : x.k = y.k) (h2 : x.f = y.f) (h3 : x.t = y.t) (h4 : x.a = y.a) : x = y := by
  cases x; cases y; simp_all
def mt (s : Bool) (x y : Pn) : Prop := x.k = y.k ∧ ((s = true ∧ x.f < y.t ∧ x.f < x.t ∧ y.f < x.t ∧ y.f < y.t) ∨ (s = false ∧ x.f = y.f ∧ x.t = y.t))
def jp (J : Int → Int → Int) (x y : Pn) : Pn := ⟨x.k, min x.f y.f, max x.t y.t, J x.a y.a⟩
theorem mt_symm {s : Bool} {x y : Pn} (h : mt s x y) : mt s y x := by
  obtain ⟨h1, h | h⟩ := h
  · exact ⟨h1.symm, .inl ⟨h.1, h.2.2.2.1, h.2.2.2.2, h.2.1, h.2.2.1⟩⟩
  · exact ⟨h1.symm, .inr ⟨h.1, h.2.1.symm, h.2.2.symm⟩⟩
section
variable {s : Bool} {J : Int → Int → Int} (hc : ∀ x y, J x y = J y x) (ha : ∀ x y z, J (J x y) z = J x (J y z))
include hc in
theorem jp_comm {x y : Pn} (h : mt s x y) : jp J x y = jp J y x := by
  refine Pn.same h.1 ?_ ?_ (hc _ _) <;> simp only [jp] <;> omega
theorem mt_jp {x y z : Pn} (h1 : mt s x y) (h2 : mt s x z) : mt s (jp J x y) z := by
  obtain ⟨e1, h1⟩ := h1
  obtain ⟨e2, h2⟩ := h2
  refine ⟨e2, ?_⟩
  simp only [jp]
  rcases h2 with ⟨hs, h2⟩ | ⟨hs, h2⟩
  · exact .inl ⟨hs, by omega, by omega, by omega, by omega⟩
  · rcases h1 with ⟨hs', h1⟩ | ⟨_, h1⟩
    · rw [hs] at hs'; cases hs'
    · exact .inr ⟨hs, by omega, by omega⟩
include hc ha in
theorem jp_right {x y z : Pn} : jp J (jp J x y) z = jp J (jp J x z) y := by
  refine Pn.same rfl ?_ ?_ ?_
  · simp only [jp]; omega
  · simp only [jp]; omega
  · simp only [jp]; rw [ha, hc y.a, ← ha]
def Red (s : Bool) (J : Int → Int → Int) (l m : List Pn) : Prop := ∃ x y r, mt s x y ∧ l.Perm (x :: y :: r) ∧ m.Perm (jp J x y :: r)
def RedN (s : Bool) (J : Int → Int → Int) : Nat → List Pn → List Pn → Prop
  | 0, l, m => l.Perm m
  | n + 1, l, m => ∃ l1, Red s J l l1 ∧ RedN s J n l1 m
def Reds (s : Bool) (J : Int → Int → Int) (l m : List Pn) : Prop := ∃ n, RedN s J n l m
def Apart (s : Bool) (l : List Pn) : Prop := l.Pairwise fun x y => ¬ mt s x y
theorem Apart.perm {l m : List Pn} (h : Apart s l) (hp : l.Perm m) : Apart s m := List.Pairwise.perm h hp fun h1 h2 => h1 (mt_symm h2)
theorem Red.perm {l m l' m' : List Pn} (h : Red s J l m) (h1 : l.Perm l') (h2 : m.Perm m') : Red s J l' m' := by
  obtain ⟨x, y, r, a, b, c⟩ := h
  exact ⟨x, y, r, a, h1.symm.trans b, h2.symm.trans c⟩
theorem RedN.perm {n : Nat} : ∀ {l m l' m' : List Pn}, RedN s J n l m → l.Perm l' → m.Perm m' → RedN s J n l' m' := by
  induction n with
  | zero => intro l m l' m' h h1 h2; exact h1.symm.trans (List.Perm.trans h h2)
  | succ n ih =>
    intro l m l' m' h h1 h2
    obtain ⟨l1, a, b⟩ := h
    exact ⟨l1, a.perm h1 (.refl _), ih b (.refl _) h2⟩
theorem Reds.perm {l m l' m' : List Pn} (h : Reds s J l m) (h1 : l.Perm l') (h2 : m.Perm m') : Reds s J l' m' := by
  obtain ⟨n, h⟩ := h
  exact ⟨n, h.perm h1 h2⟩
theorem Reds.refl (l : List Pn) : Reds s J l l := ⟨0, .refl _⟩
theorem RedN.trans {n k : Nat} : ∀ {l m r : List Pn}, RedN s J n l m → RedN s J k m r → RedN s J (n + k) l r := by
  induction n with
  | zero => intro l m r h h'; rw [Nat.zero_add]; exact h'.perm (List.Perm.symm h) (.refl _)
  | succ n ih =>
    intro l m r h h'
    obtain ⟨l1, a, b⟩ := h
    rw [Nat.succ_add]
    exact ⟨l1, a, ih b h'⟩
theorem Reds.trans {l m r : List Pn} (h : Reds s J l m) (h' : Reds s J m r) : Reds s J l r := by
  obtain ⟨n, h⟩ := h
  obtain ⟨k, h'⟩ := h'
  exact ⟨n + k, h.trans h'⟩
theorem Reds.one {l m : List Pn} (h : Red s J l m) : Reds s J l m := ⟨1, m, h, .refl _⟩
theorem Reds.pair {x y : Pn} (r : List Pn) (h : mt s x y) : Reds s J (x :: y :: r) (jp J x y :: r) := .one ⟨x, y, r, h, .refl _, .refl _⟩
theorem Red.beside {l m : List Pn} (h : Red s J l m) (q : List Pn) : Red s J (l ++ q) (m ++ q) := by
  obtain ⟨x, y, r, a, b, c⟩ := h
  exact ⟨x, y, r ++ q, a, b.append_right q, c.append_right q⟩
theorem RedN.beside {n : Nat} : ∀ {l m : List Pn}, RedN s J n l m → ∀ q, RedN s J n (l ++ q) (m ++ q) := by
  induction n with
  | zero => intro l m h q; exact List.Perm.append_right q h
  | succ n ih =>
    intro l m h q
    obtain ⟨l1, a, b⟩ := h
    exact ⟨l1 ++ q, a.beside q, ih b q⟩
theorem Reds.beside {l m : List Pn} (h : Reds s J l m) (q : List Pn) : Reds s J (l ++ q) (m ++ q) := by
  obtain ⟨n, h⟩ := h
  exact ⟨n, h.beside q⟩
theorem Reds.both {l m l' m' : List Pn} (h : Reds s J l m) (h' : Reds s J l' m') : Reds s J (l ++ l') (m ++ m') := by
  refine (h.beside l').trans ?_
  exact (h'.beside m).perm List.perm_append_comm List.perm_append_comm
theorem Reds.cons {l m : List Pn} (h : Reds s J l m) (x : Pn) : Reds s J (x :: l) (x :: m) := (Reds.refl [x]).both h
theorem Red.len {l m : List Pn} (h : Red s J l m) : l.length = m.length + 1 := by
  obtain ⟨x, y, r, _, b, c⟩ := h
  rw [b.length_eq, c.length_eq]; simp
theorem RedN.len {n : Nat} : ∀ {l m : List Pn}, RedN s J n l m → l.length = m.length + n := by
  induction n with
  | zero => intro l m h; exact List.Perm.length_eq h
  | succ n ih =>
    intro l m h
    obtain ⟨l1, a, b⟩ := h
    have := a.len; have := ih b; omega
theorem Reds.len {l m : List Pn} (h : Reds s J l m) : m.length ≤ l.length := by
  obtain ⟨n, h⟩ := h
  have := h.len; omega
theorem perm_part {x y : Pn} {r q : List Pn} (h : (x :: r).Perm (y :: q)) (hn : x ≠ y) : ∃ z, r.Perm (y :: z) ∧ q.Perm (x :: z) := by
  have h1 : y ∈ x :: r := h.symm.subset (List.mem_cons_self ..)
  have h2 : y ∈ r := by
    rcases List.mem_cons.1 h1 with h | h
    · exact absurd h.symm hn
    · exact h
  obtain ⟨u, v, rfl⟩ := List.append_of_mem h2
  refine ⟨u ++ v, List.perm_middle, ?_⟩
  have h3 : (x :: (u ++ y :: v)).Perm (y :: x :: (u ++ v)) := (List.Perm.cons x List.perm_middle).trans (List.Perm.swap ..)
  exact ((h3.symm.trans h).cons_inv).symm
include hc ha in
theorem diamond1 {x y z : Pn} {r q : List Pn} (h1 : mt s x y) (h2 : mt s x z) (hp : (y :: r).Perm (z :: q)) : (jp J x y :: r).Perm (jp J x z :: q) ∨ ∃ m, Red s J (jp J x y :: r) m ∧ Red s J (jp J x z :: q) m := by
  by_cases e : y = z
  · subst e
    exact .inl (.cons _ hp.cons_inv)
  · obtain ⟨u, hr, hq⟩ := perm_part hp e
    refine .inr ⟨jp J (jp J x y) z :: u, ⟨jp J x y, z, u, mt_jp h1 h2, .cons _ hr, .refl _⟩, ⟨jp J x z, y, u, mt_jp h2 h1, .cons _ hq, ?_⟩⟩
    rw [jp_right hc ha]
include hc ha in
theorem diamond {l a b : List Pn} (h1 : Red s J l a) (h2 : Red s J l b) : a.Perm b ∨ ∃ m, Red s J a m ∧ Red s J b m := by
  have fit : ∀ {a a' b b' : List Pn}, a.Perm a' → b.Perm b' → (a'.Perm b' ∨ ∃ m, Red s J a' m ∧ Red s J b' m) → (a.Perm b ∨ ∃ m, Red s J a m ∧ Red s J b m) := by
    rintro a a' b b' ha hb (h | ⟨m, h, h'⟩)
    · exact .inl (ha.trans (h.trans hb.symm))
    · exact .inr ⟨m, h.perm ha.symm (.refl _), h'.perm hb.symm (.refl _)⟩
  obtain ⟨x, y, r, m1, p1, e1⟩ := h1
  obtain ⟨z, u, q, m2, p2, e2⟩ := h2
  have hp := p1.symm.trans p2
  refine fit e1 e2 ?_
  by_cases c1 : x = z
  · subst c1; exact diamond1 hc ha m1 m2 hp.cons_inv
  by_cases c2 : x = u
  · subst c2
    rw [jp_comm hc m2]
    exact diamond1 hc ha m1 (mt_symm m2) (hp.trans (List.Perm.swap ..)).cons_inv
  by_cases c3 : y = z
  · subst c3
    rw [jp_comm hc m1]
    exact diamond1 hc ha (mt_symm m1) m2 ((List.Perm.swap ..).trans hp).cons_inv
  by_cases c4 : y = u
  · subst c4
    rw [jp_comm hc m1, jp_comm hc m2]
    exact diamond1 hc ha (mt_symm m1) (mt_symm m2) (((List.Perm.swap ..).trans hp).trans (List.Perm.swap ..)).cons_inv
  obtain ⟨v, k1, k2⟩ := perm_part hp c1
  obtain ⟨v2, k3, k4⟩ := perm_part k1 c3
  obtain ⟨v3, k5, k6⟩ := perm_part k2.symm (fun e => c2 e)
  obtain ⟨v4, k7, k8⟩ := perm_part (k4.symm.trans k5) c4
  refine .inr ⟨jp J x y :: jp J z u :: v4, ⟨z, u, jp J x y :: v4, m2, ?_, ?_⟩, ⟨x, y, jp J z u :: v4, m1, ?_, List.Perm.refl _⟩⟩
  · refine (List.Perm.cons _ (k3.trans (.cons _ k7))).trans ?_
    exact (List.Perm.swap ..).trans (.cons _ (List.Perm.swap ..))
  · exact List.Perm.swap ..
  · refine (List.Perm.cons _ (k6.trans (.cons _ k8))).trans ?_
    exact (List.Perm.swap ..).trans (.cons _ (List.Perm.swap ..))
theorem not_apart {l : List Pn} (h : ¬ Apart s l) : ∃ x y r, mt s x y ∧ l.Perm (x :: y :: r) := by
  induction l with
  | nil => exact absurd List.Pairwise.nil h
  | cons x l ih =>
    by_cases h1 : Apart s l
    · by_cases h2 : ∃ y ∈ l, mt s x y
      · obtain ⟨y, hy, hm⟩ := h2
        obtain ⟨u, v, rfl⟩ := List.append_of_mem hy
        exact ⟨x, y, u ++ v, hm, .cons _ List.perm_middle⟩
      · exact absurd (List.Pairwise.cons (fun y hy hm => h2 ⟨y, hy, hm⟩) h1) h
    · obtain ⟨y, z, r, hm, hp⟩ := ih h1
      refine ⟨y, z, x :: r, hm, (List.Perm.cons _ hp).trans ?_⟩
      exact (List.Perm.swap ..).trans (.cons _ (List.Perm.swap ..))
theorem ends (n : Nat) : ∀ l : List Pn, l.length ≤ n → ∃ m, Reds s J l m ∧ Apart s m := by
  induction n with
  | zero =>
    intro l hl
    obtain rfl : l = [] := List.length_eq_zero_iff.1 (by omega)
    exact ⟨[], .refl _, .nil⟩
  | succ n ih =>
    intro l hl
    by_cases h : Apart s l
    · exact ⟨l, .refl _, h⟩
    · obtain ⟨x, y, r, hm, hp⟩ := not_apart h
      obtain ⟨m, h1, h2⟩ := ih (jp J x y :: r) (by have := hp.length_eq; simp at this ⊢; omega)
      exact ⟨m, (Reds.one ⟨x, y, r, hm, hp, .refl _⟩).trans h1, h2⟩
theorem Apart.stuck {l m : List Pn} (h : Apart s l) (hr : Red s J l m) : False := by
  obtain ⟨x, y, r, hm, hp, _⟩ := hr
  have h1 : Apart s (x :: y :: r) := h.perm hp
  exact (List.pairwise_cons.1 h1).1 y (List.mem_cons_self ..) hm
include hc ha in
theorem unique (n : Nat) : ∀ {l m m' : List Pn}, l.length ≤ n → Reds s J l m → Apart s m → Reds s J l m' → Apart s m' → m.Perm m' := by
  induction n with
  | zero =>
    intro l m m' hl h _ h' _
    have h1 := h.len; have h2 := h'.len
    obtain rfl : m = [] := List.length_eq_zero_iff.1 (by omega)
    obtain rfl : m' = [] := List.length_eq_zero_iff.1 (by omega)
    exact .refl _
  | succ n ih =>
    intro l m m' hl h hm h' hm'
    obtain ⟨i, h⟩ := h
    obtain ⟨j, h'⟩ := h'
    match i, j, h, h' with
    | 0, 0, h, h' => exact (List.Perm.symm h).trans h'
    | 0, j + 1, h, h' =>
      obtain ⟨l1, a, _⟩ := h'
      exact ((hm.perm (List.Perm.symm h)).stuck a).elim
    | i + 1, 0, h, h' =>
      obtain ⟨l1, a, _⟩ := h
      exact ((hm'.perm (List.Perm.symm h')).stuck a).elim
    | i + 1, j + 1, h, h' =>
      obtain ⟨l1, a, b⟩ := h
      obtain ⟨l2, a', b'⟩ := h'
      have e1 := a.len; have e2 := a'.len
      rcases diamond hc ha a a' with hp | ⟨l3, c, c'⟩
      · exact ih (by omega) ⟨i, b⟩ hm ⟨j, b'.perm hp.symm (.refl _)⟩ hm'
      · obtain ⟨m3, d, hm3⟩ := ends (s := s) (J := J) _ l3 (Nat.le_refl _)
        exact (ih (by omega) ⟨i, b⟩ hm ((Reds.one c).trans d) hm3).trans (ih (by omega) ((Reds.one c').trans d) hm3 ⟨j, b'⟩ hm')
def Comes (s : Bool) (J : Int → Int → Int) (l m : List Pn) : Prop := Reds s J l m ∧ Apart s m
include hc ha in
theorem Comes.unique {l m m' : List Pn} (h : Comes s J l m) (h' : Comes s J l m') : m.Perm m' := YtpcbhcdpegbfjaaGreat.unique hc ha _ (Nat.le_refl _) h.1 h.2 h'.1 h'.2
theorem Comes.perm {l m l' m' : List Pn} (h : Comes s J l m) (h1 : l.Perm l') (h2 : m.Perm m') : Comes s J l' m' := ⟨h.1.perm h1 h2, h.2.perm h2⟩
theorem Comes.step {l m q r : List Pn} (h : Comes s J l m) (h' : Comes s J (q ++ m) r) : Comes s J (q ++ l) r := by
  refine ⟨Reds.trans ?_ h'.1, h'.2⟩
  exact (Reds.refl q).both h.1
theorem Comes.refl {l : List Pn} (h : Apart s l) : Comes s J l l := ⟨.refl _, h⟩
theorem Reds.keeps {P : Pn → Prop} (hP : ∀ x y, mt s x y → P x → P y → P (jp J x y)) {l m : List Pn} (h : Reds s J l m) (hl : ∀ x ∈ l, P x) : ∀ x ∈ m, P x := by
  obtain ⟨n, h⟩ := h
  induction n generalizing l with
  | zero => intro x hx; exact hl x ((List.Perm.mem_iff h).2 hx)
  | succ n ih =>
    obtain ⟨l1, ⟨x, y, r, hm, hp, he⟩, b⟩ := h
    refine ih ?_ b
    intro z hz
    rcases List.mem_cons.1 ((List.Perm.mem_iff he).1 hz) with rfl | hz
    · exact hP _ _ hm (hl _ ((List.Perm.mem_iff hp).2 (List.mem_cons_self ..))) (hl _ ((List.Perm.mem_iff hp).2 (List.mem_cons_of_mem _ (List.mem_cons_self ..))))
    · exact hl _ ((List.Perm.mem_iff hp).2 (List.mem_cons_of_mem _ (List.mem_cons_of_mem _ hz)))
theorem Reds.map {J' : Int → Int → Int} {φ : Pn → Pn} (h1 : ∀ x y, mt s x y → mt s (φ x) (φ y)) (h2 : ∀ x y, mt s x y → φ (jp J x y) = jp J' (φ x) (φ y)) {l m : List Pn} (h : Reds s J l m) : Reds s J' (l.map φ) (m.map φ) := by
  obtain ⟨n, h⟩ := h
  refine ⟨n, ?_⟩
  induction n generalizing l with
  | zero => exact List.Perm.map _ h
  | succ n ih =>
    obtain ⟨l1, ⟨x, y, r, hm, hp, he⟩, b⟩ := h
    refine ⟨l1.map φ, ⟨φ x, φ y, r.map φ, h1 _ _ hm, by simpa using hp.map φ, ?_⟩, ih b⟩
    rw [← h2 _ _ hm]
    simpa using he.map φ
theorem Apart.map {φ : Pn → Pn} (h1 : ∀ x y, mt s (φ x) (φ y) → mt s x y) {l : List Pn} (h : Apart s l) : Apart s (l.map φ) := by
  unfold Apart at *
  rw [List.pairwise_map]
  exact h.imp fun h2 h3 => h2 (h1 _ _ h3)
theorem Comes.map {J' : Int → Int → Int} {φ : Pn → Pn} (h0 : ∀ x y, mt s (φ x) (φ y) ↔ mt s x y) (h2 : ∀ x y, mt s x y → φ (jp J x y) = jp J' (φ x) (φ y)) {l m : List Pn} (h : Comes s J l m) : Comes s J' (l.map φ) (m.map φ) :=
  ⟨h.1.map (fun x y => (h0 x y).2) h2, h.2.map (fun x y => (h0 x y).1)⟩
end
def plb (x y : Pn) : Bool := decide (x.k < y.k) || (decide (x.k = y.k) && (decide (x.f < y.f) || (decide (x.f = y.f) && (decide (x.t < y.t) || (decide (x.t = y.t) && decide (x.a ≤ y.a))))))
theorem plb_iff {x y : Pn} : plb x y = true ↔ x.k < y.k ∨ (x.k = y.k ∧ (x.f < y.f ∨ (x.f = y.f ∧ (x.t < y.t ∨ (x.t = y.t ∧ x.a ≤ y.a))))) := by simp [plb]
theorem plb_total {x y : Pn} (h : ¬ plb x y = true) : plb y x = true := by rw [plb_iff] at *; omega
theorem plb_trans {x y z : Pn} (h : plb x y = true) (h' : plb y z = true) : plb x z = true := by rw [plb_iff] at *; omega
theorem plb_anti {x y : Pn} (h : plb x y = true) (h' : plb y x = true) : x = y := by
  rw [plb_iff] at *
  exact Pn.same (by omega) (by omega) (by omega) (by omega)
def Rising (l : List Pn) : Prop := l.Pairwise fun x y => plb x y = true
def ins (x : Pn) : List Pn → List Pn
  | [] => [x]
  | y :: r => if plb x y = true then x :: y :: r else y :: ins x r
def srt (l : List Pn) : List Pn := l.foldr ins []
theorem ins_perm (x : Pn) (l : List Pn) : (ins x l).Perm (x :: l) := by
  induction l with
  | nil => exact .refl _
  | cons y r ih =>
    unfold ins
    split
    · exact .refl _
    · exact (List.Perm.cons _ ih).trans (List.Perm.swap ..)
theorem ins_rising (x : Pn) {l : List Pn} (h : Rising l) : Rising (ins x l) := by
  induction l with
  | nil => exact List.pairwise_singleton _ _
  | cons y r ih =>
    obtain ⟨h1, h2⟩ := List.pairwise_cons.1 h
    unfold ins
    split
    · next hxy => exact List.pairwise_cons.2 ⟨fun z hz => by
        rcases List.mem_cons.1 hz with rfl | hz
        · exact hxy
        · exact plb_trans hxy (h1 z hz), h⟩
    · next hxy =>
      refine List.pairwise_cons.2 ⟨fun z hz => ?_, ih h2⟩
      rcases List.mem_cons.1 ((List.Perm.mem_iff (ins_perm x r)).1 hz) with rfl | hz
      · exact plb_total hxy
      · exact h1 z hz
theorem srt_perm (l : List Pn) : (srt l).Perm l := by
  induction l with
  | nil => exact .refl _
  | cons x l ih => exact (ins_perm x (srt l)).trans (.cons _ ih)
theorem srt_rising (l : List Pn) : Rising (srt l) := by
  induction l with
  | nil => exact List.Pairwise.nil
  | cons x l ih => exact ins_rising x ih
theorem rising_eq {l m : List Pn} (h : Rising l) (h' : Rising m) (hp : l.Perm m) : l = m :=
  List.Perm.eq_of_pairwise (le := fun x y => plb x y = true) (fun _ _ _ _ => plb_anti) h h' hp
theorem srt_of {l m : List Pn} (hp : m.Perm l) (h : Rising m) : m = srt l := rising_eq h (srt_rising l) (hp.trans (srt_perm l).symm)
theorem srt_eq {l m : List Pn} (hp : m.Perm l) : srt m = srt l := srt_of ((srt_perm m).trans hp) (srt_rising m)
theorem srt_len (l : List Pn) : (srt l).length = l.length := (srt_perm l).length_eq
def Full (x : Pn) : Prop := x.f < x.t
section
variable {J : Int → Int → Int} (hc : ∀ x y, J x y = J y x) (ha : ∀ x y z, J (J x y) z = J x (J y z))
def Over (fr wh : Pn) : Prop := wh.k = fr.k ∧ wh.f ≤ fr.f ∧ fr.t ≤ wh.t
theorem Over.meets {fr wh x : Pn} (h : Over fr wh) (hm : mt true fr x) : mt true wh x := by
  obtain ⟨h1, h2, h3⟩ := h
  obtain ⟨k1, ⟨_, k2⟩ | ⟨k2, _⟩⟩ := hm
  · exact ⟨by omega, .inl ⟨rfl, by omega, by omega, by omega, by omega⟩⟩
  · cases k2
theorem Over.jp {fr wh : Pn} (h : Over fr wh) (x : Pn) : Over fr (jp J wh x) := by
  obtain ⟨h1, h2, h3⟩ := h
  exact ⟨h1, by simp only [YtpcbhcdpegbfjaaGreat.jp]; omega, by simp only [YtpcbhcdpegbfjaaGreat.jp]; omega⟩
theorem Over.fold {fr : Pn} (m : List Pn) : ∀ {wh : Pn}, Over fr wh → Over fr (m.foldl (YtpcbhcdpegbfjaaGreat.jp J) wh) := by
  induction m with
  | nil => intro wh h; exact h
  | cons x m ih => intro wh h; exact ih (h.jp x)
theorem Over.trans {a b c : Pn} (h : Over a b) (h' : Over b c) : Over a c := by
  obtain ⟨h1, h2, h3⟩ := h
  obtain ⟨k1, k2, k3⟩ := h'
  exact ⟨by omega, by omega, by omega⟩
theorem Over.refl (a : Pn) : Over a a := ⟨rfl, Int.le_refl _, Int.le_refl _⟩
theorem sess_away (fr x : Pn) (hx : Full x) (O : List Pn) : ∀ wh : Pn, Over fr wh → (∀ y ∈ O, mt true fr y) → (∀ y ∈ O, ¬ mt true x y) → ¬ mt true wh x → ¬ mt true (O.foldl (jp J) wh) x := by
  induction O with
  | nil => intro wh _ _ _ h; exact h
  | cons p O ih =>
    intro wh hw hO hn h
    refine ih _ (hw.jp p) (fun y hy => hO y (List.mem_cons_of_mem _ hy)) (fun y hy => hn y (List.mem_cons_of_mem _ hy)) fun hmx => ?_
    have e2 := hn p (List.mem_cons_self ..)
    obtain ⟨k1, ⟨_, k2⟩ | ⟨k2, _⟩⟩ := hw.meets (hO p (List.mem_cons_self ..))
    · obtain ⟨k3, ⟨_, k4⟩ | ⟨k4, _⟩⟩ := hmx
      · simp only [jp] at k3 k4
        have e1' : ¬ (wh.f < x.t ∧ wh.f < wh.t ∧ x.f < wh.t ∧ x.f < x.t) := fun e => h ⟨k3, .inl ⟨rfl, e⟩⟩
        have e2' : ¬ (x.f < p.t ∧ x.f < x.t ∧ p.f < x.t ∧ p.f < p.t) := fun e => e2 ⟨by omega, .inl ⟨rfl, e⟩⟩
        unfold Full at hx
        omega
      · cases k4
    · cases k2
end
end Go.Proofs.YtpcbhcdpegbfjaaGreat
