/-
  The plan by offsets, and what PlanCounts asks of it: no program in it.
-/
import Derived.Test.YtfiafbfbiidnlaaPMake
import Derived.Test.YtfiafbfbiidnlaaPCk
namespace Go.Proofs.Ytfiafbfbiidnlaa
open Go.RowKit

/-- Where the tasks of node j begin. -/
def off (ns : List Nd) (j : Nat) : Nat := (tksOf 0 (ns.take j)).length
def parN (ns : List Nd) (j : Nat) : Nat := (ns.getD j nd0).par.toNat
theorem parN_at {ns : List Nd} {j : Nat} {n : Nd} (h : ns[j]? = some n) : parN ns j = n.par.toNat := by unfold parN; rw [getD_of h]
theorem off_succ {ns : List Nd} {j : Nat} {n : Nd} (h : ns[j]? = some n) : off ns (j + 1) = off ns j + n.par.toNat := by
  unfold off
  rw [tksOf_take h, List.length_append, tkN_len]
theorem off_len (ns : List Nd) : off ns ns.length = (tksOf 0 ns).length := by unfold off; rw [List.take_length]
theorem tks_split {ns : List Nd} {j : Nat} {n : Nd} (h : ns[j]? = some n) : tksOf 0 ns = tksOf 0 (ns.take j) ++ (tkN j n.par.toNat ++ tksOf (j + 1) (ns.drop (j + 1))) := by
  have hl := lt_of_get h
  have e : ns = ns.take j ++ (n :: ns.drop (j + 1)) := by rw [← drop_of h, List.take_append_drop]
  have e2 : tksOf 0 ns = tksOf 0 (ns.take j ++ (n :: ns.drop (j + 1))) := by rw [← e]
  rw [e2, tksOf_app, tksOf, List.length_take, Nat.min_eq_left (by omega), Nat.zero_add]
theorem tkN_get {i m a : Nat} (h : a < m) : (tkN i m)[a]? = some ⟨(i : Int), (a : Int)⟩ := by
  unfold tkN
  rw [List.getElem?_map, List.getElem?_range h]
  rfl
theorem tks_at {ns : List Nd} {j a : Nat} {n : Nd} (h : ns[j]? = some n) (ha : a < n.par.toNat) : (tksOf 0 ns)[off ns j + a]? = some ⟨(j : Int), (a : Int)⟩ := by
  rw [tks_split h]
  unfold off
  rw [List.getElem?_append_right (by omega), Nat.add_sub_cancel_left, List.getElem?_append_left (by rw [tkN_len]; exact ha)]
  exact tkN_get ha
theorem plc_ext {α : Type} {p q : α → Bool} (l : List α) (h : ∀ x ∈ l, p x = q x) : ∀ k, plc p k l = plc q k l := by
  induction l with
  | nil => intro k; rfl
  | cons x r ih =>
    intro k
    rw [plc, plc, h x (by simp), ih (fun y hy => h y (by simp [hy]))]
theorem plc_none {α : Type} {p : α → Bool} (l : List α) (h : ∀ x ∈ l, p x = false) : ∀ k, plc p k l = [] := by
  induction l with
  | nil => intro k; rfl
  | cons x r ih =>
    intro k
    rw [plc, h x (by simp), if_neg (by decide)]
    exact ih (fun y hy => h y (by simp [hy])) _
theorem tksOf_nd (l : List Nd) : ∀ (i : Nat), ∀ t ∈ tksOf i l, (i : Int) ≤ t.nd ∧ t.nd < (i : Int) + l.length := by
  induction l with
  | nil => intro i t ht; simp [tksOf] at ht
  | cons n r ih =>
    intro i t ht
    rw [tksOf, List.mem_append] at ht
    rcases ht with ht | ht
    · unfold tkN at ht
      obtain ⟨k, _, rfl⟩ := List.mem_map.1 ht
      simp only [List.length_cons]
      omega
    · have := ih (i + 1) t ht
      simp only [List.length_cons]
      omega
theorem plc_tkN (g : Nat → Bool) (p : Tk → Bool) (i : Nat) (hp : ∀ b : Nat, p ⟨(i : Int), (b : Int)⟩ = g b) : ∀ (m k : Nat), plc p k (tkN i m) = ((List.range m).filter g).map (k + ·) := by
  intro m
  induction m with
  | zero => intro k; rfl
  | succ m ih =>
    intro k
    rw [tkN_succ, plc_app, ih, tkN_len, List.range_succ, List.filter_append, List.map_append, plc, hp]
    congr 1
    by_cases h : g m = true
    · rw [if_pos h]; simp [plc, h]
    · rw [if_neg h]; simp [plc, h]
/-- The tasks of node j that fit. -/
theorem plc_tks {ns : List Nd} {j : Nat} {n : Nd} (h : ns[j]? = some n) (g : Nat → Bool) (p : Tk → Bool) (hp : ∀ b : Nat, p ⟨(j : Int), (b : Int)⟩ = g b) (hq : ∀ t : Tk, t.nd ≠ (j : Int) → p t = false) :
    plc p 0 (tksOf 0 ns) = ((List.range n.par.toNat).filter g).map (off ns j + ·) := by
  have hl := lt_of_get h
  rw [tks_split h, plc_app, plc_app, plc_tkN g p j hp, plc_none (tksOf 0 (ns.take j)) (fun t ht => hq t (by
    have := tksOf_nd _ _ t ht
    rw [List.length_take] at this
    omega)), plc_none (tksOf (j + 1) (ns.drop (j + 1))) (fun t ht => hq t (by
    have := tksOf_nd _ _ t ht
    omega))]
  simp [off]
theorem ofNd_eq {ns : List Nd} {j : Nat} {n : Nd} (h : ns[j]? = some n) : ofNd (tksOf 0 ns) (j : Int) = (List.range n.par.toNat).map (off ns j + ·) := by
  unfold ofNd
  rw [plc_tks h (fun _ => true) _ (fun b => by simp) (fun t ht => by simp [ht])]
  rw [List.filter_eq_self.2 (by simp)]
theorem fedL_eq {ns : List Nd} {x i a : Nat} {nx ni : Nd} (hx : ns[x]? = some nx) (hi : ns[i]? = some ni) (ha : a < nx.par.toNat) :
    fedL ns (tksOf 0 ns) i (off ns x + a) = ((List.range ni.par.toNat).filter fun b => fdAll ns (x : Int) (i : Int) || decide (a = b)).map (off ns i + ·) := by
  unfold fedL
  rw [tkAt_in (tks_at hx ha)]
  exact plc_tks hi _ _ (fun b => by
    unfold fd1
    simp only [decide_true, Bool.true_and]
    congr 1
    by_cases h : a = b
    · subst h; simp
    · rw [decide_eq_false h, decide_eq_false (by omega)]) (fun t ht => by simp [fd1, ht])
/-- The channels from node x to input k of node i. -/
def chX (ns : List Nd) (i k x : Nat) : List Cn :=
  (List.range (parN ns x)).flatMap fun a => ((List.range (parN ns i)).filter fun b => fdAll ns (x : Int) (i : Int) || decide (a = b)).map fun b => ⟨((off ns x + a : Nat) : Int), ((off ns i + b : Nat) : Int), (k : Int)⟩
def chI (ns : List Nd) (i : Nat) (k : Nat) : List Int → List Cn
  | [] => []
  | x :: r => chX ns i k x.toNat ++ chI ns i (k + 1) r
def chJ (ns : List Nd) (i : Nat) : List Nd → List Cn
  | [] => []
  | n :: r => chI ns i 0 n.ins ++ chJ ns (i + 1) r
theorem flat_congr {α β : Type} {l : List α} {f g : α → List β} (h : ∀ x ∈ l, f x = g x) : l.flatMap f = l.flatMap g := by
  induction l with
  | nil => rfl
  | cons x r ih => rw [List.flatMap_cons, List.flatMap_cons, h x (by simp), ih (fun y hy => h y (by simp [hy]))]
theorem chFr_eq {ns : List Nd} {i k x : Nat} {nx ni : Nd} (hx : ns[x]? = some nx) (hi : ns[i]? = some ni) : chFr ns (tksOf 0 ns) i k (ofNd (tksOf 0 ns) (x : Int)) = chX ns i k x := by
  unfold chFr chX
  rw [ofNd_eq hx, List.flatMap_map, parN_at hx, parN_at hi]
  refine flat_congr ?_
  intro a ha
  rw [fedL_eq hx hi (List.mem_range.1 ha)]
  unfold chTo
  rw [List.map_map]
  rfl
theorem chIn_eq {ns : List Nd} {i : Nat} {ni : Nd} (hi : ns[i]? = some ni) : ∀ (l : List Int) (k : Nat), (∀ x ∈ l, 0 ≤ x ∧ x < (ns.length : Int)) → chIn ns (tksOf 0 ns) i k l = chI ns i k l
  | [], _, _ => rfl
  | x :: r, k, h => by
    rw [chIn, chI, chIn_eq hi r (k + 1) (fun y hy => h y (by simp [hy]))]
    congr 1
    have hx := h x (by simp)
    obtain ⟨nx, hnx⟩ := get_of_lt (l := ns) (i := x.toNat) (by omega)
    have := chFr_eq (k := k) hnx hi
    rwa [show ((x.toNat : Nat) : Int) = x by omega] at this
theorem chNs_eq {ns : List Nd} : ∀ (l : List Nd) (i : Nat), ns.drop i = l → (∀ n ∈ l, ∀ x ∈ n.ins, 0 ≤ x ∧ x < (ns.length : Int)) → chNs ns (tksOf 0 ns) i l = chJ ns i l
  | [], _, _, _ => rfl
  | n :: r, i, hd, h => by
    have hi : ns[i]? = some n := by
      have := congrArg (fun l : List Nd => l[0]?) hd
      simpa using this
    rw [chNs, chJ, chIn_eq hi _ 0 (h n (by simp)), chNs_eq r (i + 1) (by rw [drop_of hi] at hd; exact (List.cons.inj hd).2) (fun m hm => h m (by simp [hm]))]
theorem chOf_eq {ns : List Nd} (h : ∀ n ∈ ns, ∀ x ∈ n.ins, 0 ≤ x ∧ x < (ns.length : Int)) : chOf ns = chJ ns 0 ns := chNs_eq ns 0 rfl h
theorem filt_one (a : Nat) : ∀ m : Nat, ((List.range m).filter fun b => false || decide (a = b)).length = if a < m then 1 else 0 := by
  intro m
  induction m with
  | zero => simp
  | succ m ih =>
    rw [List.range_succ, List.filter_append, List.length_append, ih]
    by_cases h : a = m
    · subst h; simp
    · simp only [List.filter_cons, List.filter_nil, Bool.false_or, decide_eq_true_eq, h, if_false, List.length_nil]
      split <;> split <;> omega
theorem flat_len {α β : Type} {l : List α} {f : α → List β} {c : Nat} (h : ∀ x ∈ l, (f x).length = c) : (l.flatMap f).length = l.length * c := by
  induction l with
  | nil => simp
  | cons x r ih => rw [List.flatMap_cons, List.length_append, h x (by simp), ih (fun y hy => h y (by simp [hy])), List.length_cons, Nat.succ_mul]; omega
/-- How many channels there are from node x to an input of node i. -/
def cntX (ns : List Nd) (i x : Nat) : Nat := if fdAll ns (x : Int) (i : Int) = true then parN ns x * parN ns i else parN ns x
theorem chX_len {ns : List Nd} {i k x : Nat} {nx ni : Nd} (hx : ns[x]? = some nx) (hi : ns[i]? = some ni) : (chX ns i k x).length = cntX ns i x := by
  unfold chX cntX
  cases hf : fdAll ns (x : Int) (i : Int) with
  | true =>
    rw [if_pos rfl, flat_len (c := parN ns i), List.length_range]
    intro a _
    rw [List.length_map, List.filter_eq_self.2 (by simp), List.length_range]
  | false =>
    rw [if_neg (by decide)]
    have he : parN ns x = parN ns i := by
      unfold fdAll at hf
      rw [ndAt_in hx, ndAt_in hi, Bool.or_eq_false_iff] at hf
      have := hf.2
      rw [parN_at hx, parN_at hi]
      simp at this
      rw [this]
    rw [flat_len (c := 1), List.length_range, Nat.mul_one]
    intro a ha
    rw [List.length_map, filt_one, if_pos (by rw [← he]; exact List.mem_range.1 ha)]
theorem chX_mem {ns : List Nd} {i k x : Nat} {c : Cn} : c ∈ chX ns i k x ↔ ∃ a b, a < parN ns x ∧ b < parN ns i ∧ (fdAll ns (x : Int) (i : Int) = true ∨ a = b) ∧ c = ⟨((off ns x + a : Nat) : Int), ((off ns i + b : Nat) : Int), (k : Int)⟩ := by
  unfold chX
  simp only [List.mem_flatMap, List.mem_map, List.mem_filter, List.mem_range, Bool.or_eq_true, decide_eq_true_eq]
  constructor
  · rintro ⟨a, ha, b, ⟨hb, h⟩, rfl⟩
    exact ⟨a, b, ha, hb, h, rfl⟩
  · rintro ⟨a, b, ha, hb, h, rfl⟩
    exact ⟨a, ha, b, ⟨hb, h⟩, rfl⟩
theorem chI_mem {ns : List Nd} {i : Nat} {c : Cn} : ∀ (l : List Int) (k : Nat), c ∈ chI ns i k l ↔ ∃ m x, l[m]? = some x ∧ c ∈ chX ns i (k + m) x.toNat
  | [], k => by simp [chI]
  | y :: r, k => by
    rw [chI, List.mem_append, chI_mem r (k + 1)]
    constructor
    · rintro (h | ⟨m, x, h1, h2⟩)
      · exact ⟨0, y, by simp, by simpa using h⟩
      · exact ⟨m + 1, x, by simpa using h1, by rw [show k + (m + 1) = k + 1 + m by omega]; exact h2⟩
    · rintro ⟨m, x, h1, h2⟩
      match m, h1, h2 with
      | 0, h1, h2 =>
        obtain rfl : y = x := by simpa using h1
        exact .inl (by simpa using h2)
      | m + 1, h1, h2 => exact .inr ⟨m, x, by simpa using h1, by rw [show k + 1 + m = k + (m + 1) by omega]; exact h2⟩
theorem chJ_mem {ns : List Nd} {c : Cn} : ∀ (l : List Nd) (i : Nat), c ∈ chJ ns i l ↔ ∃ m n, l[m]? = some n ∧ c ∈ chI ns (i + m) 0 n.ins
  | [], k => by simp [chJ]
  | y :: r, k => by
    rw [chJ, List.mem_append, chJ_mem r (k + 1)]
    constructor
    · rintro (h | ⟨m, x, h1, h2⟩)
      · exact ⟨0, y, by simp, by simpa using h⟩
      · exact ⟨m + 1, x, by simpa using h1, by rw [show k + (m + 1) = k + 1 + m by omega]; exact h2⟩
    · rintro ⟨m, x, h1, h2⟩
      match m, h1, h2 with
      | 0, h1, h2 =>
        obtain rfl : y = x := by simpa using h1
        exact .inl (by simpa using h2)
      | m + 1, h1, h2 => exact .inr ⟨m, x, by simpa using h1, by rw [show k + 1 + m = k + (m + 1) by omega]; exact h2⟩
/-- A channel of the plan, told by its ends. -/
theorem ch_mem {ns : List Nd} (hin : ∀ n ∈ ns, ∀ x ∈ n.ins, 0 ≤ x ∧ x < (ns.length : Int)) {c : Cn} : c ∈ chJ ns 0 ns ↔
    ∃ (i k x a b : Nat) (n nx : Nd), ns[i]? = some n ∧ n.ins[k]? = some (x : Int) ∧ ns[x]? = some nx ∧ a < nx.par.toNat ∧ b < n.par.toNat ∧ (fdAll ns (x : Int) (i : Int) = true ∨ a = b) ∧ c = ⟨((off ns x + a : Nat) : Int), ((off ns i + b : Nat) : Int), (k : Int)⟩ := by
  rw [chJ_mem]
  constructor
  · rintro ⟨i, n, h1, h2⟩
    rw [Nat.zero_add, chI_mem] at h2
    obtain ⟨k, y, h3, h4⟩ := h2
    rw [Nat.zero_add, chX_mem] at h4
    obtain ⟨a, b, h5, h6, h7, h8⟩ := h4
    have hy := hin n (List.mem_of_getElem? h1) y (List.mem_of_getElem? h3)
    obtain ⟨nx, hnx⟩ := get_of_lt (l := ns) (i := y.toNat) (by omega)
    exact ⟨i, k, y.toNat, a, b, n, nx, h1, by rw [h3]; congr 1; omega, hnx, by rw [← parN_at hnx]; exact h5, by rw [← parN_at h1]; exact h6, h7, h8⟩
  · rintro ⟨i, k, x, a, b, n, nx, h1, h2, h3, h4, h5, h6, h7⟩
    refine ⟨i, n, h1, ?_⟩
    rw [Nat.zero_add, chI_mem]
    refine ⟨k, (x : Int), h2, ?_⟩
    rw [Nat.zero_add, chX_mem, Int.toNat_natCast]
    exact ⟨a, b, by rw [parN_at h3]; exact h4, by rw [parN_at h1]; exact h5, h6, h7⟩
theorem tk_find : ∀ (l : List Nd) (i t : Nat) (y : Tk), (tksOf i l)[t]? = some y → ∃ (j : Nat) (n : Nd) (b : Nat), l[j]? = some n ∧ b < n.par.toNat ∧ y = ⟨((i + j : Nat) : Int), (b : Int)⟩ ∧ t = (tksOf i (l.take j)).length + b
  | [], _, _, _, h => by simp [tksOf] at h
  | n :: r, i, t, y, h => by
    rw [tksOf] at h
    by_cases ht : t < n.par.toNat
    · rw [List.getElem?_append_left (by rw [tkN_len]; exact ht), tkN_get ht] at h
      cases h
      exact ⟨0, n, t, by simp, ht, by simp, by simp [tksOf]⟩
    · rw [List.getElem?_append_right (by rw [tkN_len]; omega), tkN_len] at h
      obtain ⟨j, m, b, h1, h2, h3, h4⟩ := tk_find r (i + 1) _ y h
      refine ⟨j + 1, m, b, by simpa using h1, h2, ?_, ?_⟩
      · rw [h3, show i + 1 + j = i + (j + 1) by omega]
      · rw [List.take_succ_cons, tksOf, List.length_append, tkN_len]
        omega
theorem plc_ne {α : Type} (p : α → Bool) (l : List α) : ∀ k, 0 < (plc p k l).length ↔ ∃ x ∈ l, p x = true := by
  induction l with
  | nil => intro k; simp [plc]
  | cons x r ih =>
    intro k
    rw [plc]
    by_cases h : p x = true
    · rw [if_pos h]; simp [h]
    · rw [if_neg h, ih]; simp [h]
/-- Has node x a node behind it? -/
def Feeds (ns : List Nd) (x : Nat) : Prop := ∃ (i : Nat) (n : Nd), ns[i]? = some n ∧ (x : Int) ∈ n.ins
theorem off_inj {ns : List Nd} {i j a b : Nat} {n m : Nd} (hi : ns[i]? = some n) (hj : ns[j]? = some m) (ha : a < n.par.toNat) (hb : b < m.par.toNat) (h : off ns i + a = off ns j + b) : i = j ∧ a = b := by
  have h1 := tks_at hi ha
  have h2 := tks_at hj hb
  rw [h, h2] at h1
  have := Tk.mk.inj (Option.some.inj h1)
  omega
theorem par_same {ns : List Nd} {x i : Nat} {nx n : Nd} (hx : ns[x]? = some nx) (hi : ns[i]? = some n) (hf : ¬ fdAll ns (x : Int) (i : Int) = true) : nx.par = n.par := by
  unfold fdAll at hf
  rw [ndAt_in hx, ndAt_in hi] at hf
  simp at hf
  exact hf.2
section
variable {ns : List Nd} (hin : ∀ n ∈ ns, ∀ x ∈ n.ins, 0 ≤ x ∧ x < (ns.length : Int)) (hpar : ∀ n ∈ ns, 1 ≤ n.par ∧ n.par ≤ 4)
include hin hpar
theorem to_some {i b : Nat} {n : Nd} (hi : ns[i]? = some n) (hb : b < n.par.toNat) : (0 < (plc (fun c : Cn => decide (c.tg = ((off ns i + b : Nat) : Int))) 0 (chJ ns 0 ns)).length) ↔ n.ins ≠ [] := by
  rw [plc_ne]
  constructor
  · rintro ⟨c, hc, h⟩
    rw [ch_mem hin] at hc
    obtain ⟨i2, k, x, a, b2, n2, nx, h1, h2, h3, h4, h5, h6, rfl⟩ := hc
    have h7 : off ns i2 + b2 = off ns i + b := by
      have := of_decide_eq_true h
      simp only at this
      omega
    obtain ⟨rfl, rfl⟩ := off_inj h1 hi h5 hb h7
    rw [hi] at h1
    cases h1
    intro e
    rw [e] at h2
    simp at h2
  · intro hne
    obtain ⟨y, hy⟩ := get_of_lt (l := n.ins) (i := 0) (by cases h : n.ins with | nil => exact absurd h hne | cons _ _ => simp)
    have hyr := hin n (List.mem_of_getElem? hi) y (List.mem_of_getElem? hy)
    obtain ⟨nx, hnx⟩ := get_of_lt (l := ns) (i := y.toNat) (by omega)
    have hpx := hpar nx (List.mem_of_getElem? hnx)
    have hyx : y = ((y.toNat : Nat) : Int) := by omega
    by_cases hf : fdAll ns ((y.toNat : Nat) : Int) (i : Int) = true
    · refine ⟨_, (ch_mem hin).2 ⟨i, 0, y.toNat, 0, b, n, nx, hi, by rw [← hyx]; exact hy, hnx, by omega, hb, .inl hf, rfl⟩, by simp⟩
    · have := par_same hnx hi hf
      refine ⟨_, (ch_mem hin).2 ⟨i, 0, y.toNat, b, b, n, nx, hi, by rw [← hyx]; exact hy, hnx, by omega, hb, .inr rfl, rfl⟩, by simp⟩
theorem from_some {x a : Nat} {nx : Nd} (hx : ns[x]? = some nx) (ha : a < nx.par.toNat) : (0 < (plc (fun c : Cn => decide (c.fr = ((off ns x + a : Nat) : Int))) 0 (chJ ns 0 ns)).length) ↔ Feeds ns x := by
  rw [plc_ne]
  constructor
  · rintro ⟨c, hc, h⟩
    rw [ch_mem hin] at hc
    obtain ⟨i2, k, x2, a2, b2, n2, nx2, h1, h2, h3, h4, h5, h6, rfl⟩ := hc
    have h7 : off ns x2 + a2 = off ns x + a := by
      have := of_decide_eq_true h
      simp only at this
      omega
    obtain ⟨rfl, rfl⟩ := off_inj h3 hx h4 ha h7
    exact ⟨i2, n2, h1, List.mem_of_getElem? h2⟩
  · rintro ⟨i, n, h1, h2⟩
    obtain ⟨k, hk⟩ := List.getElem?_of_mem h2
    have hpn := hpar n (List.mem_of_getElem? h1)
    by_cases hf : fdAll ns (x : Int) (i : Int) = true
    · exact ⟨_, (ch_mem hin).2 ⟨i, k, x, a, 0, n, nx, h1, hk, hx, ha, by omega, .inl hf, rfl⟩, by simp⟩
    · have := par_same hx h1 hf
      exact ⟨_, (ch_mem hin).2 ⟨i, k, x, a, a, n, nx, h1, hk, hx, ha, by omega, .inr rfl, rfl⟩, by simp⟩
end
theorem ck_src {ns : List Nd} {n : Nd} (h : ckE ns n = 0) : n.kind ≠ 1 ↔ n.ins ≠ [] := by
  unfold ckE ckN at h
  by_cases h1 : n.kind < 1 ∨ 8 < n.kind
  · rw [if_pos h1] at h; cases h
  rw [if_neg h1] at h
  by_cases h2 : inB (ns.map Nd.kind) n.kind n.ins = false
  · rw [if_pos h2] at h; cases h
  have i2 : inB (ns.map Nd.kind) n.kind n.ins = true := by simpa using h2
  unfold inB at i2
  rw [Bool.and_eq_true] at i2
  have i3 := i2.1
  unfold cntOk at i3
  by_cases a1 : n.kind = 1
  · rw [if_pos a1] at i3
    have := of_decide_eq_true i3
    simp [a1, List.length_eq_zero_iff.1 this]
  · rw [if_neg a1] at i3
    have h3 : n.ins ≠ [] := by
      intro e
      rw [e] at i3
      by_cases a5 : n.kind = 5
      · rw [if_pos a5] at i3; simp at i3
      · rw [if_neg a5] at i3; simp at i3
    simp [a1, h3]
/-- What has fed whom, as far as it was looked. -/
def FedTo (ns : List Nd) (i k x : Nat) : Prop := (∃ (i' : Nat) (n' : Nd), i' < i ∧ ns[i']? = some n' ∧ (x : Int) ∈ n'.ins) ∨ (∃ n : Nd, ns[i]? = some n ∧ (x : Int) ∈ n.ins.take k)
theorem fed_zero (ns : List Nd) (x : Nat) : ¬ FedTo ns 0 0 x := by
  rintro (⟨i', n', h, _⟩ | ⟨n, _, h⟩)
  · omega
  · simp at h
theorem fed_step {ns : List Nd} {i k x y : Nat} {n : Nd} (hi : ns[i]? = some n) (hk : n.ins[k]? = some (x : Int)) : FedTo ns i (k + 1) y ↔ (y = x ∨ FedTo ns i k y) := by
  have hl := lt_of_get hk
  have e : n.ins.take (k + 1) = n.ins.take k ++ [(x : Int)] := by
    rw [List.take_succ_eq_append_getElem hl, Option.some.inj ((List.getElem?_eq_getElem hl).symm.trans hk)]
  constructor
  · rintro (h | ⟨m, hm, h⟩)
    · exact .inr (.inl h)
    · rw [hi] at hm
      cases hm
      rw [e, List.mem_append] at h
      rcases h with h | h
      · exact .inr (.inr ⟨n, hi, h⟩)
      · exact .inl (by have := List.mem_singleton.1 h; omega)
  · rintro (rfl | h | ⟨m, hm, h⟩)
    · exact .inr ⟨n, hi, by rw [e]; simp⟩
    · exact .inl h
    · rw [hi] at hm
      cases hm
      exact .inr ⟨n, hi, by rw [e]; exact List.mem_append_left _ h⟩
theorem fed_next {ns : List Nd} {i x : Nat} {n : Nd} (hi : ns[i]? = some n) : FedTo ns (i + 1) 0 x ↔ FedTo ns i n.ins.length x := by
  constructor
  · rintro (⟨i', n', h1, h2, h3⟩ | ⟨m, hm, h⟩)
    · rcases Nat.lt_succ_iff_lt_or_eq.1 h1 with h | h
      · exact .inl ⟨i', n', h, h2, h3⟩
      · subst h
        exact .inr ⟨n', h2, by rw [hi] at h2; cases h2; rw [List.take_length]; exact h3⟩
    · simp at h
  · rintro (⟨i', n', h1, h2, h3⟩ | ⟨m, hm, h⟩)
    · exact .inl ⟨i', n', by omega, h2, h3⟩
    · exact .inl ⟨i, m, by omega, hm, List.mem_of_mem_take h⟩
theorem fed_all {ns : List Nd} {x : Nat} : FedTo ns ns.length 0 x ↔ Feeds ns x := by
  constructor
  · rintro (⟨i', n', h1, h2, h3⟩ | ⟨m, hm, h⟩)
    · exact ⟨i', n', h2, h3⟩
    · simp at h
  · rintro ⟨i, n, h1, h2⟩
    exact .inl ⟨i, n, lt_of_get h1, h1, h2⟩
theorem chI_len {ns : List Nd} {i : Nat} {ni : Nd} (hi : ns[i]? = some ni) (hpar : ∀ n ∈ ns, 1 ≤ n.par ∧ n.par ≤ 4) : ∀ (l : List Int) (k : Nat), (∀ x ∈ l, 0 ≤ x ∧ x < (ns.length : Int)) → (chI ns i k l).length ≤ 16 * l.length
  | [], _, _ => by simp [chI]
  | x :: r, k, h => by
    have h1 := chI_len hi hpar r (k + 1) (fun y hy => h y (by simp [hy]))
    have hx := h x (by simp)
    obtain ⟨nx, hnx⟩ := get_of_lt (l := ns) (i := x.toNat) (by omega)
    have p1 := hpar nx (List.mem_of_getElem? hnx)
    have p2 := hpar ni (List.mem_of_getElem? hi)
    rw [chI, List.length_append, chX_len hnx hi, List.length_cons]
    have h3 : cntX ns i x.toNat ≤ 16 := by
      unfold cntX
      rw [parN_at hnx, parN_at hi]
      have : nx.par.toNat * ni.par.toNat ≤ 4 * 4 := Nat.mul_le_mul (by omega) (by omega)
      split <;> omega
    omega
theorem chJ_len {ns : List Nd} (hpar : ∀ n ∈ ns, 1 ≤ n.par ∧ n.par ≤ 4) (hin : ∀ n ∈ ns, n.ins.length ≤ 4 ∧ ∀ x ∈ n.ins, 0 ≤ x ∧ x < (ns.length : Int)) : ∀ (l : List Nd) (i : Nat), ns.drop i = l → (chJ ns i l).length ≤ 64 * l.length
  | [], _, _ => by simp [chJ]
  | n :: r, i, hd => by
    have hi : ns[i]? = some n := by
      have := congrArg (fun l : List Nd => l[0]?) hd
      simpa using this
    have h1 := chJ_len hpar hin r (i + 1) (by rw [drop_of hi] at hd; exact (List.cons.inj hd).2)
    have h2 := hin n (List.mem_of_getElem? hi)
    have h3 := chI_len hi hpar n.ins 0 h2.2
    rw [chJ, List.length_append, List.length_cons]
    omega
end Go.Proofs.Ytfiafbfbiidnlaa
