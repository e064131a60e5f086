/-
  What the laws call.
-/
import Derived.Test.YtgjjacljjlhnhaaCTak2
import Derived.Test.YtgjjacljjlhnhaaCStored
import Derived.Test.YtgjjacljjlhnhaaCSet2
import Derived.Test.YtgjjacljjlhnhaaCNew
namespace Go.Proofs.Ytgjjacljjlhnhaa
open Go.RowKit

theorem CP.row {w w' : World} {k : Nat} {P : Sh} {s s' : Cd} (h : CX w k P s) (c : CP w w' k P s') {α : Type} {t sz : Nat} {cs : α → List Value} {base : Nat} {v : Value} {l : List α} (ht : t ≠ 59) (ho : OwnL t sz cs base w v l) : OwnL t sz cs base w' v l := by
  refine ho.back (fun g e => c.f.block g (ho.lt g e) (fun hm => ?_))
  rcases hm with rfl | rfl | rfl | rfl
  · obtain ⟨cur, hc⟩ := ho.has g e
    exact BoxT.ne (t := t) (t' := 59) hc h.box ht rfl
  · exact h.q1.noRow ho e
  · exact h.q2.noRow ho e
  · exact h.q3.noRow ho e
/-- A coordinator that was made behind w0, with rows of messages beside it. -/
structure KX (w0 w : World) (k : Nat) (P : Sh) (s : Cd) (L : List (Value × List Ct)) : Prop where
  x : CX w k P s
  b : Below w0.heap.size w0 w
  f : ∀ i, Fp P k i → w0.heap.size ≤ i
  r : ∀ p ∈ L, OwnL 32 4 Ct.cs w0.heap.size w p.1 p.2
section
variable {w0 w w' : World} {k : Nat} {P : Sh} {s s' : Cd} {L : List (Value × List Ct)}
theorem KX.post (h : KX w0 w k P s L) (c : CP w w' k P s') : KX w0 w' k P s' L :=
  ⟨c.x, h.b.trans ((c.f.below h.b.size (fun i hi => h.f i (.inl hi)))), h.f, fun p hp => CP.row h.x c (by decide) (h.r p hp)⟩
theorem KX.below (h : KX w0 w k P s L) (hb : Below w.heap.size w w') : KX w0 w' k P s L := h.post (h.x.cp.below hb)
theorem KX.add (h : KX w0 w k P s L) {u : Value} {l : List Ct} {base : Nat} (ho : OwnL 32 4 Ct.cs base w u l) (hb : w0.heap.size ≤ base) : KX w0 w k P s ((u, l) :: L) :=
  ⟨h.x, h.b, h.f, fun p hp => by
    rcases List.mem_cons.1 hp with rfl | hp
    · exact ho.mono hb
    · exact h.r p hp⟩
theorem KX.drop (h : KX w0 w k P s L) : KX w0 w k P s [] := ⟨h.x, h.b, h.f, fun p hp => by cases hp⟩
theorem KX.begin (h : KX w0 w k P s L) (e f l : Nat) {s' : Cd} {o : List Ct} (hs : cBegS s e f l = s') (ho : cBegO s e f l = o) :
    Calls Try.prog 14 #[.pointer (some ⟨k, 0, none⟩), .int .u64 (e : Int), .int .u64 (f : Int), .int .u64 (l : Int)] w fun r w' => ∃ u, r = .returned u ∧ KX w0 w' k P s' ((u, o) :: L) := by
  subst hs ho
  refine (Begin_any h.x e f l).mono ?_
  rintro r w' ⟨u, rfl, o1, c1⟩
  exact ⟨u, rfl, (h.post c1).add o1 h.b.size⟩
theorem KX.tick (h : KX w0 w k P s L) (ht : s.ti < 999999999 ∧ s.be ≤ s.ti ∧ s.gr < 4611686018427387904 ∧ s.pa ≤ 1048576) {s' : Cd} {o : List Ct} (hs : cTickS s = s') (ho : cTickO s = o) :
    Calls Try.prog 15 #[.pointer (some ⟨k, 0, none⟩)] w fun r w' => ∃ u, r = .returned u ∧ KX w0 w' k P s' ((u, o) :: L) := by
  subst hs ho
  refine (Tick_any h.x ht.1 ht.2.1 ht.2.2.1 ht.2.2.2).mono ?_
  rintro r w' ⟨u, rfl, o1, c1⟩
  exact ⟨u, rfl, (h.post c1).add o1 h.b.size⟩
theorem KX.take (h : KX w0 w k P s L) (m : Ct) (ht : In64 m.task) {s' : Cd} {n : Nat} (hs : cTakeS s m = s') (hn : cTakeN s m = n) :
    Calls Try.prog 16 #[.pointer (some ⟨k, 0, none⟩), .agg #[.int .i64 m.kind, .int .u64 (m.ep : Int), .int .u64 (m.n : Int), .int .i64 m.task]] w fun r w' => r = .returned (.tuple #[.int .u64 (n : Int), .slice none 0 0]) ∧ KX w0 w' k P s' L := by
  subst hs hn
  refine (Take_any h.x m ht).mono ?_
  rintro r w' ⟨rfl, c1⟩
  exact ⟨rfl, h.post c1⟩
theorem KX.stored (h : KX w0 w k P s L) (n : Nat) (ok : Bool) {s' : Cd} {o : List Ct} (hs : cStoS s n ok = s') (ho : cStoO s n ok = o) :
    Calls Try.prog 18 #[.pointer (some ⟨k, 0, none⟩), .int .u64 (n : Int), .bool ok] w fun r w' => ∃ u, r = .returned u ∧ KX w0 w' k P s' ((u, o) :: L) := by
  subst hs ho
  refine (Stored_any h.x n ok).mono ?_
  rintro r w' ⟨u, rfl, o1, c1⟩
  exact ⟨u, rfl, (h.post c1).add o1 h.b.size⟩
theorem KX.settled (h : KX w0 w k P s L) {b : Bool} (hb : cSet s = b) :
    Calls Try.prog 22 #[.pointer (some ⟨k, 0, none⟩)] w fun r w' => r = .returned (.bool b) ∧ KX w0 w' k P s L := by
  subst hb
  refine (Settled_any h.x).mono ?_
  rintro r w' ⟨rfl, b1⟩
  exact ⟨rfl, h.below b1⟩
theorem KX.made {w : World} {B1 B2 : Nat} {v1 v2 : Value} {tasks sinks : List Int} (hw : Below w0.heap.size w0 w) (h1 : LSeg 1 i64cs B1 w v1 tasks) (hB1 : B1 ≤ w.heap.size) (h2 : LSeg 1 i64cs B2 w v2 sinks) (hB2 : B2 ≤ w.heap.size) (n1 : tasks.length ≤ 400000) (n2 : sinks.length ≤ 400000) (t64 : ∀ x ∈ tasks, In64 x) (s64 : ∀ x ∈ sinks, In64 x) (iv to_ : Int) {s' : Cd} (hs : cNew tasks sinks iv to_ = s') :
    Calls Try.prog 10 #[v1, v2, .int .i64 iv, .int .i64 to_] w fun r w' => ∃ k P, r = .returned (.pointer (some ⟨k, 0, none⟩)) ∧ KX w0 w' k P s' [] ∧ Below w.heap.size w w' ∧ ∀ i, Fp P k i → w.heap.size ≤ i := by
  subst hs
  refine (New_any h1 hB1 h2 hB2 n1 n2 t64 s64 iv to_).mono ?_
  rintro r w' ⟨k, P, rfl, x1, b1, f1⟩
  exact ⟨k, P, rfl, ⟨x1, hw.trans (b1.mono hw.size), fun i hi => Nat.le_trans hw.size (f1 i hi), fun p hp => by cases hp⟩, b1, f1⟩
end
theorem seg_lit {w : World} {N c : Nat} (l : List Int) (hb : BoxT 3 w N (l.map (Value.int .i64)).toArray) (hl : l.length ≤ 140737488355328) : LSeg 1 i64cs w.heap.size w (.slice (some ⟨N, 0, none⟩) l.length c) l := by
  refine ⟨_, _, rfl, hl, .inr ⟨N, 0, rfl, hb.lt, fun i z hi j u hu => ?_⟩⟩
  rw [hb.cellAt]
  match j, hu with
  | 0, hu =>
    have : Value.int .i64 z = u := by simpa [i64cs] using hu
    subst this
    simp [hi]
  | j + 1, hu => simp [i64cs] at hu
/-- The i-th message of a row, by its cells. -/
theorem Ct.read {w : World} {v : Value} {base : Nat} {l : List Ct} (h : OwnL 32 4 Ct.cs base w v l) {i : Nat} {m : Ct} (hi : l[i]? = some m) : ∃ g cap, v = .slice (some ⟨g, 0, none⟩) l.length cap ∧ w.cell? ⟨g, i * 4, none⟩ = some (.int .i64 m.kind) ∧ w.cell? ⟨g, i * 4 + 1, none⟩ = some (.int .u64 (m.ep : Int)) ∧ w.cell? ⟨g, i * 4 + 2, none⟩ = some (.int .u64 (m.n : Int)) ∧ w.cell? ⟨g, i * 4 + 3, none⟩ = some (.int .i64 m.task) := by
  rcases h.2 with ⟨rfl, h0⟩ | ⟨g, cap, cur, rfl, h2, h3, h4, h5, h6, h7⟩
  · have : l = [] := List.length_eq_zero_iff.1 h0
    subst this
    simp at hi
  · have hb : BoxT 32 w g cur := h3
    have key : ∀ (j : Nat) (u : Value), m.cs[j]? = some u → w.cell? ⟨g, i * 4 + j, none⟩ = some u := fun j u hu => by
      have h8 := flat_get Ct.cs_len l i j m u hi hu
      rw [← h7, List.getElem?_take] at h8
      split at h8
      · rw [hb.cellAt]; simpa using h8
      · cases h8
    exact ⟨g, cap, rfl, key 0 _ rfl, key 1 _ rfl, key 2 _ rfl, key 3 _ rfl⟩
theorem KX.read {w0 w : World} {k : Nat} {P : Sh} {s : Cd} {L : List (Value × List Ct)} (h : KX w0 w k P s L) {u : Value} {l : List Ct} (hp : (u, l) ∈ L) {i : Nat} {m : Ct} (hi : l[i]? = some m) : ∃ g cap, u = .slice (some ⟨g, 0, none⟩) l.length cap ∧ w.cell? ⟨g, i * 4, none⟩ = some (.int .i64 m.kind) ∧ w.cell? ⟨g, i * 4 + 1, none⟩ = some (.int .u64 (m.ep : Int)) ∧ w.cell? ⟨g, i * 4 + 2, none⟩ = some (.int .u64 (m.n : Int)) ∧ w.cell? ⟨g, i * 4 + 3, none⟩ = some (.int .i64 m.task) := Ct.read (h.r _ hp) hi

end Go.Proofs.Ytgjjacljjlhnhaa
