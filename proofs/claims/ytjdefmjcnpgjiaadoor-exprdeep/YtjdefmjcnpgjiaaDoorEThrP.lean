/-
  soundThroughout: what its loop keeps, and what it comes to. No walk in it.
-/
import Derived.Test.YtjdefmjcnpgjiaaDoorEMap
namespace Go.Proofs.YtjdefmjcnpgjiaaDoor
open Go.RowKit

/-- Where an operand lies. -/
def place (y : Ex) (i : Nat) : Addr := match y.a with
  | some p => ⟨p.block, p.off + i * 3, none⟩
  | none => ⟨0, 0, none⟩
/-- A thing that lies at a place. -/
structure AtP (w : World) (p : Addr) (y : Ex) : Prop where
  c0 : w.cell? ⟨p.block, p.off, none⟩ = some (.int .i64 y.op)
  c1 : w.cell? ⟨p.block, p.off + 1, none⟩ = some (.int .i64 y.n)
  c2 : w.cell? ⟨p.block, p.off + 2, none⟩ = some (.slice y.a y.l.length y.c)
theorem Lie.place {w : World} {e : Ex} (h : Lie w e) {i : Nat} {x : Ex} (hx : e.l[i]? = some x) : AtP w (place e i) x := by
  obtain ⟨b, o, h1, h2, h3, h4⟩ := h.at_ i x hx
  unfold YtjdefmjcnpgjiaaDoor.place
  rw [h1]
  exact ⟨h2, h3, h4⟩
theorem AtP.same {w : World} {p : Addr} {x y : Ex} (hx : AtP w p x) (hy : AtP w p y) : x.op = y.op ∧ x.n = y.n ∧ x.a = y.a ∧ x.l.length = y.l.length ∧ x.c = y.c := by
  have h0 := hx.c0.symm.trans hy.c0
  have h1 := hx.c1.symm.trans hy.c1
  have h2 := hx.c2.symm.trans hy.c2
  simp only [Option.some.injEq, Value.int.injEq, Value.slice.injEq, true_and] at h0 h1 h2
  exact ⟨h0, h1, h2.1, h2.2.1, h2.2.2⟩
/-- The same cells, the same tree. -/
theorem tree_eq {w : World} (x : Ex) : ∀ y : Ex, In w x → In w y → (x.op = y.op ∧ x.n = y.n ∧ x.a = y.a ∧ x.l.length = y.l.length ∧ x.c = y.c) → x = y := by
  refine Ex.ind (P := fun x => ∀ y : Ex, In w x → In w y → (x.op = y.op ∧ x.n = y.n ∧ x.a = y.a ∧ x.l.length = y.l.length ∧ x.c = y.c) → x = y) ?_ x
  intro op n a c l ih y hx hy h
  obtain ⟨op', n', a', c', l'⟩ := y
  simp only at h
  obtain ⟨rfl, rfl, rfl, hl, rfl⟩ := h
  have : l = l' := by
    apply List.ext_getElem?
    intro i
    by_cases hi : i < l.length
    · obtain ⟨u, hu⟩ : ∃ u, l[i]? = some u := ⟨_, List.getElem?_eq_getElem hi⟩
      obtain ⟨v, hv⟩ : ∃ v, l'[i]? = some v := ⟨_, List.getElem?_eq_getElem (by omega)⟩
      have p1 := hx.self.place (i := i) (x := u) hu
      have p2 := hy.self.place (i := i) (x := v) hv
      have := ih u (List.mem_of_getElem? hu) v (hx.kid (List.mem_of_getElem? hu)) (hy.kid (List.mem_of_getElem? hv)) (p1.same p2)
      rw [hu, hv, this]
    · rw [List.getElem?_eq_none (by omega), List.getElem?_eq_none (by omega)]
  rw [this]
/-- Looked at, and all its operands seen. -/
def Done (sp : List Addr) (y : Ex) : Prop := snd1 y.op y.n y.l.length = true ∧ ∀ i, i < y.l.length → place y i ∈ sp
theorem Done.more {sp : List Addr} {y : Ex} (h : Done sp y) (p : Addr) : Done (sp ++ [p]) y := ⟨h.1, fun i hi => List.mem_append_left _ (h.2 i hi)⟩
/-- All places of an expression. -/
def places (e : Ex) : List Addr := e.sub.flatMap fun y => (List.range y.l.length).map (place y)
theorem mem_places {e y : Ex} (hy : y ∈ e.sub) {i : Nat} (hi : i < y.l.length) : place y i ∈ places e :=
  List.mem_flatMap.2 ⟨y, hy, List.mem_map.2 ⟨i, List.mem_range.2 hi, rfl⟩⟩
def uns (e : Ex) (sp : List Addr) : Nat := ((places e).filter fun p => decide (p ∉ sp)).length
theorem filter_less {α : Type} [DecidableEq α] (l sp : List α) (p : α) (hp : p ∈ l) (hn : p ∉ sp) : (l.filter fun q => decide (q ∉ sp ++ [p])).length + 1 ≤ (l.filter fun q => decide (q ∉ sp)).length := by
  induction l with
  | nil => cases hp
  | cons x r ih =>
    have hmono : ∀ r : List α, (r.filter fun q => decide (q ∉ sp ++ [p])).length ≤ (r.filter fun q => decide (q ∉ sp)).length := by
      intro r
      induction r with
      | nil => simp
      | cons y r ih =>
        by_cases h1 : y ∈ sp
        · have h2 : y ∈ sp ++ [p] := List.mem_append_left _ h1
          simp only [List.filter_cons, h1, h2, not_true_eq_false, decide_false]
          exact ih
        · by_cases h2 : y ∈ sp ++ [p]
          · simp only [List.filter_cons, h1, h2, not_true_eq_false, not_false_eq_true, decide_false, decide_true, if_true, List.length_cons]
            have := ih
            simp at this ⊢
            omega
          · simp only [List.filter_cons, h1, h2, not_false_eq_true, decide_true, if_true, List.length_cons]
            omega
    by_cases hxp : x = p
    · subst hxp
      have h2 : x ∈ sp ++ [x] := by simp
      have := hmono r
      simp only [List.filter_cons, hn, h2, not_true_eq_false, not_false_eq_true, decide_false, decide_true, if_true, List.length_cons]
      simp at this ⊢
      omega
    · have hpr : p ∈ r := by
        rcases List.mem_cons.1 hp with h | h
        · exact absurd h.symm hxp
        · exact h
      have := ih hpr
      by_cases h1 : x ∈ sp
      · have h2 : x ∈ sp ++ [p] := List.mem_append_left _ h1
        simp only [List.filter_cons, h1, h2, not_true_eq_false, decide_false]
        exact this
      · have h2 : x ∉ sp ++ [p] := by simp [h1, hxp]
        simp only [List.filter_cons, h1, h2, not_false_eq_true, decide_true, if_true, List.length_cons]
        omega
theorem uns_less {e : Ex} {sp : List Addr} {p : Addr} (hp : p ∈ places e) (hn : p ∉ sp) : uns e (sp ++ [p]) + 1 ≤ uns e sp := filter_less _ _ _ hp hn
/-- What the outer loop keeps. -/
structure Thr (w : World) (e : Ex) (sp : List Addr) (todo : List Ex) : Prop where
  sub : ∀ x ∈ todo, x ∈ e.sub
  top : e ∈ todo ∨ Done sp e
  seen : ∀ p ∈ sp, p ∈ places e ∧ ∃ y ∈ e.sub, AtP w p y ∧ (y ∈ todo ∨ Done sp y)
theorem Thr.start (w : World) (e : Ex) : Thr w e [] [e] := ⟨fun x hx => by rw [List.mem_singleton.1 hx]; exact e.sub_self, .inl (by simp), fun p hp => by cases hp⟩
/-- All looked at: all are sound. -/
theorem Thr.formed {w : World} {e : Ex} {sp : List Addr} (h : Thr w e sp []) (hin : In w e) : formed e = true := by
  have key : ∀ y : Ex, y ∈ e.sub → Done sp y → YtjdefmjcnpgjiaaDoor.formed y = true := by
    intro y
    refine Ex.ind (P := fun y => y ∈ e.sub → Done sp y → YtjdefmjcnpgjiaaDoor.formed y = true) ?_ y
    intro op n a c l ih hy hd
    rw [formed_mk, Bool.and_eq_true, List.all_eq_true]
    refine ⟨hd.1, fun z hz => ?_⟩
    obtain ⟨i, hi, hzi⟩ := List.mem_iff_getElem.1 hz
    have hz? : l[i]? = some z := by rw [List.getElem?_eq_getElem hi, hzi]
    obtain ⟨_, y', hy', hat, hdn⟩ := h.seen _ (hd.2 i hi)
    have hzs : z ∈ e.sub := Ex.sub_trans e _ hy z (Ex.sub_kid (e := ⟨op, n, a, c, l⟩) hz z z.sub_self)
    have hzp := (hin.sub hy).self.place (e := ⟨op, n, a, c, l⟩) (i := i) (x := z) hz?
    have heq := tree_eq z y' (hin.sub hzs) (hin.sub hy') (hzp.same hat)
    subst heq
    rcases hdn with h1 | h1
    · cases h1
    · exact ih z hz hzs h1
  rcases h.top with h1 | h1
  · cases h1
  · exact key e e.sub_self h1
/-- While x's operands are gone through: the first j of them are seen. -/
structure ThrI (w : World) (e : Ex) (sp : List Addr) (todo : List Ex) (x : Ex) (j : Nat) : Prop where
  sub : ∀ y ∈ todo, y ∈ e.sub
  xs : x ∈ e.sub
  snd : snd1 x.op x.n x.l.length = true
  mine : ∀ i, i < j → i < x.l.length → place x i ∈ sp
  top : e ∈ todo ∨ e = x ∨ Done sp e
  seen : ∀ p ∈ sp, p ∈ places e ∧ ∃ y ∈ e.sub, AtP w p y ∧ (y ∈ todo ∨ y = x ∨ Done sp y)
theorem Thr.pop {w : World} {e x : Ex} {sp : List Addr} {todo : List Ex} (h : Thr w e sp (todo ++ [x])) (hs : snd1 x.op x.n x.l.length = true) : ThrI w e sp todo x 0 := by
  refine ⟨fun y hy => h.sub y (by simp [hy]), h.sub x (by simp), hs, fun i hi => by omega, ?_, fun p hp => ?_⟩
  · rcases h.top with h1 | h1
    · rcases List.mem_append.1 h1 with h2 | h2
      · exact .inl h2
      · exact .inr (.inl (List.mem_singleton.1 h2))
    · exact .inr (.inr h1)
  · obtain ⟨h0, y, hy, hat, hd⟩ := h.seen p hp
    refine ⟨h0, y, hy, hat, ?_⟩
    rcases hd with h1 | h1
    · rcases List.mem_append.1 h1 with h2 | h2
      · exact .inl h2
      · exact .inr (.inl (List.mem_singleton.1 h2))
    · exact .inr (.inr h1)
theorem ThrI.old {w : World} {e x : Ex} {sp : List Addr} {todo : List Ex} {j : Nat} (h : ThrI w e sp todo x j) (hj : place x j ∈ sp) : ThrI w e sp todo x (j + 1) :=
  ⟨h.sub, h.xs, h.snd, fun i hi hl => by
    by_cases hij : i = j
    · subst hij; exact hj
    · exact h.mine i (by omega) hl, h.top, h.seen⟩
theorem ThrI.new {w : World} {e x z : Ex} {sp : List Addr} {todo : List Ex} {j : Nat} (h : ThrI w e sp todo x j) (hz : x.l[j]? = some z) (hat : AtP w (place x j) z) : ThrI w e (sp ++ [place x j]) (todo ++ [z]) x (j + 1) := by
  have hjl := (List.getElem?_eq_some_iff.1 hz).1
  have hzs : z ∈ e.sub := Ex.sub_trans e x h.xs z (Ex.sub_kid (List.mem_of_getElem? hz) z z.sub_self)
  refine ⟨fun y hy => ?_, h.xs, h.snd, fun i hi hl => ?_, ?_, fun p hp => ?_⟩
  · rcases List.mem_append.1 hy with h1 | h1
    · exact h.sub y h1
    · rw [List.mem_singleton.1 h1]; exact hzs
  · by_cases hij : i = j
    · subst hij; simp
    · exact List.mem_append_left _ (h.mine i (by omega) hl)
  · rcases h.top with h1 | h1 | h1
    · exact .inl (List.mem_append_left _ h1)
    · exact .inr (.inl h1)
    · exact .inr (.inr (h1.more _))
  · rcases List.mem_append.1 hp with h1 | h1
    · obtain ⟨h0, y, hy, hat', hd⟩ := h.seen p h1
      refine ⟨h0, y, hy, hat', ?_⟩
      rcases hd with h2 | h2 | h2
      · exact .inl (List.mem_append_left _ h2)
      · exact .inr (.inl h2)
      · exact .inr (.inr (h2.more _))
    · rw [List.mem_singleton.1 h1]
      exact ⟨mem_places h.xs hjl, z, hzs, hat, .inl (by simp)⟩
theorem ThrI.done {w : World} {e x : Ex} {sp : List Addr} {todo : List Ex} (h : ThrI w e sp todo x x.l.length) : Thr w e sp todo := by
  have hx : Done sp x := ⟨h.snd, fun i hi => h.mine i hi hi⟩
  refine ⟨h.sub, ?_, fun p hp => ?_⟩
  · rcases h.top with h1 | h1 | h1
    · exact .inl h1
    · exact .inr (h1 ▸ hx)
    · exact .inr h1
  · obtain ⟨h0, y, hy, hat, hd⟩ := h.seen p hp
    refine ⟨h0, y, hy, hat, ?_⟩
    rcases hd with h1 | h1 | h1
    · exact .inl h1
    · exact .inr (h1 ▸ hx)
    · exact .inr h1
end Go.Proofs.YtjdefmjcnpgjiaaDoor
