/-
  Texts in build order: SMap.
-/
import Derived.Maps.RangeWalk
import Derived.Maps.OwnOps
/-
 Maps as lists of entries, up to their order; loops over them.
-/
namespace Go.Proofs.YtpcbhcdpegbfjaaGreat
open Go.ChangeMaps Go.MapKept
open Go.Maps (Keyed)
def ent (e : MapEntry) : Value × Value := (e.key, e.val)
def MapAt (P : Program) (K : TypeId) (w : World) (b : Nat) (M : List (Value × Value)) : Prop :=
 ∃ es clock, w.heap[b]? = some (.map es clock) ∧ Stamped es clock ∧ (∀ e ∈ es.toList, ∃ l, keyOf P K e.key = some l) ∧ (es.toList.map ent).Perm M
def RangeAt (P : Program) (K : TypeId) (w : World) (b r : Nat) (M rest : List (Value × Value)) : Prop :=
 ∃ es clock since seen c0, w.heap[b]? = some (.map es clock) ∧ Stamped es clock ∧ (∀ e ∈ es.toList, ∃ l, keyOf P K e.key = some l) ∧ (es.toList.map ent).Perm M ∧
  w.heap[r]? = some (.mapIter (some b) since seen c0) ∧ (∀ x ∈ es.toList, x.born < since) ∧ ((leftOf es seen).toList.map ent).Perm rest ∧ since ≤ c0 ∧ since ≤ clock
section
variable {P : Program} {K : TypeId} {w : World} {b r : Nat} {M rest : List (Value × Value)}
theorem MapAt.lt (h : MapAt P K w b M) : b < w.heap.size := by
 obtain ⟨es, clock, hb, _⟩ := h
 exact (Array.getElem?_eq_some_iff.1 hb).1
theorem MapAt.back {w' : World} (h : MapAt P K w b M) (e : w'.heap[b]? = w.heap[b]?) : MapAt P K w' b M := by
 obtain ⟨es, clock, hb, rest⟩ := h
 exact ⟨es, clock, e.trans hb, rest⟩
theorem MapAt.perm {M' : List (Value × Value)} (h : MapAt P K w b M) (hp : M.Perm M') : MapAt P K w b M' := by
 obtain ⟨es, clock, hb, h1, h2, h3⟩ := h
 exact ⟨es, clock, hb, h1, h2, h3.trans hp⟩
theorem MapAt.nodup (h : MapAt P K w b M) : (M.map Prod.fst).Nodup := by
 obtain ⟨es, clock, hb, h1, h2, h3⟩ := h
 have h4 := h1.2.2
 have h5 := h3.map Prod.fst
 rw [List.map_map] at h5
 exact h5.nodup_iff.1 h4
theorem MapAt.isMap (h : MapAt P K w b M) : ∃ es clock, w.heap[b]? = some (.map es clock) := by
 obtain ⟨es, clock, hb, _⟩ := h
 exact ⟨es, clock, hb⟩
theorem MapAt.made (P : Program) (K : TypeId) (w : World) : MapAt P K (w.alloc (.map #[] 0)) w.heap.size [] :=
 ⟨#[], 0, (MapKept.heap_alloc w _).1, stamped_empty 0, by simp, by simp⟩
theorem get_perm {α : Type} : ∀ {l : List α} {j : Nat} {x : α}, l[j]? = some x → l.Perm (x :: l.eraseIdx j)
 | [], _, _, h => by simp at h
 | y :: l, 0, x, h => by simp at h; subst h; exact .refl _
 | y :: l, j + 1, x, h => by
  simp at h
  rw [List.eraseIdx_cons_succ]
  exact (List.Perm.cons y (get_perm h)).trans (List.Perm.swap ..)
theorem find_ent (Kd : Keyed P K) (w : World) {es : Array MapEntry} (hk : ∀ e ∈ es.toList, ∃ l, keyOf P K e.key = some l) {k v : Value} {l : Lit} (hkey : keyOf P K k = some l) {R : List (Value × Value)} (hp : (es.toList.map ent).Perm ((k, v) :: R)) (hn : (es.toList.map (·.key)).Nodup) :
  ∃ j e0, (Instr.findKey K k es.toList).run P w = .ok (some (j, e0.val)) w ∧ es.toList[j]? = some e0 ∧ e0.key = k ∧ e0.val = v ∧ ((es.toList.eraseIdx j).map ent).Perm R := by
 have hmem : (k, v) ∈ es.toList.map ent := hp.symm.subset (List.mem_cons_self ..)
 obtain ⟨e1, he1, e2⟩ := List.mem_map.1 hmem
 have hk1 : e1.key = k := congrArg Prod.fst e2
 have hv1 : e1.val = v := congrArg Prod.snd e2
 rcases Kd.find w hkey es.toList hk with ⟨_, h2⟩ | ⟨j, e0, h1, h2, h3⟩
 ·exact absurd hk1 (h2 e1 he1)
 ·have he : e0 = e1 := by
   have hn' : es.toList.Pairwise (fun x y => x.key ≠ y.key) := List.pairwise_map.1 hn
   exact entry_eq_of_key hn' (List.mem_of_getElem? h2) he1 (h3.trans hk1.symm)
  refine ⟨j, e0, h1, h2, h3, by rw [he, hv1], ?_⟩
  have hq : es.toList.Perm (e0 :: es.toList.eraseIdx j) := get_perm h2
  have hq2 := (hq.map ent).symm.trans hp
  have e3 : ent e0 = (k, v) := by rw [he]; exact e2
  rw [List.map_cons, e3] at hq2
  exact hq2.cons_inv
theorem find_none (Kd : Keyed P K) (w : World) {es : Array MapEntry} (hk : ∀ e ∈ es.toList, ∃ l, keyOf P K e.key = some l) {k : Value} {l : Lit} (hkey : keyOf P K k = some l) (hp : (es.toList.map ent).Perm M) (hno : ∀ p ∈ M, p.1 ≠ k) :
  (Instr.findKey K k es.toList).run P w = .ok none w ∧ ∀ e ∈ es.toList, e.key ≠ k := by
 have h0 : ∀ e ∈ es.toList, e.key ≠ k := fun e he => hno (ent e) (hp.subset (List.mem_map.2 ⟨e, he, rfl⟩))
 rcases Kd.find w hkey es.toList hk with h | ⟨j, e0, _, h2, h3⟩
 ·exact h
 ·exact absurd h3 (h0 e0 (List.mem_of_getElem? h2))
theorem MapAt.look_hit {t e : TypeId} (h : MapAt P K w b M) (Kd : Keyed P K) (ht : P.underlying t = some (.map K e)) {k v : Value} {l : Lit} (hkey : keyOf P K k = some l) {R : List (Value × Value)} (hp : M.Perm ((k, v) :: R)) (c : Bool) :
  (Instr.lookup t (.map (some b)) k c).run P w = .ok (if c then .tuple #[v, .bool true] else v) w := by
 obtain ⟨es, clock, hb, h1, h2, h3⟩ := h
 obtain ⟨j, e0, f1, f2, f3, f4, _⟩ := find_ent Kd w h2 hkey (h3.trans hp) h1.2.2
 subst f4
 simp [Instr.lookup, run_underlying ht, MapKept.run_getObj_map hb, Kd.check w _ hkey, f1, Result.andThen]
theorem MapAt.look_miss {t e : TypeId} (h : MapAt P K w b M) (Kd : Keyed P K) (ht : P.underlying t = some (.map K e)) {z : Value} (hz : (zeroValue e).run P w = .ok z w) {k : Value} {l : Lit} (hkey : keyOf P K k = some l) (hno : ∀ p ∈ M, p.1 ≠ k) (c : Bool) :
  (Instr.lookup t (.map (some b)) k c).run P w = .ok (if c then .tuple #[z, .bool false] else z) w := by
 obtain ⟨es, clock, hb, h1, h2, h3⟩ := h
 obtain ⟨f1, _⟩ := find_none Kd w h2 hkey h3 hno
 simp [Instr.lookup, run_underlying ht, MapKept.run_getObj_map hb, Kd.check w _ hkey, f1, hz, Result.andThen]
theorem MapAt.len {t e : TypeId} (h : MapAt P K w b M) (ht : P.underlying t = some (.map K e)) (ty : TypeId) : (Builtin.len_ #[t] ty #[.map (some b)]).run P w = .ok (.int .i64 M.length) w := by
 obtain ⟨es, clock, hb, h1, h2, h3⟩ := h
 have e1 : es.size = M.length := by have := h3.length_eq; simpa using this
 rw [← e1]
 simp [Builtin.len_, run_underlying ht, MapKept.run_getObj_map hb, goInt, Result.andThen]
def MTurn (w w' : World) (b : Nat) : Prop := ∃ o, w' = setBlock w b o ∧ b < w.heap.size
theorem MTurn.size {w' : World} (h : MTurn w w' b) : w'.heap.size = w.heap.size := by
 obtain ⟨o, rfl, _⟩ := h
 simp [setBlock]
theorem MTurn.other {w' : World} (h : MTurn w w' b) {i : Nat} (hi : i ≠ b) : w'.heap[i]? = w.heap[i]? := by
 obtain ⟨o, rfl, hl⟩ := h
 simp [setBlock]
 rw [Array.getElem?_setIfInBounds_ne (fun e => hi e.symm)]
theorem MTurn.grown {w' : World} (h : MTurn w w' b) : w.grownBy w' (some b) := by
 have h1 := h.size
 have h2 := @MTurn.other w b w' h
 obtain ⟨o, rfl, hl⟩ := h
 exact ⟨rfl, rfl, rfl, by omega, fun i _ hi => h2 (fun e => hi (by rw [e]))⟩
theorem MapAt.store_new {t e : TypeId} (h : MapAt P K w b M) (Kd : Keyed P K) (ht : P.underlying t = some (.map K e)) {k v : Value} {l : Lit} (hkey : keyOf P K k = some l) (hno : ∀ p ∈ M, p.1 ≠ k) :
  ∃ w', (Instr.mapUpdate t (.map (some b)) k v).run P w = .ok () w' ∧ MapAt P K w' b ((k, v) :: M) ∧ MTurn w w' b := by
 have hlt := h.lt
 obtain ⟨es, clock, hb, h1, h2, h3⟩ := h
 obtain ⟨f1, f2⟩ := find_none Kd w h2 hkey h3 hno
 refine ⟨_, by simp [Instr.mapUpdate, run_underlying ht, MapKept.run_getObj_map hb, Kd.check w false hkey, f1, MapKept.run_setObj_map _ hb, Result.andThen]; rfl, ⟨es.push ⟨k, v, clock⟩, clock + 1, heap_setBlock_same hb _, stamped_push h1 f2, ?_, ?_⟩, ⟨_, rfl, hlt⟩⟩
 ·intro x hx
  simp only [Array.toList_push, List.mem_append, List.mem_singleton] at hx
  rcases hx with hx | rfl
  ·exact h2 x hx
  ·exact ⟨l, hkey⟩
 ·rw [Array.toList_push, List.map_append, List.map_singleton]
  exact (List.perm_append_singleton _ _).trans (.cons _ h3)
theorem modify_list {es : Array MapEntry} {j : Nat} {e0 : MapEntry} (h2 : es.toList[j]? = some e0) (k v : Value) : (es.modify j (fun e' => { e' with key := k, val := v })).toList = es.toList.set j { e0 with key := k, val := v } := by
 rw [Array.toList_modify, modify_eq_set _ _ _ _ h2]
theorem set_perm' {α : Type} {l : List α} {j : Nat} (hj : j < l.length) (x : α) : (l.set j x).Perm (x :: l.eraseIdx j) := by
 have h1 := get_perm (l := l.set j x) (j := j) (x := x) (by simp [hj])
 rwa [List.eraseIdx_set_eq] at h1
theorem MapAt.store_old {t e : TypeId} (h : MapAt P K w b M) (Kd : Keyed P K) (ht : P.underlying t = some (.map K e)) {k v v0 : Value} {l : Lit} (hkey : keyOf P K k = some l) {R : List (Value × Value)} (hp : M.Perm ((k, v0) :: R)) :
  ∃ w', (Instr.mapUpdate t (.map (some b)) k v).run P w = .ok () w' ∧ MapAt P K w' b ((k, v) :: R) ∧ MTurn w w' b := by
 have hlt := h.lt
 obtain ⟨es, clock, hb, h1, h2, h3⟩ := h
 obtain ⟨j, e0, f1, f2, f3, f4, f5⟩ := find_ent Kd w h2 hkey (h3.trans hp) h1.2.2
 have hj : es[j]? = some e0 := by simpa using f2
 have hjl : j < es.toList.length := (List.getElem?_eq_some_iff.1 f2).1
 have hkeyf : ∀ e', es[j]? = some e' → ({ e' with key := k, val := v } : MapEntry).key = e'.key := fun e' he' => by rw [hj] at he'; cases he'; exact f3.symm
 have hl := modify_list f2 k v
 have hpp : (es.toList.set j { e0 with key := k, val := v }).Perm ({ e0 with key := k, val := v } :: es.toList.eraseIdx j) := set_perm' hjl _
 refine ⟨_, by simp [Instr.mapUpdate, run_underlying ht, MapKept.run_getObj_map hb, Kd.check w false hkey, f1, hj, f3, Kd.stays w hkey, MapKept.run_setObj_map _ hb, Result.andThen]; rfl, ⟨es.modify j (fun e' => { e' with key := k, val := v }), clock, heap_setBlock_same hb _, stamped_modify h1 _ _ (fun _ _ => rfl) (fun e' _ he' => hkeyf e' he'), ?_, ?_⟩, ⟨_, rfl, hlt⟩⟩
 ·intro x hx
  rw [hl] at hx
  rcases List.mem_cons.1 (hpp.subset hx) with rfl | hx
  ·exact ⟨l, hkey⟩
  ·exact h2 x ((List.eraseIdx_sublist _ _).subset hx)
 ·rw [hl]
  exact (hpp.map ent).trans (.cons _ f5)
theorem MapAt.drop_hit {t e : TypeId} (h : MapAt P K w b M) (Kd : Keyed P K) (ht : P.underlying t = some (.map K e)) {k v0 : Value} {l : Lit} (hkey : keyOf P K k = some l) {R : List (Value × Value)} (hp : M.Perm ((k, v0) :: R)) (ty : TypeId) :
  ∃ w', (Builtin.delete_ #[t, K] ty #[.map (some b), k]).run P w = .ok (.tuple #[]) w' ∧ MapAt P K w' b R ∧ MTurn w w' b := by
 have hlt := h.lt
 obtain ⟨es, clock, hb, h1, h2, h3⟩ := h
 obtain ⟨j, e0, f1, f2, f3, f4, f5⟩ := find_ent Kd w h2 hkey (h3.trans hp) h1.2.2
 have hjl : j < es.toList.length := (List.getElem?_eq_some_iff.1 f2).1
 have hjs : j < es.size := by simpa using hjl
 have hsub : (es.eraseIdxIfInBounds j).toList = es.toList.eraseIdx j := by
  unfold Array.eraseIdxIfInBounds
  rw [dif_pos hjs]
  simp
 refine ⟨_, by simp [Builtin.delete_, run_underlying ht, MapKept.run_getObj_map hb, Kd.check w _ hkey, f1, MapKept.run_setObj_map _ hb, Result.andThen]; rfl, ⟨es.eraseIdxIfInBounds j, clock, heap_setBlock_same hb _, stamped_erase h1 j, ?_, ?_⟩, ⟨_, rfl, hlt⟩⟩
 ·intro x hx
  rw [hsub] at hx
  exact h2 x ((List.eraseIdx_sublist _ _).subset hx)
 ·rw [hsub]; exact f5
/-! Loops -/
theorem RangeAt.mapAt (h : RangeAt P K w b r M rest) : MapAt P K w b M := by
 obtain ⟨es, clock, since, seen, c0, hb, h1, h2, h3, _⟩ := h
 exact ⟨es, clock, hb, h1, h2, h3⟩
theorem RangeAt.lt (h : RangeAt P K w b r M rest) : r < w.heap.size := by
 obtain ⟨es, clock, since, seen, c0, _, _, _, _, hr, _⟩ := h
 exact (Array.getElem?_eq_some_iff.1 hr).1
theorem RangeAt.ne (h : RangeAt P K w b r M rest) : r ≠ b := by
 obtain ⟨es, clock, since, seen, c0, hb, _, _, _, hr, _⟩ := h
 intro e
 rw [e, hb] at hr
 cases hr
theorem RangeAt.back {w' : World} (h : RangeAt P K w b r M rest) (e1 : w'.heap[b]? = w.heap[b]?) (e2 : w'.heap[r]? = w.heap[r]?) : RangeAt P K w' b r M rest := by
 obtain ⟨es, clock, since, seen, c0, hb, h1, h2, h3, hr, hh⟩ := h
 exact ⟨es, clock, since, seen, c0, e1.trans hb, h1, h2, h3, e2.trans hr, hh⟩
theorem RangeAt.perm {M' rest' : List (Value × Value)} (h : RangeAt P K w b r M rest) (hp : M.Perm M') (hq : rest.Perm rest') : RangeAt P K w b r M' rest' := by
 obtain ⟨es, clock, since, seen, c0, hb, h1, h2, h3, hr, h4, h5, h6⟩ := h
 exact ⟨es, clock, since, seen, c0, hb, h1, h2, h3.trans hp, hr, h4, h5.trans hq, h6⟩
theorem MapAt.range {t e : TypeId} (h : MapAt P K w b M) (ht : P.underlying t = some (.map K e)) :
  ∃ w', (Instr.range t (.map (some b))).run P w = .ok (.pointer (some ⟨w.heap.size, 0, none⟩)) w' ∧ RangeAt P K w' b w.heap.size M M ∧ w.grownBy w' none ∧ w'.heap.size = w.heap.size + 1 := by
 have hlt := h.lt
 obtain ⟨es, clock, hb, h1, h2, h3⟩ := h
 refine ⟨_, run_range_map w t K e b es clock ht hb, ⟨es, clock, clock, #[], clock, ((MapKept.heap_alloc w _).2 b hlt).trans hb, h1, h2, h3, (MapKept.heap_alloc w _).1, h1.1, ?_, Nat.le_refl _, Nat.le_refl _⟩, World.grownBy_alloc w _ none, by simp⟩
 have : (leftOf es #[]).toList = es.toList := by simp [leftOf]
 rw [this]; exact h3
theorem born_part {L : List MapEntry} (hn : (L.map (·.born)).Nodup) {e : MapEntry} (he : e ∈ L) : L.Perm (e :: L.filter (fun x => !(x.born == e.born))) := by
 induction L with
 | nil => cases he
 | cons x L ih =>
  rw [List.map_cons, List.nodup_cons] at hn
  rcases List.mem_cons.1 he with rfl | he
  ·have h1 : L.filter (fun x => !(x.born == e.born)) = L := List.filter_eq_self.2 fun y hy => by
    have : y.born ≠ e.born := fun e1 => hn.1 (List.mem_map.2 ⟨y, hy, e1⟩)
    simpa using this
   rw [List.filter_cons]
   simp [h1]
  ·have h1 : x.born ≠ e.born := fun e1 => hn.1 (List.mem_map.2 ⟨e, he, e1.symm⟩)
   rw [List.filter_cons, if_pos (by simpa using h1)]
   exact (List.Perm.cons x (ih hn.2 he)).trans (List.Perm.swap ..)
theorem left_list (es : Array MapEntry) (seen : Array Nat) : (leftOf es seen).toList = es.toList.filter (fun e => !seen.contains e.born) := by
 simp [leftOf]
theorem left_push {es : Array MapEntry} (hn : (es.toList.map (·.born)).Nodup) {seen : Array Nat} {e : MapEntry} (he : e ∈ (leftOf es seen).toList) : (leftOf es seen).toList.Perm (e :: (leftOf es (seen.push e.born)).toList) := by
 have h1 : ((leftOf es seen).toList.map (·.born)).Nodup := by
  rw [left_list]
  exact List.Nodup.sublist (List.Sublist.map _ List.filter_sublist) hn
 have h2 := born_part h1 he
 refine h2.trans (.cons _ ?_)
 have h3 : (leftOf es (seen.push e.born)).toList = (leftOf es seen).toList.filter (fun x => !(x.born == e.born)) := by
  rw [left_list, left_list, List.filter_filter]
  refine List.filter_congr fun x _ => ?_
  rw [contains_push]
  cases seen.contains x.born <;> cases (x.born == e.born) <;> rfl
 rw [h3]
theorem RangeAt.next (h : RangeAt P K w b r M rest) (ty : TypeId) :
  (rest = [] ∧ (Instr.next (.pointer (some ⟨r, 0, none⟩)) false ty).run P w = .ok (.tuple #[.bool false]) w) ∨
  ∃ k v rest' w', rest.Perm ((k, v) :: rest') ∧ (∃ l, keyOf P K k = some l) ∧ (k, v) ∈ M ∧ (Instr.next (.pointer (some ⟨r, 0, none⟩)) false ty).run P w = .ok (.tuple #[.bool true, k, v]) w' ∧
   RangeAt P K w' b r M rest' ∧ w.grownBy w' (some r) ∧ w'.heap.size = w.heap.size ∧ (Instr.entry (.pointer (some ⟨r, 0, none⟩))).run P w' = .ok (.tuple #[k, v]) w' := by
 have hne := h.ne
 obtain ⟨es, clock, since, seen, c0, hb, h1, h2, h3, hr, hold, h5, hsc, hsk⟩ := h
 rcases run_next_at (P := P) w ty r b since c0 seen es clock hr hb hold hsc with ⟨h0, hrun⟩ | ⟨e, he, w1, hal, hrun⟩
 ·refine .inl ⟨?_, hrun⟩
  have e1 : (leftOf es seen).toList = [] := List.length_eq_zero_iff.1 (by simpa using h0)
  rw [e1] at h5
  exact (List.perm_nil.1 h5.symm)
 ·have hr1 : w1.heap[r]? = some (.mapIter (some b) since seen c0) := by rcases hal with rfl | rfl <;> exact hr
  have hb1 : w1.heap[b]? = some (.map es clock) := by rcases hal with rfl | rfl <;> exact hb
  have hset := heap_set (o' := .mapIter (some b) since (seen.push e.born) clock) hr1
  have hb' : (setBlock w1 r (.mapIter (some b) since (seen.push e.born) clock)).heap[b]? = some (.map es clock) := (hset.2 b (fun e1 => hne e1.symm)).trans hb1
  have hem := (mem_left he).1
  refine .inr ⟨e.key, e.val, (leftOf es (seen.push e.born)).toList.map ent, _, ?_, h2 e hem, h3.subset (List.mem_map.2 ⟨e, hem, rfl⟩), hrun, ⟨es, clock, since, seen.push e.born, clock, hb', h1, h2, h3, hset.1, hold, .refl _, hsk, hsk⟩, ?_, ?_, run_entry_at _ r b since seen es clock e hset.1 hb' hem h1.2.1⟩
  ·exact h5.symm.trans ((left_push h1.2.1 he).map ent)
  ·rcases hal with rfl | rfl <;> exact ⟨rfl, rfl, rfl, by simp [setBlock], fun i _ hi => hset.2 i (fun e1 => hi (by rw [e1]))⟩
  ·rcases hal with rfl | rfl <;> simp [setBlock]
theorem filter_erase {α : Type} {p : α → Bool} : ∀ {l : List α} {j : Nat} {x : α}, l[j]? = some x → p x = false → (l.eraseIdx j).filter p = l.filter p
 | [], _, _, h, _ => by simp at h
 | y :: l, 0, x, h, hx => by simp at h; subst h; simp [hx]
 | y :: l, j + 1, x, h, hx => by
  simp at h
  rw [List.eraseIdx_cons_succ, List.filter_cons, List.filter_cons, filter_erase h hx]
theorem filter_set {α : Type} {p : α → Bool} : ∀ {l : List α} {j : Nat} {x : α} (y : α), l[j]? = some x → p x = false → p y = false → (l.set j y).filter p = l.filter p
 | [], _, _, _, h, _, _ => by simp at h
 | z :: l, 0, x, y, h, hx, hy => by simp at h; subst h; simp [hx, hy]
 | z :: l, j + 1, x, y, h, hx, hy => by
  simp at h
  rw [List.set_cons_succ, List.filter_cons, List.filter_cons, filter_set y h hx hy]
theorem not_left {es : Array MapEntry} {seen : Array Nat} (h5 : ((leftOf es seen).toList.map ent).Perm rest) {k : Value} (hno : ∀ p ∈ rest, p.1 ≠ k) {e0 : MapEntry} (he : e0 ∈ es.toList) (hk : e0.key = k) : (!seen.contains e0.born) = false := by
 cases hs : seen.contains e0.born with
 | true => rfl
 | false =>
  refine absurd hk (hno (ent e0) (h5.subset (List.mem_map.2 ⟨e0, ?_, rfl⟩)))
  rw [left_list]
  exact List.mem_filter.2 ⟨he, by rw [hs]; rfl⟩
theorem RangeAt.store_old {t e : TypeId} (h : RangeAt P K w b r M rest) (Kd : Keyed P K) (ht : P.underlying t = some (.map K e)) {k v v0 : Value} {l : Lit} (hkey : keyOf P K k = some l) {R : List (Value × Value)} (hp : M.Perm ((k, v0) :: R)) (hno : ∀ p ∈ rest, p.1 ≠ k) :
  ∃ w', (Instr.mapUpdate t (.map (some b)) k v).run P w = .ok () w' ∧ RangeAt P K w' b r ((k, v) :: R) rest ∧ MTurn w w' b := by
 have hlt := h.mapAt.lt
 have hne := h.ne
 obtain ⟨es, clock, since, seen, c0, hb, h1, h2, h3, hr, hold, h5, hsc, hsk⟩ := h
 obtain ⟨j, e0, f1, f2, f3, f4, f5⟩ := find_ent Kd w h2 hkey (h3.trans hp) h1.2.2
 have hj : es[j]? = some e0 := by simpa using f2
 have hjl : j < es.toList.length := (List.getElem?_eq_some_iff.1 f2).1
 have hkeyf : ∀ e', es[j]? = some e' → ({ e' with key := k, val := v } : MapEntry).key = e'.key := fun e' he' => by rw [hj] at he'; cases he'; exact f3.symm
 have hl := modify_list f2 k v
 have hpp : (es.toList.set j { e0 with key := k, val := v }).Perm ({ e0 with key := k, val := v } :: es.toList.eraseIdx j) := set_perm' hjl _
 have hnl := not_left h5 hno (List.mem_of_getElem? f2) f3
 refine ⟨_, by simp [Instr.mapUpdate, run_underlying ht, MapKept.run_getObj_map hb, Kd.check w false hkey, f1, hj, f3, Kd.stays w hkey, MapKept.run_setObj_map _ hb, Result.andThen]; rfl, ⟨es.modify j (fun e' => { e' with key := k, val := v }), clock, since, seen, c0, heap_setBlock_same hb _, stamped_modify h1 _ _ (fun _ _ => rfl) (fun e' _ he' => hkeyf e' he'), ?_, ?_, (heap_setBlock_other hb _ hne).trans hr, ?_, ?_, hsc, hsk⟩, ⟨_, rfl, hlt⟩⟩
 ·intro x hx
  rw [hl] at hx
  rcases List.mem_cons.1 (hpp.subset hx) with rfl | hx
  ·exact ⟨l, hkey⟩
  ·exact h2 x ((List.eraseIdx_sublist _ _).subset hx)
 ·rw [hl]
  exact (hpp.map ent).trans (.cons _ f5)
 ·intro x hx
  rw [hl] at hx
  rcases List.mem_cons.1 (hpp.subset hx) with rfl | hx
  ·exact hold e0 (List.mem_of_getElem? f2)
  ·exact hold x ((List.eraseIdx_sublist _ _).subset hx)
 ·rw [left_list, hl, filter_set _ f2 hnl hnl, ← left_list]
  exact h5
theorem RangeAt.drop_hit {t e : TypeId} (h : RangeAt P K w b r M rest) (Kd : Keyed P K) (ht : P.underlying t = some (.map K e)) {k v0 : Value} {l : Lit} (hkey : keyOf P K k = some l) {R : List (Value × Value)} (hp : M.Perm ((k, v0) :: R)) (hno : ∀ p ∈ rest, p.1 ≠ k) (ty : TypeId) :
  ∃ w', (Builtin.delete_ #[t, K] ty #[.map (some b), k]).run P w = .ok (.tuple #[]) w' ∧ RangeAt P K w' b r R rest ∧ MTurn w w' b := by
 have hlt := h.mapAt.lt
 have hne := h.ne
 obtain ⟨es, clock, since, seen, c0, hb, h1, h2, h3, hr, hold, h5, hsc, hsk⟩ := h
 obtain ⟨j, e0, f1, f2, f3, f4, f5⟩ := find_ent Kd w h2 hkey (h3.trans hp) h1.2.2
 have hjl : j < es.toList.length := (List.getElem?_eq_some_iff.1 f2).1
 have hjs : j < es.size := by simpa using hjl
 have hsub : (es.eraseIdxIfInBounds j).toList = es.toList.eraseIdx j := by
  unfold Array.eraseIdxIfInBounds
  rw [dif_pos hjs]
  simp
 have hnl := not_left h5 hno (List.mem_of_getElem? f2) f3
 refine ⟨_, by simp [Builtin.delete_, run_underlying ht, MapKept.run_getObj_map hb, Kd.check w _ hkey, f1, MapKept.run_setObj_map _ hb, Result.andThen]; rfl, ⟨es.eraseIdxIfInBounds j, clock, since, seen, c0, heap_setBlock_same hb _, stamped_erase h1 j, ?_, ?_, (heap_setBlock_other hb _ hne).trans hr, ?_, ?_, hsc, hsk⟩, ⟨_, rfl, hlt⟩⟩
 ·intro x hx
  rw [hsub] at hx
  exact h2 x ((List.eraseIdx_sublist _ _).subset hx)
 ·rw [hsub]; exact f5
 ·intro x hx
  rw [hsub] at hx
  exact hold x ((List.eraseIdx_sublist _ _).subset hx)
 ·rw [left_list, hsub, filter_erase f2 hnl, ← left_list]
  exact h5
end
end Go.Proofs.YtpcbhcdpegbfjaaGreat
