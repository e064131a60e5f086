/-
  Texts in build order: SAddP.
-/
import Derived.Test.YtdoldohcimbdaaaGreatM20
/-
  One more span among a key's sessions: those that it overlaps are neighbours.
-/
namespace Go.Proofs.YtdoldohcimbdaaaGreat
open Go.RowKit

def jsp (s x : Sp) : Sp := ⟨min s.f x.f, max s.t x.t⟩
def whl (s : Sp) (l : List Sp) (a b : Nat) : Sp := ((l.take b).drop a).foldl jsp s
theorem whl_self (s : Sp) (l : List Sp) (a : Nat) : whl s l a a = s := by
  unfold whl
  rw [List.drop_of_length_le (by rw [List.length_take]; omega)]; rfl
theorem whl_step {s : Sp} {l : List Sp} {a b : Nat} {x : Sp} (hab : a ≤ b) (hx : l[b]? = some x) : whl s l a (b + 1) = jsp (whl s l a b) x := by
  unfold whl
  have hb := lt_of_get hx
  have e : l[b] = x := by rw [List.getElem?_eq_getElem hb] at hx; exact Option.some.inj hx
  rw [List.take_succ_eq_append_getElem hb, e, List.drop_append_of_le_length (by rw [List.length_take]; omega), List.foldl_append]; rfl
/-- Where the span falls. -/
structure AddR (l : List Sp) (f t : Int) (a b : Nat) : Prop where
  ab : a ≤ b
  bl : b ≤ l.length
  lo : ∀ i x, i < a → l[i]? = some x → x.t ≤ f
  mi : ∀ i x, a ≤ i → i < b → l[i]? = some x → f < x.t ∧ x.f < t
  hi : ∀ i x, b ≤ i → l[i]? = some x → t ≤ x.f
theorem rise_get {l : List Sp} (h : l.Pairwise fun a b => a.t ≤ b.f) {i j : Nat} {x y : Sp} (hij : i < j) (hx : l[i]? = some x) (hy : l[j]? = some y) : x.t ≤ y.f := by
  have h1 := lt_of_get hx
  have h2 := lt_of_get hy
  rw [List.getElem?_eq_getElem h1] at hx
  rw [List.getElem?_eq_getElem h2] at hy
  cases hx; cases hy
  exact List.pairwise_iff_getElem.1 h i j h1 h2 hij
theorem wp_lookM {P : Program} {w : World} {ops : Array Oper} {rest : List Oper} {o : Oper} {a : Act} {Q : Exit → Act → World → Prop} (hg : o.guard = none) (m x : Operand) (t : TypeId) (c : Bool) (hop : o.op = Op.lookup t m x c) (mv kv : Value) (hm : a.eval m = mv) (hx : a.eval x = kv) {v : Value} (hrun : (Instr.lookup t mv kv c).run P w = .ok v w)
    (h : wpList P ops Q rest (a.put o.dst v) w) : wpList P ops Q (o :: rest) a w := by
  refine wpList_plain hg fun K' hK' => ?_
  unfold Oper.wp
  simp [execOp, hop, hm, hx, hrun, Result.andThen]
  exact hK' _ _ h
theorem wp_putM {P : Program} {w : World} {ops : Array Oper} {rest : List Oper} {o : Oper} {a : Act} {Q : Exit → Act → World → Prop} (hg : o.guard = none) (m x v : Operand) (t : TypeId) (hop : o.op = Op.mapUpdate t m x v) (mv kv vv : Value) (hm : a.eval m = mv) (hx : a.eval x = kv) (hv : a.eval v = vv) {w' : World} (hrun : (Instr.mapUpdate t mv kv vv).run P w = .ok () w')
    (h : wpList P ops Q rest (a.put o.dst undef) w') : wpList P ops Q (o :: rest) a w := by
  refine wpList_plain hg fun K' hK' => ?_
  unfold Oper.wp
  simp [execOp, hop, hm, hx, hv, hrun, Result.andThen]
  exact hK' _ _ h
theorem wp_delM {P : Program} {w : World} {ops : Array Oper} {rest : List Oper} {o : Oper} {a : Act} {Q : Exit → Act → World → Prop} (hg : o.guard = none) (m x : Operand) (t k : TypeId) (hop : o.op = Op.call { callee := Callee.builtin Builtin.delete, args := #[m, x], argTypes := #[t, k] }) (mv kv : Value) (hm : a.eval m = mv) (hx : a.eval x = kv) {w' : World} (hrun : (Builtin.delete_ #[t, k] o.type #[mv, kv]).run P w = .ok (.tuple #[]) w')
    (h : wpList P ops Q rest (a.put o.dst (.tuple #[])) w') : wpList P ops Q (o :: rest) a w := by
  refine wpList_plain hg fun K' hK' => ?_
  unfold Oper.wp
  simp [execOp, hop, resolve, invoke, builtin, hm, hx, hrun, Result.andThen]
  exact hK' _ _ h
/-- The sessions of a key: those of its row, or none. -/
def RowOf (R R0 : List SRow) (k : Int) (v : Value) (l : List Sp) : Prop := (R = R0 ∧ (∀ r ∈ R, r.k ≠ k) ∧ v = .slice none 0 0 ∧ l = []) ∨ R.Perm (⟨k, v, l⟩ :: R0)
theorem rowOf (R : List SRow) (k : Int) : ∃ R0 v l, RowOf R R0 k v l := by
  by_cases h : ∃ r ∈ R, r.k = k
  · obtain ⟨r, hr, rfl⟩ := h
    obtain ⟨u, v, rfl⟩ := List.append_of_mem hr
    exact ⟨u ++ v, r.v, r.l, .inr List.perm_middle⟩
  · exact ⟨R, .slice none 0 0, [], .inl ⟨rfl, fun r hr e => h ⟨r, hr, e⟩, rfl, rfl⟩⟩
theorem Tryz.zeroRow (w : World) : (zeroValue 79).run Tryz.prog w = .ok (.slice none 0 0) w := by kernel_rfl
theorem OM.look {w : World} {o : Nat} {fq : Nat → Prop} {R R0 : List SRow} (h : OM w o fq R) {k : Int} (hk : In64 k) {v : Value} {l : List Sp} (hr : RowOf R R0 k v l) : (Instr.lookup 74 (.map (some o)) (.int .i64 k) false).run Tryz.prog w = .ok v w := by
  rcases hr with ⟨rfl, h1, rfl, rfl⟩ | hp
  · exact h.op.look_miss Tryz.lawI Tryz.underlying74 (Tryz.zeroRow w) (keyI hk) (fun p hp e => by
      obtain ⟨r, hr, rfl⟩ := List.mem_map.1 hp
      simp [sEnt] at e
      exact h1 r hr e) false
  · exact h.op.look_hit Tryz.lawI Tryz.underlying74 (keyI hk) (R := R0.map sEnt) (by have := hp.map sEnt; rwa [List.map_cons] at this) false
theorem OM.row {w : World} {o : Nat} {fq : Nat → Prop} {R R0 : List SRow} (h : OM w o fq R) {k : Int} {v : Value} {l : List Sp} (hr : RowOf R R0 k v l) : OwnL 68 2 Sp.cs 0 w v l := by
  rcases hr with ⟨rfl, h1, rfl, rfl⟩ | hp
  · exact OwnL.nil _ _ _ _ _
  · exact (h.rows _ (hp.mem_iff.2 (List.mem_cons_self ..))).1
theorem OM.rowIn {w : World} {o : Nat} {fq : Nat → Prop} {R R0 : List SRow} (h : OM w o fq R) {k : Int} {v : Value} {l : List Sp} (hr : RowOf R R0 k v l) : ∀ g, v.ownBlock = some g → fq g := by
  rcases hr with ⟨rfl, h1, rfl, rfl⟩ | hp
  · intro g e; cases e
  · exact h.fr _ (hp.mem_iff.2 (List.mem_cons_self ..))
/-- A key's row is another one. -/
theorem OM.store {w w1 : World} {o : Nat} {fq : Nat → Prop} {R R0 : List SRow} (h : OM w o fq R) {k : Int} (hk : In64 k) {v v' : Value} {l l' : List Sp} (hr : RowOf R R0 k v l) (hg : w.grownBy w1 v.ownBlock) (ho : OwnL 68 2 Sp.cs 0 w1 v' l') (hl : l' ≠ []) (hin : ∀ g, v'.ownBlock = some g → v.ownBlock = some g ∨ w.heap.size ≤ g) :
    ∃ w', (Instr.mapUpdate 74 (.map (some o)) (.int .i64 k) v').run Tryz.prog w1 = .ok () w' ∧ OM w' o (fun i => fq i ∨ v'.ownBlock = some i) (⟨k, v', l'⟩ :: R0) ∧ MTurn w1 w' o := by
  have hov : ∀ g, v.ownBlock = some g → g ≠ o := fun g e e' => by
    obtain ⟨cu, hcu⟩ := (h.row hr).has g e
    obtain ⟨es, ck, hes⟩ := h.op.isMap
    rw [e', hes] at hcu; cases hcu
  have ho1 : MapAt Tryz.prog 2 w1 o (R.map sEnt) := h.op.back (hg.block o h.op.lt (fun e => hov o e.symm rfl))
  have hov' : ∀ g, v'.ownBlock = some g → g ≠ o := fun g e e' => by
    obtain ⟨cu, hcu⟩ := ho.has g e
    obtain ⟨es, ck, hes⟩ := ho1.isMap
    rw [e', hes] at hcu; cases hcu
  have h0 : ∃ w', (Instr.mapUpdate 74 (.map (some o)) (.int .i64 k) v').run Tryz.prog w1 = .ok () w' ∧ MapAt Tryz.prog 2 w' o ((⟨k, v', l'⟩ :: R0 : List SRow).map sEnt) ∧ MTurn w1 w' o := by
    rcases hr with ⟨rfl, h1, rfl, rfl⟩ | hp
    · exact ho1.store_new Tryz.lawI Tryz.underlying74 (keyI hk) (fun p hp e => by
        obtain ⟨r, hr, rfl⟩ := List.mem_map.1 hp
        simp [sEnt] at e
        exact h1 r hr e)
    · exact ho1.store_old Tryz.lawI Tryz.underlying74 (keyI hk) (R := R0.map sEnt) (by have := hp.map sEnt; rwa [List.map_cons] at this)
  have hsub : ∀ r ∈ R0, r ∈ R := fun r hm => by
    rcases hr with ⟨rfl, _⟩ | hp
    · exact hm
    · exact hp.mem_iff.2 (List.mem_cons_of_mem _ hm)
  have hne : ∀ r ∈ R0, ∀ g, r.v.ownBlock = some g → v.ownBlock ≠ some g := fun r hm g e e' => by
    rcases hr with ⟨rfl, _, rfl, _⟩ | hp
    · cases e'
    · have hap := h.apart.perm hp (fun e => e.symm)
      exact (List.pairwise_cons.1 hap).1 r hm (e'.trans e.symm)
  have hR0 : R0.Pairwise fun a b => a.v.ownBlock ≠ b.v.ownBlock := by
    rcases hr with ⟨rfl, _⟩ | hp
    · exact h.apart
    · exact (List.pairwise_cons.1 (h.apart.perm hp (fun e => e.symm))).2
  obtain ⟨w', hrun, hm, ht⟩ := h0
  refine ⟨w', hrun, ⟨hm, fun r hrm => ?_, fun r hrm g e => ?_, List.pairwise_cons.2 ⟨fun r hrm e => ?_, hR0⟩, .inl h.fo, fun i hi => ?_⟩, ht⟩
  · rcases List.mem_cons.1 hrm with rfl | hrm
    · exact ⟨ho.back (fun g e => ht.other (hov' g e)), hl, hk⟩
    · obtain ⟨q1, q2, q3⟩ := h.rows r (hsub r hrm)
      refine ⟨q1.back (fun g e => ?_), q2, q3⟩
      have hgo : g ≠ o := fun e' => by
        obtain ⟨cu, hcu⟩ := q1.has g e
        obtain ⟨es, ck, hes⟩ := h.op.isMap
        rw [e', hes] at hcu; cases hcu
      rw [ht.other hgo]
      exact hg.block g (q1.lt g e) (fun e' => hne r hrm g e e'.symm)
  · rcases List.mem_cons.1 hrm with rfl | hrm
    · exact .inr e
    · exact .inl (h.fr r (hsub r hrm) g e)
  · cases hb : r.v.ownBlock with
    | none =>
      obtain ⟨q1, q2, _⟩ := h.rows r (hsub r hrm)
      rcases q1.2 with ⟨_, q4⟩ | ⟨g, c, cu, q4, _⟩
      · exact q2 (List.length_eq_zero_iff.1 q4)
      · rw [q4] at hb; cases hb
    | some g =>
      rw [hb] at e
      rcases hin g e with e2 | e2
      · exact hne r hrm g hb e2
      · have := (h.rows r (hsub r hrm)).1.lt g hb; omega
  · rw [ht.size]
    rcases hi with hi | hi
    · exact Nat.lt_of_lt_of_le (h.flt i hi) hg.size
    · exact ho.lt i hi
end Go.Proofs.YtdoldohcimbdaaaGreat
