/-
  A map whose keys are pointers: lookup, and a new key, where no block that is pointed into bears a mark.
-/
import Derived.Test.YtjdefmjcnpgjiaaDoorEFace
import Derived.LaidEqlPtr
import Derived.MapKept
import Derived.ChangeMaps4
namespace Go.Proofs.YtjdefmjcnpgjiaaDoor
open Go.RowKit Go.MapKept

theorem Tryd.info24s : (Tryd.prog.info? 24).map (fun i => i.size) = some 3 := by kernel_rfl
/-- A place in a row that bears no mark. -/
def Pl (w : World) (p : Addr) : Prop := ∃ c t, w.heap[p.block]? = some (.cells c t (0, 0))
theorem Pl.below {w w' : World} {p : Addr} (h : Pl w p) (hb : Below w.heap.size w w') : Pl w' p := by
  obtain ⟨c, t, h⟩ := h
  exact ⟨c, t, (hb.block _ (Array.getElem?_eq_some_iff.1 h).1).trans h⟩
theorem eq_ptr {w : World} {a b : Addr} (ha : Pl w a) (hb : Pl w b) : (Op.equal 52 (.pointer (some a)) (.pointer (some b))).run Tryd.prog w = .ok (decide (a = b)) w := by
  obtain ⟨j, hj, hs⟩ := Option.map_eq_some_iff.1 Tryd.info24s
  obtain ⟨ca, ta, ha⟩ := ha
  obtain ⟨cb, tb, hb⟩ := hb
  have hsz : j.size ≠ 0 := by rw [hs]; decide
  by_cases h : a = b
  · subst h
    have h1 : ∀ d : Nat, (Op.equalIn (d + 1) 52 (.pointer (some a)) (.pointer (some a))).run Tryd.prog w = .ok true w := fun d => by
      simp [Op.equalIn, run_underlying Tryd.underlying52, sizeOf, typeInfo, hj, run_sameAddr_same]
    simp [Op.equal, Op.maxDepth, h1 9999]
  · have h1 : ∀ d : Nat, (Op.equalIn (d + 1) 52 (.pointer (some a)) (.pointer (some b))).run Tryd.prog w = .ok false w := fun d => by
      simp [Op.equalIn, run_underlying Tryd.underlying52, sizeOf, typeInfo, hj, hsz, run_sameAddr_other w h ha hb]
    simp [Op.equal, Op.maxDepth, h1 9999, h]
/-- The entries of a map that has just these places. -/
structure Keys (es : List MapEntry) (sp : List Addr) : Prop where
  keys : es.map (·.key) = sp.map fun p => Value.pointer (some p)
  vals : ∀ x ∈ es, x.val = .agg #[]
theorem find_ask {w : World} {p : Addr} (hp : Pl w p) : ∀ (es : List MapEntry) (sp : List Addr) (i : Nat), Keys es sp → (∀ q ∈ sp, Pl w q) →
    (p ∈ sp ∧ ∃ j, (Instr.findAsking 52 (.pointer (some p)) es i).run Tryd.prog w = .ok (some (j, .agg #[])) w) ∨ (p ∉ sp ∧ (Instr.findAsking 52 (.pointer (some p)) es i).run Tryd.prog w = .ok none w)
  | [], [], i, _, _ => .inr ⟨by simp, rfl⟩
  | [], _ :: _, _, h, _ => by have := h.keys; simp at this
  | _ :: _, [], _, h, _ => by have := h.keys; simp at this
  | x :: es, q :: sp, i, h, hq => by
    have hk := h.keys
    simp only [List.map_cons, List.cons.injEq] at hk
    have he := eq_ptr hp (hq q (by simp))
    by_cases hpq : p = q
    · subst hpq
      refine .inl ⟨by simp, i, ?_⟩
      simp [Instr.findAsking, hk.1, he, h.vals x (by simp)]
    · have hd : decide (p = q) = false := by simp [hpq]
      rw [hd] at he
      rcases find_ask hp es sp (i + 1) ⟨hk.2, fun y hy => h.vals y (by simp [hy])⟩ (fun y hy => hq y (by simp [hy])) with ⟨h1, j, h2⟩ | ⟨h1, h2⟩
      · exact .inl ⟨by simp [h1], j, by simp [Instr.findAsking, hk.1, he, h2]⟩
      · exact .inr ⟨by simp [hpq, h1], by simp [Instr.findAsking, hk.1, he, h2]⟩
theorem find_key {w : World} {p : Addr} (hp : Pl w p) (es : List MapEntry) (sp : List Addr) (h : Keys es sp) (hq : ∀ q ∈ sp, Pl w q) :
    (p ∈ sp ∧ ∃ j, (Instr.findKey 52 (.pointer (some p)) es).run Tryd.prog w = .ok (some (j, .agg #[])) w) ∨ (p ∉ sp ∧ (Instr.findKey 52 (.pointer (some p)) es).run Tryd.prog w = .ok none w) := by
  cases es with
  | nil =>
    have : sp = [] := by have := h.keys; simpa using this
    subst this
    exact .inr ⟨by simp, by simp [Instr.findKey, run_underlying Tryd.underlying52, Instr.findNow]⟩
  | cons x es =>
    have hn : Instr.findNow (.pointer 24) (.pointer (some p)) (x :: es) 0 = none := by simp [Instr.findNow, Instr.sameNow]
    rcases find_ask hp (x :: es) sp 0 h hq with ⟨h1, j, h2⟩ | ⟨h1, h2⟩
    · exact .inl ⟨h1, j, by simp [Instr.findKey, run_underlying Tryd.underlying52, hn, h2]⟩
    · exact .inr ⟨h1, by simp [Instr.findKey, run_underlying Tryd.underlying52, hn, h2]⟩
/-- Block mb is a map that has just these places. -/
def PM (w : World) (mb : Nat) (sp : List Addr) : Prop := ∃ es clock, w.heap[mb]? = some (.map es clock) ∧ Keys es.toList sp
theorem Tryd.zero53 (w : World) : (zeroValue 53).run Tryd.prog w = .ok (.agg #[]) w := by
  have h : (Tryd.prog.info? 53).map (fun i => i.zero) = some (some (.agg #[])) := by kernel_rfl
  obtain ⟨i, hi, hz⟩ := Option.map_eq_some_iff.1 h
  simp [zeroValue, typeInfo, hi, hz]
theorem check52 (w : World) (p : Addr) (b : Bool) : (Instr.checkKey b 10000 52 (.pointer (some p))).run Tryd.prog w = .ok () w := by
  have h : ∀ n : Nat, (Instr.checkKey b (n + 1) 52 (.pointer (some p))).run Tryd.prog w = .ok () w := fun n => by
    simp [Instr.checkKey, run_underlying Tryd.underlying52]
  exact h 9999
theorem PM.look {w : World} {mb : Nat} {sp : List Addr} (h : PM w mb sp) {p : Addr} (hp : Pl w p) (hq : ∀ q ∈ sp, Pl w q) :
    (Instr.lookup 51 (.map (some mb)) (.pointer (some p)) true).run Tryd.prog w = .ok (.tuple #[.agg #[], .bool (decide (p ∈ sp))]) w := by
  obtain ⟨es, clock, hb, hk⟩ := h
  rcases find_key hp es.toList sp hk hq with ⟨h1, j, h2⟩ | ⟨h1, h2⟩
  · simp [Instr.lookup, run_underlying Tryd.underlying51, MapKept.run_getObj_map hb, check52, h2, Result.andThen, h1]
  · simp [Instr.lookup, run_underlying Tryd.underlying51, MapKept.run_getObj_map hb, check52, h2, Result.andThen, h1]
theorem PM.put {w : World} {mb : Nat} {sp : List Addr} (h : PM w mb sp) {p : Addr} (hp : Pl w p) (hq : ∀ q ∈ sp, Pl w q) (hn : p ∉ sp) :
    ∃ o, (Instr.mapUpdate 51 (.map (some mb)) (.pointer (some p)) (.agg #[])).run Tryd.prog w = .ok () { w with heap := w.heap.setIfInBounds mb o } ∧ PM { w with heap := w.heap.setIfInBounds mb o } mb (sp ++ [p]) := by
  obtain ⟨es, clock, hb, hk⟩ := h
  rcases find_key hp es.toList sp hk hq with ⟨h1, _⟩ | ⟨_, h2⟩
  · exact absurd h1 hn
  · refine ⟨.map (es.push ⟨.pointer (some p), .agg #[], clock⟩) (clock + 1), ?_, ?_⟩
    · simp [Instr.mapUpdate, run_underlying Tryd.underlying51, MapKept.run_getObj_map hb, check52, h2, MapKept.run_setObj_map _ hb, Result.andThen]
    · refine ⟨es.push ⟨.pointer (some p), .agg #[], clock⟩, clock + 1, ?_, ?_, ?_⟩
      · have hl := (Array.getElem?_eq_some_iff.1 hb).1
        simp [hl]
      · rw [Array.toList_push, List.map_append, List.map_append, hk.keys]
        rfl
      · intro x hx
        rw [Array.toList_push, List.mem_append] at hx
        rcases hx with hx | hx
        · exact hk.vals x hx
        · rw [List.mem_singleton.1 hx]
end Go.Proofs.YtjdefmjcnpgjiaaDoor
