/-
  A map whose keys are pointers, where the model may draw whether two are one: whatever is drawn, it stays such a map.
-/
import Derived.Test.YtecaghjddoajmaaJBase
import Derived.LaidEqlPtr
import Derived.MapKept
namespace Go.Proofs.Ytecaghjddoajmaa
open Go.RowKit Go.MapKept

/-- A place in a block of cells ahead of B, not frozen. -/
def PlO (B : Nat) (w : World) (p : Addr) : Prop := (∃ c t r, w.heap[p.block]? = some (.cells c t r)) ∧ w.frozen? p = false ∧ p.block < B
variable {B : Nat}
theorem choose_open (w : World) (q : Question) : ∃ v n, (choose q).run Try.prog w = .ok v (w.drewN n) := by
  rw [run_choose_drew]
  by_cases h : q.forced
  · exact ⟨0, 0, by simp [h]; rfl⟩
  · exact ⟨q.cut (w.tape w.drawn q), 1, by simp [h]; rfl⟩
theorem same_open {w : World} {a b : Addr} (ha : PlO B w a) (hb : PlO B w b) : ∃ r n, (sameAddr a b).run Try.prog w = .ok r (w.drewN n) := by
  obtain ⟨⟨ca, ta, ra, ha⟩, fa, -⟩ := ha
  obtain ⟨⟨cb, tb, rb, hb⟩, fb, -⟩ := hb
  by_cases hbl : a.block = b.block
  · exact ⟨a == b, 0, by simp [sameAddr, hbl]; rfl⟩
  · have hm : ∃ m, (mayBeOne a b).run Try.prog w = .ok m w := by
      simp [mayBeOne, stringish, fa, fb, World.shape?, ha, hb]
    obtain ⟨m, hm⟩ := hm
    cases m
    · exact ⟨false, 0, by simp [sameAddr, hbl, fa, noView, viewAt, World.shape?, ha, hb, hm]; rfl⟩
    · by_cases hf : (Question.extern "sameAddr.stringBytes" 2).forced = true
      · exact ⟨false, 0, by simp [sameAddr, hbl, fa, noView, viewAt, World.shape?, ha, hb, hm, hf]; rfl⟩
      · exact ⟨(Question.extern "sameAddr.stringBytes" 2).cut (w.tape w.drawn (Question.extern "sameAddr.stringBytes" 2)) == 1, 1, by simp [sameAddr, hbl, fa, noView, viewAt, World.shape?, ha, hb, hm, hf]; rfl⟩
theorem Try.info45s : (Try.prog.info? 45).map (fun i => i.size) = some 3 := by kernel_rfl
theorem PlO.drewN {w : World} {p : Addr} (h : PlO B w p) (n : Nat) : PlO B (w.drewN n) p := h
theorem PlO.below {w w' : World} {p : Addr} (h : PlO B w p) (hb : Below w.heap.size w w') : PlO B w' p := by
  obtain ⟨⟨c, t, r, h⟩, hf, hB⟩ := h
  have e := hb.block _ (Array.getElem?_eq_some_iff.1 h).1
  refine ⟨⟨c, t, r, e.trans h⟩, ?_, hB⟩
  unfold World.frozen? at *
  rw [e]; exact hf
theorem eq_open {w : World} {a b : Addr} (ha : PlO B w a) (hb : PlO B w b) : ∃ r n, (Op.equal 103 (.pointer (some a)) (.pointer (some b))).run Try.prog w = .ok r (w.drewN n) := by
  obtain ⟨j, hj, hs⟩ := Option.map_eq_some_iff.1 Try.info45s
  have hsz : j.size ≠ 0 := by rw [hs]; decide
  obtain ⟨r, n, h⟩ := same_open ha hb
  refine ⟨r, n, ?_⟩
  have h1 : ∀ d : Nat, (Op.equalIn (d + 1) 103 (.pointer (some a)) (.pointer (some b))).run Try.prog w = .ok r (w.drewN n) := fun d => by
    simp [Op.equalIn, run_underlying Try.underlying103, sizeOf, typeInfo, hj, hsz, h]
  simp [Op.equal, Op.maxDepth, h1 9999]
/-- Entries whose keys are such places. -/
def KeysO (B : Nat) (w : World) (es : List MapEntry) : Prop := ∀ x ∈ es, x.val = .agg #[] ∧ ∃ q, x.key = .pointer (some q) ∧ PlO B w q
theorem ask_open {p : Addr} : ∀ (es : List MapEntry) (w : World) (i : Nat), PlO B w p → KeysO B w es →
    ∃ n, ((∃ j, i ≤ j ∧ j < i + es.length ∧ (Instr.findAsking 103 (.pointer (some p)) es i).run Try.prog w = .ok (some (j, .agg #[])) (w.drewN n)) ∨ (Instr.findAsking 103 (.pointer (some p)) es i).run Try.prog w = .ok none (w.drewN n))
  | [], w, i, _, _ => ⟨0, .inr rfl⟩
  | x :: es, w, i, hp, hk => by
    obtain ⟨hv, q, hq, hpq⟩ := hk x (by simp)
    obtain ⟨r, n, he⟩ := eq_open hp hpq
    cases r
    · obtain ⟨m, h⟩ := ask_open es (w.drewN n) (i + 1) (hp.drewN n) (fun y hy => hk y (by simp [hy]))
      rcases h with ⟨j, h1, h2, h3⟩ | h
      · exact ⟨n + m, .inl ⟨j, by omega, by simp; omega, by simp [Instr.findAsking, hq, he, h3]⟩⟩
      · exact ⟨n + m, .inr (by simp [Instr.findAsking, hq, he, h])⟩
    · exact ⟨n, .inl ⟨i, Nat.le_refl _, by simp, by simp [Instr.findAsking, hq, he, hv]⟩⟩
theorem find_open {w : World} {p : Addr} (hp : PlO B w p) (es : List MapEntry) (hk : KeysO B w es) :
    ∃ n, ((∃ j, j < es.length ∧ (Instr.findKey 103 (.pointer (some p)) es).run Try.prog w = .ok (some (j, .agg #[])) (w.drewN n)) ∨ (Instr.findKey 103 (.pointer (some p)) es).run Try.prog w = .ok none (w.drewN n)) := by
  cases es with
  | nil => exact ⟨0, .inr (by simp [Instr.findKey, run_underlying Try.underlying103, Instr.findNow]; rfl)⟩
  | cons x es =>
    have hn : Instr.findNow (.pointer 45) (.pointer (some p)) (x :: es) 0 = none := by simp [Instr.findNow, Instr.sameNow]
    obtain ⟨n, h⟩ := ask_open (x :: es) w 0 hp hk
    rcases h with ⟨j, _, h2, h3⟩ | h
    · exact ⟨n, .inl ⟨j, by omega, by simp [Instr.findKey, run_underlying Try.underlying103, hn, h3]⟩⟩
    · exact ⟨n, .inr (by simp [Instr.findKey, run_underlying Try.underlying103, hn, h])⟩
/-- Block mb is a map of such places. -/
def PMO (B : Nat) (w : World) (mb : Nat) : Prop := ∃ es clock, w.heap[mb]? = some (.map es clock) ∧ KeysO B w es.toList
theorem Try.zero104 (w : World) : (zeroValue 104).run Try.prog w = .ok (.agg #[]) w := by
  have h : (Try.prog.info? 104).map (fun i => i.zero) = some (some (.agg #[])) := by kernel_rfl
  obtain ⟨i, hi, hz⟩ := Option.map_eq_some_iff.1 h
  simp [zeroValue, typeInfo, hi, hz]
theorem check103 (w : World) (p : Addr) (b : Bool) : (Instr.checkKey b 10000 103 (.pointer (some p))).run Try.prog w = .ok () w := by
  have h : ∀ n : Nat, (Instr.checkKey b (n + 1) 103 (.pointer (some p))).run Try.prog w = .ok () w := fun n => by
    simp [Instr.checkKey, run_underlying Try.underlying103]
  exact h 9999
theorem PMO.look {w : World} {mb : Nat} (h : PMO B w mb) {p : Addr} (hp : PlO B w p) :
    ∃ (b : Nat) (n : Nat), (Instr.lookup 102 (.map (some mb)) (.pointer (some p)) true).run Try.prog w = .ok (.tuple #[.agg #[], .bool (decide (b = 1))]) (w.drewN n) := by
  obtain ⟨es, clock, hb, hk⟩ := h
  obtain ⟨n, h⟩ := find_open hp es.toList hk
  rcases h with ⟨j, _, h2⟩ | h2
  · exact ⟨1, n, by simp [Instr.lookup, run_underlying Try.underlying102, MapKept.run_getObj_map hb, check103, h2, Result.andThen]⟩
  · exact ⟨0, n, by simp [Instr.lookup, run_underlying Try.underlying102, MapKept.run_getObj_map hb, check103, h2, Result.andThen]⟩
theorem stays_open (w : World) (old new : Value) : ∃ k n, (Instr.keyThatStays old new).run Try.prog w = .ok k (w.drewN n) ∧ (k = new ∨ k = old) := by
  unfold Instr.keyThatStays
  by_cases h : Instr.sameBits 10000 old new = true
  · exact ⟨new, 0, by simp [h]; rfl, .inl rfl⟩
  · by_cases hf : (Question.extern "map.whichKeyStays" 2).forced = true
    · exact ⟨new, 0, by simp [h, hf]; rfl, .inl rfl⟩
    · by_cases hv : (Question.extern "map.whichKeyStays" 2).cut (w.tape w.drawn (Question.extern "map.whichKeyStays" 2)) = 0
      · exact ⟨new, 1, by simp [h, hf, hv]; rfl, .inl rfl⟩
      · exact ⟨old, 1, by simp [h, hf, hv]; rfl, .inr rfl⟩
theorem PlO.set {w : World} {p : Addr} {mb : Nat} {o : Obj} (h : PlO B w p) (hne : p.block ≠ mb) : PlO B { w with heap := w.heap.setIfInBounds mb o } p := by
  obtain ⟨⟨c, t, r, h⟩, hf, hB⟩ := h
  have e : (w.heap.setIfInBounds mb o)[p.block]? = w.heap[p.block]? := by rw [Array.getElem?_setIfInBounds, if_neg (by omega)]
  refine ⟨⟨c, t, r, e.trans h⟩, ?_, hB⟩
  unfold World.frozen? at *
  simp only [e]
  exact hf
theorem PMO.put {w : World} {mb : Nat} (h : PMO B w mb) {p : Addr} (hp : PlO B w p) :
    ∃ n o, (Instr.mapUpdate 102 (.map (some mb)) (.pointer (some p)) (.agg #[])).run Try.prog w = .ok () { w.drewN n with heap := w.heap.setIfInBounds mb o } ∧ PMO B { w.drewN n with heap := w.heap.setIfInBounds mb o } mb := by
  obtain ⟨es, clock, hb, hk⟩ := h
  have hl := (Array.getElem?_eq_some_iff.1 hb).1
  have hnb : ∀ q, PlO B w q → q.block ≠ mb := fun q hq e => by
    obtain ⟨⟨c, t, r, h⟩, _⟩ := hq
    rw [e, hb] at h
    cases h
  obtain ⟨n, h⟩ := find_open hp es.toList hk
  rcases h with ⟨j, hj, h2⟩ | h2
  · obtain ⟨k, m, h3, h4⟩ := stays_open (w.drewN n) (((es[j]?).map (·.key)).getD (.pointer (some p))) (.pointer (some p))
    have hkk : ∃ q, k = .pointer (some q) ∧ PlO B w q := by
      rcases h4 with rfl | rfl
      · exact ⟨p, rfl, hp⟩
      · have hjl : j < es.size := by simpa using hj
        rw [Array.getElem?_eq_getElem hjl]
        exact (hk es[j] (by simp)).2
    refine ⟨n + m, .map (es.modify j fun e => { e with key := k, val := .agg #[] }) clock, ?_, ?_⟩
    · have hb' : (w.drewN (n + m)).heap[mb]? = some (.map es clock) := hb
      simp [Instr.mapUpdate, run_underlying Try.underlying102, MapKept.run_getObj_map hb, check103, h2, h3, Result.andThen, MapKept.run_setObj_map _ hb']
    · refine ⟨es.modify j fun e => { e with key := k, val := .agg #[] }, clock, by simp [hl], fun x hx => ?_⟩
      obtain ⟨i, hi⟩ := List.getElem?_of_mem hx
      have hi' : (es.modify j fun e => { e with key := k, val := .agg #[] })[i]? = some x := by rw [← Array.getElem?_toList]; exact hi
      rw [Array.getElem?_modify] at hi'
      by_cases hij : j = i
      · rw [if_pos hij] at hi'
        obtain ⟨y, _, rfl⟩ := Option.map_eq_some_iff.1 hi'
        obtain ⟨q, hq, hpq⟩ := hkk
        exact ⟨rfl, q, hq, PlO.set (w := w.drewN (n + m)) hpq (hnb q hpq)⟩
      · rw [if_neg hij] at hi'
        obtain ⟨h5, q, h6, h7⟩ := hk x (by simpa using Array.mem_of_getElem? hi')
        exact ⟨h5, q, h6, PlO.set (w := w.drewN (n + m)) h7 (hnb q h7)⟩
  · refine ⟨n, .map (es.push ⟨.pointer (some p), .agg #[], clock⟩) (clock + 1), ?_, ?_⟩
    · have hb' : (w.drewN n).heap[mb]? = some (.map es clock) := hb
      simp [Instr.mapUpdate, run_underlying Try.underlying102, MapKept.run_getObj_map hb, check103, h2, Result.andThen, MapKept.run_setObj_map _ hb']
    · refine ⟨es.push ⟨.pointer (some p), .agg #[], clock⟩, clock + 1, by simp [hl], fun x hx => ?_⟩
      rw [Array.toList_push, List.mem_append] at hx
      rcases hx with hx | hx
      · obtain ⟨h5, q, h6, h7⟩ := hk x hx
        exact ⟨h5, q, h6, PlO.set (w := w.drewN n) h7 (hnb q h7)⟩
      · rw [List.mem_singleton.1 hx]
        exact ⟨rfl, p, rfl, PlO.set (w := w.drewN n) hp (hnb p hp)⟩
end Go.Proofs.Ytecaghjddoajmaa
