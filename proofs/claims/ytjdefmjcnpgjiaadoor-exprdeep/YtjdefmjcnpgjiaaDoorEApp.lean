/-
  append to a slice that begins within a row of the call's own.
-/
import Derived.Test.YtjdefmjcnpgjiaaDoorEDeep
namespace Go.Proofs.YtjdefmjcnpgjiaaDoor
open Go.RowKit

/-- A slice of n things of three cells each, in a row from block base on that bears no mark. -/
def At3 (w : World) (base : Nat) (v : Value) (n : Nat) (xs : List Value) : Prop :=
  ∃ g off cap cur, v = .slice (some ⟨g, off, none⟩) n cap ∧ base ≤ g ∧ w.heap[g]? = some (.cells cur 24 (0, 0)) ∧ n ≤ cap ∧ cap ≤ maxLen ∧ off + cap * 3 ≤ cur.size ∧ xs.length = n * 3 ∧ ∀ j, j < n * 3 → cur[off + j]? = xs[j]?
theorem run_room_at (w : World) (t ty e : TypeId) (i : TypeInfo) (ht : Tryd.prog.underlying t = some (.slice e)) (hi : Tryd.prog.info? e = some i)
    (g off sLen sCap : Nat) (cur : Array Value) (hg : w.heap[g]? = some (.cells cur e (0, 0)))
    (a : Addr) (m c : Nat) (news : List Value) (hl : news.length = m * i.size) (hnews : ∀ j u, news[j]? = some u → w.cell? (a.add j) = some u) (h1 : ∀ u ∈ news, u.oneCell' = true)
    (hroom : sLen + m ≤ sCap) (hfit : off + sLen * i.size + news.length ≤ cur.size) :
    (Builtin.append_ #[t, t] ty #[.slice (some ⟨g, off, none⟩) sLen sCap, .slice (some a) m c]).run Tryd.prog w =
      .ok (.slice (some ⟨g, off, none⟩) (sLen + m) sCap) (w.setRow g (cur.toList.take (off + sLen * i.size) ++ news ++ cur.toList.drop (off + sLen * i.size + news.length)).toArray) := by
  have hf := run_firstCells_some (P := Tryd.prog) w i.size m a m c news hl hnews
  have hst := run_storeCells_at Tryd.prog g (off + sLen * i.size) e news 0 cur w hg (by simpa using hfit) h1
  simp only [Nat.add_zero] at hst
  simp [Builtin.append_, run_underlying ht, sizeOf, typeInfo, hi, Builtin.lenOf, hroom, hf, Addr.add_lit, hst]
theorem run_app_at {w : World} {base : Nat} {v : Value} {n : Nat} {xs : List Value} (h : At3 w base v n xs) (ty : TypeId) (a : Addr) (c : Nat) (news : List Value) (hl : news.length = 3) (hnews : ∀ j u, news[j]? = some u → w.cell? (a.add j) = some u) (h1 : ∀ u ∈ news, u.oneCell' = true)
    (hn : n ≤ 1000000) (hbase : base ≤ w.heap.size) :
    ∃ v' w', (Builtin.append_ #[22, 22] ty #[v, .slice (some a) 1 c]).run Tryd.prog w = .ok v' w' ∧ At3 w' base v' (n + 1) (xs ++ news) ∧ w.grownBy w' v.ownBlock ∧ (v'.ownBlock = v.ownBlock ∨ v'.ownBlock = some w.heap.size) ∧
      ∀ g off cap, v = .slice (some ⟨g, off, none⟩) n cap → ∀ j, j < off ∨ cap ≤ n → w'.cell? ⟨g, j, none⟩ = w.cell? ⟨g, j, none⟩ := by
  obtain ⟨i, hi, hz⟩ := Option.map_eq_some_iff.1 Tryd.info24r
  simp only [Prod.mk.injEq] at hz
  obtain ⟨hz0, hz1, hz2⟩ := hz
  obtain ⟨g, off, cap, cur, rfl, hb, hg, hc1, hc2, hc3, hxl, hx⟩ := h
  by_cases hroom : n + 1 ≤ cap
  · have hr := run_room_at w 22 ty 24 i Tryd.underlying22 hi g off n cap cur hg a 1 c news (by rw [hz1, hl]) hnews h1 hroom (by rw [hz1, hl]; omega)
    rw [hz1, hl] at hr
    refine ⟨_, _, hr, ⟨g, off, cap, _, rfl, hb, setRow_heap w g cur _ 24 _ hg, hroom, hc2, ?_, ?_, ?_⟩, ⟨rfl, rfl, rfl, by simp, fun k _ hk => setRow_other w g k _ (fun e => hk (by simp [Value.ownBlock, e]))⟩, .inl rfl, ?_⟩
    · simp only [List.size_toArray, List.length_append, List.length_take, List.length_drop, Array.length_toList]
      omega
    · rw [List.length_append, hxl, hl]; omega
    · intro j hj
      rw [List.getElem?_toArray]
      by_cases hjn : j < n * 3
      · rw [List.append_assoc, List.getElem?_append_left (by rw [List.length_take, Array.length_toList]; omega), List.getElem?_take_of_lt (by omega), Array.getElem?_toList, hx j hjn, List.getElem?_append_left (by omega)]
      · rw [List.append_assoc, List.getElem?_append_right (by rw [List.length_take, Array.length_toList]; omega), List.getElem?_append_left (by rw [List.length_take, Array.length_toList]; omega), List.getElem?_append_right (by omega), List.length_take, Array.length_toList, hxl]
        congr 1
        omega
    · intro g' off' cap' e j hj
      simp only [Value.slice.injEq, Option.some.injEq, Addr.mk.injEq] at e
      obtain ⟨⟨rfl, rfl, _⟩, _, rfl⟩ := e
      simp only [World.cell?, setRow_heap w g cur _ 24 _ hg, hg]
      rw [List.getElem?_toArray, List.append_assoc, List.getElem?_append_left (by rw [List.length_take, Array.length_toList]; omega), List.getElem?_take_of_lt (by omega), Array.getElem?_toList]
  · have holds : ∀ j u, xs[j]? = some u → w.cell? ((⟨g, off, none⟩ : Addr).add j) = some u := fun j u hu => by
      have hj := (List.getElem?_eq_some_iff.1 hu).1
      rw [Addr.add_lit]
      simp only [World.cell?, hg]
      rw [hx j (by omega)]
      exact hu
    have hr := run_append_grow (P := Tryd.prog) w 22 ty 24 i _ Tryd.underlying22 hi hz0 ⟨g, off, none⟩ n cap xs (by rw [hz1, hxl]) holds a 1 c news (by rw [hz1, hl]) hnews (by omega) (by unfold maxLen at hc2; omega) (growslice_fits (by omega) (by rw [hz2]; omega))
    have hge := grownCap_ge w (n + 1) cap 24
    refine ⟨_, _, hr, ⟨w.heap.size, 0, _, _, rfl, hbase, heap_alloc_new w.drew _, hge, grownCap_le_maxLen w (n + 1) cap 24 (by unfold maxLen; omega), ?_, ?_, ?_⟩, ⟨rfl, rfl, rfl, by simp, fun k hk _ => heap_alloc_old w.drew _ hk⟩, .inr rfl, ?_⟩
    · simp only [Array.size_append, List.size_toArray, size_zeroCells, hxl, hl]
      show _ ≤ n * 3 + 3 + _ * 3
      omega
    · rw [List.length_append, hxl, hl]; omega
    · intro j hj
      rw [Nat.zero_add, Array.getElem?_append_left (by simp [hxl, hl]; omega)]
      simp
    · intro g' off' cap' e j hj
      simp only [Value.slice.injEq, Option.some.injEq, Addr.mk.injEq] at e
      obtain ⟨⟨rfl, rfl, _⟩, _, rfl⟩ := e
      have hgl : g < w.drew.heap.size := (Array.getElem?_eq_some_iff.1 hg).1
      have hgg : (w.drew).heap[g]? = some (.cells cur 24 (0, 0)) := hg
      simp only [World.cell?, hg]
      rw [heap_alloc_old w.drew _ hgl, hgg]
end Go.Proofs.YtjdefmjcnpgjiaaDoor
