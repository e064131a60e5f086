/-
  Check where nothing is too large, Eval, Text; what the law makes by two and konst.
-/
import Derived.Test.YtjdefmjcnpgjiaaDoorETextW
namespace Go.Proofs.YtjdefmjcnpgjiaaDoor
open Go.RowKit

/-- The lists of operands lie in rows that bear no mark. -/
def Free (w : World) (e : Ex) : Prop := ∀ x ∈ e.sub, x.l ≠ [] → ∃ b o cur t, x.a = some ⟨b, o, none⟩ ∧ w.heap[b]? = some (.cells cur t (0, 0))
theorem Free.below {w w' : World} {e : Ex} (h : Free w e) (hb : Below w.heap.size w w') : Free w' e := by
  intro x hx hl
  obtain ⟨b, o, cur, t, h1, h2⟩ := h x hx hl
  exact ⟨b, o, cur, t, h1, (hb.block b (Array.getElem?_eq_some_iff.1 h2).1).trans h2⟩
theorem Free.mk {w : World} {e : Ex} (h : e.l ≠ [] → ∃ b o cur t, e.a = some ⟨b, o, none⟩ ∧ w.heap[b]? = some (.cells cur t (0, 0))) (hk : ∀ x ∈ e.l, Free w x) : Free w e := by
  intro x hx
  rw [Ex.sub_eq] at hx
  rcases List.mem_cons.1 hx with rfl | hx
  · exact h
  · obtain ⟨z, hz, hx⟩ := List.mem_flatMap.1 hx
    exact hk z hz x hx
/-- An expression that has no operands, and no list. -/
def leaf (op n : Int) : Ex := ⟨op, n, none, 0, []⟩
theorem leaf_in {w : World} {op n : Int} (h1 : -9223372036854775808 ≤ op) (h2 : op ≤ 9223372036854775807) (h3 : -9223372036854775808 ≤ n) (h4 : n ≤ 9223372036854775807) : In w (leaf op n) :=
  In.mk ⟨h1, h2, h3, h4, by simp [leaf], by simp [leaf], fun i x hx => by simp [leaf] at hx⟩ (fun x hx => by simp [leaf] at hx)
theorem leaf_free (w : World) (op n : Int) : Free w (leaf op n) := Free.mk (fun h => absurd rfl h) (fun x hx => by simp [leaf] at hx)
def mk2 (op : Int) (g : Nat) (a b : Ex) : Ex := ⟨op, 0, some ⟨g, 0, none⟩, 2, [a, b]⟩
def mk3 (op : Int) (g : Nat) (a b c : Ex) : Ex := ⟨op, 0, some ⟨g, 0, none⟩, 3, [a, b, c]⟩
theorem mk2_in {w : World} {g : Nat} {op : Int} {a b : Ex} {t : TypeId} (h1 : -9223372036854775808 ≤ op) (h2 : op ≤ 9223372036854775807) (ha : In w a) (hb : In w b)
    (hr : w.heap[g]? = some (.cells #[.int .i64 a.op, .int .i64 a.n, .slice a.a a.l.length a.c, .int .i64 b.op, .int .i64 b.n, .slice b.a b.l.length b.c] t (0, 0))) : In w (mk2 op g a b) := by
  refine In.mk ⟨h1, h2, by simp [mk2], by simp [mk2], by simp [mk2], by simp [mk2], fun i x hx => ?_⟩ (fun x hx => ?_)
  · refine ⟨g, 0, rfl, ?_⟩
    simp only [mk2] at hx
    have hi : i = 0 ∨ i = 1 := by
      have := (List.getElem?_eq_some_iff.1 hx).1
      simp at this
      omega
    rcases hi with rfl | rfl
    · obtain rfl : a = x := by simpa using hx
      simp [World.cell?, hr]
    · obtain rfl : b = x := by simpa using hx
      simp [World.cell?, hr]
  · simp only [mk2, List.mem_cons, List.not_mem_nil, or_false] at hx
    rcases hx with rfl | rfl
    · exact ha
    · exact hb
theorem mk2_free {w : World} {g : Nat} {op : Int} {a b : Ex} {t : TypeId} {cur : Array Value} (ha : Free w a) (hb : Free w b) (hr : w.heap[g]? = some (.cells cur t (0, 0))) : Free w (mk2 op g a b) := by
  refine Free.mk (fun _ => ⟨g, 0, _, _, rfl, hr⟩) (fun x hx => ?_)
  simp only [mk2, List.mem_cons, List.not_mem_nil, or_false] at hx
  rcases hx with rfl | rfl
  · exact ha
  · exact hb
theorem mk3_in {w : World} {g : Nat} {op : Int} {a b c : Ex} {t : TypeId} (h1 : -9223372036854775808 ≤ op) (h2 : op ≤ 9223372036854775807) (ha : In w a) (hb : In w b) (hc : In w c)
    (hr : w.heap[g]? = some (.cells #[.int .i64 a.op, .int .i64 a.n, .slice a.a a.l.length a.c, .int .i64 b.op, .int .i64 b.n, .slice b.a b.l.length b.c, .int .i64 c.op, .int .i64 c.n, .slice c.a c.l.length c.c] t (0, 0))) : In w (mk3 op g a b c) := by
  refine In.mk ⟨h1, h2, by simp [mk3], by simp [mk3], by simp [mk3], by simp [mk3], fun i x hx => ?_⟩ (fun x hx => ?_)
  · refine ⟨g, 0, rfl, ?_⟩
    simp only [mk3] at hx
    have hi : i = 0 ∨ i = 1 ∨ i = 2 := by
      have := (List.getElem?_eq_some_iff.1 hx).1
      simp at this
      omega
    rcases hi with rfl | rfl | rfl
    · obtain rfl : a = x := by simpa using hx
      simp [World.cell?, hr]
    · obtain rfl : b = x := by simpa using hx
      simp [World.cell?, hr]
    · obtain rfl : c = x := by simpa using hx
      simp [World.cell?, hr]
  · simp only [mk3, List.mem_cons, List.not_mem_nil, or_false] at hx
    rcases hx with rfl | rfl | rfl
    · exact ha
    · exact hb
    · exact hc
theorem mk3_free {w : World} {g : Nat} {op : Int} {a b c : Ex} {t : TypeId} {cur : Array Value} (ha : Free w a) (hb : Free w b) (hc : Free w c) (hr : w.heap[g]? = some (.cells cur t (0, 0))) : Free w (mk3 op g a b c) := by
  refine Free.mk (fun _ => ⟨g, 0, _, _, rfl, hr⟩) (fun x hx => ?_)
  simp only [mk3, List.mem_cons, List.not_mem_nil, or_false] at hx
  rcases hx with rfl | rfl | rfl
  · exact ha
  · exact hb
  · exact hc

/-- The blocks where lists of operands lie. -/
def offB (K : Nat) (e : Ex) : Prop := ∀ x ∈ e.sub, ∀ b o, x.a = some ⟨b, o, none⟩ → b ≠ K
theorem offB.leaf (K : Nat) (op n : Int) : offB K (leaf op n) := by
  intro x hx b o h
  rw [Ex.sub_eq] at hx
  simp [YtjdefmjcnpgjiaaDoor.leaf] at hx
  subst hx
  cases h
theorem offB.mk2 {K g : Nat} {op : Int} {a b : Ex} (h : g ≠ K) (ha : offB K a) (hb : offB K b) : offB K (mk2 op g a b) := by
  intro x hx q o e
  rw [Ex.sub_eq] at hx
  rcases List.mem_cons.1 hx with rfl | hx
  · simp only [YtjdefmjcnpgjiaaDoor.mk2, Option.some.injEq, Addr.mk.injEq] at e
    omega
  · obtain ⟨z, hz, hz'⟩ := List.mem_flatMap.1 hx
    simp only [YtjdefmjcnpgjiaaDoor.mk2, List.mem_cons, List.not_mem_nil, or_false] at hz
    rcases hz with rfl | rfl
    · exact ha x hz' q o e
    · exact hb x hz' q o e
theorem offB.mk3 {K g : Nat} {op : Int} {a b c : Ex} (h : g ≠ K) (ha : offB K a) (hb : offB K b) (hc : offB K c) : offB K (mk3 op g a b c) := by
  intro x hx q o e
  rw [Ex.sub_eq] at hx
  rcases List.mem_cons.1 hx with rfl | hx
  · simp only [YtjdefmjcnpgjiaaDoor.mk3, Option.some.injEq, Addr.mk.injEq] at e
    omega
  · obtain ⟨z, hz, hz'⟩ := List.mem_flatMap.1 hx
    simp only [YtjdefmjcnpgjiaaDoor.mk3, List.mem_cons, List.not_mem_nil, or_false] at hz
    rcases hz with rfl | rfl | rfl
    · exact ha x hz' q o e
    · exact hb x hz' q o e
    · exact hc x hz' q o e
/-- What lies in no box that has turned lies on. -/
theorem In.off {w w' : World} {e : Ex} {K : Nat} (h : In w e) (hk : offB K e) (hw : ∀ b, b ≠ K → b < w.heap.size → w'.heap[b]? = w.heap[b]?) : In w' e := by
  intro x hx
  have hl := h x hx
  refine ⟨hl.op1, hl.op2, hl.n1, hl.n2, hl.len, hl.cap, fun i y hy => ?_⟩
  obtain ⟨b, o, h1, h2, h3, h4⟩ := hl.at_ i y hy
  have hb := hw b (hk x hx b o h1) (cell_lt h2)
  refine ⟨b, o, h1, ?_, ?_, ?_⟩ <;> simp only [World.cell?, hb] at * <;> assumption
theorem Free.off {w w' : World} {e : Ex} {K : Nat} (h : Free w e) (hk : offB K e) (hw : ∀ b, b ≠ K → b < w.heap.size → w'.heap[b]? = w.heap[b]?) : Free w' e := by
  intro x hx hl
  obtain ⟨b, o, cur, t, h1, h2⟩ := h x hx hl
  exact ⟨b, o, cur, t, h1, (hw b (hk x hx b o h1) (Array.getElem?_eq_some_iff.1 h2).1).trans h2⟩
/-- A box of three cells, known whole. -/
def Bx (w : World) (K : Nat) (c0 c1 c2 : Value) : Prop := w.heap[K]? = some (.cells #[c0, c1, c2] 24 (0, 0))
theorem Bx.lt {w : World} {K : Nat} {c0 c1 c2 : Value} (h : Bx w K c0 c1 c2) : K < w.heap.size := (Array.getElem?_eq_some_iff.1 h).1
theorem Bx.cells {w : World} {K : Nat} {c0 c1 c2 : Value} (h : Bx w K c0 c1 c2) : w.cell? ⟨K, 0, none⟩ = some c0 ∧ w.cell? ⟨K, 1, none⟩ = some c1 ∧ w.cell? ⟨K, 2, none⟩ = some c2 := by
  unfold Bx at h
  simp [World.cell?, h]
theorem Bx.free {w : World} {K : Nat} {c0 c1 c2 : Value} (h : Bx w K c0 c1 c2) (j : Nat) : w.frozen? ⟨K, j, none⟩ = false := by
  unfold Bx at h
  simp [World.frozen?, h]
theorem Bx.below {w w' : World} {K : Nat} {c0 c1 c2 : Value} (h : Bx w K c0 c1 c2) (hb : Below w.heap.size w w') : Bx w' K c0 c1 c2 := (hb.block K h.lt).trans h
theorem Bx.new (w : World) (c0 c1 c2 : Value) : Bx (w.alloc (.cells #[c0, c1, c2] 24)) w.heap.size c0 c1 c2 := heap_alloc_new w _
theorem Bx.tri {w : World} {K : Nat} {c0 c1 c2 : Value} (h : Bx w K c0 c1 c2) : Tri w K c0 c1 c2 := ⟨h.cells.1, h.cells.2.1, h.cells.2.2⟩

set_option maxHeartbeats 1000000 in
set_option maxRecDepth 100000 in
theorem konst_any (n : Int) (w : World) : Calls Tryd.prog 19 #[.int .i64 n] w fun r w' => r = .returned (.agg #[.int .i64 1, .int .i64 n, .slice none 0 0]) ∧ Below w.heap.size w w' := by
  go_enter Tryd.func19, Tryd.ntmps19
  go_wp2
  exact bodyPost_ret (v := .agg #[.int .i64 1, .int .i64 n, .slice none 0 0]) (by simp [results, Tryd.results19, go_sem]) rfl ⟨rfl, (Below.refl _ _).alloc (Nat.le_refl _) _⟩

set_option maxHeartbeats 1000000 in
set_option maxRecDepth 100000 in
theorem two_any {w : World} (op : Int) (a b : Ex) (h1 : -9223372036854775808 ≤ op) (h2 : op ≤ 9223372036854775807) (ha : In w a) (hb : In w b) :
    Calls Tryd.prog 17 #[.int .i64 op, a.val, b.val] w fun r w' => ∃ g, r = .returned (.agg #[.int .i64 op, .int .i64 0, .slice (some ⟨g, 0, none⟩) 2 2]) ∧ In w' (mk2 op g a b) ∧ (Free w a → Free w b → Free w' (mk2 op g a b)) ∧ w.heap.size ≤ g ∧ Below w.heap.size w w' := by
  have HA := hide ha
  have HB := hide hb
  clear ha hb
  obtain ⟨ao, an, aa, ac, al⟩ := a
  obtain ⟨bo, bn, ba, bc, bl⟩ := b
  unfold Ex.val
  simp only
  go_enter Tryd.func17, Tryd.ntmps17
  go_wp2
  refine bodyPost_ret (v := .agg #[.int .i64 op, .int .i64 0, .slice (some ⟨w.heap.size + 1 + 1 + 1, 0, none⟩) 2 2]) (by simp [results, Tryd.results17, go_sem]) rfl ⟨w.heap.size + 1 + 1 + 1, rfl, ?_⟩
  have hbl : Below w.heap.size w ((((w.alloc (.cells #[.int .i64 ao, .int .i64 an, .slice aa al.length ac] 24)).alloc (.cells #[.int .i64 bo, .int .i64 bn, .slice ba bl.length bc] 24)).alloc
      (.cells #[.int .i64 op, .int .i64 0, .slice (some ⟨w.heap.size + 1 + 1 + 1, 0, none⟩) 2 2] 24)).alloc (.cells #[.int .i64 ao, .int .i64 an, .slice aa al.length ac, .int .i64 bo, .int .i64 bn, .slice ba bl.length bc] 24)) :=
    ((((Below.refl _ _).alloc (Nat.le_refl _) _).alloc (by simp) _).alloc (by simp; omega) _).alloc (by simp; omega) _
  have hrow : ((((w.alloc (.cells #[.int .i64 ao, .int .i64 an, .slice aa al.length ac] 24)).alloc (.cells #[.int .i64 bo, .int .i64 bn, .slice ba bl.length bc] 24)).alloc
      (.cells #[.int .i64 op, .int .i64 0, .slice (some ⟨w.heap.size + 1 + 1 + 1, 0, none⟩) 2 2] 24)).alloc (.cells #[.int .i64 ao, .int .i64 an, .slice aa al.length ac, .int .i64 bo, .int .i64 bn, .slice ba bl.length bc] 24)).heap[w.heap.size + 1 + 1 + 1]? =
      some (.cells #[.int .i64 ao, .int .i64 an, .slice aa al.length ac, .int .i64 bo, .int .i64 bn, .slice ba bl.length bc] 24 (0, 0)) := by
    have := heap_alloc_new (((w.alloc (.cells #[.int .i64 ao, .int .i64 an, .slice aa al.length ac] 24)).alloc (.cells #[.int .i64 bo, .int .i64 bn, .slice ba bl.length bc] 24)).alloc
      (.cells #[.int .i64 op, .int .i64 0, .slice (some ⟨w.heap.size + 1 + 1 + 1, 0, none⟩) 2 2] 24)) (.cells #[.int .i64 ao, .int .i64 an, .slice aa al.length ac, .int .i64 bo, .int .i64 bn, .slice ba bl.length bc] 24)
    simpa using this
  exact ⟨mk2_in h1 h2 (HA.out.below hbl) (HB.out.below hbl) hrow, fun f1 f2 => mk2_free (f1.below hbl) (f2.below hbl) hrow, by omega, hbl⟩

set_option maxHeartbeats 1000000 in
set_option maxRecDepth 100000 in
/-- Check, where nothing is too large. -/
theorem check_few {w : World} (e : Ex) (hin : In w e) (hn : (cnt e 1 0).2 ≠ 71) :
    Calls Tryd.prog 11 #[e.val] w fun r w' => r = .returned (.int .i64 (chk e)) ∧ Below w.heap.size w w' := by
  have hb0 := below1 w (.cells #[.int .i64 e.op, .int .i64 e.n, .slice e.a e.l.length e.c] 24)
  have hct := hide (count_any e _ 1 0 (hin.below hb0) (by omega) (by omega) (by omega) (by omega))
  have HB := hide hb0
  have hc : (cnt e 1 0).2 = chk e := by
    rcases chk_of e with ⟨h1, h2⟩ | ⟨h1, h2⟩ | ⟨h1, _⟩
    · rw [h1, h2]
    · rw [h1, h2]
    · exact absurd h1 hn
  rw [hc] at hct hn
  clear hc hb0 hin
  obtain ⟨eo, en, ea, ec, el⟩ := e
  unfold Ex.val at hct ⊢
  simp only at hct HB ⊢
  generalize chk ⟨eo, en, ea, ec, el⟩ = ck at *
  generalize (cnt ⟨eo, en, ea, ec, el⟩ 1 0).1 = cn at *
  have hn1 : (ck == 71) = false := by simp [hn]
  go_enter Tryd.func11, Tryd.ntmps11
  go_wp2_with (go_at_call 24; refine hct.out.mono ?_; rintro e w2 ⟨rfl, hb2⟩)
  go_ret
  exact ⟨rfl, HB.out.trans (hb2.mono HB.out.size)⟩

set_option maxHeartbeats 1000000 in
set_option maxRecDepth 100000 in
/-- Eval of what Check tells of. -/
theorem eval_of {w : World} (e : Ex) (r : Rc) (hin : In w e) (hck : ∀ w', In w' e → Calls Tryd.prog 11 #[e.val] w' fun r w'' => r = .returned (.int .i64 (chk e)) ∧ Below w'.heap.size w' w'') :
    Calls Tryd.prog 12 #[e.val, r.val] w fun v w' => v = .returned (.int .i64 (if chk e = 0 then evl r e else 0)) ∧ Below w.heap.size w w' := by
  have hbb : Below w.heap.size w ((w.alloc (.cells #[.int .i64 e.op, .int .i64 e.n, .slice e.a e.l.length e.c] 24)).alloc (.cells #[.int .i64 r.k, .int .i64 r.t, .int .i64 r.v] 26)) :=
    ((Below.refl _ _).alloc (Nat.le_refl _) _).alloc (by simp) _
  have HB := hide hbb
  have hc := hide (hck _ (hin.below hbb))
  have hf : chk e = 0 → formed e = true := by
    unfold chk
    intro h
    cases hfe : formed e
    · rw [hfe] at h; simp at h
    · rfl
  have hv : chk e = 0 → Hid (∀ w', In w' e → Calls Tryd.prog 26 #[e.val, r.val] w' fun v w'' => v = .returned (.int .i64 (evl r e)) ∧ Below w'.heap.size w' w'') := fun h w' h' => value_any r e w' h' (hf h)
  have HI := hide (hin.below hbb)
  have t2 : Tri ((w.alloc (.cells #[.int .i64 e.op, .int .i64 e.n, .slice e.a e.l.length e.c] 24)).alloc (.cells #[.int .i64 r.k, .int .i64 r.t, .int .i64 r.v] 26)) w.heap.size (.int .i64 e.op) (.int .i64 e.n) (.slice e.a e.l.length e.c) :=
    (Tri.new w _ _ _ 24).below ((Below.refl _ _).alloc (Nat.le_refl _) _)
  have t3 : Tri ((w.alloc (.cells #[.int .i64 e.op, .int .i64 e.n, .slice e.a e.l.length e.c] 24)).alloc (.cells #[.int .i64 r.k, .int .i64 r.t, .int .i64 r.v] 26)) (w.heap.size + 1) (.int .i64 r.k) (.int .i64 r.t) (.int .i64 r.v) := by
    have := Tri.new (w.alloc (.cells #[.int .i64 e.op, .int .i64 e.n, .slice e.a e.l.length e.c] 24)) (.int .i64 r.k) (.int .i64 r.t) (.int .i64 r.v) 26
    simpa using this
  have T2 := hide t2
  have T3 := hide t3
  clear hbb hin hck hf t2 t3
  obtain ⟨eo, en, ea, ec, el⟩ := e
  obtain ⟨rk, rt, rv⟩ := r
  unfold Ex.val Rc.val at *
  simp only at hc HB T2 T3 ⊢
  generalize chk ⟨eo, en, ea, ec, el⟩ = ck at *
  generalize evl ⟨rk, rt, rv⟩ ⟨eo, en, ea, ec, el⟩ = vl at *
  by_cases h0 : ck = 0
  · have hv' := hv h0
    clear hv
    subst h0
    rw [if_pos rfl]
    go_enter Tryd.func12, Tryd.ntmps12
    go_wp2_with (first
      | (go_at_call 11; refine hc.out.mono ?_; clear hc; rintro e w2 ⟨rfl, hb2⟩
         have HB2 := hide hb2
         have hvc := hide (hv'.out _ (HI.out.below hb2))
         obtain ⟨p0, p1, p2⟩ := T2.out.below hb2
         obtain ⟨r0, r1, r2⟩ := T3.out.below hb2
         clear hb2)
      | (go_at_call 26; refine hvc.out.mono ?_; rintro e w3 ⟨rfl, hb3⟩))
    go_ret
    have hb4 := HB.out.trans (HB2.out.mono HB.out.size)
    exact ⟨rfl, hb4.trans (hb3.mono hb4.size)⟩
  · have h1 : (ck != 0) = true := by simp [h0]
    have h2 : (ck == 0) = false := by simp [h0]
    rw [if_neg h0]
    clear hv
    go_enter Tryd.func12, Tryd.ntmps12
    go_wp2_with (go_at_call 11; refine hc.out.mono ?_; clear hc; rintro e w2 ⟨rfl, hb2⟩)
    go_ret
    exact ⟨rfl, HB.out.trans (hb2.mono HB.out.size)⟩

set_option maxHeartbeats 1000000 in
set_option maxRecDepth 100000 in
/-- Text of what Check tells of. -/
theorem ftext_of {w : World} (e : Ex) (hin : In w e) (hg : Glob w) (hck : ∀ w', In w' e → Calls Tryd.prog 11 #[e.val] w' fun r w'' => r = .returned (.int .i64 (chk e)) ∧ Below w'.heap.size w' w'') :
    Calls Tryd.prog 13 #[e.val] w fun v w' => v = .returned (.string ⟨(if chk e = 0 then txt e else []).toArray⟩) ∧ Below w.heap.size w w' := by
  have hb0 := below1 w (.cells #[.int .i64 e.op, .int .i64 e.n, .slice e.a e.l.length e.c] 24)
  have HB := hide hb0
  have hc := hide (hck _ (hin.below hb0))
  have hf : chk e = 0 → formed e = true ∧ size e ≤ 1000 := by
    unfold chk
    intro h
    cases hfe : formed e
    · rw [hfe] at h; simp at h
    · rw [hfe, if_neg (by decide)] at h
      refine ⟨rfl, ?_⟩
      by_cases hs : 32 < size e ∨ 8 < dep e
      · rw [if_pos hs] at h; cases h
      · omega
  have hv : chk e = 0 → Hid (∀ w', In w' e → Glob w' → Calls Tryd.prog 27 #[e.val] w' fun v w'' => v = .returned (.string ⟨(txt e).toArray⟩) ∧ Below w'.heap.size w' w'') := fun h w' h' hg' => text_any e w' h' (hf h).1 (hf h).2 hg'
  have HI := hide (hin.below hb0)
  have HG := hide (hg.below hb0)
  have T2 := hide (Tri.new w (.int .i64 e.op) (.int .i64 e.n) (.slice e.a e.l.length e.c) 24)
  clear hb0 hin hck hf hg
  obtain ⟨eo, en, ea, ec, el⟩ := e
  unfold Ex.val at *
  simp only at hc HB T2 ⊢
  generalize chk ⟨eo, en, ea, ec, el⟩ = ck at *
  generalize txt ⟨eo, en, ea, ec, el⟩ = tx at *
  by_cases h0 : ck = 0
  · have hv' := hv h0
    clear hv
    subst h0
    rw [if_pos rfl]
    go_enter Tryd.func13, Tryd.ntmps13
    go_wp2_with (first
      | (go_at_call 11; refine hc.out.mono ?_; clear hc; rintro e w2 ⟨rfl, hb2⟩
         have HB2 := hide hb2
         have hvc := hide (hv'.out _ (HI.out.below hb2) (HG.out.below hb2))
         obtain ⟨p0, p1, p2⟩ := T2.out.below hb2
         clear hb2)
      | (go_at_call 27; refine hvc.out.mono ?_; rintro e w3 ⟨rfl, hb3⟩))
    go_ret
    have hb4 := HB.out.trans (HB2.out.mono HB.out.size)
    exact ⟨rfl, hb4.trans (hb3.mono hb4.size)⟩
  · have h1 : (ck != 0) = true := by simp [h0]
    have h2 : (ck == 0) = false := by simp [h0]
    rw [if_neg h0]
    clear hv
    go_enter Tryd.func13, Tryd.ntmps13
    go_wp2_with (go_at_call 11; refine hc.out.mono ?_; clear hc; rintro e w2 ⟨rfl, hb2⟩)
    go_ret
    exact ⟨rfl, HB.out.trans (hb2.mono HB.out.size)⟩
end Go.Proofs.YtjdefmjcnpgjiaaDoor
