/-
  The document's disk as it lies; the small walks over it.
-/
import Derived.Test.YtnokibjhkdaamaaDPos
import Derived.Test.YtnokibjhkdaamaaDQuiet
import Derived.Lib.Strings
namespace Go.Proofs.Ytnokibjhkdaamaa
open Go.RowKit Go.Maps

/-- A file of the document's disk, and where its bytes lie. -/
structure Rf where
  f : Fi
  a : Option Addr
  c : Nat
def Rf.cs (r : Rf) : List Value := [.string ⟨r.f.n.toArray⟩, .slice r.a r.f.x.length r.c, .int .i64 (r.f.s : Nat)]
/-- The document's disk p lies in box R. -/
structure RAt (w : World) (R : Nat) (p : Pd) (rs : List Rf) (vl : Value) : Prop where
  box : BoxT 71 w R #[vl, .int .i64 p.room, .int .i64 p.left]
  eq : rs.map Rf.f = p.l
  row : LSeg 3 Rf.cs w.heap.size w vl rs
  data : ∀ r ∈ rs, Seg w (.slice r.a r.f.x.length r.c) r.f.x
  cap : ∃ ao c, vl = .slice ao rs.length c ∧ rs.length ≤ c ∧ c ≤ 9223372036854775807
theorem BoxT.cells3 {t : TypeId} {w : World} {k : Nat} {c0 c1 c2 : Value} (h : BoxT t w k #[c0, c1, c2]) :
    w.cell? ⟨k, 0, none⟩ = some c0 ∧ w.cell? ⟨k, 1, none⟩ = some c1 ∧ w.cell? ⟨k, 2, none⟩ = some c2 := by
  unfold BoxT at h
  simp [World.cell?, h]
theorem RAt.below {w w' : World} {R : Nat} {p : Pd} {rs : List Rf} {vl : Value} (h : RAt w R p rs vl) (hb : Below w.heap.size w w') : RAt w' R p rs vl := by
  refine ⟨?_, h.eq, (h.row.below hb).mono hb.size, fun r hr => (h.data r hr).below hb, h.cap⟩
  have hl := h.box.lt
  have := h.box
  unfold BoxT at *
  rw [hb.block R hl]; exact this
/-- What lies in a block apart from two others stays. -/
theorem Seg.far {w w' : World} {v : Value} {l : List Nat} (h : Seg w v l) {k b : Nat} (ht : Turned k b w w') (hk : ∀ j x, w.cell? ⟨k, j, none⟩ ≠ some (.int .u8 x)) (hb : ∀ j x, w.cell? ⟨b, j, none⟩ ≠ some (.int .u8 x)) : Seg w' v l := by
  obtain ⟨ao, cap, h1, h2, h3, h3', h4⟩ := h
  refine ⟨ao, cap, h1, h2, h3, h3', ?_⟩
  rcases h4 with h4 | ⟨g, off, h5, h6, h7⟩
  · exact .inl h4
  · by_cases h0 : l = []
    · exact .inl h0
    obtain ⟨x, hx⟩ : ∃ x, l[0]? = some x := ⟨_, List.getElem?_eq_getElem (by have := List.length_pos_iff.2 h0; omega)⟩
    have hc := h7 0 x hx
    have hgk : g ≠ k := by rintro rfl; exact hk _ _ hc
    have hgb : g ≠ b := by rintro rfl; exact hb _ _ hc
    exact .inr ⟨g, off, h5, Nat.lt_of_lt_of_le h6 ht.size, fun i x hi => (World.cell?_of_block (ht.block g h6 hgk hgb)).trans (h7 i x hi)⟩
theorem row_far {w w' : World} {v : Value} {rs : List Rf} (h : LSeg 3 Rf.cs w.heap.size w v rs) {k b : Nat} (ht : Turned k b w w') (hk : ∀ j x, w.cell? ⟨k, j, none⟩ ≠ some (.string x)) (hb : ∀ j x, w.cell? ⟨b, j, none⟩ ≠ some (.string x)) : LSeg 3 Rf.cs w'.heap.size w' v rs := by
  obtain ⟨ao, cap, h1, h2, h4⟩ := h
  refine ⟨ao, cap, h1, h2, ?_⟩
  rcases h4 with h4 | ⟨g, off, h5, h6, h7⟩
  · exact .inl h4
  · by_cases h0 : rs = []
    · exact .inl h0
    obtain ⟨r, hr⟩ : ∃ r, rs[0]? = some r := ⟨_, List.getElem?_eq_getElem (by have := List.length_pos_iff.2 h0; omega)⟩
    have hc := h7 0 r hr 0 _ rfl
    have hgk : g ≠ k := by rintro rfl; exact hk _ _ hc
    have hgb : g ≠ b := by rintro rfl; exact hb _ _ hc
    exact .inr ⟨g, off, h5, Nat.lt_of_lt_of_le h6 ht.size, fun i x hi j u hu => (World.cell?_of_block (ht.block g h6 hgk hgb)).trans (h7 i x hi j u hu)⟩
/-- What the cells of a box are. -/
theorem BoxT.none_of {t : TypeId} {w : World} {k : Nat} {cs : Array Value} (h : BoxT t w k cs) {v : Value} (hv : ∀ u ∈ cs.toList, u ≠ v) (j : Nat) : w.cell? ⟨k, j, none⟩ ≠ some v := by
  intro e
  unfold BoxT at h
  rw [World.cell?] at e
  dsimp only at e
  rw [h] at e
  dsimp only at e
  obtain ⟨hj, hx⟩ := Array.getElem?_eq_some_iff.1 e
  exact hv v (by rw [← hx]; simp) rfl
theorem map_none {w : World} {b n : Nat} {D : DataW Unit} (h : w.ownsMap Try.prog 9 fileR b n D) (j : Nat) (v : Value) : w.cell? ⟨b, j, none⟩ ≠ some v := by
  intro e
  obtain ⟨es, clock, hb, _⟩ := h
  rw [World.cell?] at e
  dsimp only at e
  rw [hb] at e
  cases e
theorem RAt.shape {w : World} {R : Nat} {p : Pd} {rs : List Rf} {vl : Value} (h : RAt w R p rs vl) : ∃ ao cap, vl = .slice ao rs.length cap := by
  obtain ⟨ao, cap, e, _⟩ := h.row
  exact ⟨ao, cap, e⟩
/-- The program's disk turns, the document's stays. -/
theorem RAt.turned {w w' : World} {R : Nat} {p : Pd} {rs : List Rf} {vl : Value} (h : RAt w R p rs vl) {k b n : Nat} {d : Dk} (hd : DiskAt w k b n d) (ht : Turned k b w w') : RAt w' R p rs vl := by
  have hRk : R ≠ k := by
    rintro rfl
    have e1 := h.box
    have e2 := hd.box
    unfold BoxT at e1 e2
    rw [e1] at e2
    simp at e2
  have hRb : R ≠ b := by
    rintro rfl
    obtain ⟨es, clock, hb, _⟩ := hd.map
    have e1 := h.box
    unfold BoxT at e1
    rw [e1] at hb
    cases hb
  refine ⟨?_, h.eq, row_far h.row ht (fun j x => hd.box.none_of (by simp) j) (fun j x => map_none hd.map j _), fun r hr => (h.data r hr).far ht (fun j x => hd.box.none_of (by simp) j) (fun j x => map_none hd.map j _), h.cap⟩
  have hl := h.box.lt
  have := h.box
  unfold BoxT at *
  rw [ht.block R hl hRk hRb]; exact this
/-- Nothing but box R has turned; there may be more. -/
abbrev TurnedR (R : Nat) (w w' : World) : Prop := Turned R R w w'
theorem St.ref {w0 w w' : World} {k b n : Nat} {p p' : Pd} (h : St w0 w k b n p) {R : Nat} {rs : List Rf} {vl : Value} (hr : RAt w R p' rs vl) (hR : w0.heap.size ≤ R) (ht : TurnedR R w w') : St w0 w' k b n p := by
  have hRk : k ≠ R := by
    rintro rfl
    have e1 := hr.box
    have e2 := h.d.at_.box
    unfold BoxT at e1 e2
    rw [e1] at e2
    simp at e2
  have hRb : b ≠ R := by
    rintro rfl
    obtain ⟨es, clock, hb, _⟩ := h.d.at_.map
    have e1 := hr.box
    unfold BoxT at e1
    rw [e1] at hb
    cases hb
  refine ⟨h.d.other ht hRk hRk hRb hRb, ⟨h.s.lk, h.s.lb, ⟨ht.os.trans h.s.below.os, ht.tape.trans h.s.below.tape, ht.output.trans h.s.below.output, Nat.le_trans h.s.below.size ht.size, fun i hi => ?_⟩⟩⟩
  rw [ht.block i (Nat.lt_of_lt_of_le hi h.s.below.size) (by omega) (by omega)]
  exact h.s.below.block i hi
/-- A number of the document's disk is stored. -/
theorem RAt.num {w : World} {R : Nat} {p : Pd} {rs : List Rf} {vl : Value} (h : RAt w R p rs vl) (j : Nat) (v : Value) (p' : Pd) (hp : p'.l = p.l) (hb : (#[vl, .int .i64 p.room, .int .i64 p.left] : Array Value).setIfInBounds j v = #[vl, .int .i64 p'.room, .int .i64 p'.left]) : RAt (w.setCell ⟨R, j, none⟩ v) R p' rs vl ∧ TurnedR R w (w.setCell ⟨R, j, none⟩ v) := by
  have ht : TurnedR R w (w.setCell ⟨R, j, none⟩ v) := Turned.set R R w j v
  obtain ⟨ao, cap, rfl⟩ := h.shape
  have n1 : ∀ j (x : ByteArray), w.cell? ⟨R, j, none⟩ ≠ some (.string x) := fun j x => h.box.none_of (by simp) j
  have n2 : ∀ j (x : Int), w.cell? ⟨R, j, none⟩ ≠ some (.int .u8 x) := fun j x => h.box.none_of (by simp) j
  refine ⟨⟨?_, h.eq.trans hp.symm, row_far h.row ht n1 n1, fun r hr => (h.data r hr).far ht n2 n2, h.cap⟩, ht⟩
  rw [← hb]
  exact h.box.set j v

set_option maxHeartbeats 400000 in
set_option maxRecDepth 100000 in
theorem rNew (w : World) (x : Int) (hx : (Lit.int .i64 x).wf = true) :
    Calls Try.prog 16 #[.int .i64 x] w fun e w' => e = .returned (.pointer (some ⟨w.heap.size, 0, none⟩)) ∧ RAt w' w.heap.size ⟨[], max x 0, -1⟩ [] (.slice none 0 0) ∧ Below w.heap.size w w' := by
  have hl := wf_out hx
  have HM : Hid (∀ r : Int, RAt (w.alloc (.cells #[.slice none 0 0, .int .i64 r, .int .i64 (-1)] 71)) w.heap.size ⟨[], r, -1⟩ [] (.slice none 0 0) ∧ Below w.heap.size w (w.alloc (.cells #[.slice none 0 0, .int .i64 r, .int .i64 (-1)] 71))) := fun r =>
    ⟨⟨BoxT.new 71 w _, rfl, ⟨none, 0, rfl, by simp, .inl rfl⟩, by simp, ⟨none, 0, rfl, by simp, by simp⟩⟩, (Below.refl _ _).alloc (Nat.le_refl _) _⟩
  by_cases h0 : 0 ≤ x
  · have em : max x 0 = x := by omega
    rw [em]
    go_enter Try.func16, Try.ntmps16
    go_wp2
    go_ret
    exact ⟨rfl, HM.out x⟩
  · have em : max x 0 = 0 := by omega
    rw [em]
    have h1 : x ≤ 0 := by omega
    go_enter Try.func16, Try.ntmps16
    go_wp2
    go_ret
    exact ⟨rfl, HM.out 0⟩
set_option maxHeartbeats 400000 in
set_option maxRecDepth 100000 in
theorem rDead {w : World} {R : Nat} {p : Pd} {rs : List Rf} {vl : Value} (h : RAt w R p rs vl) :
    Calls Try.prog 45 #[.pointer (some ⟨R, 0, none⟩)] w fun e w' => e = .returned (.bool (p.left == 0)) ∧ w' = w := by
  obtain ⟨c0, c1, c2⟩ := h.box.cells3
  clear h
  go_enter Try.func45, Try.ntmps45
  go_wp2
  go_ret
  exact ⟨rfl, rfl⟩
set_option maxHeartbeats 400000 in
set_option maxRecDepth 100000 in
theorem rDone {w : World} {R : Nat} {p : Pd} {rs : List Rf} {vl : Value} (h : RAt w R p rs vl) (hp : (Lit.int .i64 p.left).wf = true) :
    Calls Try.prog 50 #[.pointer (some ⟨R, 0, none⟩)] w fun e w' => e = .returned (.tuple #[]) ∧ RAt w' R p.done rs vl ∧ TurnedR R w w' := by
  obtain ⟨c0, c1, c2⟩ := h.box.cells3
  have f2 := h.box.free 2
  have hl := wf_out hp
  unfold Pd.done
  by_cases h0 : 0 < p.left
  · rw [if_pos h0]
    have HN := hide (h.num 2 (.int .i64 (p.left - 1)) { p with left := p.left - 1 } rfl rfl)
    have hw : wrap64 (p.left - 1) = p.left - 1 := by unfold wrap64; omega
    clear h
    go_enter Try.func50, Try.ntmps50
    go_wp2
    go_end0
    exact ⟨rfl, HN.out⟩
  · rw [if_neg h0]
    have HH := hide h
    clear h
    go_enter Try.func50, Try.ntmps50
    go_wp2
    go_end0
    exact ⟨rfl, HH.out, Turned.refl _ _ _⟩
set_option maxHeartbeats 400000 in
set_option maxRecDepth 100000 in
theorem rNamed (s : ByteArray) (w : World) : Calls Try.prog 46 #[.string s] w fun e w' => e = .returned (.bool (okName (nm s))) ∧ w' = w := by
  rw [← isNm_ok]
  unfold isNm
  by_cases h1 : 1 ≤ s.size
  · by_cases h2 : s.size ≤ 32
    · go_enter Try.func46, Try.ntmps46
      go_wp2
      go_ret
      exact ⟨ret_bool0 (by rw [Bool.eq_iff_iff]; simp <;> omega), rfl⟩
    · go_enter Try.func46, Try.ntmps46
      go_wp2
      go_ret
      exact ⟨ret_bool0 (by rw [Bool.eq_iff_iff]; simp <;> omega), rfl⟩
  · go_enter Try.func46, Try.ntmps46
    go_wp2
    go_ret
    exact ⟨ret_bool0 rfl, rfl⟩
set_option maxHeartbeats 400000 in
set_option maxRecDepth 100000 in
theorem rRoom {w : World} {R : Nat} {p : Pd} {rs : List Rf} {vl : Value} (h : RAt w R p rs vl) (x : Int) (hx : (Lit.int .i64 x).wf = true) :
    Calls Try.prog 31 #[.pointer (some ⟨R, 0, none⟩), .int .i64 x] w fun e w' => e = .returned (.tuple #[]) ∧ RAt w' R { p with room := max x 0 } rs vl ∧ TurnedR R w w' := by
  obtain ⟨c0, c1, c2⟩ := h.box.cells3
  have f1 := h.box.free 1
  have hl := wf_out hx
  have HN := hide (h.num 1 (.int .i64 (max x 0)) { p with room := max x 0 } rfl rfl)
  clear h
  go_enter Try.func31, Try.ntmps31
  go_wp2
  all_goals
    go_end0
    have h2 := HN.out
    first
      | (have em : max x 0 = x := by omega
         rw [em] at h2 ⊢
         exact ⟨rfl, h2⟩)
      | (have em : max x 0 = 0 := by omega
         rw [em] at h2 ⊢
         exact ⟨rfl, h2⟩)
      | exact ⟨rfl, h2⟩
set_option maxHeartbeats 400000 in
set_option maxRecDepth 100000 in
theorem rCut {w : World} {R : Nat} {p : Pd} {rs : List Rf} {vl : Value} (h : RAt w R p rs vl) (x : Int) (hx : (Lit.int .i64 x).wf = true) :
    Calls Try.prog 33 #[.pointer (some ⟨R, 0, none⟩), .int .i64 x] w fun e w' => e = .returned (.tuple #[]) ∧ RAt w' R { p with left := if p.left = 0 then 0 else max x (-1) } rs vl ∧ TurnedR R w w' := by
  have hd := rDead h
  obtain ⟨c0, c1, c2⟩ := h.box.cells3
  have f2 := h.box.free 2
  have hl := wf_out hx
  by_cases h0 : p.left = 0
  · rw [if_pos h0]
    have e2 : (p.left == 0) = true := by simp [h0]
    rw [e2] at hd
    have hpp : ({ p with left := 0 } : Pd) = p := by rw [← h0]
    rw [hpp]
    have HH := hide h
    clear h hpp
    go_enter Try.func33, Try.ntmps33
    go_wp2_with fail
    refine hd.mono ?_
    rintro e w1 ⟨rfl, rfl⟩
    go_wp2
    go_end0
    exact ⟨rfl, HH.out, Turned.refl _ _ _⟩
  · rw [if_neg h0]
    have e2 : (p.left == 0) = false := by simp [h0]
    rw [e2] at hd
    have HN := hide (h.num 2 (.int .i64 (max x (-1))) { p with left := max x (-1) } rfl rfl)
    clear h
    go_enter Try.func33, Try.ntmps33
    go_wp2_with fail
    refine hd.mono ?_
    rintro e w1 ⟨rfl, rfl⟩
    go_wp2
    all_goals
      go_end0
      have h2 := HN.out
      first
        | (have em : max x (-1) = x := by omega
           rw [em] at h2 ⊢
           exact ⟨rfl, h2⟩)
        | (have em : max x (-1) = -1 := by omega
           rw [em] at h2 ⊢
           exact ⟨rfl, h2⟩)
        | exact ⟨rfl, h2⟩
end Go.Proofs.Ytnokibjhkdaamaa
