/-
  A gate as it lies; its small calls.
-/
import Derived.Test.YtmipgfobggbndaaGRow
namespace Go.Proofs.Ytmipgfobggbndaa
open Go.RowKit

/-- A frame. -/
structure Fr where
  kd : Int
  ke : Int
  ti : Int
  va : Int
  ma : Int
  n : Int
  ov : Bool
def Fr.cs (x : Fr) : List Value := [.int .i64 x.kd, .int .i64 x.ke, .int .i64 x.ti, .int .i64 x.va, .int .i64 x.ma, .int .u64 x.n, .bool x.ov]
def Fr.val (x : Fr) : Value := .agg #[.int .i64 x.kd, .int .i64 x.ke, .int .i64 x.ti, .int .i64 x.va, .int .i64 x.ma, .int .u64 x.n, .bool x.ov]
/-- A frame that was captured. -/
structure Ou where
  ch : Int
  f : Fr
def Ou.cs (x : Ou) : List Value := [.int .i64 x.ch, .int .i64 x.f.kd, .int .i64 x.f.ke, .int .i64 x.f.ti, .int .i64 x.f.va, .int .i64 x.f.ma, .int .u64 x.f.n, .bool x.f.ov]
/-- A step. -/
structure Sn where
  kd : Int
  ke : Int
  ti : Int
  va : Int
  ma : Int
  n : Int
  fu : Int
def Sn.val (x : Sn) : Value := .agg #[.int .i64 x.kd, .int .i64 x.ke, .int .i64 x.ti, .int .i64 x.va, .int .i64 x.ma, .int .u64 x.n, .int .u64 x.fu]
def Sn.none : Sn := ⟨0, 0, 0, 0, 0, 0, 0⟩
theorem Fr.cs_len (x : Fr) : x.cs.length = 7 := rfl
theorem Ou.cs_len (x : Ou) : x.cs.length = 8 := rfl
theorem Fr.cs_one (n : Fr) : ∀ u ∈ n.cs, u.oneCell' = true := by
  intro u hu
  simp only [Fr.cs, List.mem_cons, List.not_mem_nil, or_false] at hu
  rcases hu with rfl | rfl | rfl | rfl | rfl | rfl | rfl <;> rfl
theorem Ou.cs_one (n : Ou) : ∀ u ∈ n.cs, u.oneCell' = true := by
  intro u hu
  simp only [Ou.cs, List.mem_cons, List.not_mem_nil, or_false] at hu
  rcases hu with rfl | rfl | rfl | rfl | rfl | rfl | rfl | rfl <;> rfl
theorem Try.infoOu : (Try.prog.info? 65).map (fun i => (i.zero, i.size, i.bytes)) = some (some (.agg #[.int .i64 0, .int .i64 0, .int .i64 0, .int .i64 0, .int .i64 0, .int .i64 0, .int .u64 0, .bool false]), 8, 64) := by kernel_rfl
theorem Try.infoFr : (Try.prog.info? 37).map (fun i => (i.zero, i.size, i.bytes)) = some (some (.agg #[.int .i64 0, .int .i64 0, .int .i64 0, .int .i64 0, .int .i64 0, .int .u64 0, .bool false]), 7, 56) := by kernel_rfl
/-- What a gate is. -/
structure Gs where
  M : List Int
  la : Int
  un : Int
  ov : Bool
  co : List Bool
  cp : List Ou
def i64s (l : List Int) : Array Value := (l.map (Value.int .i64)).toArray
def bls (l : List Bool) : Array Value := (l.map Value.bool).toArray
theorem i64s_get (l : List Int) (i : Nat) : (i64s l)[i]? = (l[i]?).map (Value.int .i64) := by simp [i64s]
theorem bls_get (l : List Bool) (i : Nat) : (bls l)[i]? = (l[i]?).map Value.bool := by simp [bls]
theorem i64s_set (l : List Int) (i : Nat) (x : Int) : (i64s l).setIfInBounds i (.int .i64 x) = i64s (l.set i x) := by
  simp [i64s, List.map_set]
theorem bls_set (l : List Bool) (i : Nat) (x : Bool) : (bls l).setIfInBounds i (.bool x) = bls (l.set i x) := by
  simp [bls, List.map_set]
/-- A gate as it lies. -/
structure GX (w : World) (k mb cb : Nat) (mi : Int) (cv : Value) (s : Gs) : Prop where
  box : BoxT 68 w k #[.slice (some ⟨mb, 0, none⟩) s.M.length s.M.length, .int .u64 s.la, .int .u64 s.un, .bool s.ov, .slice (some ⟨cb, 0, none⟩) s.M.length s.M.length, .int .i64 mi, cv]
  mx : BoxT 2 w mb (i64s s.M)
  cm : BoxT 4 w cb (bls s.co)
  cp : OwnL 65 8 Ou.cs 0 w cv s.cp
  len : s.co.length = s.M.length
  pos : 1 ≤ s.M.length
  le : s.M.length ≤ 64
  mis : s.un ≠ 0 → mi = (s.co.count false : Nat)
theorem BoxT.ne {t t' : TypeId} {w : World} {k k' : Nat} {cs cs' : Array Value} (h : BoxT t w k cs) (h' : BoxT t' w k' cs') (ht : t ≠ t') : k ≠ k' := fun e => by
  subst e
  unfold BoxT at h h'
  rw [h] at h'
  simp at h'
  exact ht h'.2
/-- Where it lies. -/
def GP (k mb cb : Nat) (cv : Value) (i : Nat) : Prop := i = k ∨ i = mb ∨ i = cb ∨ cv.ownBlock = some i
def GA (w : World) (k : Nat) (fp : Nat → Prop) (s : Gs) : Prop := ∃ mb cb mi cv, GX w k mb cb mi cv s ∧ ∀ i, fp i ↔ GP k mb cb cv i
section
variable {w w' : World} {k mb cb : Nat} {mi : Int} {cv : Value} {s : Gs}
theorem GX.cells (h : GX w k mb cb mi cv s) : w.cell? ⟨k, 0, none⟩ = some (.slice (some ⟨mb, 0, none⟩) s.M.length s.M.length) ∧ w.cell? ⟨k, 1, none⟩ = some (.int .u64 s.la) ∧ w.cell? ⟨k, 2, none⟩ = some (.int .u64 s.un) ∧ w.cell? ⟨k, 3, none⟩ = some (.bool s.ov) ∧ w.cell? ⟨k, 4, none⟩ = some (.slice (some ⟨cb, 0, none⟩) s.M.length s.M.length) ∧ w.cell? ⟨k, 5, none⟩ = some (.int .i64 mi) ∧ w.cell? ⟨k, 6, none⟩ = some cv := by
  have hb := h.box
  unfold BoxT at hb
  simp [World.cell?, hb]
theorem GX.mark (h : GX w k mb cb mi cv s) {i : Nat} {x : Int} (hx : s.M[i]? = some x) : w.cell? ⟨mb, i, none⟩ = some (.int .i64 x) := by
  rw [h.mx.cellAt, i64s_get, hx]; rfl
theorem GX.come (h : GX w k mb cb mi cv s) {i : Nat} {x : Bool} (hx : s.co[i]? = some x) : w.cell? ⟨cb, i, none⟩ = some (.bool x) := by
  rw [h.cm.cellAt, bls_get, hx]; rfl
theorem GX.nkm (h : GX w k mb cb mi cv s) : k ≠ mb := h.box.ne h.mx (by decide)
theorem GX.nkc (h : GX w k mb cb mi cv s) : k ≠ cb := h.box.ne h.cm (by decide)
theorem GX.nmc (h : GX w k mb cb mi cv s) : mb ≠ cb := h.mx.ne h.cm (by decide)
theorem GX.own (h : GX w k mb cb mi cv s) {g : Nat} (hg : cv.ownBlock = some g) : g ≠ k ∧ g ≠ mb ∧ g ≠ cb := by
  obtain ⟨cur, hc⟩ := h.cp.has g hg
  have hc : BoxT 65 w g cur := hc
  exact ⟨hc.ne h.box (by decide), hc.ne h.mx (by decide), hc.ne h.cm (by decide)⟩
theorem BoxT.back {t : TypeId} {w w' : World} {k : Nat} {cs : Array Value} (h : BoxT t w k cs) (hb : w'.heap[k]? = w.heap[k]?) : BoxT t w' k cs := by
  unfold BoxT at *
  rw [hb]; exact h
theorem GX.back (h : GX w k mb cb mi cv s) (hb : ∀ i, GP k mb cb cv i → w'.heap[i]? = w.heap[i]?) : GX w' k mb cb mi cv s :=
  { box := h.box.back (hb _ (.inl rfl)), mx := h.mx.back (hb _ (.inr (.inl rfl))), cm := h.cm.back (hb _ (.inr (.inr (.inl rfl)))), cp := h.cp.back (fun g e => hb g (.inr (.inr (.inr e)))), len := h.len, pos := h.pos, le := h.le, mis := h.mis }
theorem GX.flt (h : GX w k mb cb mi cv s) : ∀ i, GP k mb cb cv i → i < w.heap.size := fun i hi => by
  rcases hi with rfl | rfl | rfl | hi
  · exact h.box.lt
  · exact h.mx.lt
  · exact h.cm.lt
  · exact h.cp.lt i hi
end
theorem GA.back {w w' : World} {k : Nat} {fp : Nat → Prop} {s : Gs} (h : GA w k fp s) (hb : ∀ i, fp i → w'.heap[i]? = w.heap[i]?) : GA w' k fp s := by
  obtain ⟨mb, cb, mi, cv, h, hf⟩ := h
  exact ⟨mb, cb, mi, cv, h.back (fun i hi => hb i ((hf i).2 hi)), hf⟩
theorem GA.flt {w : World} {k : Nat} {fp : Nat → Prop} {s : Gs} (h : GA w k fp s) : ∀ i, fp i → i < w.heap.size := by
  obtain ⟨mb, cb, mi, cv, h, hf⟩ := h
  exact fun i hi => h.flt i ((hf i).1 hi)
theorem GA.below {w w' : World} {k : Nat} {fp : Nat → Prop} {s : Gs} (h : GA w k fp s) (hb : Below w.heap.size w w') : GA w' k fp s := h.back (fun i hi => hb.block i (h.flt i hi))
theorem GA.beside {w w' : World} {k : Nat} {fp fq fq' : Nat → Prop} {s : Gs} (h : GA w k fp s) (hf : FT fq fq' w w') (hd : ∀ i, fp i → ¬ fq i) : GA w' k fp s :=
  h.back (fun i hi => hf.block i (h.flt i hi) (hd i hi))
/-- There is such a channel. -/
def Gs.has (s : Gs) (ch : Int) : Bool := decide (0 ≤ ch ∧ ch < s.M.length)
def Gs.bl (s : Gs) (ch : Int) : Bool := s.has ch && decide (s.un ≠ 0) && !s.ov && s.co.getD ch.toNat false
set_option maxRecDepth 100000 in
theorem has_any {w : World} {k : Nat} {fp : Nat → Prop} {s : Gs} (h : GA w k fp s) (ch : Int) : Calls Try.prog 29 #[.pointer (some ⟨k, 0, none⟩), .int .i64 ch] w fun e w' => e = .returned (.bool (s.has ch)) ∧ w = w' := by
  obtain ⟨mb, cb, mi, cv, h, hf⟩ := h
  obtain ⟨c0, -, -, -, -, -, -⟩ := h.cells
  unfold Gs.has
  have hle := h.le
  generalize s.M.length = n at *
  by_cases h1 : 0 ≤ ch
  · have d1 : decide (0 ≤ ch) = true := decide_eq_true h1
    by_cases h2 : ch < (n : Int)
    · have : decide (0 ≤ ch ∧ ch < (n : Int)) = true := decide_eq_true ⟨h1, h2⟩
      rw [this]
      clear this
      go_enter Try.func29, Try.ntmps29
      go_wp2_with fail
      go_ret
      exact ⟨by simp, rfl⟩
    · have : decide (0 ≤ ch ∧ ch < (n : Int)) = false := decide_eq_false (fun e => h2 e.2)
      rw [this]
      clear this
      go_enter Try.func29, Try.ntmps29
      go_wp2_with fail
      go_ret
      exact ⟨by simp, rfl⟩
  · have : decide (0 ≤ ch ∧ ch < (n : Int)) = false := decide_eq_false (fun e => h1 e.1)
    rw [this]
    have d1 : decide (0 ≤ ch) = false := decide_eq_false h1
    clear this
    go_enter Try.func29, Try.ntmps29
    go_wp2_with fail
    go_ret
    exact ⟨rfl, rfl⟩
end Go.Proofs.Ytmipgfobggbndaa
