/-
  Texts of the vault, in build order: VReadN.
-/
import Derived.Test.YtbfhcbihgleddaaGreatDoorM24
/-
  Walks: what Read gives lies in a new block that may be written over.
-/
namespace Go.Proofs.YtbfhcbihgleddaaGreatDoor
open Go.RowKit Go.Maps Go.Shelf

/-- Bytes that may be written over, in a block behind the base. -/
def Soft (base : Nat) (w : World) (v : Value) : Prop := ∃ ao n c, v = .slice ao n c ∧ n ≤ 140737488355328 ∧ (n = 0 ∨ ∃ g off, ao = some ⟨g, off, none⟩ ∧ base ≤ g ∧ ∀ j, j < n → (∃ x, w.cell? ⟨g, off + j, none⟩ = some (.int .u8 x)) ∧ w.frozen? ⟨g, off + j, none⟩ = false)
structure Soft1 (w : World) (g off n : Nat) : Prop where
  cell : ∀ j, j < n → ∃ x, w.cell? ⟨g, off + j, none⟩ = some (.int .u8 x)
  free : ∀ j, j < n → w.frozen? ⟨g, off + j, none⟩ = false
theorem Soft1.set {w : World} {g off n : Nat} (h : Soft1 w g off n) (i : Nat) (x : Int) : Soft1 (w.setCell ⟨g, off + i, none⟩ (.int .u8 x)) g off n := by
  refine ⟨fun j hj => ?_, fun j hj => by rw [World.frozen?_setCell]; exact h.free j hj⟩
  obtain ⟨y, hy⟩ := h.cell j hj
  by_cases e : i = j
  · subst e; exact ⟨x, World.cell?_setCell_same _ _ _ hy⟩
  · refine ⟨y, ?_⟩
    have e2 : (⟨g, off + i, none⟩ : Addr) ≠ ⟨g, off + j, none⟩ := fun h => e (by have := congrArg Addr.off h; simp at this; exact this)
    exact (World.cell?_setCell_other _ _ _ _ e2).trans hy

theorem Soft.nil (base : Nat) (w : World) : Soft base w (.slice none 0 0) := ⟨none, 0, 0, rfl, by omega, .inl rfl⟩
theorem Soft.mono {base base' : Nat} {w : World} {v : Value} (h : Soft base w v) (hb : base' ≤ base) : Soft base' w v := by
  obtain ⟨ao, n, c, h1, h2, h3⟩ := h
  refine ⟨ao, n, c, h1, h2, ?_⟩
  rcases h3 with h3 | ⟨g, off, h4, h5, h6⟩
  · exact .inl h3
  · exact .inr ⟨g, off, h4, Nat.le_trans hb h5, h6⟩
theorem Soft.below {base : Nat} {w w' : World} {v : Value} (h : Soft base w v) (hb : Below w.heap.size w w') : Soft base w' v := by
  obtain ⟨ao, n, c, h1, h2, h3⟩ := h
  refine ⟨ao, n, c, h1, h2, ?_⟩
  rcases h3 with h3 | ⟨g, off, h4, h5, h6⟩
  · exact .inl h3
  · refine .inr ⟨g, off, h4, h5, fun j hj => ?_⟩
    obtain ⟨⟨x, h7⟩, h8⟩ := h6 j hj
    have hl : g < w.heap.size := by
      rcases Nat.lt_or_ge g w.heap.size with h | h
      · exact h
      · unfold World.cell? at h7
        rw [Array.getElem?_eq_none h] at h7
        cases h7
    refine ⟨⟨x, ?_⟩, ?_⟩
    · rw [← h7]; unfold World.cell?; rw [hb.block g hl]
    · rw [← h8]; unfold World.frozen?; rw [hb.block g hl]
theorem soft_bytes (w : World) (s : ByteArray) (hs : s.size ≤ 140737488355328) (c : Nat) : Soft w.heap.size (Lib.bytesWorld w 5 s) (.slice (some ⟨w.heap.size, 0, none⟩) s.size c) := by
  refine ⟨_, _, _, rfl, hs, .inr ⟨w.heap.size, 0, rfl, Nat.le_refl _, fun j hj => ?_⟩⟩
  rw [Nat.zero_add]
  refine ⟨⟨_, Lib.bytesWorld_cell w 5 s j hj⟩, ?_⟩
  have hsz : s.size ≤ (Lib.bytesCells w 5 s).size := by
    unfold Lib.bytesCells
    rw [Array.size_append, Array.size_map]
    exact Nat.le_add_right _ _
  unfold World.frozen?
  rw [Lib.bytesWorld_at_new]
  have : ¬ (Lib.bytesCells w 5 s).size ≤ j := by omega
  simp [this]
/-- What Read tells, and that it lies in a block of its own. -/
def RdPostN (w : World) (er : Int) (l : List Nat) (e : Ending) (w' : World) : Prop := ∃ v, e = .returned (.tuple #[v, .int .i64 er]) ∧ Seg w' v l ∧ Below w.heap.size w w' ∧ Soft w.heap.size w' v

set_option maxHeartbeats 1000000 in
set_option maxRecDepth 100000 in
theorem Read_anyN {w : World} {k b n : Nat} {d : Dk} (h : DiskAt w k b n d) (s : ByteArray) (hs : s.size ≤ maxLen) (x : ByteArray) (m : Int) (hd : Hid ((dFind d s).1 = fd x m)) (hx : x.size ≤ 1048576) :
    Calls Tryz.prog 28 #[.pointer (some ⟨k, 0, none⟩), .string s] w (RdPostN w (dFind d s).2 (if (dFind d s).2 = 0 then sb x else [])) := by
  have hf := find_any h s hs
  generalize dFind d s = p at *
  obtain ⟨dd, er⟩ := p
  dsimp only at *
  by_cases h0 : er = 0
  · subst h0
    rw [if_pos rfl]
    go_enter Tryz.func28, Tryz.ntmps28
    go_wp2_with fail
    refine hf.mono ?_
    rintro e w1 ⟨x', m', rfl, hxm, -, hb⟩
    obtain ⟨rfl, rfl⟩ : x = x' ∧ m = m' := fd_inj (hd.out.symm.trans hxm.out)
    clear hf hd hxm
    have hcv := Lib.run_convert_string_bytes (P := Tryz.prog) (w1.alloc (.cells #[.string x, .int .i64 m] 99)) 9 22 5 x Tryz.underlying9 Tryz.underlying22 Tryz.underlying5
    have hsg := bytes_seg (w1.alloc (.cells #[.string x, .int .i64 m] 99)) x (by omega) (grownCap_ge _ _ _ _) (Nat.le_trans (grownCap_le_maxLen _ _ _ _ (by unfold maxLen; omega)) (by unfold maxLen; omega))
    have hso := (soft_bytes (w1.alloc (.cells #[.string x, .int .i64 m] 99)) x (by omega) (grownCap (w1.alloc (.cells #[.string x, .int .i64 m] 99)) x.size 0 5)).mono (base' := w.heap.size) (by have := hb.size; simp only [World.size_alloc]; omega)
    have hbl := hb.trans ((((Below.refl w1.heap.size w1).alloc (Nat.le_refl _) (.cells #[.string x, .int .i64 m] 99)).trans ((bytes_below _ x).mono (by simp))).mono hb.size)
    have HP : Hid _ := And.intro hsg (And.intro hbl hso)
    generalize Lib.bytesWorld (w1.alloc (.cells #[.string x, .int .i64 m] 99)) 5 x = W at *
    generalize grownCap (w1.alloc (.cells #[.string x, .int .i64 m] 99)) x.size 0 5 = cp at *
    simp only [World.size_alloc] at *
    clear hsg hbl hb hso
    go_wp2
    go_ret2
    exact ⟨_, rfl, HP.out.1, HP.out.2.1, HP.out.2.2⟩
  · rw [if_neg h0]
    have e1 : (er != 0) = true := by simpa using h0
    go_enter Tryz.func28, Tryz.ntmps28
    go_wp2_with fail
    refine hf.mono ?_
    rintro e w1 ⟨x', m', rfl, -, -, hb⟩
    have hbl := hb.trans (((Below.refl w1.heap.size w1).alloc (Nat.le_refl _) (.cells #[.string x', .int .i64 m'] 99)).mono hb.size)
    clear hf hd
    go_wp2
    go_ret2
    exact ⟨_, rfl, Seg.nil _, hbl, Soft.nil _ _⟩

theorem Read_n {w : World} {k b n : Nat} {p : Pd} (h : PdAt w k b n p) (s : ByteArray) (hs : s.size ≤ maxLen) :
    Calls Tryz.prog 28 #[.pointer (some ⟨k, 0, none⟩), .string s] w (RdPostN w (pFind p (nm s)).2 (fData (pFind p (nm s)).1)) := by
  have hdf := dFind_p p s
  obtain ⟨h1, h2⟩ := h.ok.data (nm s)
  have := Read_anyN h.at_ s hs (strOf (fData (pFind p (nm s)).1)) (fSync (pFind p (nm s)).1) (by rw [hdf]; rfl) (by rw [strOf_size]; exact h1)
  rw [hdf] at this
  dsimp only at this
  rw [sb_strOf h2] at this
  have e : (if (pFind p (nm s)).2 = 0 then fData (pFind p (nm s)).1 else []) = fData (pFind p (nm s)).1 := by
    cases e : (pFind p (nm s)).1 with
    | some f => rw [if_pos (pFind_some e).1]
    | none => rw [if_neg (pFind_none e)]; rfl
  rw [e] at this
  exact this
end Go.Proofs.YtbfhcbihgleddaaGreatDoor
