/-
  Walks over package disk: Read.
-/
import Derived.Test.YtnokibjhkdaamaaDOps
import Derived.Lib.ConvBytes
namespace Go.Proofs.Ytnokibjhkdaamaa
open Go.RowKit Go.Maps

/-- A string's bytes. -/
def sb (s : ByteArray) : List Nat := s.data.toList.map fun b => b.toNat
theorem sb_length (s : ByteArray) : (sb s).length = s.size := by simp [sb]
/-- What a conversion of a string lays is read as its bytes. -/
theorem bytes_seg (w : World) (s : ByteArray) (hs : s.size ≤ 140737488355328) (h1 : s.size ≤ grownCap w s.size 0 5) (h2 : grownCap w s.size 0 5 ≤ 9223372036854775807) : Seg (Lib.bytesWorld w 5 s) (.slice (some ⟨w.heap.size, 0, none⟩) s.size (grownCap w s.size 0 5)) (sb s) := by
  refine ⟨_, _, by rw [sb_length], by rw [sb_length]; exact h1, h2, by rw [sb_length]; exact hs, ?_⟩
  by_cases h0 : sb s = []
  · exact .inl h0
  · refine .inr ⟨w.heap.size, 0, rfl, by rw [Lib.bytesWorld_size]; omega, fun i x hx => ?_⟩
    have hi : i < s.size := by rw [← sb_length]; exact (List.getElem?_eq_some_iff.1 hx).1
    rw [Nat.zero_add, Lib.bytesWorld_cell w 5 s i hi]
    have : x = (s.data.toList.getD i 0).toNat := by
      unfold sb at hx
      rw [List.getElem?_map] at hx
      obtain ⟨y, hy, rfl⟩ := Option.map_eq_some_iff.1 hx
      rw [List.getD_eq_getElem?_getD, hy]; rfl
    rw [this]
theorem bytes_below (w : World) (s : ByteArray) : Below w.heap.size w (Lib.bytesWorld w 5 s) :=
  ⟨rfl, rfl, rfl, by rw [Lib.bytesWorld_size]; omega, fun k hk => Lib.bytesWorld_at_old w 5 s k hk⟩

/-- What Read tells. -/
def RdPost (w : World) (er : Int) (l : List Nat) (e : Ending) (w' : World) : Prop := ∃ v, e = .returned (.tuple #[v, .int .i64 er]) ∧ Seg w' v l ∧ Below w.heap.size w w'

set_option maxHeartbeats 1000000 in
set_option maxRecDepth 100000 in
theorem Read_any {w : World} {k b n : Nat} {d : Dk} (h : DiskAt w k b n d) (s : ByteArray) (hs : s.size ≤ maxLen) (x : ByteArray) (m : Int) (hd : Hid ((dFind d s).1 = fd x m)) (hx : x.size ≤ 1048576) :
    Calls Try.prog 27 #[.pointer (some ⟨k, 0, none⟩), .string s] w (RdPost w (dFind d s).2 (if (dFind d s).2 = 0 then sb x else [])) := by
  have hf := find_any h s hs
  generalize dFind d s = p at *
  obtain ⟨dd, er⟩ := p
  dsimp only at *
  by_cases h0 : er = 0
  · subst h0
    rw [if_pos rfl]
    go_enter Try.func27, Try.ntmps27
    go_wp2_with fail
    refine hf.mono ?_
    rintro e w1 ⟨x', m', rfl, hxm, -, hb⟩
    obtain ⟨rfl, rfl⟩ : x = x' ∧ m = m' := fd_inj (hd.out.symm.trans hxm.out)
    clear hf hd hxm
    have hcv := Lib.run_convert_string_bytes (P := Try.prog) (w1.alloc (.cells #[.string x, .int .i64 m] 67)) 9 35 5 x Try.underlying9 Try.underlying35 Try.underlying5
    have hsg := bytes_seg (w1.alloc (.cells #[.string x, .int .i64 m] 67)) x (by omega) (grownCap_ge _ _ _ _) (Nat.le_trans (grownCap_le_maxLen _ _ _ _ (by unfold maxLen; omega)) (by unfold maxLen; omega))
    have hbl := hb.trans ((((Below.refl w1.heap.size w1).alloc (Nat.le_refl _) (.cells #[.string x, .int .i64 m] 67)).trans ((bytes_below _ x).mono (by simp))).mono hb.size)
    have HP : Hid _ := And.intro hsg hbl
    generalize Lib.bytesWorld (w1.alloc (.cells #[.string x, .int .i64 m] 67)) 5 x = W at *
    generalize grownCap (w1.alloc (.cells #[.string x, .int .i64 m] 67)) x.size 0 5 = cp at *
    simp only [World.size_alloc] at *
    clear hsg hbl hb
    go_wp2
    go_ret2
    exact ⟨_, rfl, HP.out.1, HP.out.2⟩
  · rw [if_neg h0]
    have e1 : (er != 0) = true := by simpa using h0
    go_enter Try.func27, Try.ntmps27
    go_wp2_with fail
    refine hf.mono ?_
    rintro e w1 ⟨x', m', rfl, -, -, hb⟩
    have hbl := hb.trans (((Below.refl w1.heap.size w1).alloc (Nat.le_refl _) (.cells #[.string x', .int .i64 m'] 67)).mono hb.size)
    clear hf hd
    go_wp2
    go_ret2
    exact ⟨_, rfl, Seg.nil _, hbl⟩
end Go.Proofs.Ytnokibjhkdaamaa
