/-
  Texts of the vault, in build order: DTorn.
-/
import Derived.Test.YtbfhcbihgleddaaGreatDoorM19
import Derived.Test.YtbfhcbihgleddaaGreatDoorM21
/-
  Walks over package disk: torn.
-/
namespace Go.Proofs.YtbfhcbihgleddaaGreatDoor
open Go.RowKit Go.Maps

/-- What strings.Clone must do (the library's contract, to be laid at this seat). -/
def CloneOk : Prop := ∀ (s : ByteArray) (w : World), s.size ≤ 281474976710656 → Calls Tryz.prog 78 #[.string s] w fun e w' => e = .returned (.string s) ∧ Below w.heap.size w w'
/-- How many bytes a crash leaves. -/
def tornN (x : ByteArray) (m kept : Int) : Int := m + min (max kept 0) (x.size - m)

theorem extract_all (x : ByteArray) : x.extract 0 x.size = x := by
  apply ByteArray.ext
  simp

set_option maxHeartbeats 2000000 in
set_option maxRecDepth 100000 in
/-- The bytes all stay: c is what is kept, cut down to what is loose. -/
theorem torn_whole (w : World) (x : ByteArray) (m kept : Int) (hx : x.size ≤ 1048576) (hm0 : 0 ≤ m) (hm1 : m ≤ x.size) (hs : tornN x m kept = x.size) :
    Calls Tryz.prog 47 #[.agg #[.string x, .int .i64 m], .int .i64 kept] w fun e w' => e = .returned (.agg #[.string x, .int .i64 x.size]) ∧ Below w.heap.size w w' := by
  have hw1 : wrap64 ((x.size : Int) - m) = x.size - m := by unfold wrap64; omega
  have hw2 : wrap64 (m + (x.size - m)) = x.size := by unfold wrap64; omega
  have hw3 : wrap64 m = m := by unfold wrap64; omega
  have he : m + ((x.size : Int) - m) = x.size := by omega
  have hb1 : Below w.heap.size w ((w.alloc (.cells #[.string x, .int .i64 x.size] 99)).alloc (.cells #[.string x, .int .i64 x.size] 99)) := ((Below.refl _ _).alloc (Nat.le_refl _) _).alloc (by simp) _
  unfold tornN at hs
  by_cases h1 : (x.size : Int) - m ≤ kept
  · have h2 : ¬ kept < 0 := by omega
    by_cases h3 : (x.size : Int) - m < kept
    · clear hs
      go_enter Tryz.func47, Tryz.ntmps47
      go_wp2_with fail
      exact bodyPost_ret (v := .agg #[.string x, .int .i64 x.size]) (by simp [results, Tryz.results47, go_sem]) rfl ⟨rfl, hb1⟩
    · obtain rfl : kept = x.size - m := by omega
      clear hs
      go_enter Tryz.func47, Tryz.ntmps47
      go_wp2_with fail
      exact bodyPost_ret (v := .agg #[.string x, .int .i64 x.size]) (by simp [results, Tryz.results47, go_sem]) rfl ⟨rfl, hb1⟩
  · have h2 : kept < 0 := by omega
    obtain rfl : m = x.size := by omega
    clear hs
    go_enter Tryz.func47, Tryz.ntmps47
    go_wp2_with fail
    exact bodyPost_ret (v := .agg #[.string x, .int .i64 x.size]) (by simp [results, Tryz.results47, go_sem]) rfl ⟨rfl, hb1⟩

set_option maxHeartbeats 2000000 in
set_option maxRecDepth 100000 in
/-- Some bytes are lost. -/
theorem torn_cut (HC : Hid CloneOk) (w : World) (x : ByteArray) (m kept : Int) (hx : x.size ≤ 1048576) (hm0 : 0 ≤ m) (hs : m + max kept 0 < x.size) :
    Calls Tryz.prog 47 #[.agg #[.string x, .int .i64 m], .int .i64 kept] w fun e w' => e = .returned (.agg #[.string (x.extract 0 (m + max kept 0).toNat), .int .i64 (m + max kept 0)]) ∧ Below w.heap.size w w' := by
  have hw1 : wrap64 ((x.size : Int) - m) = x.size - m := by unfold wrap64; omega
  have hb1 := ((Below.refl w.heap.size w).alloc (Nat.le_refl _) (.cells #[.string x, .int .i64 m] 99)).alloc (by simp) (.cells #[.string ⟨#[]⟩, .int .i64 0] 99)
  have bA := (BoxT.new 99 w #[.string x, .int .i64 m]).alloc (.cells #[.string ⟨#[]⟩, .int .i64 0] 99)
  have bB := BoxT.new 99 (w.alloc (.cells #[.string x, .int .i64 m] 99)) #[.string ⟨#[]⟩, .int .i64 0]
  have HB : Hid _ := And.intro hb1 (And.intro bA bB)
  clear hb1 bA bB
  by_cases h2 : kept < 0
  · have e0 : m + max kept 0 = m := by omega
    rw [e0] at hs ⊢
    have hw2 : wrap64 m = m := by unfold wrap64; omega
    go_enter Tryz.func47, Tryz.ntmps47
    go_wp2_with fail
    refine (HC.out _ _ (by simp [ByteArray.size_extract]; omega)).mono ?_
    rintro e w1 ⟨rfl, hb⟩
    obtain ⟨hb1, bA, bB⟩ := HB.out
    have bA1 := bA.kept (Kept.of_below (base := 0) hb) (by decide)
    have bB1 := bB.kept (Kept.of_below (base := 0) hb) (by decide)
    rw [World.size_alloc] at bB1
    have hb2 := hb1.trans (hb.mono (by simp; omega))
    obtain ⟨a0, a1⟩ := bA1.cells2
    obtain ⟨b0, b1⟩ := bB1.cells2
    have fA := bA1.free
    have fB := bB1.free
    have HP : Hid _ := And.intro hb2 (And.intro bA1 bB1)
    clear hb bA bB hb1 HB bA1 bB1 hb2
    go_wp2
    obtain ⟨hb2, bA1, bB1⟩ := HP.out
    have hne : w.heap.size + 1 ≠ w.heap.size := by omega
    obtain ⟨r0, r1⟩ := (BoxT.two ((bB1.other 0 (.string (x.extract 0 m.toNat)) hne).other 1 (.int .i64 m) hne) (.string (x.extract 0 m.toNat)) (.int .i64 m)).cells2
    have hb3 := (((hb2.setCell (p := ⟨w.heap.size, 0, none⟩) (Nat.le_refl _) (.string (x.extract 0 m.toNat))).setCell (p := ⟨w.heap.size, 1, none⟩) (Nat.le_refl _) (.int .i64 m)).setCell (p := ⟨w.heap.size + 1, 0, none⟩) (Nat.le_succ _) (.string (x.extract 0 m.toNat))).setCell (p := ⟨w.heap.size + 1, 1, none⟩) (Nat.le_succ _) (.int .i64 m)
    exact bodyPost_ret (v := .agg #[.string (x.extract 0 m.toNat), .int .i64 m]) (by simp [results, Tryz.results47, go_sem, r0, r1]) rfl ⟨rfl, hb3⟩
  · have e0 : m + max kept 0 = m + kept := by omega
    rw [e0] at hs ⊢
    have hw2 : wrap64 (m + kept) = m + kept := by unfold wrap64; omega
    have h3 : ¬ (x.size : Int) - m < kept := by omega
    go_enter Tryz.func47, Tryz.ntmps47
    go_wp2_with fail
    refine (HC.out _ _ (by simp [ByteArray.size_extract]; omega)).mono ?_
    rintro e w1 ⟨rfl, hb⟩
    obtain ⟨hb1, bA, bB⟩ := HB.out
    have bA1 := bA.kept (Kept.of_below (base := 0) hb) (by decide)
    have bB1 := bB.kept (Kept.of_below (base := 0) hb) (by decide)
    rw [World.size_alloc] at bB1
    have hb2 := hb1.trans (hb.mono (by simp; omega))
    obtain ⟨a0, a1⟩ := bA1.cells2
    obtain ⟨b0, b1⟩ := bB1.cells2
    have fA := bA1.free
    have fB := bB1.free
    have HP : Hid _ := And.intro hb2 (And.intro bA1 bB1)
    clear hb bA bB hb1 HB bA1 bB1 hb2
    go_wp2
    obtain ⟨hb2, bA1, bB1⟩ := HP.out
    have hne : w.heap.size + 1 ≠ w.heap.size := by omega
    obtain ⟨r0, r1⟩ := (BoxT.two ((bB1.other 0 (.string (x.extract 0 (m + kept).toNat)) hne).other 1 (.int .i64 (m + kept)) hne) (.string (x.extract 0 (m + kept).toNat)) (.int .i64 (m + kept))).cells2
    have hb3 := (((hb2.setCell (p := ⟨w.heap.size, 0, none⟩) (Nat.le_refl _) (.string (x.extract 0 (m + kept).toNat))).setCell (p := ⟨w.heap.size, 1, none⟩) (Nat.le_refl _) (.int .i64 (m + kept))).setCell (p := ⟨w.heap.size + 1, 0, none⟩) (Nat.le_succ _) (.string (x.extract 0 (m + kept).toNat))).setCell (p := ⟨w.heap.size + 1, 1, none⟩) (Nat.le_succ _) (.int .i64 (m + kept))
    exact bodyPost_ret (v := .agg #[.string (x.extract 0 (m + kept).toNat), .int .i64 (m + kept)]) (by simp [results, Tryz.results47, go_sem, r0, r1]) rfl ⟨rfl, hb3⟩

theorem torn_any (HC : Hid CloneOk) (w : World) (x : ByteArray) (m kept : Int) (hx : x.size ≤ 1048576) (hm0 : 0 ≤ m) (hm1 : m ≤ x.size) :
    Calls Tryz.prog 47 #[.agg #[.string x, .int .i64 m], .int .i64 kept] w fun e w' => e = .returned (.agg #[.string (x.extract 0 (tornN x m kept).toNat), .int .i64 (tornN x m kept)]) ∧ Below w.heap.size w w' := by
  by_cases h : tornN x m kept = x.size
  · have h1 := torn_whole w x m kept hx hm0 hm1 h
    rw [h, Int.toNat_natCast, extract_all]
    exact h1
  · have e : tornN x m kept = m + max kept 0 := by unfold tornN at *; omega
    rw [e]
    rw [e] at h
    exact torn_cut HC w x m kept hx hm0 (by unfold tornN at e; omega)
end Go.Proofs.YtbfhcbihgleddaaGreatDoor
