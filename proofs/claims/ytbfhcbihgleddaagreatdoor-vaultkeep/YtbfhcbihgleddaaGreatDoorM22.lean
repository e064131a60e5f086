/-
  Texts of the vault, in build order: DTorn, Shelf, DPure, DNames, DLevel.
-/
import Derived.Test.YtbfhcbihgleddaaGreatDoorM19
import Derived.Test.YtbfhcbihgleddaaGreatDoorM21
import Derived.Shelf.LaysM
import Derived.Shelf.Strconv.Clone
import Derived.Shelf.SlIter.Nil
import Derived.Shelf.SortM.Plain
import Derived.Shelf.SortM.SortNone
import Derived.Shelf.SlMaps.Clone
import Derived.Ground.GgzProg
import Derived.Ground.SlgmProg
import Derived.Ground.SlmcProg
import Derived.Test.YtbfhcbihgleddaaGreatDoorProg
/-
  Walks over package disk: torn.
-/
namespace Go.Proofs.YtbfhcbihgleddaaGreatDoor
open Go.RowKit Go.Maps

/-- What strings.Clone must do (the library's contract, to be laid at this seat). -/
def CloneOk : Prop := ∀ (s : ByteArray) (w : World), s.size ≤ 281474976710656 → Calls Tryz.prog 78 #[.string s] w fun e w' => e = .returned (.string s) ∧ Below w.heap.size w w'
/-- How many bytes a crash leaves. -/
def tornN (x : ByteArray) (m kept : Int) : Int := m + min (max kept 0) (x.size - m)

theorem extract_all (x : ByteArray) : x.extract 0 x.size = x := by
  apply ByteArray.ext
  simp

set_option maxHeartbeats 2000000 in
set_option maxRecDepth 100000 in
/-- The bytes all stay: c is what is kept, cut down to what is loose. -/
theorem torn_whole (w : World) (x : ByteArray) (m kept : Int) (hx : x.size ≤ 1048576) (hm0 : 0 ≤ m) (hm1 : m ≤ x.size) (hs : tornN x m kept = x.size) :
    Calls Tryz.prog 47 #[.agg #[.string x, .int .i64 m], .int .i64 kept] w fun e w' => e = .returned (.agg #[.string x, .int .i64 x.size]) ∧ Below w.heap.size w w' := by
  have hw1 : wrap64 ((x.size : Int) - m) = x.size - m := by unfold wrap64; omega
  have hw2 : wrap64 (m + (x.size - m)) = x.size := by unfold wrap64; omega
  have hw3 : wrap64 m = m := by unfold wrap64; omega
  have he : m + ((x.size : Int) - m) = x.size := by omega
  have hb1 : Below w.heap.size w ((w.alloc (.cells #[.string x, .int .i64 x.size] 99)).alloc (.cells #[.string x, .int .i64 x.size] 99)) := ((Below.refl _ _).alloc (Nat.le_refl _) _).alloc (by simp) _
  unfold tornN at hs
  by_cases h1 : (x.size : Int) - m ≤ kept
  · have h2 : ¬ kept < 0 := by omega
    by_cases h3 : (x.size : Int) - m < kept
    · clear hs
      go_enter Tryz.func47, Tryz.ntmps47
      go_wp2_with fail
      exact bodyPost_ret (v := .agg #[.string x, .int .i64 x.size]) (by simp [results, Tryz.results47, go_sem]) rfl ⟨rfl, hb1⟩
    · obtain rfl : kept = x.size - m := by omega
      clear hs
      go_enter Tryz.func47, Tryz.ntmps47
      go_wp2_with fail
      exact bodyPost_ret (v := .agg #[.string x, .int .i64 x.size]) (by simp [results, Tryz.results47, go_sem]) rfl ⟨rfl, hb1⟩
  · have h2 : kept < 0 := by omega
    obtain rfl : m = x.size := by omega
    clear hs
    go_enter Tryz.func47, Tryz.ntmps47
    go_wp2_with fail
    exact bodyPost_ret (v := .agg #[.string x, .int .i64 x.size]) (by simp [results, Tryz.results47, go_sem]) rfl ⟨rfl, hb1⟩

set_option maxHeartbeats 2000000 in
set_option maxRecDepth 100000 in
/-- Some bytes are lost. -/
theorem torn_cut (HC : Hid CloneOk) (w : World) (x : ByteArray) (m kept : Int) (hx : x.size ≤ 1048576) (hm0 : 0 ≤ m) (hs : m + max kept 0 < x.size) :
    Calls Tryz.prog 47 #[.agg #[.string x, .int .i64 m], .int .i64 kept] w fun e w' => e = .returned (.agg #[.string (x.extract 0 (m + max kept 0).toNat), .int .i64 (m + max kept 0)]) ∧ Below w.heap.size w w' := by
  have hw1 : wrap64 ((x.size : Int) - m) = x.size - m := by unfold wrap64; omega
  have hb1 := ((Below.refl w.heap.size w).alloc (Nat.le_refl _) (.cells #[.string x, .int .i64 m] 99)).alloc (by simp) (.cells #[.string ⟨#[]⟩, .int .i64 0] 99)
  have bA := (BoxT.new 99 w #[.string x, .int .i64 m]).alloc (.cells #[.string ⟨#[]⟩, .int .i64 0] 99)
  have bB := BoxT.new 99 (w.alloc (.cells #[.string x, .int .i64 m] 99)) #[.string ⟨#[]⟩, .int .i64 0]
  have HB : Hid _ := And.intro hb1 (And.intro bA bB)
  clear hb1 bA bB
  by_cases h2 : kept < 0
  · have e0 : m + max kept 0 = m := by omega
    rw [e0] at hs ⊢
    have hw2 : wrap64 m = m := by unfold wrap64; omega
    go_enter Tryz.func47, Tryz.ntmps47
    go_wp2_with fail
    refine (HC.out _ _ (by simp [ByteArray.size_extract]; omega)).mono ?_
    rintro e w1 ⟨rfl, hb⟩
    obtain ⟨hb1, bA, bB⟩ := HB.out
    have bA1 := bA.kept (Kept.of_below (base := 0) hb) (by decide)
    have bB1 := bB.kept (Kept.of_below (base := 0) hb) (by decide)
    rw [World.size_alloc] at bB1
    have hb2 := hb1.trans (hb.mono (by simp; omega))
    obtain ⟨a0, a1⟩ := bA1.cells2
    obtain ⟨b0, b1⟩ := bB1.cells2
    have fA := bA1.free
    have fB := bB1.free
    have HP : Hid _ := And.intro hb2 (And.intro bA1 bB1)
    clear hb bA bB hb1 HB bA1 bB1 hb2
    go_wp2
    obtain ⟨hb2, bA1, bB1⟩ := HP.out
    have hne : w.heap.size + 1 ≠ w.heap.size := by omega
    obtain ⟨r0, r1⟩ := (BoxT.two ((bB1.other 0 (.string (x.extract 0 m.toNat)) hne).other 1 (.int .i64 m) hne) (.string (x.extract 0 m.toNat)) (.int .i64 m)).cells2
    have hb3 := (((hb2.setCell (p := ⟨w.heap.size, 0, none⟩) (Nat.le_refl _) (.string (x.extract 0 m.toNat))).setCell (p := ⟨w.heap.size, 1, none⟩) (Nat.le_refl _) (.int .i64 m)).setCell (p := ⟨w.heap.size + 1, 0, none⟩) (Nat.le_succ _) (.string (x.extract 0 m.toNat))).setCell (p := ⟨w.heap.size + 1, 1, none⟩) (Nat.le_succ _) (.int .i64 m)
    exact bodyPost_ret (v := .agg #[.string (x.extract 0 m.toNat), .int .i64 m]) (by simp [results, Tryz.results47, go_sem, r0, r1]) rfl ⟨rfl, hb3⟩
  · have e0 : m + max kept 0 = m + kept := by omega
    rw [e0] at hs ⊢
    have hw2 : wrap64 (m + kept) = m + kept := by unfold wrap64; omega
    have h3 : ¬ (x.size : Int) - m < kept := by omega
    go_enter Tryz.func47, Tryz.ntmps47
    go_wp2_with fail
    refine (HC.out _ _ (by simp [ByteArray.size_extract]; omega)).mono ?_
    rintro e w1 ⟨rfl, hb⟩
    obtain ⟨hb1, bA, bB⟩ := HB.out
    have bA1 := bA.kept (Kept.of_below (base := 0) hb) (by decide)
    have bB1 := bB.kept (Kept.of_below (base := 0) hb) (by decide)
    rw [World.size_alloc] at bB1
    have hb2 := hb1.trans (hb.mono (by simp; omega))
    obtain ⟨a0, a1⟩ := bA1.cells2
    obtain ⟨b0, b1⟩ := bB1.cells2
    have fA := bA1.free
    have fB := bB1.free
    have HP : Hid _ := And.intro hb2 (And.intro bA1 bB1)
    clear hb bA bB hb1 HB bA1 bB1 hb2
    go_wp2
    obtain ⟨hb2, bA1, bB1⟩ := HP.out
    have hne : w.heap.size + 1 ≠ w.heap.size := by omega
    obtain ⟨r0, r1⟩ := (BoxT.two ((bB1.other 0 (.string (x.extract 0 (m + kept).toNat)) hne).other 1 (.int .i64 (m + kept)) hne) (.string (x.extract 0 (m + kept).toNat)) (.int .i64 (m + kept))).cells2
    have hb3 := (((hb2.setCell (p := ⟨w.heap.size, 0, none⟩) (Nat.le_refl _) (.string (x.extract 0 (m + kept).toNat))).setCell (p := ⟨w.heap.size, 1, none⟩) (Nat.le_refl _) (.int .i64 (m + kept))).setCell (p := ⟨w.heap.size + 1, 0, none⟩) (Nat.le_succ _) (.string (x.extract 0 (m + kept).toNat))).setCell (p := ⟨w.heap.size + 1, 1, none⟩) (Nat.le_succ _) (.int .i64 (m + kept))
    exact bodyPost_ret (v := .agg #[.string (x.extract 0 (m + kept).toNat), .int .i64 (m + kept)]) (by simp [results, Tryz.results47, go_sem, r0, r1]) rfl ⟨rfl, hb3⟩

theorem torn_any (HC : Hid CloneOk) (w : World) (x : ByteArray) (m kept : Int) (hx : x.size ≤ 1048576) (hm0 : 0 ≤ m) (hm1 : m ≤ x.size) :
    Calls Tryz.prog 47 #[.agg #[.string x, .int .i64 m], .int .i64 kept] w fun e w' => e = .returned (.agg #[.string (x.extract 0 (tornN x m kept).toNat), .int .i64 (tornN x m kept)]) ∧ Below w.heap.size w w' := by
  by_cases h : tornN x m kept = x.size
  · have h1 := torn_whole w x m kept hx hm0 hm1 h
    rw [h, Int.toNat_natCast, extract_all]
    exact h1
  · have e : tornN x m kept = m + max kept 0 := by unfold tornN at *; omega
    rw [e]
    rw [e] at h
    exact torn_cut HC w x m kept hx hm0 (by unfold tornN at e; omega)
end Go.Proofs.YtbfhcbihgleddaaGreatDoor
/-
  The library's contracts laid at this program: what strings.Clone, maps.Keys, slices.Sorted, slices.Sort, maps.Clone do (a table of numbers and the facts of this program a laying).
-/
namespace Go.Proofs
open Go.Shelf
def Tryz.laysM316_ren : Go.Shelf.Ren := ⟨fun | 316 => 109 | n => n, fun | 9 => 9 | 3 => 3 | 4 => 4 | 37 => 22 | 0 => 0 | 127 => 204 | 5 => 5 | n => n, fun | n => n⟩
theorem Tryz.laysM316 : Go.Proofs.LaysM.n316 Tryz.prog Tryz.laysM316_ren := {
  mixed := by kernel_rfl
  f316 := Tryz.func109.trans (congrArg some (by kernel_rfl))
  t0 := Tryz.underlying0
  a0 := Tryz.isAgg0
  z0 := Tryz.sizeOf0
  v0 := Tryz.zeroValue0
  t3 := Tryz.underlying3
  a3 := Tryz.isAgg3
  z3 := Tryz.sizeOf3
  v3 := Tryz.zeroValue3
  t4 := Tryz.underlying4
  a4 := Tryz.isAgg4
  z4 := Tryz.sizeOf4
  v4 := Tryz.zeroValue4
  t9 := Tryz.underlying9
  a9 := Tryz.isAgg9
  z9 := Tryz.sizeOf9
  v9 := Tryz.zeroValue9
  t37 := Tryz.underlying22
  a37 := Tryz.isAgg22
  z37 := Tryz.sizeOf22
  v37 := Tryz.zeroValue22
  t127 := Tryz.underlying204
  a127 := Tryz.isAgg204
  z127 := Tryz.sizeOf204
  v127 := Tryz.zeroValue204
  t5 := Tryz.underlying5
  a5 := Tryz.isAgg5
  z5 := Tryz.sizeOf5
  v5 := Tryz.zeroValue5
  i0 := by kernel_rfl
  i3 := by kernel_rfl
  i4 := by kernel_rfl
  i5 := by kernel_rfl
  i9 := by kernel_rfl
  i37 := by kernel_rfl
  i127 := by kernel_rfl }
def Tryz.keys55_ren : Go.Shelf.Ren := ⟨fun | 7 => 77 | 10 => 108 | n => n, fun | 23 => 76 | 26 => 9 | 3 => 99 | 28 => 135 | 0 => 0 | 27 => 134 | 33 => 108 | 4 => 4 | n => n, fun | n => n⟩
theorem Tryz.keys55 : Go.Proofs.SlLaysZ.n7 Tryz.prog Tryz.keys55_ren := {
  mixed := by kernel_rfl
  f7 := ⟨Tryz.f77.name, by decide, Tryz.func77.trans (congrArg some (by kernel_rfl))⟩
  f10 := ⟨Tryz.f108.name, by decide, Tryz.func108.trans (congrArg some (by kernel_rfl))⟩
  t0 := Tryz.underlying0
  a0 := Tryz.isAgg0
  z0 := Tryz.sizeOf0
  v0 := Tryz.zeroValue0
  t4 := Tryz.underlying4
  a4 := Tryz.isAgg4
  z4 := Tryz.sizeOf4
  v4 := Tryz.zeroValue4
  t23 := Tryz.underlying76
  a23 := Tryz.isAgg76
  z23 := Tryz.sizeOf76
  v23 := Tryz.zeroValue76
  t26 := Tryz.underlying9
  a26 := Tryz.isAgg9
  z26 := Tryz.sizeOf9
  v26 := Tryz.zeroValue9
  t27 := Tryz.underlying134
  a27 := Tryz.isAgg134
  z27 := Tryz.sizeOf134
  v27 := Tryz.zeroValue134
  t28 := Tryz.underlying135
  a28 := Tryz.isAgg135
  z28 := Tryz.sizeOf135
  v28 := Tryz.zeroValue135
  t33 := Tryz.underlying108
  a33 := Tryz.isAgg108
  z33 := Tryz.sizeOf108
  v33 := Tryz.zeroValue108 }
def Tryz.sorted54_ren : Go.Shelf.Ren := ⟨fun | 6 => 76 | 8 => 106 | 9 => 107 | 11 => 135 | 13 => 59 | 12 => 136 | 23 => 93 | 24 => 94 | 14 => 150 | 15 => 151 | 16 => 152 | 17 => 153 | 18 => 154 | 19 => 155 | 20 => 156 | 21 => 157 | 22 => 158 | 25 => 165 | 26 => 120 | 27 => 121 | 28 => 166 | 29 => 167 | 30 => 168 | 31 => 174 | n => n, fun | 26 => 9 | 28 => 135 | 24 => 69 | 0 => 0 | 3 => 3 | 37 => 118 | 48 => 156 | 50 => 41 | 4 => 4 | 40 => 160 | 39 => 159 | 45 => 95 | 5 => 5 | 9 => 9 | 51 => 186 | 55 => 190 | 57 => 214 | 58 => 215 | 33 => 108 | n => n, fun | n => n⟩
theorem Tryz.sorted54 : Go.Proofs.SlLaysZ.n6 Tryz.prog Tryz.sorted54_ren := {
  mixed := by kernel_rfl
  f6 := ⟨Tryz.f76.name, by decide, Tryz.func76.trans (congrArg some (by kernel_rfl))⟩
  f8 := ⟨Tryz.f106.name, by decide, Tryz.func106.trans (congrArg some (by kernel_rfl))⟩
  f11 := ⟨Tryz.f135.name, by decide, Tryz.func135.trans (congrArg some (by kernel_rfl))⟩
  t0 := Tryz.underlying0
  a0 := Tryz.isAgg0
  z0 := Tryz.sizeOf0
  v0 := Tryz.zeroValue0
  t24 := Tryz.underlying69
  a24 := Tryz.isAgg69
  z24 := Tryz.sizeOf69
  v24 := Tryz.zeroValue69
  t26 := Tryz.underlying9
  a26 := Tryz.isAgg9
  z26 := Tryz.sizeOf9
  v26 := Tryz.zeroValue9
  t28 := Tryz.underlying135
  a28 := Tryz.isAgg135
  z28 := Tryz.sizeOf135
  v28 := Tryz.zeroValue135
  i26 := by kernel_rfl }
def Tryz.sort58_ren : Go.Shelf.Ren := ⟨fun | 6 => 107 | 8 => 59 | 9 => 136 | 19 => 93 | 20 => 94 | 21 => 150 | 22 => 151 | 23 => 152 | 24 => 153 | 25 => 154 | 26 => 155 | 27 => 156 | 28 => 157 | 29 => 158 | 36 => 165 | 31 => 120 | 32 => 121 | 37 => 166 | 38 => 167 | 39 => 168 | 41 => 174 | n => n, fun | 27 => 69 | 29 => 9 | 3 => 3 | 32 => 118 | 26 => 69 | 0 => 0 | 44 => 156 | 46 => 41 | 4 => 4 | 36 => 160 | 35 => 159 | 41 => 95 | 5 => 5 | 9 => 9 | 53 => 186 | 57 => 190 | 63 => 214 | 64 => 215 | n => n, fun | n => n⟩
theorem Tryz.sort58 : Go.Proofs.SlLaysM.n6 Tryz.prog Tryz.sort58_ren := {
  mixed := by kernel_rfl
  f6 := ⟨Tryz.f107.name, by decide, Tryz.func107.trans (congrArg some (by kernel_rfl))⟩
  f8 := Tryz.func59.trans (congrArg some (by kernel_rfl))
  f9 := ⟨Tryz.f136.name, by decide, Tryz.func136.trans (congrArg some (by kernel_rfl))⟩
  f19 := Tryz.func93.trans (congrArg some (by kernel_rfl))
  f20 := Tryz.func94.trans (congrArg some (by kernel_rfl))
  f21 := ⟨Tryz.f150.name, by decide, Tryz.func150.trans (congrArg some (by kernel_rfl))⟩
  f22 := ⟨Tryz.f151.name, by decide, Tryz.func151.trans (congrArg some (by kernel_rfl))⟩
  f23 := ⟨Tryz.f152.name, by decide, Tryz.func152.trans (congrArg some (by kernel_rfl))⟩
  f24 := ⟨Tryz.f153.name, by decide, Tryz.func153.trans (congrArg some (by kernel_rfl))⟩
  f25 := ⟨Tryz.f154.name, by decide, Tryz.func154.trans (congrArg some (by kernel_rfl))⟩
  f26 := ⟨Tryz.f155.name, by decide, Tryz.func155.trans (congrArg some (by kernel_rfl))⟩
  f27 := ⟨Tryz.f156.name, by decide, Tryz.func156.trans (congrArg some (by kernel_rfl))⟩
  f28 := ⟨Tryz.f157.name, by decide, Tryz.func157.trans (congrArg some (by kernel_rfl))⟩
  f29 := ⟨Tryz.f158.name, by decide, Tryz.func158.trans (congrArg some (by kernel_rfl))⟩
  f31 := Tryz.func120.trans (congrArg some (by kernel_rfl))
  f32 := Tryz.func121.trans (congrArg some (by kernel_rfl))
  f36 := ⟨Tryz.f165.name, by decide, Tryz.func165.trans (congrArg some (by kernel_rfl))⟩
  f37 := ⟨Tryz.f166.name, by decide, Tryz.func166.trans (congrArg some (by kernel_rfl))⟩
  f38 := ⟨Tryz.f167.name, by decide, Tryz.func167.trans (congrArg some (by kernel_rfl))⟩
  f39 := ⟨Tryz.f168.name, by decide, Tryz.func168.trans (congrArg some (by kernel_rfl))⟩
  f41 := ⟨Tryz.f174.name, by decide, Tryz.func174.trans (congrArg some (by kernel_rfl))⟩
  t0 := Tryz.underlying0
  a0 := Tryz.isAgg0
  z0 := Tryz.sizeOf0
  v0 := Tryz.zeroValue0
  t3 := Tryz.underlying3
  a3 := Tryz.isAgg3
  z3 := Tryz.sizeOf3
  v3 := Tryz.zeroValue3
  t4 := Tryz.underlying4
  a4 := Tryz.isAgg4
  z4 := Tryz.sizeOf4
  v4 := Tryz.zeroValue4
  t5 := Tryz.underlying5
  a5 := Tryz.isAgg5
  z5 := Tryz.sizeOf5
  v5 := Tryz.zeroValue5
  t9 := Tryz.underlying9
  a9 := Tryz.isAgg9
  z9 := Tryz.sizeOf9
  v9 := Tryz.zeroValue9
  t26 := Tryz.underlying69
  a26 := Tryz.isAgg69
  z26 := Tryz.sizeOf69
  v26 := Tryz.zeroValue69
  t27 := Tryz.underlying69
  a27 := Tryz.isAgg69
  z27 := Tryz.sizeOf69
  v27 := Tryz.zeroValue69
  t29 := Tryz.underlying9
  a29 := Tryz.isAgg9
  z29 := Tryz.sizeOf9
  v29 := Tryz.zeroValue9
  t32 := Tryz.underlying118
  a32 := Tryz.isAgg118
  z32 := Tryz.sizeOf118
  v32 := Tryz.zeroValue118
  t35 := Tryz.underlying159
  a35 := Tryz.isAgg159
  z35 := Tryz.sizeOf159
  v35 := Tryz.zeroValue159
  t36 := Tryz.underlying160
  a36 := Tryz.isAgg160
  z36 := Tryz.sizeOf160
  v36 := Tryz.zeroValue160
  t41 := Tryz.underlying95
  a41 := Tryz.isAgg95
  z41 := Tryz.sizeOf95
  v41 := Tryz.zeroValue95
  t44 := Tryz.underlying156
  a44 := Tryz.isAgg156
  z44 := Tryz.sizeOf156
  v44 := Tryz.zeroValue156
  t46 := Tryz.underlying41
  a46 := Tryz.isAgg41
  z46 := Tryz.sizeOf41
  v46 := Tryz.zeroValue41
  t53 := Tryz.underlying186
  a53 := Tryz.isAgg186
  z53 := Tryz.sizeOf186
  v53 := Tryz.zeroValue186
  t57 := Tryz.underlying190
  a57 := Tryz.isAgg190
  z57 := Tryz.sizeOf190
  v57 := Tryz.zeroValue190
  t63 := Tryz.underlying214
  a63 := Tryz.isAgg214
  z63 := Tryz.sizeOf214
  v63 := Tryz.zeroValue214
  t64 := Tryz.underlying215
  a64 := Tryz.isAgg215
  z64 := Tryz.sizeOf215
  v64 := Tryz.zeroValue215 }
end Go.Proofs
/-
  The disk as a plain list of files, sorted by their names: no walk.
-/
namespace Go.Proofs.YtbfhcbihgleddaaGreatDoor
open Go.RowKit Go.Maps

/-- A file: its name, its bytes, how many of them are synced. -/
structure Fi where
  n : List UInt8
  x : List Nat
  s : Nat
def Fi.ent (f : Fi) : Lit × DataW Unit := (.string f.n, fd (strOf f.x) f.s)
def mkD (l : List Fi) : DataW Unit := .map (l.map Fi.ent)
def fIns (f : Fi) : List Fi → List Fi
  | [] => [f]
  | g :: r => if bytesBefore f.n g.n then f :: g :: r else g :: fIns f r
def fDel (s : List UInt8) (l : List Fi) : List Fi := l.filter fun f => !(f.n == s)
def fPut (f : Fi) (l : List Fi) : List Fi := fIns f (fDel f.n l)
def fGet (s : List UInt8) (l : List Fi) : Option Fi := l.find? fun f => f.n == s
def fSum (l : List Fi) : Nat := (l.map fun f => f.x.length).sum
def nm (s : ByteArray) : List UInt8 := s.data.toList
theorem nm_length (s : ByteArray) : (nm s).length = s.size := by simp [nm]
theorem nm_ba (l : List UInt8) : nm ⟨l.toArray⟩ = l := by simp [nm]
theorem ba_nm (s : ByteArray) : (⟨(nm s).toArray⟩ : ByteArray) = s := by simp [nm]
theorem nm_inj {s t : ByteArray} (h : nm s = nm t) : s = t := by rw [← ba_nm s, ← ba_nm t, h]
theorem key_nm (s : ByteArray) : key s = .string (nm s) := rfl

theorem filter_ents (s : List UInt8) (l : List Fi) : (l.map Fi.ent).filter (fun p => !p.1.sameKey (.string s)) = (fDel s l).map Fi.ent := by
  induction l with
  | nil => rfl
  | cons f r ih =>
    simp only [List.map_cons, fDel, List.filter_cons, Fi.ent, Lit.sameKey] at *
    by_cases h : (f.n == s) = true
    · simp only [h, Bool.not_true, Bool.false_eq_true, if_false]; exact ih
    · have h : (f.n == s) = false := by simpa using h
      simp only [h, Bool.not_false, if_true, List.map_cons, Fi.ent]; rw [ih]
theorem insert_ents (f : Fi) (l : List Fi) : DataW.insert f.ent (l.map Fi.ent) = (fIns f l).map Fi.ent := by
  induction l with
  | nil => rfl
  | cons g r ih =>
    simp only [List.map_cons, DataW.insert, fIns]
    show (if bytesBefore f.n g.n = true then _ else _) = _
    by_cases h : bytesBefore f.n g.n = true
    · rw [if_pos h, if_pos h]; rfl
    · rw [if_neg h, if_neg h, ih]; rfl
theorem mkD_del (s : List UInt8) (l : List Fi) : (mkD l).del (.string s) = mkD (fDel s l) := by
  unfold mkD DataW.del
  dsimp only
  rw [filter_ents]
theorem mkD_put (f : Fi) (l : List Fi) : (mkD l).put (.string f.n) (fd (strOf f.x) f.s) = mkD (fPut f l) := by
  unfold mkD DataW.put fPut
  dsimp only
  rw [filter_ents]
  exact congrArg _ (insert_ents f _)
theorem find_ents (s : List UInt8) (l : List Fi) : (l.map Fi.ent).find? (fun p => p.1.sameKey (.string s)) = (fGet s l).map Fi.ent := by
  induction l with
  | nil => rfl
  | cons f r ih =>
    simp only [List.map_cons, fGet, List.find?_cons, Fi.ent, Lit.sameKey] at *
    by_cases h : (f.n == s) = true
    · simp only [h]; rfl
    · have h : (f.n == s) = false := by simpa using h
      simp only [h]; exact ih
theorem mkD_atKey (s : List UInt8) (l : List Fi) : (mkD l).atKey (.string s) nofile = match fGet s l with | some f => fd (strOf f.x) f.s | none => nofile := by
  unfold mkD DataW.atKey
  dsimp only
  rw [find_ents]
  cases fGet s l <;> rfl
theorem mkD_has (s : List UInt8) (l : List Fi) : has (mkD l) (.string s) = (fGet s l).isSome := by
  unfold mkD
  rw [has_eq]
  unfold fGet
  induction l with
  | nil => rfl
  | cons f r ih =>
    simp only [List.map_cons, List.any_cons, List.find?_cons, ih]
    show ((f.n == s) || _) = _
    by_cases h : (f.n == s) = true
    · simp only [h]; rfl
    · have h : (f.n == s) = false := by simpa using h
      simp only [h]; rfl
theorem mkD_keys (l : List Fi) : strKeys (mkD l) = l.map Fi.n := by
  unfold mkD strKeys
  dsimp only
  rw [List.map_map]
  apply List.map_congr_left
  intro f _
  rfl
theorem mkD_size (l : List Fi) : Maps.size (mkD l) = l.length := by
  unfold mkD
  rw [size_eq, List.length_map]

/-- The names rise. -/
def Rise (l : List Fi) : Prop := l.Pairwise fun f g => bytesBefore f.n g.n = true
theorem fDel_sub (s : List UInt8) (l : List Fi) : (fDel s l).Sublist l := List.filter_sublist
theorem Rise.del {l : List Fi} (h : Rise l) (s : List UInt8) : Rise (fDel s l) := List.Pairwise.sublist (fDel_sub s l) h
theorem mem_fIns {f g : Fi} {l : List Fi} : g ∈ fIns f l ↔ g = f ∨ g ∈ l := by
  induction l with
  | nil => simp [fIns]
  | cons a r ih =>
    unfold fIns
    split
    · simp
    · simp only [List.mem_cons, ih]
      constructor
      · rintro (h | h | h) <;> simp [h]
      · rintro (h | h | h) <;> simp [h]
theorem mem_fDel {g : Fi} {s : List UInt8} {l : List Fi} : g ∈ fDel s l ↔ g ∈ l ∧ g.n ≠ s := by
  unfold fDel
  rw [List.mem_filter]
  simp
theorem mem_fPut {f g : Fi} {l : List Fi} : g ∈ fPut f l ↔ g = f ∨ g ∈ l ∧ g.n ≠ f.n := by
  unfold fPut
  rw [mem_fIns, mem_fDel]
theorem Rise.ins {l : List Fi} (h : Rise l) (f : Fi) (hf : ∀ g ∈ l, g.n ≠ f.n) : Rise (fIns f l) := by
  induction l with
  | nil => simp [fIns, Rise]
  | cons a r ih =>
    unfold fIns
    have h0 := List.pairwise_cons.1 h
    split
    · rename_i hb
      refine List.pairwise_cons.2 ⟨fun g hg => ?_, h⟩
      rcases List.mem_cons.1 hg with rfl | hg
      · exact hb
      · exact WideShapes.bytes_trans _ _ _ hb (h0.1 g hg)
    · rename_i hb
      refine List.pairwise_cons.2 ⟨fun g hg => ?_, ih h0.2 fun g hg => hf g (List.mem_cons_of_mem _ hg)⟩
      rcases mem_fIns.1 hg with rfl | hg
      · rcases WideAt.bytes_total a.n g.n (hf a List.mem_cons_self) with h1 | h1
        · exact h1
        · exact absurd h1 hb
      · exact h0.1 g hg
theorem Rise.put {l : List Fi} (h : Rise l) (f : Fi) : Rise (fPut f l) := (h.del f.n).ins f fun _ hg => (mem_fDel.1 hg).2
theorem fGet_mem {s : List UInt8} {l : List Fi} {f : Fi} (h : fGet s l = some f) : f ∈ l ∧ f.n = s := by
  unfold fGet at h
  exact ⟨List.mem_of_find?_eq_some h, by simpa using List.find?_some h⟩
theorem fGet_none {s : List UInt8} {l : List Fi} (h : fGet s l = none) : ∀ f ∈ l, f.n ≠ s := by
  unfold fGet at h
  intro f hf e
  have := List.find?_eq_none.1 h f hf
  simp [e] at this
theorem fGet_of_mem {l : List Fi} (h : Rise l) {f : Fi} (hf : f ∈ l) : fGet f.n l = some f := by
  unfold fGet
  induction l with
  | nil => cases hf
  | cons a r ih =>
    have h0 := List.pairwise_cons.1 h
    rcases List.mem_cons.1 hf with rfl | hf
    · simp
    · have hne : (a.n == f.n) = false := by
        have h1 := h0.1 f hf
        rw [beq_eq_false_iff_ne]
        intro e
        rw [e, WideAt.bytes_irrefl] at h1
        cases h1
      rw [List.find?_cons, hne]
      exact ih h0.2 hf
theorem fSum_ins (f : Fi) (l : List Fi) : fSum (fIns f l) = f.x.length + fSum l := by
  induction l with
  | nil => simp [fIns, fSum]
  | cons a r ih =>
    unfold fIns
    split
    · simp [fSum]
    · simp only [fSum, List.map_cons, List.sum_cons] at *
      omega
theorem len_ins (f : Fi) (l : List Fi) : (fIns f l).length = l.length + 1 := by
  induction l with
  | nil => rfl
  | cons a r ih =>
    unfold fIns
    split
    · rfl
    · simp [ih]
/-- How many bytes the file of a name has. -/
def fWas (s : List UInt8) (l : List Fi) : Nat := match fGet s l with | some f => f.x.length | none => 0
theorem fDel_none {s : List UInt8} {l : List Fi} (h : ∀ f ∈ l, f.n ≠ s) : fDel s l = l := by
  unfold fDel
  rw [List.filter_eq_self]
  intro f hf
  simpa using h f hf
theorem fSum_del {l : List Fi} (h : Rise l) (s : List UInt8) : fSum (fDel s l) + fWas s l = fSum l := by
  induction l with
  | nil => rfl
  | cons a r ih =>
    have h0 := List.pairwise_cons.1 h
    by_cases e : a.n = s
    · have hr : ∀ f ∈ r, f.n ≠ s := fun f hf e' => by
        have := h0.1 f hf
        rw [e, e', WideAt.bytes_irrefl] at this
        cases this
      have e1 : fDel s (a :: r) = r := by
        unfold fDel
        rw [List.filter_cons]
        simp only [e, beq_self_eq_true, Bool.not_true, Bool.false_eq_true, if_false]
        exact fDel_none hr
      have e2 : fWas s (a :: r) = a.x.length := by
        unfold fWas fGet
        rw [List.find?_cons]
        simp [e]
      rw [e1, e2]
      simp only [fSum, List.map_cons, List.sum_cons]
      omega
    · have hb : (a.n == s) = false := by simpa using e
      have e1 : fDel s (a :: r) = a :: fDel s r := by
        unfold fDel
        rw [List.filter_cons]
        simp [hb]
      have e2 : fWas s (a :: r) = fWas s r := by
        unfold fWas fGet
        rw [List.find?_cons, hb]
      rw [e1, e2]
      have := ih h0.2
      simp only [fSum, List.map_cons, List.sum_cons] at *
      omega
theorem len_del (s : List UInt8) (l : List Fi) : (fDel s l).length ≤ l.length := List.length_filter_le _ _
theorem fWas_le {l : List Fi} {s : List UInt8} {B : Nat} (h : ∀ f ∈ l, f.x.length ≤ B) : fWas s l ≤ B := by
  unfold fWas
  cases e : fGet s l with
  | none => simp
  | some f => exact h f (fGet_mem e).1
theorem fSum_le {l : List Fi} {B : Nat} (h : ∀ f ∈ l, f.x.length ≤ B) : fSum l ≤ l.length * B := by
  induction l with
  | nil => simp [fSum]
  | cons a r ih =>
    have h1 := h a List.mem_cons_self
    have h2 := ih fun f hf => h f (List.mem_cons_of_mem _ hf)
    simp only [fSum, List.map_cons, List.sum_cons, List.length_cons, Nat.succ_mul] at *
    omega
theorem fGet_ins (f : Fi) {l : List Fi} (s : List UInt8) (hf : ∀ g ∈ l, g.n ≠ f.n) : fGet s (fIns f l) = if f.n = s then some f else fGet s l := by
  unfold fGet
  induction l with
  | nil =>
    simp only [fIns, List.find?_cons, List.find?_nil]
    by_cases e : f.n = s
    · simp [e]
    · have hb : (f.n == s) = false := by simpa using e
      rw [hb, if_neg e]
  | cons a r ih =>
    have ih := ih fun g hg => hf g (List.mem_cons_of_mem _ hg)
    unfold fIns
    split
    · rw [List.find?_cons]
      by_cases e : f.n = s
      · simp [e]
      · have hb : (f.n == s) = false := by simpa using e
        rw [hb, if_neg e]
    · rw [List.find?_cons, List.find?_cons, ih]
      by_cases e : f.n = s
      · have := hf a List.mem_cons_self
        rw [if_pos e, if_pos e]
        have hb : (a.n == s) = false := by rw [← e]; simpa using this
        rw [hb]
      · rw [if_neg e, if_neg e]
theorem fGet_del (s t : List UInt8) (l : List Fi) : fGet s (fDel t l) = if s = t then none else fGet s l := by
  by_cases e : s = t
  · rw [if_pos e]
    unfold fGet
    rw [List.find?_eq_none]
    intro f hf
    have := (mem_fDel.1 hf).2
    rw [e]; simpa using this
  · rw [if_neg e]
    unfold fGet fDel
    induction l with
    | nil => rfl
    | cons a r ih =>
      rw [List.filter_cons]
      by_cases ha : a.n = t
      · have h1 : (a.n == s) = false := by rw [ha]; simpa using fun h => e h.symm
        simp only [ha, beq_self_eq_true, Bool.not_true, Bool.false_eq_true, if_false]
        rw [ih, List.find?_cons, h1]
      · have hb : (a.n == t) = false := by simpa using ha
        simp only [hb, Bool.not_false, if_true]
        rw [List.find?_cons, List.find?_cons, ih]
theorem fGet_put (f : Fi) (s : List UInt8) (l : List Fi) : fGet s (fPut f l) = if f.n = s then some f else fGet s l := by
  unfold fPut
  rw [fGet_ins f s fun g hg => (mem_fDel.1 hg).2, fGet_del]
  by_cases e : f.n = s
  · rw [if_pos e, if_pos e]
  · rw [if_neg e, if_neg e, if_neg fun h => e h.symm]

/-- Two lists of files with rising names that tell the same of each name are the same. -/
theorem bytes_lt (a b : List UInt8) : bytesBefore a b = decide (a < b) := by
  induction a generalizing b with
  | nil => cases b <;> simp [bytesBefore]
  | cons x r ih =>
    cases b with
    | nil => simp [bytesBefore]
    | cons y t =>
      simp only [bytesBefore, ih]
      rw [Bool.eq_iff_iff]
      simp [List.cons_lt_cons_iff]
theorem sort_names {l : List Fi} (h : Rise l) {ss : List (List UInt8)} (hp : ss.Perm (l.map Fi.n)) : ss.mergeSort (fun x y => decide (x ≤ y)) = l.map Fi.n := by
  have h1 : (ss.mergeSort (fun x y => decide (x ≤ y))).Pairwise (fun a b => a ≤ b) := by
    have := List.pairwise_mergeSort (le := fun x y : List UInt8 => decide (x ≤ y)) (fun a b c => by simp only [decide_eq_true_eq]; exact List.le_trans) (fun a b => by simp only [Bool.or_eq_true, decide_eq_true_eq]; exact List.le_total a b) ss
    simpa using this
  have h2 : (l.map Fi.n).Pairwise (fun a b => a ≤ b) := by
    rw [List.pairwise_map]
    refine List.Pairwise.imp ?_ h
    intro a b hab
    rw [bytes_lt] at hab
    exact List.le_of_lt (of_decide_eq_true hab)
  exact List.Perm.eq_of_pairwise (fun a b _ _ h1 h2 => List.le_antisymm h1 h2) h1 h2 ((List.mergeSort_perm _ _).trans hp)

/-- A disk: its files, its room, how many calls are left. -/
structure Pd where
  l : List Fi
  room : Int
  left : Int
def Pd.dk (p : Pd) : Dk := ⟨mkD p.l, fSum p.l, p.room, p.left⟩
def okName (s : List UInt8) : Bool := decide (1 ≤ s.length ∧ s.length ≤ 32)
/-- What is true of a disk of at most n files. -/
structure Ok (p : Pd) (n : Nat) : Prop where
  rise : Rise p.l
  name : ∀ f ∈ p.l, okName f.n = true
  size : ∀ f ∈ p.l, f.x.length ≤ 1048576
  sync : ∀ f ∈ p.l, f.s ≤ f.x.length
  byts : ∀ f ∈ p.l, Byts f.x
  len : p.l.length ≤ n
  many : n ≤ 1000000
structure PdAt (w : World) (k b n : Nat) (p : Pd) : Prop where
  at_ : DiskAt w k b n p.dk
  ok : Ok p n
theorem PdAt.below {w w' : World} {k b n : Nat} {p : Pd} (h : PdAt w k b n p) (hb : Below w.heap.size w w') : PdAt w' k b n p := ⟨h.at_.below hb, h.ok⟩
theorem PdAt.mono {w : World} {k b n n' : Nat} {p : Pd} (h : PdAt w k b n p) (hn : n ≤ n') (h' : n' ≤ 1000000) : PdAt w k b n' p := ⟨h.at_.mono hn, { h.ok with len := Nat.le_trans h.ok.len hn, many := h' }⟩
theorem DiskAt.other {w w' : World} {k b n k' b' : Nat} {d : Dk} (h : DiskAt w k b n d) (ht : Turned k' b' w w') (h1 : k ≠ k') (h2 : k ≠ b') (h3 : b ≠ k') (h4 : b ≠ b') : DiskAt w' k b n d := by
  refine ⟨?_, ?_, h.used, h.room, h.left⟩
  · have e := h.box
    have hl := h.box.lt
    unfold BoxT at *
    rw [ht.block k hl h1 h2]; exact e
  · obtain ⟨es, clock, e1, e2⟩ := h.map
    exact ⟨es, clock, (ht.block b h.map.lt h3 h4).trans e1, e2⟩
theorem PdAt.other {w w' : World} {k b n k' b' : Nat} {p : Pd} (h : PdAt w k b n p) (ht : Turned k' b' w w') (h1 : k ≠ k') (h2 : k ≠ b') (h3 : b ≠ k') (h4 : b ≠ b') : PdAt w' k b n p := ⟨h.at_.other ht h1 h2 h3 h4, h.ok⟩
theorem Ok.used {p : Pd} {n : Nat} (h : Ok p n) : fSum p.l ≤ 1048576000000 := by
  have h1 := fSum_le h.size
  have h2 := h.len
  have h3 := h.many
  have : p.l.length * 1048576 ≤ 1000000 * 1048576 := Nat.mul_le_mul_right _ (by omega)
  omega
def Pd.done (p : Pd) : Pd := { p with left := if 0 < p.left then p.left - 1 else p.left }
theorem Pd.done_dk (p : Pd) : p.done.dk = p.dk.done := rfl
def pFind (p : Pd) (s : List UInt8) : Option Fi × Int :=
  if p.left = 0 then (none, 23) else match fGet s p.l with | some f => (some f, 0) | none => (none, 20)
def fData (o : Option Fi) : List Nat := match o with | some f => f.x | none => []
def fSync (o : Option Fi) : Nat := match o with | some f => f.s | none => 0
theorem strOf_nil : strOf [] = ByteArray.empty := rfl
theorem dFind_p (p : Pd) (s : ByteArray) : dFind p.dk s = (fd (strOf (fData (pFind p (nm s)).1)) (fSync (pFind p (nm s)).1), (pFind p (nm s)).2) := by
  unfold dFind pFind Pd.dk
  dsimp only
  rw [key_nm, mkD_has, mkD_atKey]
  by_cases h : p.left = 0
  · rw [if_pos h, if_pos h]; rfl
  · rw [if_neg h, if_neg h]
    cases fGet (nm s) p.l <;> rfl
theorem isNm_ok (s : ByteArray) : isNm s = okName (nm s) := by
  unfold isNm okName
  rw [nm_length]
theorem okName_dot {s : ByteArray} (h : okName (nm s) = true) : s.size ≤ maxLen := by
  unfold okName at h
  rw [nm_length] at h
  simp at h
  unfold maxLen; omega
end Go.Proofs.YtbfhcbihgleddaaGreatDoor
/-
  Walks over package disk: strings.Clone, names, List.
-/
namespace Go.Proofs
open Go.RowKit Go.Maps Go.Sort Go.Shelf
theorem Tryz.sorts54 (m : Nat) : AnyZ.SortsIn Tryz.prog Tryz.sorted54_ren Fence.wide m :=
  ⟨fun blk off cap ss W hH hblk hsz => callsIn_wide.2 (AnyM.slices_Sort_string Tryz.sort58 blk off cap ss W hH hblk hsz),
   fun p cap W => callsIn_wide.2 (AnyM.slices_Sort_string_none Tryz.sort58 p cap W)⟩
theorem Tryz.keys_made (mb : Option Nat) (W : World) : CallsIn Fence.wide 5 Tryz.prog 77 #[.map mb] W fun e w' => e = .returned (.func (.func 108) #[] #[.pointer (some ⟨W.heap.size, 0, none⟩)]) ∧ w' = W.alloc (.cells #[.map mb] 76) :=
  AnyZ.keys_in Tryz.keys55 Fence.wide 5 trivial rfl mb W
set_option maxHeartbeats 1000000 in
theorem Tryz.keys_sorted {H : Type} (b nn : Nat) (D0 : DataW H) (R : Value → Option (DataW H × List MemPlace)) (w : World) (hown : w.ownsMap Tryz.prog 9 R b nn D0) (hmax : Maps.size D0 ≤ maxLen) (hbytes : Maps.size D0 * 16 ≤ 140737488355328) :
    CallsIn Fence.wide 5 Tryz.prog 76 #[.func (.func 108) #[] #[.pointer (some ⟨w.heap.size, 0, none⟩)]] (w.alloc (.cells #[.map (some b)] 76)) fun e w' => ∃ (v : Value) (ss : List (List UInt8)), e = .returned v ∧ ss.Perm (strKeys D0) ∧
      w'.ownsRow (w.alloc (.cells #[.map (some b)] 76)).heap.size 9 1 v ss.length ((ss.mergeSort (fun x y => decide (x ≤ y))).map encStr) ∧ Below (w.alloc (.cells #[.map (some b)] 76)).heap.size (w.alloc (.cells #[.map (some b)] 76)) w' := by
  have hbl := hown.lt
  have hseq : SeqGives Fence.wide 2 Tryz.prog 108 #[.pointer (some ⟨w.heap.size, 0, none⟩)] encStr (fun ss => ss.Perm (strKeys D0)) (Maps.size D0) (w.alloc (.cells #[.map (some b)] 76)) :=
    AnyZ.keys_gives (ρ := Tryz.keys55_ren) { Tryz.keys55 with } Fence.wide _ trivial rfl (by omega) w.heap.size b nn D0 _ (by simp) (by simp) (by
      obtain ⟨es, clock, hb, Ft, hs, hD⟩ := hown
      exact ⟨es, clock, (Below.heap_alloc _ _ b hbl).trans hb, Ft, hs, hD⟩)
  refine (AnyZ.sorted_in Tryz.sorted54 Fence.wide 5 trivial trivial trivial trivial rfl (by omega) (Tryz.sorts54 _) (enters_of Tryz.func107 (by kernel_rfl) rfl) 108 #[.pointer (some ⟨w.heap.size, 0, none⟩)] trivial (enters_of Tryz.func108 (by kernel_rfl) rfl) _ _ hmax hbytes _ hseq).mono ?_
  rintro e w' ⟨v, ss, h1, h2, h3, _, h4⟩
  exact ⟨v, ss, h1, h2, h3, h4⟩
end Go.Proofs
namespace Go.Proofs.YtbfhcbihgleddaaGreatDoor
open Go.RowKit Go.Maps Go.Shelf

set_option maxHeartbeats 1000000 in
theorem clone_ok : CloneOk := by
  intro s w hs
  have hc : Calls Tryz.prog 109 #[.string s] w fun e w' => e = .returned (.string s) ∧ Below w.heap.size w w' := Any.stringslite_Clone Tryz.laysM316 s w hs
  go_enter Tryz.func78, Tryz.ntmps78
  go_wp2_with fail
  refine hc.mono ?_
  rintro e w' ⟨rfl, hb⟩
  go_wp2
  go_ret
  exact ⟨rfl, hb⟩

/-- A slice of names. -/
def NSeg (B : Nat) (w : World) (v : Value) (l : List (List UInt8)) : Prop := LSeg 1 (fun s : List UInt8 => [Value.string ⟨s.toArray⟩]) B w v l
theorem NSeg.of_row {base : Nat} {w : World} {v : Value} {ss : List (List UInt8)} (h : w.ownsRow base 9 1 v ss.length (ss.map fun l => Value.string ⟨l.toArray⟩)) (hl : ss.length ≤ 140737488355328) : NSeg w.heap.size w v ss := by
  rcases h.2 with ⟨rfl, h0⟩ | ⟨g, cap, cur, rfl, h2, h3, h4, h5, h6, h7⟩
  · have : ss = [] := List.length_eq_zero_iff.1 h0
    subst this
    exact ⟨none, 0, rfl, by simp, .inl rfl⟩
  · refine ⟨_, cap, rfl, hl, .inr ⟨g, 0, rfl, (Array.getElem?_eq_some_iff.1 h3).1, fun i x hx j u hu => ?_⟩⟩
    have hj : j = 0 := by
      cases j with
      | zero => rfl
      | succ j => simp at hu
    subst hj
    simp at hu
    subst hu
    have hi : i < ss.length := (List.getElem?_eq_some_iff.1 hx).1
    have := World.ownsRow.cellAt h i (by omega)
    simp only [Nat.zero_add, Nat.mul_one, Nat.add_zero]
    rw [this, List.getElem?_map, hx]
    rfl
/-- A slice whose array is not below base. -/
def NewSl (base : Nat) (v : Value) : Prop := ∀ a n c, v = .slice (some a) n c → base ≤ a.block
theorem NewSl.of_row {base e sz n : Nat} {w : World} {v : Value} {xs : List Value} (h : w.ownsRow base e sz v n xs) : NewSl base v := by
  rintro a m c rfl
  rcases h.2 with ⟨h1, _⟩ | ⟨g, cap, cur, h1, h2, _⟩
  · cases h1
  · cases h1; exact h2
theorem LSeg.turned {α : Type} {sz : Nat} {cs : α → List Value} {w w' : World} {v : Value} {xs : List α} {base k b : Nat} (h : LSeg sz cs w.heap.size w v xs) (hn : NewSl base v) (hk : k < base) (hb : b < base) (ht : Turned k b w w') : LSeg sz cs w'.heap.size w' v xs := by
  obtain ⟨ao, cap, h1, h2, h4⟩ := h
  refine ⟨ao, cap, h1, h2, ?_⟩
  rcases h4 with h4 | ⟨g, off, h5, h6, h7⟩
  · exact .inl h4
  · subst h5
    have := hn _ _ _ h1
    dsimp only at this
    exact .inr ⟨g, off, rfl, Nat.lt_of_lt_of_le h6 ht.size, fun i x hi j u hu => (World.cell?_of_block (ht.block g h6 (by omega) (by omega))).trans (h7 i x hi j u hu)⟩
theorem tight {w : World} {b n : Nat} {D : DataW Unit} (h : w.ownsMap Tryz.prog 9 fileR b n D) : w.ownsMap Tryz.prog 9 fileR b (Maps.size D) D := by
  obtain ⟨es, clock, h1, h2, h3, rfl⟩ := h
  refine ⟨es, clock, h1, h2, ?_, rfl⟩
  rw [size_eq, length_sorted]
  simp

set_option maxHeartbeats 1000000 in
set_option maxRecDepth 100000 in
theorem names_any {w : World} {k b n : Nat} {d : Dk} {l : List Fi} (h : DiskAt w k b n d) (hD : d.D = mkD l) (hr : Rise l) (hl : l.length ≤ 1000000) :
    Calls Tryz.prog 46 #[.pointer (some ⟨k, 0, none⟩)] w fun e w' => ∃ v, e = .returned v ∧ NSeg w'.heap.size w' v (l.map Fi.n) ∧ NewSl w.heap.size v ∧ Below w.heap.size w w' := by
  obtain ⟨c0, c1, c2, c3⟩ := h.box.cells4
  have hown := h.map
  rw [hD] at hown
  have hs := mkD_size l
  refine (callsIn_wide (n := 6)).1 ?_
  have hfK : Fence.wide.fn 77 := trivial
  have hfS : Fence.wide.fn 76 := trivial
  refine callsIn_of_wp Tryz.func46 rfl trivial ?_ rfl
  simp only [Tryz.ntmps46, List.size_toArray, List.length_cons, List.length_nil, Nat.reduceAdd, Nat.reduceSub, Array.replicate_succ, Array.replicate_zero, List.push_toArray, List.append_toArray, List.nil_append, List.cons_append]
  gi_wp2_with (first
    | (gi_at_call 77; refine (Tryz.keys_made _ _).mono ?_; rintro e w' ⟨rfl, rfl⟩)
    | (gi_at_call 76; refine (Tryz.keys_sorted b n (mkD l) fileR w hown (by rw [hs]; unfold maxLen; omega) (by rw [hs]; omega)).mono ?_; rintro e w' ⟨v, ss, rfl, hS, hrow, hb⟩))
  go_ret
  rw [mkD_keys] at hS
  rw [sort_names hr hS] at hrow
  have hlen : ss.length = (l.map Fi.n).length := hS.length_eq
  rw [hlen] at hrow
  exact ⟨v, rfl, NSeg.of_row hrow (by rw [List.length_map]; omega), NewSl.of_row (ownsRow_base_a hrow (by simp)), ((Below.refl _ w).alloc (Nat.le_refl _) _).trans (hb.mono (by simp))⟩

/-- What List tells. -/
def pList (p : Pd) : List (List UInt8) := if p.left = 0 then [] else p.l.map Fi.n
set_option maxHeartbeats 1000000 in
set_option maxRecDepth 100000 in
theorem List_any {w : World} {k b n : Nat} {p : Pd} (h : PdAt w k b n p) :
    Calls Tryz.prog 27 #[.pointer (some ⟨k, 0, none⟩)] w fun e w' => ∃ v, e = .returned v ∧ NSeg w'.heap.size w' v (pList p) ∧ NewSl w.heap.size v ∧ Below w.heap.size w w' := by
  have hd := Dead_any h.at_
  have hn := names_any h.at_ (l := p.l) rfl h.ok.rise (Nat.le_trans h.ok.len h.ok.many)
  unfold pList
  by_cases h0 : p.left = 0
  · rw [if_pos h0]
    have e2 : (p.dk.left == 0) = true := by simp [h0, Pd.dk]
    rw [e2] at hd
    go_enter Tryz.func27, Tryz.ntmps27
    go_wp2_with fail
    refine hd.mono ?_
    rintro e w1 ⟨rfl, rfl⟩
    go_wp2
    go_ret
    exact ⟨_, rfl, ⟨none, 0, rfl, by simp, .inl rfl⟩, (by intro a n c e; cases e), Below.refl _ _⟩
  · rw [if_neg h0]
    have e2 : (p.dk.left == 0) = false := by simp [h0, Pd.dk]
    rw [e2] at hd
    go_enter Tryz.func27, Tryz.ntmps27
    go_wp2_with fail
    refine hd.mono ?_
    rintro e w1 ⟨rfl, rfl⟩
    go_wp2_with fail
    refine hn.mono ?_
    rintro e w2 ⟨v, rfl, h1, h2, h3⟩
    go_wp2
    go_ret
    exact ⟨_, rfl, h1, h2, h3⟩
end Go.Proofs.YtbfhcbihgleddaaGreatDoor
/-
  What each call does to the disk as a list of files.
-/
namespace Go.Proofs.YtbfhcbihgleddaaGreatDoor
open Go.RowKit Go.Maps

def pWrite (p : Pd) (s : List UInt8) (x : List Nat) : Pd × Int :=
  if p.left = 0 then (p, 23) else if okName s = false then (p, 21) else
  if 1048576 < x.length ∨ p.room < (fSum p.l : Int) - (fWas s p.l : Int) + (x.length : Int) then (p, 22) else
  (({ p with l := fPut ⟨s, x, 0⟩ p.l } : Pd).done, 0)
def pDelete (p : Pd) (s : List UInt8) : Pd × Int :=
  match (pFind p s).1 with
  | some _ => (({ p with l := fDel s p.l } : Pd).done, 0)
  | none => (p, (pFind p s).2)
def pSync (p : Pd) (s : List UInt8) : Pd × Int :=
  match (pFind p s).1 with
  | some f => (({ p with l := fPut ⟨s, f.x, f.x.length⟩ p.l } : Pd).done, 0)
  | none => (p, (pFind p s).2)
def pRename (p : Pd) (s t : List UInt8) : Pd × Int :=
  match (pFind p s).1 with
  | some f => if okName t = false then (p, 21) else (({ p with l := fPut ⟨t, f.x, f.s⟩ (fDel s p.l) } : Pd).done, 0)
  | none => (p, (pFind p s).2)

theorem pFind_some {p : Pd} {s : List UInt8} {f : Fi} (h : (pFind p s).1 = some f) : (pFind p s).2 = 0 ∧ p.left ≠ 0 ∧ fGet s p.l = some f := by
  unfold pFind at *
  by_cases h0 : p.left = 0
  · rw [if_pos h0] at h; cases h
  · rw [if_neg h0] at *
    cases e : fGet s p.l with
    | none => rw [e] at h; cases h
    | some g => rw [e] at h; simp at h; subst h; exact ⟨rfl, h0, rfl⟩
theorem pFind_none {p : Pd} {s : List UInt8} (h : (pFind p s).1 = none) : (pFind p s).2 ≠ 0 := by
  unfold pFind at *
  by_cases h0 : p.left = 0
  · rw [if_pos h0]; simp
  · rw [if_neg h0] at *
    cases e : fGet s p.l with
    | none => simp
    | some g => rw [e] at h; cases h
theorem sb_strOf {x : List Nat} (h : Byts x) : sb (strOf x) = x := by
  unfold sb strOf
  simp only [List.map_map]
  conv => rhs; rw [← List.map_id x]
  apply List.map_congr_left
  intro a ha
  obtain ⟨i, hi, rfl⟩ := List.getElem_of_mem ha
  have := h i _ (List.getElem?_eq_getElem hi)
  simp [Function.comp]
  omega
theorem strOf_inj {x y : List Nat} (hx : Byts x) (hy : Byts y) (h : strOf x = strOf y) : x = y := by rw [← sb_strOf hx, ← sb_strOf hy, h]
theorem Ok.data {p : Pd} {n : Nat} (h : Ok p n) (s : List UInt8) : (fData (pFind p s).1).length ≤ 1048576 ∧ Byts (fData (pFind p s).1) := by
  cases e : (pFind p s).1 with
  | none => exact ⟨by simp [fData], Byts.nil⟩
  | some f =>
    have := (fGet_mem (pFind_some e).2.2).1
    exact ⟨h.size f this, h.byts f this⟩
theorem Ok.put {p : Pd} {n : Nat} (h : Ok p n) (f : Fi) (h1 : okName f.n = true) (h2 : f.x.length ≤ 1048576) (h3 : f.s ≤ f.x.length) (h4 : Byts f.x) (hn : n + 1 ≤ 1000000) : Ok { p with l := fPut f p.l } (n + 1) where
  rise := h.rise.put f
  name := fun g hg => by rcases mem_fPut.1 hg with rfl | hg; exact h1; exact h.name g hg.1
  size := fun g hg => by rcases mem_fPut.1 hg with rfl | hg; exact h2; exact h.size g hg.1
  sync := fun g hg => by rcases mem_fPut.1 hg with rfl | hg; exact h3; exact h.sync g hg.1
  byts := fun g hg => by rcases mem_fPut.1 hg with rfl | hg; exact h4; exact h.byts g hg.1
  len := by
    show (fPut f p.l).length ≤ n + 1
    unfold fPut
    rw [len_ins]
    have := len_del f.n p.l
    have := h.len
    omega
  many := hn
theorem Ok.del {p : Pd} {n : Nat} (h : Ok p n) (s : List UInt8) : Ok { p with l := fDel s p.l } n where
  rise := h.rise.del s
  name := fun g hg => h.name g (mem_fDel.1 hg).1
  size := fun g hg => h.size g (mem_fDel.1 hg).1
  sync := fun g hg => h.sync g (mem_fDel.1 hg).1
  byts := fun g hg => h.byts g (mem_fDel.1 hg).1
  len := Nat.le_trans (len_del s p.l) h.len
  many := h.many
theorem Ok.done {p : Pd} {n : Nat} (h : Ok p n) : Ok p.done n := ⟨h.rise, h.name, h.size, h.sync, h.byts, h.len, h.many⟩
theorem Ok.more {p : Pd} {n : Nat} (h : Ok p n) (hn : n + 1 ≤ 1000000) : Ok p (n + 1) := { h with len := Nat.le_succ_of_le h.len, many := hn }
theorem fSum_put {l : List Fi} (h : Rise l) (f : Fi) : fSum (fPut f l) + fWas f.n l = fSum l + f.x.length := by
  unfold fPut
  rw [fSum_ins]
  have := fSum_del h f.n
  omega
theorem fWas_data (p : Pd) (s : List UInt8) (f : Fi) (h : fGet s p.l = some f) : fWas s p.l = f.x.length := by unfold fWas; rw [h]
theorem atKey_p (p : Pd) (s : ByteArray) : ∃ x : List Nat, ∃ m : Nat, p.dk.D.atKey (key s) nofile = fd (strOf x) m ∧ x.length = fWas (nm s) p.l := by
  unfold Pd.dk
  dsimp only
  rw [key_nm, mkD_atKey]
  unfold fWas
  cases fGet (nm s) p.l with
  | none => exact ⟨[], 0, rfl, rfl⟩
  | some f => exact ⟨f.x, f.s, rfl, rfl⟩

theorem write_p {p : Pd} {n : Nat} (h : Ok p n) (s : ByteArray) (l : List Nat) (hl : Byts l) (hn : n + 1 ≤ 1000000) (x : ByteArray) (hx : x.size = fWas (nm s) p.l) :
    dWrite p.dk s l x = ((pWrite p (nm s) l).1.dk, (pWrite p (nm s) l).2) ∧ Ok (pWrite p (nm s) l).1 (n + 1) := by
  unfold dWrite pWrite
  rw [isNm_ok, hx]
  show (if p.left = 0 then _ else _) = _ ∧ _
  by_cases h0 : p.left = 0
  · simp only [if_pos h0]; exact ⟨trivial, h.more hn⟩
  · simp only [if_neg h0]
    by_cases h1 : okName (nm s) = false
    · simp only [if_pos h1]; exact ⟨trivial, h.more hn⟩
    · simp only [if_neg h1]
      show (if 1048576 < l.length ∨ p.room < (fSum p.l : Int) - (fWas (nm s) p.l : Int) + (l.length : Int) then _ else _) = _ ∧ _
      by_cases h2 : 1048576 < l.length ∨ p.room < (fSum p.l : Int) - (fWas (nm s) p.l : Int) + (l.length : Int)
      · simp only [if_pos h2]; exact ⟨trivial, h.more hn⟩
      · simp only [if_neg h2]
        refine ⟨?_, (h.put ⟨nm s, l, 0⟩ (by simpa using h1) (by show l.length ≤ _; omega) (Nat.zero_le _) hl hn).done⟩
        rw [Pd.done_dk]
        have e1 : (mkD p.l).put (key s) (fd (strOf l) 0) = mkD (fPut ⟨nm s, l, 0⟩ p.l) := mkD_put ⟨nm s, l, 0⟩ p.l
        have e2 : (fSum p.l : Int) - (fWas (nm s) p.l : Int) + (l.length : Int) = fSum (fPut ⟨nm s, l, 0⟩ p.l) := by
          have := fSum_put h.rise ⟨nm s, l, 0⟩
          dsimp only at this
          omega
        have e3 : ({ p.dk with D := p.dk.D.put (key s) (fd (strOf l) 0), used := p.dk.used - (fWas (nm s) p.l : Nat) + (l.length : Nat) } : Dk) = ({ p with l := fPut ⟨nm s, l, 0⟩ p.l } : Pd).dk := by
          unfold Pd.dk
          dsimp only
          rw [e1, e2]
        rw [e3]
theorem Write_p {w : World} {k b n : Nat} {p : Pd} (h : PdAt w k b n p) (hn : n + 1 ≤ 1000000) (s : ByteArray) (hs : s.size ≤ maxLen) (vb : Value) (l : List Nat) (hsg : Seg w vb l) (hl : Byts l) :
    Calls Tryz.prog 30 #[.pointer (some ⟨k, 0, none⟩), .string s, vb] w fun e w' => e = .returned (.int .i64 (pWrite p (nm s) l).2) ∧ PdAt w' k b (n + 1) (pWrite p (nm s) l).1 ∧ Turned k b w w' := by
  obtain ⟨x, m, hxm, hx⟩ := atKey_p p s
  have hx2 : (strOf x).size = fWas (nm s) p.l := by rw [strOf_size]; exact hx
  have hu := h.ok.used
  obtain ⟨e1, e2⟩ := write_p h.ok s l hl hn (strOf x) hx2
  have := Write_any h.at_ s hs vb l hsg (strOf x) m hxm (by rw [hx2]; exact fWas_le h.ok.size) (by show 0 ≤ (fSum p.l : Int) ∧ (fSum p.l : Int) ≤ _; omega) (by have := h.ok.many; unfold maxLen; omega)
  rw [e1] at this
  refine this.mono ?_
  rintro e w' ⟨h1, h2, h3⟩
  exact ⟨h1, ⟨h2, e2⟩, h3⟩

theorem Read_p {w : World} {k b n : Nat} {p : Pd} (h : PdAt w k b n p) (s : ByteArray) (hs : s.size ≤ maxLen) :
    Calls Tryz.prog 28 #[.pointer (some ⟨k, 0, none⟩), .string s] w (RdPost w (pFind p (nm s)).2 (fData (pFind p (nm s)).1)) := by
  have hdf := dFind_p p s
  obtain ⟨h1, h2⟩ := h.ok.data (nm s)
  have := Read_any h.at_ s hs (strOf (fData (pFind p (nm s)).1)) (fSync (pFind p (nm s)).1) (by rw [hdf]; rfl) (by rw [strOf_size]; exact h1)
  rw [hdf] at this
  dsimp only at this
  rw [sb_strOf h2] at this
  have e : (if (pFind p (nm s)).2 = 0 then fData (pFind p (nm s)).1 else []) = fData (pFind p (nm s)).1 := by
    cases e : (pFind p (nm s)).1 with
    | some f => rw [if_pos (pFind_some e).1]
    | none => rw [if_neg (pFind_none e)]; rfl
  rw [e] at this
  exact this

theorem Delete_p {w : World} {k b n : Nat} {p : Pd} (h : PdAt w k b n p) (s : ByteArray) (hs : s.size ≤ maxLen) :
    Calls Tryz.prog 29 #[.pointer (some ⟨k, 0, none⟩), .string s] w fun e w' => e = .returned (.int .i64 (pDelete p (nm s)).2) ∧ PdAt w' k b n (pDelete p (nm s)).1 ∧ Turned k b w w' := by
  have hdf := dFind_p p s
  obtain ⟨h1, h2⟩ := h.ok.data (nm s)
  have hu := h.ok.used
  have := Delete_any h.at_ s hs (strOf (fData (pFind p (nm s)).1)) (fSync (pFind p (nm s)).1) (by rw [hdf]; rfl) (by rw [strOf_size]; exact h1) (by show 0 ≤ (fSum p.l : Int) ∧ (fSum p.l : Int) ≤ _; omega)
  have e : dDelete p.dk s (strOf (fData (pFind p (nm s)).1)) = ((pDelete p (nm s)).1.dk, (pDelete p (nm s)).2) ∧ Ok (pDelete p (nm s)).1 n := by
    unfold dDelete pDelete
    rw [hdf]
    dsimp only
    cases e : (pFind p (nm s)).1 with
    | none =>
      rw [if_neg (pFind_none e)]
      exact ⟨rfl, h.ok⟩
    | some f =>
      obtain ⟨e1, e2, e3⟩ := pFind_some e
      rw [if_pos e1]
      refine ⟨?_, (h.ok.del _).done⟩
      dsimp only
      rw [Pd.done_dk]
      have e4 : ({ p.dk with D := p.dk.D.del (key s), used := p.dk.used - ((strOf (fData (some f))).size : Nat) } : Dk) = ({ p with l := fDel (nm s) p.l } : Pd).dk := by
        unfold Pd.dk
        dsimp only
        rw [key_nm, mkD_del, strOf_size]
        have := fSum_del h.ok.rise (nm s)
        rw [fWas_data p (nm s) f e3] at this
        have e5 : (fSum p.l : Int) - ((fData (some f)).length : Nat) = fSum (fDel (nm s) p.l) := by show (fSum p.l : Int) - (f.x.length : Nat) = _; omega
        rw [e5]
      rw [e4]
  rw [e.1] at this
  refine this.mono ?_
  rintro e' w' ⟨h1, h2, h3⟩
  exact ⟨h1, ⟨h2, e.2⟩, h3⟩

theorem Sync_p {w : World} {k b n : Nat} {p : Pd} (h : PdAt w k b n p) (hn : n + 1 ≤ 1000000) (s : ByteArray) (hs : s.size ≤ maxLen) :
    Calls Tryz.prog 102 #[.pointer (some ⟨k, 0, none⟩), .string s] w fun e w' => e = .returned (.int .i64 (pSync p (nm s)).2) ∧ PdAt w' k b (n + 1) (pSync p (nm s)).1 ∧ Turned k b w w' := by
  have hdf := dFind_p p s
  obtain ⟨h1, h2⟩ := h.ok.data (nm s)
  have := Sync_any h.at_ (by have := h.ok.many; unfold maxLen; omega) s hs (strOf (fData (pFind p (nm s)).1)) (fSync (pFind p (nm s)).1) (by rw [hdf]; rfl) (by rw [strOf_size]; exact h1)
  have e : dSync p.dk s (strOf (fData (pFind p (nm s)).1)) = ((pSync p (nm s)).1.dk, (pSync p (nm s)).2) ∧ Ok (pSync p (nm s)).1 (n + 1) := by
    unfold dSync pSync
    rw [hdf]
    dsimp only
    cases e : (pFind p (nm s)).1 with
    | none =>
      rw [if_neg (pFind_none e)]
      exact ⟨rfl, h.ok.more hn⟩
    | some f =>
      obtain ⟨e1, e2, e3⟩ := pFind_some e
      obtain ⟨m1, m2⟩ := fGet_mem e3
      rw [if_pos e1]
      refine ⟨?_, (h.ok.put ⟨nm s, f.x, f.x.length⟩ (by show okName (nm s) = true; rw [← m2]; exact h.ok.name f m1) (h.ok.size f m1) (Nat.le_refl _) (h.ok.byts f m1) hn).done⟩
      dsimp only
      rw [Pd.done_dk]
      have e4 : ({ p.dk with D := p.dk.D.put (key s) (fd (strOf (fData (some f))) (strOf (fData (some f))).size) } : Dk) = ({ p with l := fPut ⟨nm s, f.x, f.x.length⟩ p.l } : Pd).dk := by
        unfold Pd.dk
        dsimp only
        rw [strOf_size]
        have e6 : (mkD p.l).put (key s) (fd (strOf (fData (some f))) ((fData (some f)).length : Nat)) = mkD (fPut ⟨nm s, f.x, f.x.length⟩ p.l) := mkD_put ⟨nm s, f.x, f.x.length⟩ p.l
        rw [e6]
        have := fSum_put h.ok.rise ⟨nm s, f.x, f.x.length⟩
        dsimp only at this
        rw [fWas_data p (nm s) f e3] at this
        have e5 : fSum p.l = fSum (fPut ⟨nm s, f.x, f.x.length⟩ p.l) := by omega
        rw [← e5]
      rw [e4]
  rw [e.1] at this
  refine this.mono ?_
  rintro e' w' ⟨h1, h2, h3⟩
  exact ⟨h1, ⟨h2, e.2⟩, h3⟩

theorem Rename_p {w : World} {k b n : Nat} {p : Pd} (h : PdAt w k b n p) (hn : n + 1 ≤ 1000000) (s t : ByteArray) (hs : s.size ≤ maxLen) (ht : t.size ≤ maxLen) :
    Calls Tryz.prog 70 #[.pointer (some ⟨k, 0, none⟩), .string s, .string t] w fun e w' => e = .returned (.int .i64 (pRename p (nm s) (nm t)).2) ∧ PdAt w' k b (n + 1) (pRename p (nm s) (nm t)).1 ∧ Turned k b w w' := by
  have hdf := dFind_p p s
  obtain ⟨h1, h2⟩ := h.ok.data (nm s)
  have hu := h.ok.used
  have hok2 := h.ok.del (nm s)
  obtain ⟨y, my, hym, hy⟩ := atKey_p ({ p with l := fDel (nm s) p.l } : Pd) t
  have hym2 : (p.dk.D.del (key s)).atKey (key t) nofile = fd (strOf y) my := by
    have : p.dk.D.del (key s) = ({ p with l := fDel (nm s) p.l } : Pd).dk.D := mkD_del (nm s) p.l
    rw [this]; exact hym
  have hmw : (fSync (pFind p (nm s)).1) ≤ 1048576 := by
    cases e : (pFind p (nm s)).1 with
    | none => simp [fSync]
    | some f =>
      have m1 := (fGet_mem (pFind_some e).2.2).1
      exact Nat.le_trans (h.ok.sync f m1) (h.ok.size f m1)
  have := Rename_any h.at_ (by have := h.ok.many; unfold maxLen; omega) s t hs ht (strOf (fData (pFind p (nm s)).1)) (fSync (pFind p (nm s)).1) (by rw [hdf]; rfl) (by rw [strOf_size]; exact h1) (wf_in (by omega)) (strOf y) my hym2 (by rw [strOf_size, hy]; exact fWas_le hok2.size) (by show 0 ≤ (fSum p.l : Int) ∧ (fSum p.l : Int) ≤ _; omega)
  have e : dRename p.dk s t (strOf (fData (pFind p (nm s)).1)) (fSync (pFind p (nm s)).1) (strOf y) = ((pRename p (nm s) (nm t)).1.dk, (pRename p (nm s) (nm t)).2) ∧ Ok (pRename p (nm s) (nm t)).1 (n + 1) := by
    unfold dRename pRename
    rw [hdf]
    dsimp only
    cases e : (pFind p (nm s)).1 with
    | none =>
      rw [if_neg (pFind_none e)]
      exact ⟨rfl, h.ok.more hn⟩
    | some f =>
      obtain ⟨e1, e2, e3⟩ := pFind_some e
      obtain ⟨m1, m2⟩ := fGet_mem e3
      rw [if_pos e1, isNm_ok]
      dsimp only
      by_cases hnm : okName (nm t) = false
      · rw [if_pos hnm, if_pos hnm]
        exact ⟨rfl, h.ok.more hn⟩
      · rw [if_neg hnm, if_neg hnm]
        have hk := hok2.put ⟨nm t, f.x, f.s⟩ (by simpa using hnm) (h.ok.size f m1) (h.ok.sync f m1) (h.ok.byts f m1) hn
        refine ⟨?_, hk.done⟩
        dsimp only
        rw [Pd.done_dk]
        have e4 : ({ p.dk with D := (p.dk.D.del (key s)).put (key t) (fd (strOf (fData (some f))) (fSync (some f))), used := p.dk.used - ((strOf y).size : Nat) } : Dk) = ({ p with l := fPut ⟨nm t, f.x, f.s⟩ (fDel (nm s) p.l) } : Pd).dk := by
          unfold Pd.dk
          dsimp only
          rw [strOf_size, key_nm, mkD_del]
          have e6 : (mkD (fDel (nm s) p.l)).put (key t) (fd (strOf (fData (some f))) (fSync (some f))) = mkD (fPut ⟨nm t, f.x, f.s⟩ (fDel (nm s) p.l)) := mkD_put ⟨nm t, f.x, f.s⟩ (fDel (nm s) p.l)
          rw [e6]
          have e7 := fSum_put hok2.rise ⟨nm t, f.x, f.s⟩
          have e8 := fSum_del h.ok.rise (nm s)
          rw [fWas_data p (nm s) f e3] at e8
          dsimp only at e7 hy
          have e5 : (fSum p.l : Int) - (y.length : Nat) = fSum (fPut ⟨nm t, f.x, f.s⟩ (fDel (nm s) p.l)) := by omega
          rw [e5]
        rw [e4]
  rw [e.1] at this
  refine this.mono ?_
  rintro e' w' ⟨h1, h2, h3⟩
  exact ⟨h1, ⟨h2, e.2⟩, h3⟩

theorem New_p (w : World) (x : Int) (hx : (Lit.int .i64 x).wf = true) :
    Calls Tryz.prog 11 #[.int .i64 x] w fun e w' => e = .returned (.pointer (some ⟨w.heap.size + 1, 0, none⟩)) ∧ PdAt w' (w.heap.size + 1) w.heap.size 0 ⟨[], max x 0, -1⟩ ∧ Below w.heap.size w w' := by
  refine (New_any w x hx).mono ?_
  rintro e w' ⟨h1, h2, h3⟩
  exact ⟨h1, ⟨h2, ⟨List.Pairwise.nil, by simp, by simp, by simp, by simp, by simp, by omega⟩⟩, h3⟩
theorem Dead_p {w : World} {k b n : Nat} {p : Pd} (h : PdAt w k b n p) :
    Calls Tryz.prog 22 #[.pointer (some ⟨k, 0, none⟩)] w fun e w' => e = .returned (.bool (p.left == 0)) ∧ w' = w := Dead_any h.at_
theorem Used_p {w : World} {k b n : Nat} {p : Pd} (h : PdAt w k b n p) :
    Calls Tryz.prog 16 #[.pointer (some ⟨k, 0, none⟩)] w fun e w' => e = .returned (.int .i64 (fSum p.l : Nat)) ∧ w' = w := Used_any h.at_
theorem Room_p {w : World} {k b n : Nat} {p : Pd} (h : PdAt w k b n p) (x : Int) (hx : (Lit.int .i64 x).wf = true) :
    Calls Tryz.prog 19 #[.pointer (some ⟨k, 0, none⟩), .int .i64 x] w fun e w' => e = .returned (.tuple #[]) ∧ PdAt w' k b n { p with room := max x 0 } ∧ Turned k b w w' := by
  refine (Room_any h.at_ x hx).mono ?_
  rintro e w' ⟨h1, h2, h3⟩
  exact ⟨h1, ⟨h2, ⟨h.ok.rise, h.ok.name, h.ok.size, h.ok.sync, h.ok.byts, h.ok.len, h.ok.many⟩⟩, h3⟩
theorem Cut_p {w : World} {k b n : Nat} {p : Pd} (h : PdAt w k b n p) (x : Int) (hx : (Lit.int .i64 x).wf = true) :
    Calls Tryz.prog 21 #[.pointer (some ⟨k, 0, none⟩), .int .i64 x] w fun e w' => e = .returned (.tuple #[]) ∧ PdAt w' k b n { p with left := if p.left = 0 then 0 else max x (-1) } ∧ Turned k b w w' := by
  refine (Cut_any h.at_ x hx).mono ?_
  rintro e w' ⟨h1, h2, h3⟩
  exact ⟨h1, ⟨h2, ⟨h.ok.rise, h.ok.name, h.ok.size, h.ok.sync, h.ok.byts, h.ok.len, h.ok.many⟩⟩, h3⟩
end Go.Proofs.YtbfhcbihgleddaaGreatDoor
