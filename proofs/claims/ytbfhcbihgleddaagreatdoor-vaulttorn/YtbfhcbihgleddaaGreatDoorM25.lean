/-
  Texts of the vault, in build order: DRen, DHelp, DTorn.
-/
import Derived.Test.YtbfhcbihgleddaaGreatDoorM22
import Derived.Test.YtbfhcbihgleddaaGreatDoorM24
/-
  Walks over package disk: Rename.
-/
namespace Go.Proofs.YtbfhcbihgleddaaGreatDoor
open Go.RowKit Go.Maps

/-- What Rename does; x, m is the file, y the bytes that the other name had when the file was away. -/
def dRename (d : Dk) (s t x : ByteArray) (m : Int) (y : ByteArray) : Dk × Int :=
  if (dFind d s).2 = 0 then
    if isNm t = false then (d, 21) else
    (({ d with D := (d.D.del (key s)).put (key t) (fd x m), used := d.used - y.size } : Dk).done, 0)
  else (d, (dFind d s).2)

set_option maxHeartbeats 4000000 in
set_option maxRecDepth 100000 in
theorem Rename_any {w : World} {k b n : Nat} {d : Dk} (h : DiskAt w k b n d) (hn : n < maxLen) (s t : ByteArray) (hs : s.size ≤ maxLen) (ht : t.size ≤ maxLen) (x : ByteArray) (m : Int) (hd : Hid ((dFind d s).1 = fd x m)) (hx : x.size ≤ 1048576) (hm : (Lit.int .i64 m).wf = true)
    (y : ByteArray) (my : Int) (hdy : Hid ((d.D.del (key s)).atKey (key t) nofile = fd y my)) (hy : y.size ≤ 1048576) (hu : 0 ≤ d.used ∧ d.used ≤ 1099511627776) :
    Calls Tryz.prog 70 #[.pointer (some ⟨k, 0, none⟩), .string s, .string t] w fun e w' => e = .returned (.int .i64 (dRename d s t x m y).2) ∧ DiskAt w' k b (n + 1) (dRename d s t x m y).1 ∧ Turned k b w w' := by
  have hf := find_any h s hs
  have HD : Hid (DiskAt w k b n d) := h
  have HNM : Hid (∀ W, Calls Tryz.prog 54 #[.string t] W fun e w' => e = .returned (.bool (isNm t)) ∧ w' = W) := fun W => isName_any t W
  unfold dRename
  generalize dFind d s = p at *
  obtain ⟨dd, er⟩ := p
  dsimp only at *
  by_cases h0 : er = 0
  rotate_left
  · rw [if_neg h0]
    have e1 : (er != 0) = true := by simpa using h0
    clear h
    go_enter Tryz.func70, Tryz.ntmps70
    go_wp2_with fail
    refine hf.mono ?_
    rintro e w1 ⟨x', m', rfl, -, -, hb⟩
    have hbl := hb.trans (((Below.refl w1.heap.size w1).alloc (Nat.le_refl _) (.cells #[.string x', .int .i64 m'] 99)).mono hb.size)
    clear hf hd
    go_wp2
    go_ret
    exact ⟨rfl, (HD.out.mono (by omega)).below hbl, Turned.below hbl⟩
  subst h0
  rw [if_pos rfl]
  generalize isNm t = nm at *
  cases nm
  · rw [if_pos rfl]
    clear h
    go_enter Tryz.func70, Tryz.ntmps70
    go_wp2_with fail
    refine hf.mono ?_
    rintro e w1 ⟨x', m', rfl, -, -, hb⟩
    have HBL : Hid _ := hb.trans (((Below.refl w1.heap.size w1).alloc (Nat.le_refl _) (.cells #[.string x', .int .i64 m'] 99)).mono hb.size)
    clear hf hd hb
    go_wp2_with fail
    refine (HNM.out _).mono ?_
    rintro e w2 ⟨rfl, rfl⟩
    go_wp2
    go_ret
    exact ⟨rfl, (HD.out.mono (by omega)).below HBL.out, Turned.below HBL.out⟩
  rw [if_neg (by decide)]
  have hw1 : wrap64 (d.used - y.size) = d.used - y.size := by unfold wrap64; omega
  have hw1' : IntKind.i64.wrap (d.used - y.size) = d.used - y.size := by rw [IntKind.wrap_i64]; omega
  clear h
  go_enter Tryz.func70, Tryz.ntmps70
  go_wp2_with fail
  refine hf.mono ?_
  rintro e w1 ⟨x', m', rfl, hxm, -, hb⟩
  obtain ⟨rfl, rfl⟩ : x = x' ∧ m = m' := fd_inj (hd.out.symm.trans hxm.out)
  clear hf hd hxm
  have HB : Hid (Below w.heap.size w w1) := hb
  clear hb
  go_wp2_with fail
  refine (HNM.out _).mono ?_
  rintro e w2 ⟨rfl, rfl⟩
  have hbl := HB.out.trans (((Below.refl w1.heap.size w1).alloc (Nat.le_refl _) (.cells #[.string x, .int .i64 m] 99)).mono HB.out.size)
  have hbP : BoxT 99 _ _ #[.string x, .int .i64 m] := BoxT.new 99 w1 #[.string x, .int .i64 m]
  generalize w1.alloc (.cells #[.string x, .int .i64 m] 99) = W at *
  generalize w1.heap.size = q at *
  have H1 : Hid (DiskAt W k b n d) := HD.out.below hbl
  have HBL : Hid (Below w.heap.size w W) := hbl
  have HBP : Hid (BoxT 99 W q #[.string x, .int .i64 m]) := hbP
  obtain ⟨c0, c1, c2, c3⟩ := H1.out.box.cells4
  clear hbl hbP
  go_wp2_with (first | (at_delete; refine wpList_delete_own _ rfl _ _ 76 9 rfl 99 (string_keyed Tryz.underlying9) Tryz.underlying76 fileR b n d.D rfl H1.out.map _ _ rfl (keyOf_name hs) ?_; intro w2 hown2 hturn2) | fail)
  have hbx2 := box_turned H1.out hturn2
  have hbP2 : BoxT 99 w2 q #[.string x, .int .i64 m] := HBP.out.grown hturn2.grown (HBP.out.notMap H1.out.map)
  have h2 : DiskAt w2 k b n { d with D := d.D.del (key s) } := ⟨hbx2, hown2, HD.out.used, HD.out.room, HD.out.left⟩
  have hqk : q ≠ k := by
    rintro rfl
    have e1 := HBP.out
    have e2 := H1.out.box
    unfold BoxT at e1 e2
    rw [e1] at e2
    simp at e2
  have hlk : (Instr.lookup 76 (.map (some b)) (.string t) false).run Tryz.prog w2.drew = .ok (.agg #[.string y, .int .i64 my]) w2.drew := look h2 ht hdy.out 1
  have hfd := field0 w2.drew y my
  have h3 := (h2.used' (d.used - y.size) (wf_in (by omega))).below ((Below.refl _ _).drew)
  have hbP3 : BoxT 99 (w2.setCell ⟨k, 1, none⟩ (.int .i64 (d.used - y.size))).drew q #[.string x, .int .i64 m] := (hbP2.other 1 _ hqk).drew
  have hT3 : Turned k b w (w2.setCell ⟨k, 1, none⟩ (.int .i64 (d.used - y.size))).drew := (((Turned.below HBL.out).trans (Turned.map hturn2)).trans (Turned.set k b w2 1 _)).trans (Turned.below ((Below.refl _ _).drew))
  obtain ⟨g0, g1, g2, g3⟩ := hbx2.cells4
  have fr2 := hbx2.free
  have H3 : Hid _ := And.intro h3 (And.intro hbP3 hT3)
  clear h2 hbx2 hbP2 h3 hbP3 hT3 hown2 hturn2 H1 HBP HBL c0 c1 c2 c3
  go_wp2_with fail
  go_region
  all_goals
    go_wp2_with fail
    obtain ⟨h3, hbP3, hT3⟩ := H3.out
    clear H3 g0 g1 g2 g3 fr2 hlk hfd
    generalize (w2.setCell ⟨k, 1, none⟩ (.int .i64 (d.used - y.size))).drew = W3 at *
    have hmd : W3.drew.ownsMap Tryz.prog 9 fileR b n (d.D.del (key s)) := h3.map
    obtain ⟨w4, hst, hown4, hturn4⟩ := hmd.store (string_keyed Tryz.underlying9) Tryz.underlying76 hn (keyOf_name ht) (fileR_mk (s := x) (n := m) (by unfold maxLen; omega) hm)
    have hT4 : Turned k b w w4 := hT3.trans ((Turned.below ((Below.refl _ _).drew)).trans (Turned.map hturn4))
    have hbx4 := box_turned (h3.below ((Below.refl _ _).drew)) hturn4
    have h4 : DiskAt w4 k b (n + 1) { d with D := (d.D.del (key s)).put (key t) (fd x m), used := d.used - y.size } := ⟨hbx4, hown4, h3.used, h3.room, h3.left⟩
    have HDN := done_any h4
    obtain ⟨g0, g1, g2, g3⟩ := h3.box.cells4
    obtain ⟨p0, p1⟩ := hbP3.cells2
    have HT4 : Hid (Turned k b w w4) := hT4
    clear h3 hbP3 hT3 hmd hown4 hturn4 hT4 hbx4 h4
    go_region
    all_goals
      go_wp2_with fail
      refine HDN.mono ?_
      rintro e w5 ⟨rfl, h5, hT5⟩
      go_wp2
      go_ret
      exact ⟨rfl, h5, HT4.out.trans hT5⟩
end Go.Proofs.YtbfhcbihgleddaaGreatDoor
/-
  Walks over the helps: Place, light.
-/
namespace Go.Proofs.YtbfhcbihgleddaaGreatDoor
open Go.RowKit Go.Maps

theorem tmod_emod {k n : Int} (hn : 0 < n) : (if k.tmod n < 0 then k.tmod n + n else k.tmod n) = k % n := by
  have h1 : 0 ≤ k % n := Int.emod_nonneg _ (by omega)
  have h2 : k % n < n := Int.emod_lt_of_pos _ hn
  have h3 := Int.emod_add_mul_ediv k n
  have h4 := Int.tmod_add_mul_tdiv k n
  rw [Int.tmod_eq_emod]
  have hn' : (n.natAbs : Int) = n := by omega
  split <;> split <;> omega

section
variable {α : Type} {sz : Nat} {cs : α → List Value} {B : Nat} {w w' : World} {v : Value} {xs : List α}
end

/-- A step of a script. -/
structure Stp where
  wh : Int
  n : Int
  nm : ByteArray
  to : ByteArray
  ba : Option Addr
  bl : List Nat
  bc : Nat
  ka : Option Addr
  kl : List Int
  kc : Nat
def Stp.cs (p : Stp) : List Value := [.int .i64 p.wh, .int .i64 p.n, .string p.nm, .string p.to, .slice p.ba p.bl.length p.bc, .slice p.ka p.kl.length p.kc]
/-- What a step weighs. -/
def Stp.wt (p : Stp) : Nat := p.bl.length + p.nm.size + p.to.size + p.kl.length
def tot (xs : List Stp) : Nat := (xs.map Stp.wt).sum
theorem tot_succ {xs : List Stp} {i : Nat} {p : Stp} (h : xs[i]? = some p) : tot (xs.take (i + 1)) = tot (xs.take i) + p.wt := by
  obtain ⟨hi, rfl⟩ := List.getElem?_eq_some_iff.1 h
  unfold tot
  rw [List.take_succ_eq_append_getElem hi, List.map_append, List.sum_append]
  rfl
theorem tot_take (xs : List Stp) (i : Nat) : tot (xs.take i) ≤ tot xs := by
  have : tot xs = tot (xs.take i) + tot (xs.drop i) := by
    unfold tot
    rw [← List.sum_append, ← List.map_append, List.take_append_drop]
  omega
theorem LSeg.stp {B : Nat} {w : World} {xs : List Stp} {ao : Option Addr} {cap : Nat} (h : LSeg 6 Stp.cs B w (.slice ao xs.length cap) xs) {i : Nat} {p : Stp} (hp : xs[i]? = some p) :
    ∃ b off, ao = some ⟨b, off, none⟩ ∧ b < B ∧ w.cell? ⟨b, off + i * 6 + 0, none⟩ = some (.int .i64 p.wh) ∧ w.cell? ⟨b, off + i * 6 + 1, none⟩ = some (.int .i64 p.n) ∧ w.cell? ⟨b, off + i * 6 + 2, none⟩ = some (.string p.nm) ∧
      w.cell? ⟨b, off + i * 6 + 3, none⟩ = some (.string p.to) ∧ w.cell? ⟨b, off + i * 6 + 4, none⟩ = some (.slice p.ba p.bl.length p.bc) ∧ w.cell? ⟨b, off + i * 6 + 5, none⟩ = some (.slice p.ka p.kl.length p.kc) := by
  obtain ⟨ao', cap', e, h2, h4⟩ := h
  cases e
  rcases h4 with h4 | ⟨b, off, h5, h6, h7⟩
  · subst h4; simp at hp
  · exact ⟨b, off, h5, h6, h7 i p hp 0 _ rfl, h7 i p hp 1 _ rfl, h7 i p hp 2 _ rfl, h7 i p hp 3 _ rfl, h7 i p hp 4 _ rfl, h7 i p hp 5 _ rfl⟩

end Go.Proofs.YtbfhcbihgleddaaGreatDoor
/-
  Walks over package disk: torn.
-/
namespace Go.Proofs.YtbfhcbihgleddaaGreatDoor
open Go.RowKit Go.Maps

/-- What strings.Clone must do (the library's contract, to be laid at this seat). -/
def CloneOk : Prop := ∀ (s : ByteArray) (w : World), s.size ≤ 281474976710656 → Calls Tryz.prog 78 #[.string s] w fun e w' => e = .returned (.string s) ∧ Below w.heap.size w w'
/-- How many bytes a crash leaves. -/
def tornN (x : ByteArray) (m kept : Int) : Int := m + min (max kept 0) (x.size - m)

theorem extract_all (x : ByteArray) : x.extract 0 x.size = x := by
  apply ByteArray.ext
  simp

set_option maxHeartbeats 2000000 in
set_option maxRecDepth 100000 in
/-- The bytes all stay: c is what is kept, cut down to what is loose. -/
theorem torn_whole (w : World) (x : ByteArray) (m kept : Int) (hx : x.size ≤ 1048576) (hm0 : 0 ≤ m) (hm1 : m ≤ x.size) (hs : tornN x m kept = x.size) :
    Calls Tryz.prog 47 #[.agg #[.string x, .int .i64 m], .int .i64 kept] w fun e w' => e = .returned (.agg #[.string x, .int .i64 x.size]) ∧ Below w.heap.size w w' := by
  have hw1 : wrap64 ((x.size : Int) - m) = x.size - m := by unfold wrap64; omega
  have hw2 : wrap64 (m + (x.size - m)) = x.size := by unfold wrap64; omega
  have hw3 : wrap64 m = m := by unfold wrap64; omega
  have he : m + ((x.size : Int) - m) = x.size := by omega
  have hb1 : Below w.heap.size w ((w.alloc (.cells #[.string x, .int .i64 x.size] 99)).alloc (.cells #[.string x, .int .i64 x.size] 99)) := ((Below.refl _ _).alloc (Nat.le_refl _) _).alloc (by simp) _
  unfold tornN at hs
  by_cases h1 : (x.size : Int) - m ≤ kept
  · have h2 : ¬ kept < 0 := by omega
    by_cases h3 : (x.size : Int) - m < kept
    · clear hs
      go_enter Tryz.func47, Tryz.ntmps47
      go_wp2_with fail
      exact bodyPost_ret (v := .agg #[.string x, .int .i64 x.size]) (by simp [results, Tryz.results47, go_sem]) rfl ⟨rfl, hb1⟩
    · obtain rfl : kept = x.size - m := by omega
      clear hs
      go_enter Tryz.func47, Tryz.ntmps47
      go_wp2_with fail
      exact bodyPost_ret (v := .agg #[.string x, .int .i64 x.size]) (by simp [results, Tryz.results47, go_sem]) rfl ⟨rfl, hb1⟩
  · have h2 : kept < 0 := by omega
    obtain rfl : m = x.size := by omega
    clear hs
    go_enter Tryz.func47, Tryz.ntmps47
    go_wp2_with fail
    exact bodyPost_ret (v := .agg #[.string x, .int .i64 x.size]) (by simp [results, Tryz.results47, go_sem]) rfl ⟨rfl, hb1⟩

set_option maxHeartbeats 2000000 in
set_option maxRecDepth 100000 in
/-- Some bytes are lost. -/
theorem torn_cut (HC : Hid CloneOk) (w : World) (x : ByteArray) (m kept : Int) (hx : x.size ≤ 1048576) (hm0 : 0 ≤ m) (hs : m + max kept 0 < x.size) :
    Calls Tryz.prog 47 #[.agg #[.string x, .int .i64 m], .int .i64 kept] w fun e w' => e = .returned (.agg #[.string (x.extract 0 (m + max kept 0).toNat), .int .i64 (m + max kept 0)]) ∧ Below w.heap.size w w' := by
  have hw1 : wrap64 ((x.size : Int) - m) = x.size - m := by unfold wrap64; omega
  have hb1 := ((Below.refl w.heap.size w).alloc (Nat.le_refl _) (.cells #[.string x, .int .i64 m] 99)).alloc (by simp) (.cells #[.string ⟨#[]⟩, .int .i64 0] 99)
  have bA := (BoxT.new 99 w #[.string x, .int .i64 m]).alloc (.cells #[.string ⟨#[]⟩, .int .i64 0] 99)
  have bB := BoxT.new 99 (w.alloc (.cells #[.string x, .int .i64 m] 99)) #[.string ⟨#[]⟩, .int .i64 0]
  have HB : Hid _ := And.intro hb1 (And.intro bA bB)
  clear hb1 bA bB
  by_cases h2 : kept < 0
  · have e0 : m + max kept 0 = m := by omega
    rw [e0] at hs ⊢
    have hw2 : wrap64 m = m := by unfold wrap64; omega
    go_enter Tryz.func47, Tryz.ntmps47
    go_wp2_with fail
    refine (HC.out _ _ (by simp [ByteArray.size_extract]; omega)).mono ?_
    rintro e w1 ⟨rfl, hb⟩
    obtain ⟨hb1, bA, bB⟩ := HB.out
    have bA1 := bA.kept (Kept.of_below (base := 0) hb) (by decide)
    have bB1 := bB.kept (Kept.of_below (base := 0) hb) (by decide)
    rw [World.size_alloc] at bB1
    have hb2 := hb1.trans (hb.mono (by simp; omega))
    obtain ⟨a0, a1⟩ := bA1.cells2
    obtain ⟨b0, b1⟩ := bB1.cells2
    have fA := bA1.free
    have fB := bB1.free
    have HP : Hid _ := And.intro hb2 (And.intro bA1 bB1)
    clear hb bA bB hb1 HB bA1 bB1 hb2
    go_wp2
    obtain ⟨hb2, bA1, bB1⟩ := HP.out
    have hne : w.heap.size + 1 ≠ w.heap.size := by omega
    obtain ⟨r0, r1⟩ := (BoxT.two ((bB1.other 0 (.string (x.extract 0 m.toNat)) hne).other 1 (.int .i64 m) hne) (.string (x.extract 0 m.toNat)) (.int .i64 m)).cells2
    have hb3 := (((hb2.setCell (p := ⟨w.heap.size, 0, none⟩) (Nat.le_refl _) (.string (x.extract 0 m.toNat))).setCell (p := ⟨w.heap.size, 1, none⟩) (Nat.le_refl _) (.int .i64 m)).setCell (p := ⟨w.heap.size + 1, 0, none⟩) (Nat.le_succ _) (.string (x.extract 0 m.toNat))).setCell (p := ⟨w.heap.size + 1, 1, none⟩) (Nat.le_succ _) (.int .i64 m)
    exact bodyPost_ret (v := .agg #[.string (x.extract 0 m.toNat), .int .i64 m]) (by simp [results, Tryz.results47, go_sem, r0, r1]) rfl ⟨rfl, hb3⟩
  · have e0 : m + max kept 0 = m + kept := by omega
    rw [e0] at hs ⊢
    have hw2 : wrap64 (m + kept) = m + kept := by unfold wrap64; omega
    have h3 : ¬ (x.size : Int) - m < kept := by omega
    go_enter Tryz.func47, Tryz.ntmps47
    go_wp2_with fail
    refine (HC.out _ _ (by simp [ByteArray.size_extract]; omega)).mono ?_
    rintro e w1 ⟨rfl, hb⟩
    obtain ⟨hb1, bA, bB⟩ := HB.out
    have bA1 := bA.kept (Kept.of_below (base := 0) hb) (by decide)
    have bB1 := bB.kept (Kept.of_below (base := 0) hb) (by decide)
    rw [World.size_alloc] at bB1
    have hb2 := hb1.trans (hb.mono (by simp; omega))
    obtain ⟨a0, a1⟩ := bA1.cells2
    obtain ⟨b0, b1⟩ := bB1.cells2
    have fA := bA1.free
    have fB := bB1.free
    have HP : Hid _ := And.intro hb2 (And.intro bA1 bB1)
    clear hb bA bB hb1 HB bA1 bB1 hb2
    go_wp2
    obtain ⟨hb2, bA1, bB1⟩ := HP.out
    have hne : w.heap.size + 1 ≠ w.heap.size := by omega
    obtain ⟨r0, r1⟩ := (BoxT.two ((bB1.other 0 (.string (x.extract 0 (m + kept).toNat)) hne).other 1 (.int .i64 (m + kept)) hne) (.string (x.extract 0 (m + kept).toNat)) (.int .i64 (m + kept))).cells2
    have hb3 := (((hb2.setCell (p := ⟨w.heap.size, 0, none⟩) (Nat.le_refl _) (.string (x.extract 0 (m + kept).toNat))).setCell (p := ⟨w.heap.size, 1, none⟩) (Nat.le_refl _) (.int .i64 (m + kept))).setCell (p := ⟨w.heap.size + 1, 0, none⟩) (Nat.le_succ _) (.string (x.extract 0 (m + kept).toNat))).setCell (p := ⟨w.heap.size + 1, 1, none⟩) (Nat.le_succ _) (.int .i64 (m + kept))
    exact bodyPost_ret (v := .agg #[.string (x.extract 0 (m + kept).toNat), .int .i64 (m + kept)]) (by simp [results, Tryz.results47, go_sem, r0, r1]) rfl ⟨rfl, hb3⟩

theorem torn_any (HC : Hid CloneOk) (w : World) (x : ByteArray) (m kept : Int) (hx : x.size ≤ 1048576) (hm0 : 0 ≤ m) (hm1 : m ≤ x.size) :
    Calls Tryz.prog 47 #[.agg #[.string x, .int .i64 m], .int .i64 kept] w fun e w' => e = .returned (.agg #[.string (x.extract 0 (tornN x m kept).toNat), .int .i64 (tornN x m kept)]) ∧ Below w.heap.size w w' := by
  by_cases h : tornN x m kept = x.size
  · have h1 := torn_whole w x m kept hx hm0 hm1 h
    rw [h, Int.toNat_natCast, extract_all]
    exact h1
  · have e : tornN x m kept = m + max kept 0 := by unfold tornN at *; omega
    rw [e]
    rw [e] at h
    exact torn_cut HC w x m kept hx hm0 (by unfold tornN at e; omega)
end Go.Proofs.YtbfhcbihgleddaaGreatDoor
