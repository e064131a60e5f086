/-
  Walks over package disk: Rename.
-/
import Derived.Test.YtnokibjhkdaamaaDSync
namespace Go.Proofs.Ytnokibjhkdaamaa
open Go.RowKit Go.Maps

/-- What Rename does; x, m is the file, y the bytes that the other name had when the file was away. -/
def dRename (d : Dk) (s t x : ByteArray) (m : Int) (y : ByteArray) : Dk × Int :=
  if (dFind d s).2 = 0 then
    if isNm t = false then (d, 21) else
    (({ d with D := (d.D.del (key s)).put (key t) (fd x m), used := d.used - y.size } : Dk).done, 0)
  else (d, (dFind d s).2)

set_option maxHeartbeats 4000000 in
set_option maxRecDepth 100000 in
theorem Rename_any {w : World} {k b n : Nat} {d : Dk} (h : DiskAt w k b n d) (hn : n < maxLen) (s t : ByteArray) (hs : s.size ≤ maxLen) (ht : t.size ≤ maxLen) (x : ByteArray) (m : Int) (hd : Hid ((dFind d s).1 = fd x m)) (hx : x.size ≤ 1048576) (hm : (Lit.int .i64 m).wf = true)
    (y : ByteArray) (my : Int) (hdy : Hid ((d.D.del (key s)).atKey (key t) nofile = fd y my)) (hy : y.size ≤ 1048576) (hu : 0 ≤ d.used ∧ d.used ≤ 1099511627776) :
    Calls Try.prog 23 #[.pointer (some ⟨k, 0, none⟩), .string s, .string t] w fun e w' => e = .returned (.int .i64 (dRename d s t x m y).2) ∧ DiskAt w' k b (n + 1) (dRename d s t x m y).1 ∧ Turned k b w w' := by
  have hf := find_any h s hs
  have HD : Hid (DiskAt w k b n d) := h
  have HNM : Hid (∀ W, Calls Try.prog 43 #[.string t] W fun e w' => e = .returned (.bool (isNm t)) ∧ w' = W) := fun W => isName_any t W
  unfold dRename
  generalize dFind d s = p at *
  obtain ⟨dd, er⟩ := p
  dsimp only at *
  by_cases h0 : er = 0
  rotate_left
  · rw [if_neg h0]
    have e1 : (er != 0) = true := by simpa using h0
    clear h
    go_enter Try.func23, Try.ntmps23
    go_wp2_with fail
    refine hf.mono ?_
    rintro e w1 ⟨x', m', rfl, -, -, hb⟩
    have hbl := hb.trans (((Below.refl w1.heap.size w1).alloc (Nat.le_refl _) (.cells #[.string x', .int .i64 m'] 67)).mono hb.size)
    clear hf hd
    go_wp2
    go_ret
    exact ⟨rfl, (HD.out.mono (by omega)).below hbl, Turned.below hbl⟩
  subst h0
  rw [if_pos rfl]
  generalize isNm t = nm at *
  cases nm
  · rw [if_pos rfl]
    clear h
    go_enter Try.func23, Try.ntmps23
    go_wp2_with fail
    refine hf.mono ?_
    rintro e w1 ⟨x', m', rfl, -, -, hb⟩
    have HBL : Hid _ := hb.trans (((Below.refl w1.heap.size w1).alloc (Nat.le_refl _) (.cells #[.string x', .int .i64 m'] 67)).mono hb.size)
    clear hf hd hb
    go_wp2_with fail
    refine (HNM.out _).mono ?_
    rintro e w2 ⟨rfl, rfl⟩
    go_wp2
    go_ret
    exact ⟨rfl, (HD.out.mono (by omega)).below HBL.out, Turned.below HBL.out⟩
  rw [if_neg (by decide)]
  have hw1 : wrap64 (d.used - y.size) = d.used - y.size := by unfold wrap64; omega
  have hw1' : IntKind.i64.wrap (d.used - y.size) = d.used - y.size := by rw [IntKind.wrap_i64]; omega
  clear h
  go_enter Try.func23, Try.ntmps23
  go_wp2_with fail
  refine hf.mono ?_
  rintro e w1 ⟨x', m', rfl, hxm, -, hb⟩
  obtain ⟨rfl, rfl⟩ : x = x' ∧ m = m' := fd_inj (hd.out.symm.trans hxm.out)
  clear hf hd hxm
  have HB : Hid (Below w.heap.size w w1) := hb
  clear hb
  go_wp2_with fail
  refine (HNM.out _).mono ?_
  rintro e w2 ⟨rfl, rfl⟩
  have hbl := HB.out.trans (((Below.refl w1.heap.size w1).alloc (Nat.le_refl _) (.cells #[.string x, .int .i64 m] 67)).mono HB.out.size)
  have hbP : BoxT 67 _ _ #[.string x, .int .i64 m] := BoxT.new 67 w1 #[.string x, .int .i64 m]
  generalize w1.alloc (.cells #[.string x, .int .i64 m] 67) = W at *
  generalize w1.heap.size = q at *
  have H1 : Hid (DiskAt W k b n d) := HD.out.below hbl
  have HBL : Hid (Below w.heap.size w W) := hbl
  have HBP : Hid (BoxT 67 W q #[.string x, .int .i64 m]) := hbP
  obtain ⟨c0, c1, c2, c3⟩ := H1.out.box.cells4
  clear hbl hbP
  go_wp2_with (first | (at_delete; refine wpList_delete_own _ rfl _ _ 62 9 rfl 67 (string_keyed Try.underlying9) Try.underlying62 fileR b n d.D rfl H1.out.map _ _ rfl (keyOf_name hs) ?_; intro w2 hown2 hturn2) | fail)
  have hbx2 := box_turned H1.out hturn2
  have hbP2 : BoxT 67 w2 q #[.string x, .int .i64 m] := HBP.out.grown hturn2.grown (HBP.out.notMap H1.out.map)
  have h2 : DiskAt w2 k b n { d with D := d.D.del (key s) } := ⟨hbx2, hown2, HD.out.used, HD.out.room, HD.out.left⟩
  have hqk : q ≠ k := by
    rintro rfl
    have e1 := HBP.out
    have e2 := H1.out.box
    unfold BoxT at e1 e2
    rw [e1] at e2
    simp at e2
  have hlk : (Instr.lookup 62 (.map (some b)) (.string t) false).run Try.prog w2.drew = .ok (.agg #[.string y, .int .i64 my]) w2.drew := look h2 ht hdy.out 1
  have hfd := field0 w2.drew y my
  have h3 := (h2.used' (d.used - y.size) (wf_in (by omega))).below ((Below.refl _ _).drew)
  have hbP3 : BoxT 67 (w2.setCell ⟨k, 1, none⟩ (.int .i64 (d.used - y.size))).drew q #[.string x, .int .i64 m] := (hbP2.other 1 _ hqk).drew
  have hT3 : Turned k b w (w2.setCell ⟨k, 1, none⟩ (.int .i64 (d.used - y.size))).drew := (((Turned.below HBL.out).trans (Turned.map hturn2)).trans (Turned.set k b w2 1 _)).trans (Turned.below ((Below.refl _ _).drew))
  obtain ⟨g0, g1, g2, g3⟩ := hbx2.cells4
  have fr2 := hbx2.free
  have H3 : Hid _ := And.intro h3 (And.intro hbP3 hT3)
  clear h2 hbx2 hbP2 h3 hbP3 hT3 hown2 hturn2 H1 HBP HBL c0 c1 c2 c3
  go_wp2_with fail
  go_region
  all_goals
    go_wp2_with fail
    obtain ⟨h3, hbP3, hT3⟩ := H3.out
    clear H3 g0 g1 g2 g3 fr2 hlk hfd
    generalize (w2.setCell ⟨k, 1, none⟩ (.int .i64 (d.used - y.size))).drew = W3 at *
    have hmd : W3.drew.ownsMap Try.prog 9 fileR b n (d.D.del (key s)) := h3.map
    obtain ⟨w4, hst, hown4, hturn4⟩ := hmd.store (string_keyed Try.underlying9) Try.underlying62 hn (keyOf_name ht) (fileR_mk (s := x) (n := m) (by unfold maxLen; omega) hm)
    have hT4 : Turned k b w w4 := hT3.trans ((Turned.below ((Below.refl _ _).drew)).trans (Turned.map hturn4))
    have hbx4 := box_turned (h3.below ((Below.refl _ _).drew)) hturn4
    have h4 : DiskAt w4 k b (n + 1) { d with D := (d.D.del (key s)).put (key t) (fd x m), used := d.used - y.size } := ⟨hbx4, hown4, h3.used, h3.room, h3.left⟩
    have HDN := done_any h4
    obtain ⟨g0, g1, g2, g3⟩ := h3.box.cells4
    obtain ⟨p0, p1⟩ := hbP3.cells2
    have HT4 : Hid (Turned k b w w4) := hT4
    clear h3 hbP3 hT3 hmd hown4 hturn4 hT4 hbx4 h4
    go_region
    all_goals
      go_wp2_with fail
      refine HDN.mono ?_
      rintro e w5 ⟨rfl, h5, hT5⟩
      go_wp2
      go_ret
      exact ⟨rfl, h5, HT4.out.trans hT5⟩
end Go.Proofs.Ytnokibjhkdaamaa
