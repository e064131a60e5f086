/-
  Walks over package disk: Delete, Sync, Rename.
-/
import Derived.Test.YtnokibjhkdaamaaDWrite
namespace Go.Proofs.Ytnokibjhkdaamaa
open Go.RowKit Go.Maps

/-- What Delete does. -/
def dDelete (d : Dk) (s x : ByteArray) : Dk × Int :=
  if (dFind d s).2 = 0 then (({ d with D := d.D.del (key s), used := d.used - x.size } : Dk).done, 0) else (d, (dFind d s).2)
theorem box_turned {w w' : World} {k b n : Nat} {d : Dk} (h : DiskAt w k b n d) (hg : w.mapTurned w' b) : BoxT 64 w' k #[.map (some b), .int .i64 d.used, .int .i64 d.room, .int .i64 d.left] := by
  have hbx := h.box
  have hl := h.box.lt
  unfold BoxT at *
  rw [hg.grown.block k hl (fun e => h.ne (by simpa using e))]
  exact hbx

set_option maxHeartbeats 2000000 in
set_option maxRecDepth 100000 in
theorem Delete_any {w : World} {k b n : Nat} {d : Dk} (h : DiskAt w k b n d) (s : ByteArray) (hs : s.size ≤ maxLen) (x : ByteArray) (m : Int) (hd : Hid ((dFind d s).1 = fd x m)) (hx : x.size ≤ 1048576) (hu : 0 ≤ d.used ∧ d.used ≤ 1099511627776) :
    Calls Try.prog 25 #[.pointer (some ⟨k, 0, none⟩), .string s] w fun e w' => e = .returned (.int .i64 (dDelete d s x).2) ∧ DiskAt w' k b n (dDelete d s x).1 ∧ Turned k b w w' := by
  have hf := find_any h s hs
  have HD : Hid (DiskAt w k b n d) := h
  unfold dDelete
  generalize dFind d s = p at *
  obtain ⟨dd, er⟩ := p
  dsimp only at *
  by_cases h0 : er = 0
  rotate_left
  · rw [if_neg h0]
    have e1 : (er != 0) = true := by simpa using h0
    clear h
    go_enter Try.func25, Try.ntmps25
    go_wp2_with fail
    refine hf.mono ?_
    rintro e w1 ⟨x', m', rfl, -, -, hb⟩
    have hbl := hb.trans (((Below.refl w1.heap.size w1).alloc (Nat.le_refl _) (.cells #[.string x', .int .i64 m'] 67)).mono hb.size)
    clear hf hd
    go_wp2
    go_ret
    exact ⟨rfl, HD.out.below hbl, Turned.below hbl⟩
  subst h0
  rw [if_pos rfl]
  have hw1 : wrap64 (d.used - x.size) = d.used - x.size := by unfold wrap64; omega
  have hw1' : IntKind.i64.wrap (d.used - x.size) = d.used - x.size := by rw [IntKind.wrap_i64]; omega
  clear h
  go_enter Try.func25, Try.ntmps25
  go_wp2_with fail
  refine hf.mono ?_
  rintro e w1 ⟨x', m', rfl, hxm, -, hb⟩
  obtain ⟨rfl, rfl⟩ : x = x' ∧ m = m' := fd_inj (hd.out.symm.trans hxm.out)
  clear hf hd hxm
  have hbl := hb.trans (((Below.refl w1.heap.size w1).alloc (Nat.le_refl _) (.cells #[.string x, .int .i64 m] 67)).mono hb.size)
  have h1 := HD.out.below hbl
  have hbP := BoxT.new 67 w1 #[.string x, .int .i64 m]
  have HBL : Hid (Below w.heap.size w (w1.alloc (.cells #[.string x, .int .i64 m] 67))) := hbl
  obtain ⟨c0, c1, c2, c3⟩ := h1.box.cells4
  have hlk := h1.box.lt
  have H1 : Hid (DiskAt (w1.alloc (.cells #[.string x, .int .i64 m] 67)) k b n d) := h1
  have HBP : Hid (BoxT 67 (w1.alloc (.cells #[.string x, .int .i64 m] 67)) w1.heap.size #[.string x, .int .i64 m]) := hbP
  clear hb hbl h1 hbP
  go_wp2_with (first | (at_delete; refine wpList_delete_own _ rfl _ _ 62 9 rfl 67 (string_keyed Try.underlying9) Try.underlying62 fileR b n d.D rfl H1.out.map _ _ rfl (keyOf_name hs) ?_; intro w2 hown2 hturn2) | fail)
  have hbx2 := box_turned H1.out hturn2
  have hbP2 : BoxT 67 w2 w1.heap.size #[.string x, .int .i64 m] := by
    have h2 := HBP.out
    have hl := h2.lt
    unfold BoxT at *
    rw [hturn2.grown.block w1.heap.size hl (fun e => by
      have := H1.out.map.lt
      obtain ⟨es, clock, hm, _⟩ := H1.out.map
      have e2 : w1.heap.size = b := by simpa using e
      rw [← e2] at hm
      rw [h2] at hm; cases hm)]
    exact h2
  have h2 : DiskAt w2 k b n { d with D := d.D.del (key s) } := ⟨hbx2, hown2, HD.out.used, HD.out.room, HD.out.left⟩
  have h3 := h2.used' (d.used - x.size) (wf_in (by omega))
  have hT3 : Turned k b w (w2.setCell ⟨k, 1, none⟩ (.int .i64 (d.used - x.size))).drew := (((Turned.below HBL.out).trans (Turned.map hturn2)).trans (Turned.set k b w2 1 _)).trans (Turned.below ((Below.refl _ _).drew))
  have h4 : DiskAt (w2.setCell ⟨k, 1, none⟩ (.int .i64 (d.used - x.size))) k b n { d with D := d.D.del (key s), used := d.used - x.size } := ⟨h3.box, h3.map, h3.used, h3.room, h3.left⟩
  have HDN := done_any (h4.below ((Below.refl _ _).drew))
  obtain ⟨g0, g1, g2, g3⟩ := hbx2.cells4
  have fr2 := hbx2.free
  obtain ⟨p0, p1⟩ := hbP2.cells2
  have HT3 : Hid (Turned k b w (w2.setCell ⟨k, 1, none⟩ (.int .i64 (d.used - x.size))).drew) := hT3
  clear hbx2 hbP2 h2 h3 h4 hT3 hown2 hturn2 c0 c1 c2 c3 H1 HBP
  go_wp2_with fail
  go_region
  all_goals
    go_wp2_with fail
    refine HDN.mono ?_
    rintro e w5 ⟨rfl, h5, hT5⟩
    go_wp2
    go_ret
    exact ⟨rfl, h5, HT3.out.trans hT5⟩
end Go.Proofs.Ytnokibjhkdaamaa
