/-
  Walks over package disk: Sync.
-/
import Derived.Test.YtnokibjhkdaamaaDMut
namespace Go.Proofs.Ytnokibjhkdaamaa
open Go.RowKit Go.Maps

/-- What Sync does. -/
def dSync (d : Dk) (s x : ByteArray) : Dk × Int :=
  if (dFind d s).2 = 0 then (({ d with D := d.D.put (key s) (fd x x.size) } : Dk).done, 0) else (d, (dFind d s).2)
theorem BoxT.notMap {t : TypeId} {w : World} {k b n : Nat} {cs : Array Value} {D : DataW Unit} (h : BoxT t w k cs) (hm : w.ownsMap Try.prog 9 fileR b n D) : k ≠ b := by
  rintro rfl
  obtain ⟨es, clock, hm, _⟩ := hm
  unfold BoxT at h
  rw [h] at hm; cases hm
set_option maxHeartbeats 2000000 in
set_option maxRecDepth 100000 in
theorem Sync_any {w : World} {k b n : Nat} {d : Dk} (h : DiskAt w k b n d) (hn : n < maxLen) (s : ByteArray) (hs : s.size ≤ maxLen) (x : ByteArray) (m : Int) (hd : Hid ((dFind d s).1 = fd x m)) (hx : x.size ≤ 1048576) :
    Calls Try.prog 21 #[.pointer (some ⟨k, 0, none⟩), .string s] w fun e w' => e = .returned (.int .i64 (dSync d s x).2) ∧ DiskAt w' k b (n + 1) (dSync d s x).1 ∧ Turned k b w w' := by
  have hf := find_any h s hs
  have HD : Hid (DiskAt w k b n d) := h
  unfold dSync
  generalize dFind d s = p at *
  obtain ⟨dd, er⟩ := p
  dsimp only at *
  by_cases h0 : er = 0
  rotate_left
  · rw [if_neg h0]
    have e1 : (er != 0) = true := by simpa using h0
    clear h
    go_enter Try.func21, Try.ntmps21
    go_wp2_with fail
    refine hf.mono ?_
    rintro e w1 ⟨x', m', rfl, -, -, hb⟩
    have hbl := hb.trans (((Below.refl w1.heap.size w1).alloc (Nat.le_refl _) (.cells #[.string x', .int .i64 m'] 67)).mono hb.size)
    clear hf hd
    go_wp2
    go_ret
    exact ⟨rfl, (HD.out.mono (by omega)).below hbl, Turned.below hbl⟩
  subst h0
  rw [if_pos rfl]
  clear h
  go_enter Try.func21, Try.ntmps21
  go_wp2_with fail
  refine hf.mono ?_
  rintro e w1 ⟨x', m', rfl, hxm, -, hb⟩
  obtain ⟨rfl, rfl⟩ : x = x' ∧ m = m' := fd_inj (hd.out.symm.trans hxm.out)
  clear hf hd hxm
  have HB : Hid (Below w.heap.size w w1) := hb
  clear hb
  go_wp2_with fail
  have hbl := HB.out.trans (((Below.refl w1.heap.size w1).alloc (Nat.le_refl _) (.cells #[.string x, .int .i64 x.size] 67)).mono HB.out.size)
  have hbP : BoxT 67 _ _ #[.string x, .int .i64 x.size] := BoxT.new 67 w1 #[.string x, .int .i64 x.size]
  generalize w1.alloc (.cells #[.string x, .int .i64 x.size] 67) = W at *
  generalize w1.heap.size = q at *
  have h1 := HD.out.below hbl
  have hmd : W.drew.ownsMap Try.prog 9 fileR b n d.D := h1.map
  obtain ⟨w2, hst, hown2, hturn⟩ := hmd.store (string_keyed Try.underlying9) Try.underlying62 hn (keyOf_name hs) (fileR_mk (s := x) (n := x.size) (by unfold maxLen; omega) (wf_in (by omega)))
  have hT2 : Turned k b w w2 := (Turned.below hbl.drew).trans (Turned.map hturn)
  have hbx2 := box_turned (h1.below ((Below.refl _ _).drew)) hturn
  have h2 : DiskAt w2 k b (n + 1) { d with D := d.D.put (key s) (fd x x.size) } := ⟨hbx2, hown2, h1.used, h1.room, h1.left⟩
  have HDN := done_any h2
  obtain ⟨c0, c1, c2, c3⟩ := h1.box.cells4
  obtain ⟨p0, p1⟩ := hbP.cells2
  have HT2 : Hid (Turned k b w w2) := hT2
  clear hbl hbP h1 hbx2 hmd hown2 hturn hT2 h2
  go_region
  all_goals
    go_wp2_with fail
    refine HDN.mono ?_
    rintro e w5 ⟨rfl, h5, hT5⟩
    go_wp2
    go_ret
    exact ⟨rfl, h5, HT2.out.trans hT5⟩
end Go.Proofs.Ytnokibjhkdaamaa
