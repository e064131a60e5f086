/-
  Texts of the vault, in build order: DRead, DWrite, DMut, DSync, DRen, DHelp.
-/
import Derived.Test.YtbfhcbihgleddaaGreatDoorM19
import Derived.Test.YtbfhcbihgleddaaGreatDoorM20
import Derived.Lib.ConvBytes
import Derived.Laws.BytesArg
/-
  Walks over package disk: Read.
-/
namespace Go.Proofs.YtbfhcbihgleddaaGreatDoor
open Go.RowKit Go.Maps

/-- What a conversion of a string lays is read as its bytes. -/
theorem bytes_seg (w : World) (s : ByteArray) (hs : s.size ≤ 140737488355328) (h1 : s.size ≤ grownCap w s.size 0 5) (h2 : grownCap w s.size 0 5 ≤ 9223372036854775807) : Seg (Lib.bytesWorld w 5 s) (.slice (some ⟨w.heap.size, 0, none⟩) s.size (grownCap w s.size 0 5)) (sb s) := by
  refine ⟨_, _, by rw [sb_length], by rw [sb_length]; exact h1, h2, by rw [sb_length]; exact hs, ?_⟩
  by_cases h0 : sb s = []
  · exact .inl h0
  · refine .inr ⟨w.heap.size, 0, rfl, by rw [Lib.bytesWorld_size]; omega, fun i x hx => ?_⟩
    have hi : i < s.size := by rw [← sb_length]; exact (List.getElem?_eq_some_iff.1 hx).1
    rw [Nat.zero_add, Lib.bytesWorld_cell w 5 s i hi]
    have : x = (s.data.toList.getD i 0).toNat := by
      unfold sb at hx
      rw [List.getElem?_map] at hx
      obtain ⟨y, hy, rfl⟩ := Option.map_eq_some_iff.1 hx
      rw [List.getD_eq_getElem?_getD, hy]; rfl
    rw [this]
theorem bytes_below (w : World) (s : ByteArray) : Below w.heap.size w (Lib.bytesWorld w 5 s) :=
  ⟨rfl, rfl, rfl, by rw [Lib.bytesWorld_size]; omega, fun k hk => Lib.bytesWorld_at_old w 5 s k hk⟩

/-- What Read tells. -/
def RdPost (w : World) (er : Int) (l : List Nat) (e : Ending) (w' : World) : Prop := ∃ v, e = .returned (.tuple #[v, .int .i64 er]) ∧ Seg w' v l ∧ Below w.heap.size w w'

set_option maxHeartbeats 1000000 in
set_option maxRecDepth 100000 in
theorem Read_any {w : World} {k b n : Nat} {d : Dk} (h : DiskAt w k b n d) (s : ByteArray) (hs : s.size ≤ maxLen) (x : ByteArray) (m : Int) (hd : Hid ((dFind d s).1 = fd x m)) (hx : x.size ≤ 1048576) :
    Calls Tryz.prog 28 #[.pointer (some ⟨k, 0, none⟩), .string s] w (RdPost w (dFind d s).2 (if (dFind d s).2 = 0 then sb x else [])) := by
  have hf := find_any h s hs
  generalize dFind d s = p at *
  obtain ⟨dd, er⟩ := p
  dsimp only at *
  by_cases h0 : er = 0
  · subst h0
    rw [if_pos rfl]
    go_enter Tryz.func28, Tryz.ntmps28
    go_wp2_with fail
    refine hf.mono ?_
    rintro e w1 ⟨x', m', rfl, hxm, -, hb⟩
    obtain ⟨rfl, rfl⟩ : x = x' ∧ m = m' := fd_inj (hd.out.symm.trans hxm.out)
    clear hf hd hxm
    have hcv := Lib.run_convert_string_bytes (P := Tryz.prog) (w1.alloc (.cells #[.string x, .int .i64 m] 99)) 9 22 5 x Tryz.underlying9 Tryz.underlying22 Tryz.underlying5
    have hsg := bytes_seg (w1.alloc (.cells #[.string x, .int .i64 m] 99)) x (by omega) (grownCap_ge _ _ _ _) (Nat.le_trans (grownCap_le_maxLen _ _ _ _ (by unfold maxLen; omega)) (by unfold maxLen; omega))
    have hbl := hb.trans ((((Below.refl w1.heap.size w1).alloc (Nat.le_refl _) (.cells #[.string x, .int .i64 m] 99)).trans ((bytes_below _ x).mono (by simp))).mono hb.size)
    have HP : Hid _ := And.intro hsg hbl
    generalize Lib.bytesWorld (w1.alloc (.cells #[.string x, .int .i64 m] 99)) 5 x = W at *
    generalize grownCap (w1.alloc (.cells #[.string x, .int .i64 m] 99)) x.size 0 5 = cp at *
    simp only [World.size_alloc] at *
    clear hsg hbl hb
    go_wp2
    go_ret2
    exact ⟨_, rfl, HP.out.1, HP.out.2⟩
  · rw [if_neg h0]
    have e1 : (er != 0) = true := by simpa using h0
    go_enter Tryz.func28, Tryz.ntmps28
    go_wp2_with fail
    refine hf.mono ?_
    rintro e w1 ⟨x', m', rfl, -, -, hb⟩
    have hbl := hb.trans (((Below.refl w1.heap.size w1).alloc (Nat.le_refl _) (.cells #[.string x', .int .i64 m'] 99)).mono hb.size)
    clear hf hd
    go_wp2
    go_ret2
    exact ⟨_, rfl, Seg.nil _, hbl⟩
end Go.Proofs.YtbfhcbihgleddaaGreatDoor
/-
  Walks over package disk: Write.
-/
namespace Go.Proofs.YtbfhcbihgleddaaGreatDoor
open Go.RowKit Go.Maps

theorem strOf_size (l : List Nat) : (strOf l).size = l.length := by
  show (l.map UInt8.ofNat).toArray.size = l.length
  simp
/-- The map's own look-up, whatever was drawn. -/
theorem look {w : World} {k b n : Nat} {d : Dk} (h : DiskAt w k b n d) {s : ByteArray} (hs : s.size ≤ maxLen) {x : ByteArray} {m : Int} (hd : d.D.atKey (key s) nofile = fd x m) (q : Nat) : (Instr.lookup 76 (.map (some b)) (.string s) false).run Tryz.prog (w.drewN q) = .ok (.agg #[.string x, .int .i64 m]) (w.drewN q) := by
  have hm : (w.drewN q).ownsMap Tryz.prog 9 fileR b n d.D := h.map
  obtain ⟨v, ps, hrun, hv⟩ := hm.lookup (string_keyed Tryz.underlying9) Tryz.underlying76 (Tryz.zero67 _) nofile_R (keyOf_name hs)
  obtain ⟨x', m', rfl, hxm, _, _⟩ := fileR_inv hv
  obtain ⟨rfl, rfl⟩ := fd_inj (hd.symm.trans hxm)
  exact hrun
theorem field0 (W : World) (x : ByteArray) (m : Int) : (Instr.field 99 (.agg #[.string x, .int .i64 m]) 0).run Tryz.prog W = .ok (.string x) W := by
  simp [Instr.field, run_underlying Tryz.underlying99, part, go_sem, asAgg]
/-- What Write does. -/
def dWrite (d : Dk) (s : ByteArray) (l : List Nat) (x : ByteArray) : Dk × Int :=
  if d.left = 0 then (d, 23) else if isNm s = false then (d, 21) else
  if 1048576 < l.length ∨ d.room < d.used - x.size + l.length then (d, 22) else
  (({ d with D := d.D.put (key s) (fd (strOf l) 0), used := d.used - x.size + l.length } : Dk).done, 0)

set_option maxHeartbeats 2000000 in
set_option maxRecDepth 100000 in
theorem Write_any {w : World} {k b n : Nat} {d : Dk} (h : DiskAt w k b n d) (s : ByteArray) (hs : s.size ≤ maxLen) (vb : Value) (l : List Nat) (hsg : Seg w vb l) (x : ByteArray) (m : Int) (hd : Hid (d.D.atKey (key s) nofile = fd x m)) (hx : x.size ≤ 1048576) (hu : 0 ≤ d.used ∧ d.used ≤ 1099511627776) (hn : n < maxLen) :
    Calls Tryz.prog 30 #[.pointer (some ⟨k, 0, none⟩), .string s, vb] w fun e w' => e = .returned (.int .i64 (dWrite d s l x).2) ∧ DiskAt w' k b (n + 1) (dWrite d s l x).1 ∧ Turned k b w w' := by
  have HSG : Hid (Seg w vb l) := hsg
  obtain ⟨ab, cb, rfl, b1, b2, b3, -⟩ := hsg
  obtain ⟨c0, c1, c2, c3⟩ := h.box.cells4
  have fr := h.box.free
  have hdead := Dead_any h
  have hnm := isName_any s w
  have HD : Hid (DiskAt w k b n d) := h
  unfold dWrite
  by_cases h0 : d.left = 0
  · have e2 : (d.left == 0) = true := by simp [h0]
    rw [if_pos h0]
    rw [e2] at hdead
    clear hnm h
    go_enter Tryz.func30, Tryz.ntmps30
    go_wp2_with fail
    refine hdead.mono ?_
    rintro e w1 ⟨rfl, rfl⟩
    go_wp2
    go_ret
    exact ⟨rfl, HD.out.mono (by omega), Turned.refl _ _ _⟩
  have e2 : (d.left == 0) = false := by simp [h0]
  rw [if_neg h0]
  rw [e2] at hdead
  generalize isNm s = nm at *
  cases nm
  · rw [if_pos rfl]
    clear h
    go_enter Tryz.func30, Tryz.ntmps30
    go_wp2_with fail
    refine hdead.mono ?_
    rintro e w1 ⟨rfl, rfl⟩
    go_wp2_with fail
    refine hnm.mono ?_
    rintro e w1 ⟨rfl, rfl⟩
    go_wp2
    go_ret
    exact ⟨rfl, HD.out.mono (by omega), Turned.refl _ _ _⟩
  rw [if_neg (by decide)]
  have hlk : (Instr.lookup 76 (.map (some b)) (.string s) false).run Tryz.prog w.drew = .ok (.agg #[.string x, .int .i64 m]) w.drew := look HD.out hs hd.out 1
  have hfd := field0 w.drew x m
  have hw1 : wrap64 (d.used - x.size) = d.used - x.size := by unfold wrap64; omega
  have hw2 : wrap64 (d.used - x.size + l.length) = d.used - x.size + l.length := by unfold wrap64; omega
  by_cases h3 : 1048576 < l.length
  · rw [if_pos (.inl h3)]
    clear h
    go_enter Tryz.func30, Tryz.ntmps30
    go_wp2_with fail
    refine hdead.mono ?_
    rintro e w1 ⟨rfl, rfl⟩
    go_wp2_with fail
    refine hnm.mono ?_
    rintro e w1 ⟨rfl, rfl⟩
    clear hdead hnm
    go_wp2_with fail
    go_region
    go_wp2
    go_ret
    exact ⟨rfl, (HD.out.mono (by omega)).below ((Below.refl _ _).drew), Turned.below ((Below.refl _ _).drew)⟩
  by_cases h4 : d.room < d.used - x.size + l.length
  · rw [if_pos (.inr h4)]
    clear h
    go_enter Tryz.func30, Tryz.ntmps30
    go_wp2_with fail
    refine hdead.mono ?_
    rintro e w1 ⟨rfl, rfl⟩
    go_wp2_with fail
    refine hnm.mono ?_
    rintro e w1 ⟨rfl, rfl⟩
    clear hdead hnm
    go_wp2_with fail
    go_region
    go_wp2
    go_ret
    exact ⟨rfl, (HD.out.mono (by omega)).below ((Below.refl _ _).drew), Turned.below ((Below.refl _ _).drew)⟩
  rw [if_neg (by omega)]
  have hsgd : Seg w.drew.drew (.slice ab l.length cb) l := HSG.out
  have hcv := seg_convert hsgd
  have hmd : w.drew.drew.ownsMap Tryz.prog 9 fileR b n d.D := h.map
  obtain ⟨w2, hst, hown2, hturn⟩ := hmd.store (string_keyed Tryz.underlying9) Tryz.underlying76 hn (keyOf_name hs) (fileR_mk (s := strOf l) (n := 0) (by rw [strOf_size]; unfold maxLen; omega) (by decide))
  have hT2 : Turned k b w w2 := (Turned.below (((Below.refl w.heap.size w).drew).drew)).trans (Turned.map hturn)
  have hbx : BoxT 78 w.drew.drew k #[.map (some b), .int .i64 d.used, .int .i64 d.room, .int .i64 d.left] := h.box
  have hbx2 : BoxT 78 w2 k #[.map (some b), .int .i64 d.used, .int .i64 d.room, .int .i64 d.left] := by
    have hg := hturn.grown
    have hl : k < w.drew.drew.heap.size := h.box.lt
    unfold BoxT at *
    rw [hg.block k hl (fun e => h.ne (by simpa using e))]
    exact hbx
  have h2 : DiskAt w2 k b (n + 1) { d with D := d.D.put (key s) (fd (strOf l) 0) } := ⟨hbx2, hown2, h.used, h.room, h.left⟩
  have h3' := h2.used' (d.used - x.size + l.length) (wf_in (by omega))
  have hT3 := hT2.trans (Turned.set k b w2 1 (.int .i64 (d.used - x.size + l.length)))
  have hdone := done_any h3'
  obtain ⟨g0, g1, g2, g3⟩ := hbx2.cells4
  have fr2 := hbx2.free
  have HDN := hdone
  have HT3 : Hid (Turned k b w (w2.setCell ⟨k, 1, none⟩ (.int .i64 (d.used - x.size + l.length)))) := hT3
  clear hsgd hmd hown2 hturn hT2 hbx hbx2 h2 h3' hT3 hdone h
  go_enter Tryz.func30, Tryz.ntmps30
  go_wp2_with fail
  refine hdead.mono ?_
  rintro e w1 ⟨rfl, rfl⟩
  go_wp2_with fail
  refine hnm.mono ?_
  rintro e w1 ⟨rfl, rfl⟩
  clear hdead hnm
  go_wp2_with fail
  go_region
  go_wp2_with fail
  go_region
  go_wp2_with fail
  refine HDN.mono ?_
  rintro e w5 ⟨rfl, h5, hT5⟩
  go_wp2
  go_ret
  exact ⟨rfl, h5, HT3.out.trans hT5⟩
end Go.Proofs.YtbfhcbihgleddaaGreatDoor
/-
  Walks over package disk: Delete, Sync, Rename.
-/
namespace Go.Proofs.YtbfhcbihgleddaaGreatDoor
open Go.RowKit Go.Maps

/-- What Delete does. -/
def dDelete (d : Dk) (s x : ByteArray) : Dk × Int :=
  if (dFind d s).2 = 0 then (({ d with D := d.D.del (key s), used := d.used - x.size } : Dk).done, 0) else (d, (dFind d s).2)
theorem box_turned {w w' : World} {k b n : Nat} {d : Dk} (h : DiskAt w k b n d) (hg : w.mapTurned w' b) : BoxT 78 w' k #[.map (some b), .int .i64 d.used, .int .i64 d.room, .int .i64 d.left] := by
  have hbx := h.box
  have hl := h.box.lt
  unfold BoxT at *
  rw [hg.grown.block k hl (fun e => h.ne (by simpa using e))]
  exact hbx

set_option maxHeartbeats 2000000 in
set_option maxRecDepth 100000 in
theorem Delete_any {w : World} {k b n : Nat} {d : Dk} (h : DiskAt w k b n d) (s : ByteArray) (hs : s.size ≤ maxLen) (x : ByteArray) (m : Int) (hd : Hid ((dFind d s).1 = fd x m)) (hx : x.size ≤ 1048576) (hu : 0 ≤ d.used ∧ d.used ≤ 1099511627776) :
    Calls Tryz.prog 29 #[.pointer (some ⟨k, 0, none⟩), .string s] w fun e w' => e = .returned (.int .i64 (dDelete d s x).2) ∧ DiskAt w' k b n (dDelete d s x).1 ∧ Turned k b w w' := by
  have hf := find_any h s hs
  have HD : Hid (DiskAt w k b n d) := h
  unfold dDelete
  generalize dFind d s = p at *
  obtain ⟨dd, er⟩ := p
  dsimp only at *
  by_cases h0 : er = 0
  rotate_left
  · rw [if_neg h0]
    have e1 : (er != 0) = true := by simpa using h0
    clear h
    go_enter Tryz.func29, Tryz.ntmps29
    go_wp2_with fail
    refine hf.mono ?_
    rintro e w1 ⟨x', m', rfl, -, -, hb⟩
    have hbl := hb.trans (((Below.refl w1.heap.size w1).alloc (Nat.le_refl _) (.cells #[.string x', .int .i64 m'] 99)).mono hb.size)
    clear hf hd
    go_wp2
    go_ret
    exact ⟨rfl, HD.out.below hbl, Turned.below hbl⟩
  subst h0
  rw [if_pos rfl]
  have hw1 : wrap64 (d.used - x.size) = d.used - x.size := by unfold wrap64; omega
  have hw1' : IntKind.i64.wrap (d.used - x.size) = d.used - x.size := by rw [IntKind.wrap_i64]; omega
  clear h
  go_enter Tryz.func29, Tryz.ntmps29
  go_wp2_with fail
  refine hf.mono ?_
  rintro e w1 ⟨x', m', rfl, hxm, -, hb⟩
  obtain ⟨rfl, rfl⟩ : x = x' ∧ m = m' := fd_inj (hd.out.symm.trans hxm.out)
  clear hf hd hxm
  have hbl := hb.trans (((Below.refl w1.heap.size w1).alloc (Nat.le_refl _) (.cells #[.string x, .int .i64 m] 99)).mono hb.size)
  have h1 := HD.out.below hbl
  have hbP := BoxT.new 99 w1 #[.string x, .int .i64 m]
  have HBL : Hid (Below w.heap.size w (w1.alloc (.cells #[.string x, .int .i64 m] 99))) := hbl
  obtain ⟨c0, c1, c2, c3⟩ := h1.box.cells4
  have hlk := h1.box.lt
  have H1 : Hid (DiskAt (w1.alloc (.cells #[.string x, .int .i64 m] 99)) k b n d) := h1
  have HBP : Hid (BoxT 99 (w1.alloc (.cells #[.string x, .int .i64 m] 99)) w1.heap.size #[.string x, .int .i64 m]) := hbP
  clear hb hbl h1 hbP
  go_wp2_with (first | (at_delete; refine wpList_delete_own _ rfl _ _ 76 9 rfl 99 (string_keyed Tryz.underlying9) Tryz.underlying76 fileR b n d.D rfl H1.out.map _ _ rfl (keyOf_name hs) ?_; intro w2 hown2 hturn2) | fail)
  have hbx2 := box_turned H1.out hturn2
  have hbP2 : BoxT 99 w2 w1.heap.size #[.string x, .int .i64 m] := by
    have h2 := HBP.out
    have hl := h2.lt
    unfold BoxT at *
    rw [hturn2.grown.block w1.heap.size hl (fun e => by
      have := H1.out.map.lt
      obtain ⟨es, clock, hm, _⟩ := H1.out.map
      have e2 : w1.heap.size = b := by simpa using e
      rw [← e2] at hm
      rw [h2] at hm; cases hm)]
    exact h2
  have h2 : DiskAt w2 k b n { d with D := d.D.del (key s) } := ⟨hbx2, hown2, HD.out.used, HD.out.room, HD.out.left⟩
  have h3 := h2.used' (d.used - x.size) (wf_in (by omega))
  have hT3 : Turned k b w (w2.setCell ⟨k, 1, none⟩ (.int .i64 (d.used - x.size))).drew := (((Turned.below HBL.out).trans (Turned.map hturn2)).trans (Turned.set k b w2 1 _)).trans (Turned.below ((Below.refl _ _).drew))
  have h4 : DiskAt (w2.setCell ⟨k, 1, none⟩ (.int .i64 (d.used - x.size))) k b n { d with D := d.D.del (key s), used := d.used - x.size } := ⟨h3.box, h3.map, h3.used, h3.room, h3.left⟩
  have HDN := done_any (h4.below ((Below.refl _ _).drew))
  obtain ⟨g0, g1, g2, g3⟩ := hbx2.cells4
  have fr2 := hbx2.free
  obtain ⟨p0, p1⟩ := hbP2.cells2
  have HT3 : Hid (Turned k b w (w2.setCell ⟨k, 1, none⟩ (.int .i64 (d.used - x.size))).drew) := hT3
  clear hbx2 hbP2 h2 h3 h4 hT3 hown2 hturn2 c0 c1 c2 c3 H1 HBP
  go_wp2_with fail
  go_region
  all_goals
    go_wp2_with fail
    refine HDN.mono ?_
    rintro e w5 ⟨rfl, h5, hT5⟩
    go_wp2
    go_ret
    exact ⟨rfl, h5, HT3.out.trans hT5⟩
end Go.Proofs.YtbfhcbihgleddaaGreatDoor
/-
  Walks over package disk: Sync.
-/
namespace Go.Proofs.YtbfhcbihgleddaaGreatDoor
open Go.RowKit Go.Maps

/-- What Sync does. -/
def dSync (d : Dk) (s x : ByteArray) : Dk × Int :=
  if (dFind d s).2 = 0 then (({ d with D := d.D.put (key s) (fd x x.size) } : Dk).done, 0) else (d, (dFind d s).2)
theorem BoxT.notMap {t : TypeId} {w : World} {k b n : Nat} {cs : Array Value} {D : DataW Unit} (h : BoxT t w k cs) (hm : w.ownsMap Tryz.prog 9 fileR b n D) : k ≠ b := by
  rintro rfl
  obtain ⟨es, clock, hm, _⟩ := hm
  unfold BoxT at h
  rw [h] at hm; cases hm
set_option maxHeartbeats 2000000 in
set_option maxRecDepth 100000 in
theorem Sync_any {w : World} {k b n : Nat} {d : Dk} (h : DiskAt w k b n d) (hn : n < maxLen) (s : ByteArray) (hs : s.size ≤ maxLen) (x : ByteArray) (m : Int) (hd : Hid ((dFind d s).1 = fd x m)) (hx : x.size ≤ 1048576) :
    Calls Tryz.prog 102 #[.pointer (some ⟨k, 0, none⟩), .string s] w fun e w' => e = .returned (.int .i64 (dSync d s x).2) ∧ DiskAt w' k b (n + 1) (dSync d s x).1 ∧ Turned k b w w' := by
  have hf := find_any h s hs
  have HD : Hid (DiskAt w k b n d) := h
  unfold dSync
  generalize dFind d s = p at *
  obtain ⟨dd, er⟩ := p
  dsimp only at *
  by_cases h0 : er = 0
  rotate_left
  · rw [if_neg h0]
    have e1 : (er != 0) = true := by simpa using h0
    clear h
    go_enter Tryz.func102, Tryz.ntmps102
    go_wp2_with fail
    refine hf.mono ?_
    rintro e w1 ⟨x', m', rfl, -, -, hb⟩
    have hbl := hb.trans (((Below.refl w1.heap.size w1).alloc (Nat.le_refl _) (.cells #[.string x', .int .i64 m'] 99)).mono hb.size)
    clear hf hd
    go_wp2
    go_ret
    exact ⟨rfl, (HD.out.mono (by omega)).below hbl, Turned.below hbl⟩
  subst h0
  rw [if_pos rfl]
  clear h
  go_enter Tryz.func102, Tryz.ntmps102
  go_wp2_with fail
  refine hf.mono ?_
  rintro e w1 ⟨x', m', rfl, hxm, -, hb⟩
  obtain ⟨rfl, rfl⟩ : x = x' ∧ m = m' := fd_inj (hd.out.symm.trans hxm.out)
  clear hf hd hxm
  have HB : Hid (Below w.heap.size w w1) := hb
  clear hb
  go_wp2_with fail
  have hbl := HB.out.trans (((Below.refl w1.heap.size w1).alloc (Nat.le_refl _) (.cells #[.string x, .int .i64 x.size] 99)).mono HB.out.size)
  have hbP : BoxT 99 _ _ #[.string x, .int .i64 x.size] := BoxT.new 99 w1 #[.string x, .int .i64 x.size]
  generalize w1.alloc (.cells #[.string x, .int .i64 x.size] 99) = W at *
  generalize w1.heap.size = q at *
  have h1 := HD.out.below hbl
  have hmd : W.drew.ownsMap Tryz.prog 9 fileR b n d.D := h1.map
  obtain ⟨w2, hst, hown2, hturn⟩ := hmd.store (string_keyed Tryz.underlying9) Tryz.underlying76 hn (keyOf_name hs) (fileR_mk (s := x) (n := x.size) (by unfold maxLen; omega) (wf_in (by omega)))
  have hT2 : Turned k b w w2 := (Turned.below hbl.drew).trans (Turned.map hturn)
  have hbx2 := box_turned (h1.below ((Below.refl _ _).drew)) hturn
  have h2 : DiskAt w2 k b (n + 1) { d with D := d.D.put (key s) (fd x x.size) } := ⟨hbx2, hown2, h1.used, h1.room, h1.left⟩
  have HDN := done_any h2
  obtain ⟨c0, c1, c2, c3⟩ := h1.box.cells4
  obtain ⟨p0, p1⟩ := hbP.cells2
  have HT2 : Hid (Turned k b w w2) := hT2
  clear hbl hbP h1 hbx2 hmd hown2 hturn hT2 h2
  go_region
  all_goals
    go_wp2_with fail
    refine HDN.mono ?_
    rintro e w5 ⟨rfl, h5, hT5⟩
    go_wp2
    go_ret
    exact ⟨rfl, h5, HT2.out.trans hT5⟩
end Go.Proofs.YtbfhcbihgleddaaGreatDoor
/-
  Walks over package disk: Rename.
-/
namespace Go.Proofs.YtbfhcbihgleddaaGreatDoor
open Go.RowKit Go.Maps

/-- What Rename does; x, m is the file, y the bytes that the other name had when the file was away. -/
def dRename (d : Dk) (s t x : ByteArray) (m : Int) (y : ByteArray) : Dk × Int :=
  if (dFind d s).2 = 0 then
    if isNm t = false then (d, 21) else
    (({ d with D := (d.D.del (key s)).put (key t) (fd x m), used := d.used - y.size } : Dk).done, 0)
  else (d, (dFind d s).2)

set_option maxHeartbeats 4000000 in
set_option maxRecDepth 100000 in
theorem Rename_any {w : World} {k b n : Nat} {d : Dk} (h : DiskAt w k b n d) (hn : n < maxLen) (s t : ByteArray) (hs : s.size ≤ maxLen) (ht : t.size ≤ maxLen) (x : ByteArray) (m : Int) (hd : Hid ((dFind d s).1 = fd x m)) (hx : x.size ≤ 1048576) (hm : (Lit.int .i64 m).wf = true)
    (y : ByteArray) (my : Int) (hdy : Hid ((d.D.del (key s)).atKey (key t) nofile = fd y my)) (hy : y.size ≤ 1048576) (hu : 0 ≤ d.used ∧ d.used ≤ 1099511627776) :
    Calls Tryz.prog 70 #[.pointer (some ⟨k, 0, none⟩), .string s, .string t] w fun e w' => e = .returned (.int .i64 (dRename d s t x m y).2) ∧ DiskAt w' k b (n + 1) (dRename d s t x m y).1 ∧ Turned k b w w' := by
  have hf := find_any h s hs
  have HD : Hid (DiskAt w k b n d) := h
  have HNM : Hid (∀ W, Calls Tryz.prog 54 #[.string t] W fun e w' => e = .returned (.bool (isNm t)) ∧ w' = W) := fun W => isName_any t W
  unfold dRename
  generalize dFind d s = p at *
  obtain ⟨dd, er⟩ := p
  dsimp only at *
  by_cases h0 : er = 0
  rotate_left
  · rw [if_neg h0]
    have e1 : (er != 0) = true := by simpa using h0
    clear h
    go_enter Tryz.func70, Tryz.ntmps70
    go_wp2_with fail
    refine hf.mono ?_
    rintro e w1 ⟨x', m', rfl, -, -, hb⟩
    have hbl := hb.trans (((Below.refl w1.heap.size w1).alloc (Nat.le_refl _) (.cells #[.string x', .int .i64 m'] 99)).mono hb.size)
    clear hf hd
    go_wp2
    go_ret
    exact ⟨rfl, (HD.out.mono (by omega)).below hbl, Turned.below hbl⟩
  subst h0
  rw [if_pos rfl]
  generalize isNm t = nm at *
  cases nm
  · rw [if_pos rfl]
    clear h
    go_enter Tryz.func70, Tryz.ntmps70
    go_wp2_with fail
    refine hf.mono ?_
    rintro e w1 ⟨x', m', rfl, -, -, hb⟩
    have HBL : Hid _ := hb.trans (((Below.refl w1.heap.size w1).alloc (Nat.le_refl _) (.cells #[.string x', .int .i64 m'] 99)).mono hb.size)
    clear hf hd hb
    go_wp2_with fail
    refine (HNM.out _).mono ?_
    rintro e w2 ⟨rfl, rfl⟩
    go_wp2
    go_ret
    exact ⟨rfl, (HD.out.mono (by omega)).below HBL.out, Turned.below HBL.out⟩
  rw [if_neg (by decide)]
  have hw1 : wrap64 (d.used - y.size) = d.used - y.size := by unfold wrap64; omega
  have hw1' : IntKind.i64.wrap (d.used - y.size) = d.used - y.size := by rw [IntKind.wrap_i64]; omega
  clear h
  go_enter Tryz.func70, Tryz.ntmps70
  go_wp2_with fail
  refine hf.mono ?_
  rintro e w1 ⟨x', m', rfl, hxm, -, hb⟩
  obtain ⟨rfl, rfl⟩ : x = x' ∧ m = m' := fd_inj (hd.out.symm.trans hxm.out)
  clear hf hd hxm
  have HB : Hid (Below w.heap.size w w1) := hb
  clear hb
  go_wp2_with fail
  refine (HNM.out _).mono ?_
  rintro e w2 ⟨rfl, rfl⟩
  have hbl := HB.out.trans (((Below.refl w1.heap.size w1).alloc (Nat.le_refl _) (.cells #[.string x, .int .i64 m] 99)).mono HB.out.size)
  have hbP : BoxT 99 _ _ #[.string x, .int .i64 m] := BoxT.new 99 w1 #[.string x, .int .i64 m]
  generalize w1.alloc (.cells #[.string x, .int .i64 m] 99) = W at *
  generalize w1.heap.size = q at *
  have H1 : Hid (DiskAt W k b n d) := HD.out.below hbl
  have HBL : Hid (Below w.heap.size w W) := hbl
  have HBP : Hid (BoxT 99 W q #[.string x, .int .i64 m]) := hbP
  obtain ⟨c0, c1, c2, c3⟩ := H1.out.box.cells4
  clear hbl hbP
  go_wp2_with (first | (at_delete; refine wpList_delete_own _ rfl _ _ 76 9 rfl 99 (string_keyed Tryz.underlying9) Tryz.underlying76 fileR b n d.D rfl H1.out.map _ _ rfl (keyOf_name hs) ?_; intro w2 hown2 hturn2) | fail)
  have hbx2 := box_turned H1.out hturn2
  have hbP2 : BoxT 99 w2 q #[.string x, .int .i64 m] := HBP.out.grown hturn2.grown (HBP.out.notMap H1.out.map)
  have h2 : DiskAt w2 k b n { d with D := d.D.del (key s) } := ⟨hbx2, hown2, HD.out.used, HD.out.room, HD.out.left⟩
  have hqk : q ≠ k := by
    rintro rfl
    have e1 := HBP.out
    have e2 := H1.out.box
    unfold BoxT at e1 e2
    rw [e1] at e2
    simp at e2
  have hlk : (Instr.lookup 76 (.map (some b)) (.string t) false).run Tryz.prog w2.drew = .ok (.agg #[.string y, .int .i64 my]) w2.drew := look h2 ht hdy.out 1
  have hfd := field0 w2.drew y my
  have h3 := (h2.used' (d.used - y.size) (wf_in (by omega))).below ((Below.refl _ _).drew)
  have hbP3 : BoxT 99 (w2.setCell ⟨k, 1, none⟩ (.int .i64 (d.used - y.size))).drew q #[.string x, .int .i64 m] := (hbP2.other 1 _ hqk).drew
  have hT3 : Turned k b w (w2.setCell ⟨k, 1, none⟩ (.int .i64 (d.used - y.size))).drew := (((Turned.below HBL.out).trans (Turned.map hturn2)).trans (Turned.set k b w2 1 _)).trans (Turned.below ((Below.refl _ _).drew))
  obtain ⟨g0, g1, g2, g3⟩ := hbx2.cells4
  have fr2 := hbx2.free
  have H3 : Hid _ := And.intro h3 (And.intro hbP3 hT3)
  clear h2 hbx2 hbP2 h3 hbP3 hT3 hown2 hturn2 H1 HBP HBL c0 c1 c2 c3
  go_wp2_with fail
  go_region
  all_goals
    go_wp2_with fail
    obtain ⟨h3, hbP3, hT3⟩ := H3.out
    clear H3 g0 g1 g2 g3 fr2 hlk hfd
    generalize (w2.setCell ⟨k, 1, none⟩ (.int .i64 (d.used - y.size))).drew = W3 at *
    have hmd : W3.drew.ownsMap Tryz.prog 9 fileR b n (d.D.del (key s)) := h3.map
    obtain ⟨w4, hst, hown4, hturn4⟩ := hmd.store (string_keyed Tryz.underlying9) Tryz.underlying76 hn (keyOf_name ht) (fileR_mk (s := x) (n := m) (by unfold maxLen; omega) hm)
    have hT4 : Turned k b w w4 := hT3.trans ((Turned.below ((Below.refl _ _).drew)).trans (Turned.map hturn4))
    have hbx4 := box_turned (h3.below ((Below.refl _ _).drew)) hturn4
    have h4 : DiskAt w4 k b (n + 1) { d with D := (d.D.del (key s)).put (key t) (fd x m), used := d.used - y.size } := ⟨hbx4, hown4, h3.used, h3.room, h3.left⟩
    have HDN := done_any h4
    obtain ⟨g0, g1, g2, g3⟩ := h3.box.cells4
    obtain ⟨p0, p1⟩ := hbP3.cells2
    have HT4 : Hid (Turned k b w w4) := hT4
    clear h3 hbP3 hT3 hmd hown4 hturn4 hT4 hbx4 h4
    go_region
    all_goals
      go_wp2_with fail
      refine HDN.mono ?_
      rintro e w5 ⟨rfl, h5, hT5⟩
      go_wp2
      go_ret
      exact ⟨rfl, h5, HT4.out.trans hT5⟩
end Go.Proofs.YtbfhcbihgleddaaGreatDoor
/-
  Walks over the helps: Place, light.
-/
namespace Go.Proofs.YtbfhcbihgleddaaGreatDoor
open Go.RowKit Go.Maps

theorem tmod_emod {k n : Int} (hn : 0 < n) : (if k.tmod n < 0 then k.tmod n + n else k.tmod n) = k % n := by
  have h1 : 0 ≤ k % n := Int.emod_nonneg _ (by omega)
  have h2 : k % n < n := Int.emod_lt_of_pos _ hn
  have h3 := Int.emod_add_mul_ediv k n
  have h4 := Int.tmod_add_mul_tdiv k n
  rw [Int.tmod_eq_emod]
  have hn' : (n.natAbs : Int) = n := by omega
  split <;> split <;> omega

section
variable {α : Type} {sz : Nat} {cs : α → List Value} {B : Nat} {w w' : World} {v : Value} {xs : List α}
end

/-- A step of a script. -/
structure Stp where
  wh : Int
  n : Int
  nm : ByteArray
  to : ByteArray
  ba : Option Addr
  bl : List Nat
  bc : Nat
  ka : Option Addr
  kl : List Int
  kc : Nat
def Stp.cs (p : Stp) : List Value := [.int .i64 p.wh, .int .i64 p.n, .string p.nm, .string p.to, .slice p.ba p.bl.length p.bc, .slice p.ka p.kl.length p.kc]
/-- What a step weighs. -/
def Stp.wt (p : Stp) : Nat := p.bl.length + p.nm.size + p.to.size + p.kl.length
def tot (xs : List Stp) : Nat := (xs.map Stp.wt).sum
theorem tot_succ {xs : List Stp} {i : Nat} {p : Stp} (h : xs[i]? = some p) : tot (xs.take (i + 1)) = tot (xs.take i) + p.wt := by
  obtain ⟨hi, rfl⟩ := List.getElem?_eq_some_iff.1 h
  unfold tot
  rw [List.take_succ_eq_append_getElem hi, List.map_append, List.sum_append]
  rfl
theorem tot_take (xs : List Stp) (i : Nat) : tot (xs.take i) ≤ tot xs := by
  have : tot xs = tot (xs.take i) + tot (xs.drop i) := by
    unfold tot
    rw [← List.sum_append, ← List.map_append, List.take_append_drop]
  omega
theorem LSeg.stp {B : Nat} {w : World} {xs : List Stp} {ao : Option Addr} {cap : Nat} (h : LSeg 6 Stp.cs B w (.slice ao xs.length cap) xs) {i : Nat} {p : Stp} (hp : xs[i]? = some p) :
    ∃ b off, ao = some ⟨b, off, none⟩ ∧ b < B ∧ w.cell? ⟨b, off + i * 6 + 0, none⟩ = some (.int .i64 p.wh) ∧ w.cell? ⟨b, off + i * 6 + 1, none⟩ = some (.int .i64 p.n) ∧ w.cell? ⟨b, off + i * 6 + 2, none⟩ = some (.string p.nm) ∧
      w.cell? ⟨b, off + i * 6 + 3, none⟩ = some (.string p.to) ∧ w.cell? ⟨b, off + i * 6 + 4, none⟩ = some (.slice p.ba p.bl.length p.bc) ∧ w.cell? ⟨b, off + i * 6 + 5, none⟩ = some (.slice p.ka p.kl.length p.kc) := by
  obtain ⟨ao', cap', e, h2, h4⟩ := h
  cases e
  rcases h4 with h4 | ⟨b, off, h5, h6, h7⟩
  · subst h4; simp at hp
  · exact ⟨b, off, h5, h6, h7 i p hp 0 _ rfl, h7 i p hp 1 _ rfl, h7 i p hp 2 _ rfl, h7 i p hp 3 _ rfl, h7 i p hp 4 _ rfl, h7 i p hp 5 _ rfl⟩

end Go.Proofs.YtbfhcbihgleddaaGreatDoor
