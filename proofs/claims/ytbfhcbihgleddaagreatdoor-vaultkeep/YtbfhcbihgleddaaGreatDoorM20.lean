/-
  Texts of the vault, in build order: DOps, DRead, DWrite.
-/
import Derived.Test.YtbfhcbihgleddaaGreatDoorM19
import Derived.Lib.ConvBytes
import Derived.Laws.BytesArg
/-
  Walks over package disk: the small ones, New, Read.
-/
namespace Go.Proofs.YtbfhcbihgleddaaGreatDoor
open Go.RowKit Go.Maps

theorem DiskAt.left' {w : World} {k b n : Nat} {d : Dk} (h : DiskAt w k b n d) (x : Int) (hx : (Lit.int .i64 x).wf = true) : DiskAt (w.setCell ⟨k, 3, none⟩ (.int .i64 x)) k b n { d with left := x } :=
  ⟨h.box.set 3 _, h.map.setCell (by show b ≠ k; exact fun e => h.ne e.symm) _, h.used, h.room, hx⟩
theorem DiskAt.room' {w : World} {k b n : Nat} {d : Dk} (h : DiskAt w k b n d) (x : Int) (hx : (Lit.int .i64 x).wf = true) : DiskAt (w.setCell ⟨k, 2, none⟩ (.int .i64 x)) k b n { d with room := x } :=
  ⟨h.box.set 2 _, h.map.setCell (by show b ≠ k; exact fun e => h.ne e.symm) _, h.used, hx, h.left⟩
theorem DiskAt.used' {w : World} {k b n : Nat} {d : Dk} (h : DiskAt w k b n d) (x : Int) (hx : (Lit.int .i64 x).wf = true) : DiskAt (w.setCell ⟨k, 1, none⟩ (.int .i64 x)) k b n { d with used := x } :=
  ⟨h.box.set 1 _, h.map.setCell (by show b ≠ k; exact fun e => h.ne e.symm) _, hx, h.room, h.left⟩
theorem wf_in {x : Int} (h : -9223372036854775808 ≤ x ∧ x ≤ 9223372036854775807) : (Lit.int .i64 x).wf = true := by
  have h1 : IntKind.i64.min = -9223372036854775808 := rfl
  have h2 : IntKind.i64.max = 9223372036854775807 := rfl
  simp only [Lit.wf, Bool.and_eq_true, decide_eq_true_eq]
  omega
theorem wf_out {x : Int} (h : (Lit.int .i64 x).wf = true) : -9223372036854775808 ≤ x ∧ x ≤ 9223372036854775807 := by
  have h1 : IntKind.i64.min = -9223372036854775808 := rfl
  have h2 : IntKind.i64.max = 9223372036854775807 := rfl
  simp only [Lit.wf, Bool.and_eq_true, decide_eq_true_eq] at h
  omega
/-- One call more is done. -/
def Dk.done (d : Dk) : Dk := { d with left := if 0 < d.left then d.left - 1 else d.left }

set_option maxHeartbeats 400000 in
set_option maxRecDepth 100000 in
theorem done_any {w : World} {k b n : Nat} {d : Dk} (h : DiskAt w k b n d) :
    Calls Tryz.prog 53 #[.pointer (some ⟨k, 0, none⟩)] w fun e w' => e = .returned (.tuple #[]) ∧ DiskAt w' k b n d.done ∧ Turned k b w w' := by
  obtain ⟨c0, c1, c2, c3⟩ := h.box.cells4
  have f3 := h.box.free 3
  have hl := wf_out h.left
  unfold Dk.done
  by_cases h0 : 0 < d.left
  · rw [if_pos h0]
    have h2 := h.left' (d.left - 1) (wf_in (by omega))
    have HT := Turned.set k b w 3 (.int .i64 (d.left - 1))
    have hw : wrap64 (d.left - 1) = d.left - 1 := by unfold wrap64; omega
    go_enter Tryz.func53, Tryz.ntmps53
    go_wp2
    go_end0
    exact ⟨rfl, h2, HT⟩
  · rw [if_neg h0]
    go_enter Tryz.func53, Tryz.ntmps53
    go_wp2
    go_end0
    exact ⟨rfl, h, Turned.refl _ _ _⟩

set_option maxHeartbeats 400000 in
set_option maxRecDepth 100000 in
theorem Room_any {w : World} {k b n : Nat} {d : Dk} (h : DiskAt w k b n d) (x : Int) (hx : (Lit.int .i64 x).wf = true) :
    Calls Tryz.prog 19 #[.pointer (some ⟨k, 0, none⟩), .int .i64 x] w fun e w' => e = .returned (.tuple #[]) ∧ DiskAt w' k b n { d with room := max x 0 } ∧ Turned k b w w' := by
  obtain ⟨c0, c1, c2, c3⟩ := h.box.cells4
  have f3 := h.box.free 2
  have hl := wf_out hx
  have h2 := h.room' (max x 0) (wf_in (by omega))
  have HT := Turned.set k b w 2 (.int .i64 (max x 0))
  go_enter Tryz.func19, Tryz.ntmps19
  go_wp2
  all_goals
    go_end0
    first
      | (have em : max x 0 = x := by omega
         rw [em] at h2 HT ⊢
         exact ⟨rfl, h2, HT⟩)
      | (have em : max x 0 = 0 := by omega
         rw [em] at h2 HT ⊢
         exact ⟨rfl, h2, HT⟩)

set_option maxHeartbeats 400000 in
set_option maxRecDepth 100000 in
theorem Cut_any {w : World} {k b n : Nat} {d : Dk} (h : DiskAt w k b n d) (x : Int) (hx : (Lit.int .i64 x).wf = true) :
    Calls Tryz.prog 21 #[.pointer (some ⟨k, 0, none⟩), .int .i64 x] w fun e w' => e = .returned (.tuple #[]) ∧ DiskAt w' k b n { d with left := if d.left = 0 then 0 else max x (-1) } ∧ Turned k b w w' := by
  have hd := Dead_any h
  obtain ⟨c0, c1, c2, c3⟩ := h.box.cells4
  have f3 := h.box.free 3
  have hl := wf_out hx
  by_cases h0 : d.left = 0
  · rw [if_pos h0]
    have e2 : (d.left == 0) = true := by simp [h0]
    rw [e2] at hd
    go_enter Tryz.func21, Tryz.ntmps21
    go_wp2_with fail
    refine hd.mono ?_
    rintro e w1 ⟨rfl, rfl⟩
    go_wp2
    go_end0
    exact ⟨rfl, by rw [← h0]; exact h, Turned.refl _ _ _⟩
  · rw [if_neg h0]
    have e2 : (d.left == 0) = false := by simp [h0]
    rw [e2] at hd
    have h2 := h.left' (max x (-1)) (wf_in (by omega))
    have HT := Turned.set k b w 3 (.int .i64 (max x (-1)))
    go_enter Tryz.func21, Tryz.ntmps21
    go_wp2_with fail
    refine hd.mono ?_
    rintro e w1 ⟨rfl, rfl⟩
    go_wp2
    all_goals
      go_end0
      first
        | (have em : max x (-1) = x := by omega
           rw [em] at h2 HT ⊢
           exact ⟨rfl, h2, HT⟩)
        | (have em : max x (-1) = -1 := by omega
           rw [em] at h2 HT ⊢
           exact ⟨rfl, h2, HT⟩)

theorem New_made (w : World) (r : Int) (hr : -9223372036854775808 ≤ r ∧ r ≤ 9223372036854775807) : DiskAt ((w.alloc (.map #[] 0)).alloc (.cells #[.map (some w.heap.size), .int .i64 0, .int .i64 r, .int .i64 (-1)] 78)) (w.heap.size + 1) w.heap.size 0 ⟨.map [], 0, r, -1⟩ ∧ Below w.heap.size w ((w.alloc (.map #[] 0)).alloc (.cells #[.map (some w.heap.size), .int .i64 0, .int .i64 r, .int .i64 (-1)] 78)) := by
  refine ⟨⟨BoxT.new_at (by simp), (World.ownsMap_made w Tryz.prog 9 fileR).alloc _, wf_in (by dsimp only; omega), wf_in hr, wf_in (by dsimp only; omega)⟩, ?_⟩
  exact ((Below.refl w.heap.size w).alloc (Nat.le_refl _) (.map #[] 0)).alloc (by simp) _

set_option maxHeartbeats 400000 in
set_option maxRecDepth 100000 in
theorem New_any (w : World) (x : Int) (hx : (Lit.int .i64 x).wf = true) :
    Calls Tryz.prog 11 #[.int .i64 x] w fun e w' => e = .returned (.pointer (some ⟨w.heap.size + 1, 0, none⟩)) ∧ DiskAt w' (w.heap.size + 1) w.heap.size 0 ⟨.map [], 0, max x 0, -1⟩ ∧ Below w.heap.size w w' := by
  have hl := wf_out hx
  have hmk : (Instr.makeMap 76 none).run Tryz.prog w = .ok (.map (some w.heap.size)) (w.alloc (.map #[] 0)) := run_makeMap 76 w
  by_cases h0 : 0 ≤ x
  · have em : max x 0 = x := by omega
    rw [em]
    have HD : Hid _ := New_made w x hl
    go_enter Tryz.func11, Tryz.ntmps11
    go_wp2
    go_ret
    exact ⟨rfl, HD.out⟩
  · have em : max x 0 = 0 := by omega
    rw [em]
    have HD : Hid _ := New_made w 0 (by omega)
    have h1 : x ≤ 0 := by omega
    go_enter Tryz.func11, Tryz.ntmps11
    go_wp2
    go_ret
    exact ⟨rfl, HD.out⟩
end Go.Proofs.YtbfhcbihgleddaaGreatDoor
/-
  Walks over package disk: Read.
-/
namespace Go.Proofs.YtbfhcbihgleddaaGreatDoor
open Go.RowKit Go.Maps

/-- What a conversion of a string lays is read as its bytes. -/
theorem bytes_seg (w : World) (s : ByteArray) (hs : s.size ≤ 140737488355328) (h1 : s.size ≤ grownCap w s.size 0 5) (h2 : grownCap w s.size 0 5 ≤ 9223372036854775807) : Seg (Lib.bytesWorld w 5 s) (.slice (some ⟨w.heap.size, 0, none⟩) s.size (grownCap w s.size 0 5)) (sb s) := by
  refine ⟨_, _, by rw [sb_length], by rw [sb_length]; exact h1, h2, by rw [sb_length]; exact hs, ?_⟩
  by_cases h0 : sb s = []
  · exact .inl h0
  · refine .inr ⟨w.heap.size, 0, rfl, by rw [Lib.bytesWorld_size]; omega, fun i x hx => ?_⟩
    have hi : i < s.size := by rw [← sb_length]; exact (List.getElem?_eq_some_iff.1 hx).1
    rw [Nat.zero_add, Lib.bytesWorld_cell w 5 s i hi]
    have : x = (s.data.toList.getD i 0).toNat := by
      unfold sb at hx
      rw [List.getElem?_map] at hx
      obtain ⟨y, hy, rfl⟩ := Option.map_eq_some_iff.1 hx
      rw [List.getD_eq_getElem?_getD, hy]; rfl
    rw [this]
theorem bytes_below (w : World) (s : ByteArray) : Below w.heap.size w (Lib.bytesWorld w 5 s) :=
  ⟨rfl, rfl, rfl, by rw [Lib.bytesWorld_size]; omega, fun k hk => Lib.bytesWorld_at_old w 5 s k hk⟩

/-- What Read tells. -/
def RdPost (w : World) (er : Int) (l : List Nat) (e : Ending) (w' : World) : Prop := ∃ v, e = .returned (.tuple #[v, .int .i64 er]) ∧ Seg w' v l ∧ Below w.heap.size w w'

set_option maxHeartbeats 1000000 in
set_option maxRecDepth 100000 in
theorem Read_any {w : World} {k b n : Nat} {d : Dk} (h : DiskAt w k b n d) (s : ByteArray) (hs : s.size ≤ maxLen) (x : ByteArray) (m : Int) (hd : Hid ((dFind d s).1 = fd x m)) (hx : x.size ≤ 1048576) :
    Calls Tryz.prog 28 #[.pointer (some ⟨k, 0, none⟩), .string s] w (RdPost w (dFind d s).2 (if (dFind d s).2 = 0 then sb x else [])) := by
  have hf := find_any h s hs
  generalize dFind d s = p at *
  obtain ⟨dd, er⟩ := p
  dsimp only at *
  by_cases h0 : er = 0
  · subst h0
    rw [if_pos rfl]
    go_enter Tryz.func28, Tryz.ntmps28
    go_wp2_with fail
    refine hf.mono ?_
    rintro e w1 ⟨x', m', rfl, hxm, -, hb⟩
    obtain ⟨rfl, rfl⟩ : x = x' ∧ m = m' := fd_inj (hd.out.symm.trans hxm.out)
    clear hf hd hxm
    have hcv := Lib.run_convert_string_bytes (P := Tryz.prog) (w1.alloc (.cells #[.string x, .int .i64 m] 99)) 9 22 5 x Tryz.underlying9 Tryz.underlying22 Tryz.underlying5
    have hsg := bytes_seg (w1.alloc (.cells #[.string x, .int .i64 m] 99)) x (by omega) (grownCap_ge _ _ _ _) (Nat.le_trans (grownCap_le_maxLen _ _ _ _ (by unfold maxLen; omega)) (by unfold maxLen; omega))
    have hbl := hb.trans ((((Below.refl w1.heap.size w1).alloc (Nat.le_refl _) (.cells #[.string x, .int .i64 m] 99)).trans ((bytes_below _ x).mono (by simp))).mono hb.size)
    have HP : Hid _ := And.intro hsg hbl
    generalize Lib.bytesWorld (w1.alloc (.cells #[.string x, .int .i64 m] 99)) 5 x = W at *
    generalize grownCap (w1.alloc (.cells #[.string x, .int .i64 m] 99)) x.size 0 5 = cp at *
    simp only [World.size_alloc] at *
    clear hsg hbl hb
    go_wp2
    go_ret2
    exact ⟨_, rfl, HP.out.1, HP.out.2⟩
  · rw [if_neg h0]
    have e1 : (er != 0) = true := by simpa using h0
    go_enter Tryz.func28, Tryz.ntmps28
    go_wp2_with fail
    refine hf.mono ?_
    rintro e w1 ⟨x', m', rfl, -, -, hb⟩
    have hbl := hb.trans (((Below.refl w1.heap.size w1).alloc (Nat.le_refl _) (.cells #[.string x', .int .i64 m'] 99)).mono hb.size)
    clear hf hd
    go_wp2
    go_ret2
    exact ⟨_, rfl, Seg.nil _, hbl⟩
end Go.Proofs.YtbfhcbihgleddaaGreatDoor
/-
  Walks over package disk: Write.
-/
namespace Go.Proofs.YtbfhcbihgleddaaGreatDoor
open Go.RowKit Go.Maps

theorem strOf_size (l : List Nat) : (strOf l).size = l.length := by
  show (l.map UInt8.ofNat).toArray.size = l.length
  simp
/-- The map's own look-up, whatever was drawn. -/
theorem look {w : World} {k b n : Nat} {d : Dk} (h : DiskAt w k b n d) {s : ByteArray} (hs : s.size ≤ maxLen) {x : ByteArray} {m : Int} (hd : d.D.atKey (key s) nofile = fd x m) (q : Nat) : (Instr.lookup 76 (.map (some b)) (.string s) false).run Tryz.prog (w.drewN q) = .ok (.agg #[.string x, .int .i64 m]) (w.drewN q) := by
  have hm : (w.drewN q).ownsMap Tryz.prog 9 fileR b n d.D := h.map
  obtain ⟨v, ps, hrun, hv⟩ := hm.lookup (string_keyed Tryz.underlying9) Tryz.underlying76 (Tryz.zero67 _) nofile_R (keyOf_name hs)
  obtain ⟨x', m', rfl, hxm, _, _⟩ := fileR_inv hv
  obtain ⟨rfl, rfl⟩ := fd_inj (hd.symm.trans hxm)
  exact hrun
theorem field0 (W : World) (x : ByteArray) (m : Int) : (Instr.field 99 (.agg #[.string x, .int .i64 m]) 0).run Tryz.prog W = .ok (.string x) W := by
  simp [Instr.field, run_underlying Tryz.underlying99, part, go_sem, asAgg]
/-- What Write does. -/
def dWrite (d : Dk) (s : ByteArray) (l : List Nat) (x : ByteArray) : Dk × Int :=
  if d.left = 0 then (d, 23) else if isNm s = false then (d, 21) else
  if 1048576 < l.length ∨ d.room < d.used - x.size + l.length then (d, 22) else
  (({ d with D := d.D.put (key s) (fd (strOf l) 0), used := d.used - x.size + l.length } : Dk).done, 0)

set_option maxHeartbeats 2000000 in
set_option maxRecDepth 100000 in
theorem Write_any {w : World} {k b n : Nat} {d : Dk} (h : DiskAt w k b n d) (s : ByteArray) (hs : s.size ≤ maxLen) (vb : Value) (l : List Nat) (hsg : Seg w vb l) (x : ByteArray) (m : Int) (hd : Hid (d.D.atKey (key s) nofile = fd x m)) (hx : x.size ≤ 1048576) (hu : 0 ≤ d.used ∧ d.used ≤ 1099511627776) (hn : n < maxLen) :
    Calls Tryz.prog 30 #[.pointer (some ⟨k, 0, none⟩), .string s, vb] w fun e w' => e = .returned (.int .i64 (dWrite d s l x).2) ∧ DiskAt w' k b (n + 1) (dWrite d s l x).1 ∧ Turned k b w w' := by
  have HSG : Hid (Seg w vb l) := hsg
  obtain ⟨ab, cb, rfl, b1, b2, b3, -⟩ := hsg
  obtain ⟨c0, c1, c2, c3⟩ := h.box.cells4
  have fr := h.box.free
  have hdead := Dead_any h
  have hnm := isName_any s w
  have HD : Hid (DiskAt w k b n d) := h
  unfold dWrite
  by_cases h0 : d.left = 0
  · have e2 : (d.left == 0) = true := by simp [h0]
    rw [if_pos h0]
    rw [e2] at hdead
    clear hnm h
    go_enter Tryz.func30, Tryz.ntmps30
    go_wp2_with fail
    refine hdead.mono ?_
    rintro e w1 ⟨rfl, rfl⟩
    go_wp2
    go_ret
    exact ⟨rfl, HD.out.mono (by omega), Turned.refl _ _ _⟩
  have e2 : (d.left == 0) = false := by simp [h0]
  rw [if_neg h0]
  rw [e2] at hdead
  generalize isNm s = nm at *
  cases nm
  · rw [if_pos rfl]
    clear h
    go_enter Tryz.func30, Tryz.ntmps30
    go_wp2_with fail
    refine hdead.mono ?_
    rintro e w1 ⟨rfl, rfl⟩
    go_wp2_with fail
    refine hnm.mono ?_
    rintro e w1 ⟨rfl, rfl⟩
    go_wp2
    go_ret
    exact ⟨rfl, HD.out.mono (by omega), Turned.refl _ _ _⟩
  rw [if_neg (by decide)]
  have hlk : (Instr.lookup 76 (.map (some b)) (.string s) false).run Tryz.prog w.drew = .ok (.agg #[.string x, .int .i64 m]) w.drew := look HD.out hs hd.out 1
  have hfd := field0 w.drew x m
  have hw1 : wrap64 (d.used - x.size) = d.used - x.size := by unfold wrap64; omega
  have hw2 : wrap64 (d.used - x.size + l.length) = d.used - x.size + l.length := by unfold wrap64; omega
  by_cases h3 : 1048576 < l.length
  · rw [if_pos (.inl h3)]
    clear h
    go_enter Tryz.func30, Tryz.ntmps30
    go_wp2_with fail
    refine hdead.mono ?_
    rintro e w1 ⟨rfl, rfl⟩
    go_wp2_with fail
    refine hnm.mono ?_
    rintro e w1 ⟨rfl, rfl⟩
    clear hdead hnm
    go_wp2_with fail
    go_region
    go_wp2
    go_ret
    exact ⟨rfl, (HD.out.mono (by omega)).below ((Below.refl _ _).drew), Turned.below ((Below.refl _ _).drew)⟩
  by_cases h4 : d.room < d.used - x.size + l.length
  · rw [if_pos (.inr h4)]
    clear h
    go_enter Tryz.func30, Tryz.ntmps30
    go_wp2_with fail
    refine hdead.mono ?_
    rintro e w1 ⟨rfl, rfl⟩
    go_wp2_with fail
    refine hnm.mono ?_
    rintro e w1 ⟨rfl, rfl⟩
    clear hdead hnm
    go_wp2_with fail
    go_region
    go_wp2
    go_ret
    exact ⟨rfl, (HD.out.mono (by omega)).below ((Below.refl _ _).drew), Turned.below ((Below.refl _ _).drew)⟩
  rw [if_neg (by omega)]
  have hsgd : Seg w.drew.drew (.slice ab l.length cb) l := HSG.out
  have hcv := seg_convert hsgd
  have hmd : w.drew.drew.ownsMap Tryz.prog 9 fileR b n d.D := h.map
  obtain ⟨w2, hst, hown2, hturn⟩ := hmd.store (string_keyed Tryz.underlying9) Tryz.underlying76 hn (keyOf_name hs) (fileR_mk (s := strOf l) (n := 0) (by rw [strOf_size]; unfold maxLen; omega) (by decide))
  have hT2 : Turned k b w w2 := (Turned.below (((Below.refl w.heap.size w).drew).drew)).trans (Turned.map hturn)
  have hbx : BoxT 78 w.drew.drew k #[.map (some b), .int .i64 d.used, .int .i64 d.room, .int .i64 d.left] := h.box
  have hbx2 : BoxT 78 w2 k #[.map (some b), .int .i64 d.used, .int .i64 d.room, .int .i64 d.left] := by
    have hg := hturn.grown
    have hl : k < w.drew.drew.heap.size := h.box.lt
    unfold BoxT at *
    rw [hg.block k hl (fun e => h.ne (by simpa using e))]
    exact hbx
  have h2 : DiskAt w2 k b (n + 1) { d with D := d.D.put (key s) (fd (strOf l) 0) } := ⟨hbx2, hown2, h.used, h.room, h.left⟩
  have h3' := h2.used' (d.used - x.size + l.length) (wf_in (by omega))
  have hT3 := hT2.trans (Turned.set k b w2 1 (.int .i64 (d.used - x.size + l.length)))
  have hdone := done_any h3'
  obtain ⟨g0, g1, g2, g3⟩ := hbx2.cells4
  have fr2 := hbx2.free
  have HDN := hdone
  have HT3 : Hid (Turned k b w (w2.setCell ⟨k, 1, none⟩ (.int .i64 (d.used - x.size + l.length)))) := hT3
  clear hsgd hmd hown2 hturn hT2 hbx hbx2 h2 h3' hT3 hdone h
  go_enter Tryz.func30, Tryz.ntmps30
  go_wp2_with fail
  refine hdead.mono ?_
  rintro e w1 ⟨rfl, rfl⟩
  go_wp2_with fail
  refine hnm.mono ?_
  rintro e w1 ⟨rfl, rfl⟩
  clear hdead hnm
  go_wp2_with fail
  go_region
  go_wp2_with fail
  go_region
  go_wp2_with fail
  refine HDN.mono ?_
  rintro e w5 ⟨rfl, h5, hT5⟩
  go_wp2
  go_ret
  exact ⟨rfl, h5, HT3.out.trans hT5⟩
end Go.Proofs.YtbfhcbihgleddaaGreatDoor
