/-
  Walks over package disk: Write.
-/
import Derived.Test.YtnokibjhkdaamaaDRead
import Derived.Laws.BytesArg
namespace Go.Proofs.Ytnokibjhkdaamaa
open Go.RowKit Go.Maps

def strOf (l : List Nat) : ByteArray := ⟨(l.map UInt8.ofNat).toArray⟩
theorem strOf_sb (s : ByteArray) : strOf (sb s) = s := by
  unfold strOf sb
  rw [List.map_map]
  have : (UInt8.ofNat ∘ fun b : UInt8 => b.toNat) = id := by funext b; simp
  rw [this, List.map_id]
theorem strOf_nums (l : List Nat) : strOfNums (l.map fun x : Nat => (x : Int)) = strOf l := by
  unfold strOfNums strOf
  rw [List.map_map]; rfl
theorem seg_convert {w : World} {v : Value} {l : List Nat} (h : Seg w v l) : (convert 35 9 v).run Try.prog w = .ok (.string (strOf l)) w := by
  obtain ⟨ao, cap, rfl, h1, h2, h3, h4⟩ := h
  rcases ao with _ | ad
  · have hm : l = [] := by
      rcases h4 with h4 | ⟨b, off, h5, _⟩
      · exact h4
      · cases h5
    subst hm
    exact run_convert_bytes_nil w 35 5 Try.underlying35 Try.underlying5 0 cap 9 Try.underlying9
  · by_cases h0 : l = []
    · subst h0
      have hl : (loadCells ad 0).run Try.prog w = .ok (([] : List Int).map (Value.int .u8)).toArray w := by
        have := run_loadCells_list (P := Try.prog) w ad [] (fun j v hj => by simp at hj)
        simpa using this
      have := run_bytesToString (P := Try.prog) w ad 0 cap [] hl
      show (convert 35 9 (.slice (some ad) 0 cap)).run Try.prog w = _
      rw [run_convert_bytes_string w 35 9 5 _ 0 cap Try.underlying35 Try.underlying5 Try.underlying9, this]
      rfl
    · rcases h4 with h4 | ⟨b, off, h5, _, h6⟩
      · exact absurd h4 h0
      · cases h5
        have := run_convert_bytes_arg (P := Try.prog) w 35 5 Try.underlying35 Try.underlying5 b off l.length cap (l.map fun x : Nat => (x : Int)) (by simp) (fun i hi => by
          rw [h6 i _ (List.getElem?_eq_getElem hi)]
          simp [List.getD, List.getElem?_eq_getElem hi]) 9 Try.underlying9
        rw [strOf_nums] at this
        exact this
theorem strOf_size (l : List Nat) : (strOf l).size = l.length := by
  show (l.map UInt8.ofNat).toArray.size = l.length
  simp
/-- The map's own look-up, whatever was drawn. -/
theorem look {w : World} {k b n : Nat} {d : Dk} (h : DiskAt w k b n d) {s : ByteArray} (hs : s.size ≤ maxLen) {x : ByteArray} {m : Int} (hd : d.D.atKey (key s) nofile = fd x m) (q : Nat) : (Instr.lookup 62 (.map (some b)) (.string s) false).run Try.prog (w.drewN q) = .ok (.agg #[.string x, .int .i64 m]) (w.drewN q) := by
  have hm : (w.drewN q).ownsMap Try.prog 9 fileR b n d.D := h.map
  obtain ⟨v, ps, hrun, hv⟩ := hm.lookup (string_keyed Try.underlying9) Try.underlying62 (Try.zero67 _) nofile_R (keyOf_name hs)
  obtain ⟨x', m', rfl, hxm, _, _⟩ := fileR_inv hv
  obtain ⟨rfl, rfl⟩ := fd_inj (hd.symm.trans hxm)
  exact hrun
theorem field0 (W : World) (x : ByteArray) (m : Int) : (Instr.field 67 (.agg #[.string x, .int .i64 m]) 0).run Try.prog W = .ok (.string x) W := by
  simp [Instr.field, run_underlying Try.underlying67, part, go_sem, asAgg]
/-- What Write does. -/
def dWrite (d : Dk) (s : ByteArray) (l : List Nat) (x : ByteArray) : Dk × Int :=
  if d.left = 0 then (d, 23) else if isNm s = false then (d, 21) else
  if 1048576 < l.length ∨ d.room < d.used - x.size + l.length then (d, 22) else
  (({ d with D := d.D.put (key s) (fd (strOf l) 0), used := d.used - x.size + l.length } : Dk).done, 0)

set_option maxHeartbeats 2000000 in
set_option maxRecDepth 100000 in
theorem Write_any {w : World} {k b n : Nat} {d : Dk} (h : DiskAt w k b n d) (s : ByteArray) (hs : s.size ≤ maxLen) (vb : Value) (l : List Nat) (hsg : Seg w vb l) (x : ByteArray) (m : Int) (hd : Hid (d.D.atKey (key s) nofile = fd x m)) (hx : x.size ≤ 1048576) (hu : 0 ≤ d.used ∧ d.used ≤ 1099511627776) (hn : n < maxLen) :
    Calls Try.prog 18 #[.pointer (some ⟨k, 0, none⟩), .string s, vb] w fun e w' => e = .returned (.int .i64 (dWrite d s l x).2) ∧ DiskAt w' k b (n + 1) (dWrite d s l x).1 ∧ Turned k b w w' := by
  have HSG : Hid (Seg w vb l) := hsg
  obtain ⟨ab, cb, rfl, b1, b2, b3, -⟩ := hsg
  obtain ⟨c0, c1, c2, c3⟩ := h.box.cells4
  have fr := h.box.free
  have hdead := Dead_any h
  have hnm := isName_any s w
  have HD : Hid (DiskAt w k b n d) := h
  unfold dWrite
  by_cases h0 : d.left = 0
  · have e2 : (d.left == 0) = true := by simp [h0]
    rw [if_pos h0]
    rw [e2] at hdead
    clear hnm h
    go_enter Try.func18, Try.ntmps18
    go_wp2_with fail
    refine hdead.mono ?_
    rintro e w1 ⟨rfl, rfl⟩
    go_wp2
    go_ret
    exact ⟨rfl, HD.out.mono (by omega), Turned.refl _ _ _⟩
  have e2 : (d.left == 0) = false := by simp [h0]
  rw [if_neg h0]
  rw [e2] at hdead
  generalize isNm s = nm at *
  cases nm
  · rw [if_pos rfl]
    clear h
    go_enter Try.func18, Try.ntmps18
    go_wp2_with fail
    refine hdead.mono ?_
    rintro e w1 ⟨rfl, rfl⟩
    go_wp2_with fail
    refine hnm.mono ?_
    rintro e w1 ⟨rfl, rfl⟩
    go_wp2
    go_ret
    exact ⟨rfl, HD.out.mono (by omega), Turned.refl _ _ _⟩
  rw [if_neg (by decide)]
  have hlk : (Instr.lookup 62 (.map (some b)) (.string s) false).run Try.prog w.drew = .ok (.agg #[.string x, .int .i64 m]) w.drew := look HD.out hs hd.out 1
  have hfd := field0 w.drew x m
  have hw1 : wrap64 (d.used - x.size) = d.used - x.size := by unfold wrap64; omega
  have hw2 : wrap64 (d.used - x.size + l.length) = d.used - x.size + l.length := by unfold wrap64; omega
  by_cases h3 : 1048576 < l.length
  · rw [if_pos (.inl h3)]
    clear h
    go_enter Try.func18, Try.ntmps18
    go_wp2_with fail
    refine hdead.mono ?_
    rintro e w1 ⟨rfl, rfl⟩
    go_wp2_with fail
    refine hnm.mono ?_
    rintro e w1 ⟨rfl, rfl⟩
    clear hdead hnm
    go_wp2_with fail
    go_region
    go_wp2
    go_ret
    exact ⟨rfl, (HD.out.mono (by omega)).below ((Below.refl _ _).drew), Turned.below ((Below.refl _ _).drew)⟩
  by_cases h4 : d.room < d.used - x.size + l.length
  · rw [if_pos (.inr h4)]
    clear h
    go_enter Try.func18, Try.ntmps18
    go_wp2_with fail
    refine hdead.mono ?_
    rintro e w1 ⟨rfl, rfl⟩
    go_wp2_with fail
    refine hnm.mono ?_
    rintro e w1 ⟨rfl, rfl⟩
    clear hdead hnm
    go_wp2_with fail
    go_region
    go_wp2
    go_ret
    exact ⟨rfl, (HD.out.mono (by omega)).below ((Below.refl _ _).drew), Turned.below ((Below.refl _ _).drew)⟩
  rw [if_neg (by omega)]
  have hsgd : Seg w.drew.drew (.slice ab l.length cb) l := HSG.out
  have hcv := seg_convert hsgd
  have hmd : w.drew.drew.ownsMap Try.prog 9 fileR b n d.D := h.map
  obtain ⟨w2, hst, hown2, hturn⟩ := hmd.store (string_keyed Try.underlying9) Try.underlying62 hn (keyOf_name hs) (fileR_mk (s := strOf l) (n := 0) (by rw [strOf_size]; unfold maxLen; omega) (by decide))
  have hT2 : Turned k b w w2 := (Turned.below (((Below.refl w.heap.size w).drew).drew)).trans (Turned.map hturn)
  have hbx : BoxT 64 w.drew.drew k #[.map (some b), .int .i64 d.used, .int .i64 d.room, .int .i64 d.left] := h.box
  have hbx2 : BoxT 64 w2 k #[.map (some b), .int .i64 d.used, .int .i64 d.room, .int .i64 d.left] := by
    have hg := hturn.grown
    have hl : k < w.drew.drew.heap.size := h.box.lt
    unfold BoxT at *
    rw [hg.block k hl (fun e => h.ne (by simpa using e))]
    exact hbx
  have h2 : DiskAt w2 k b (n + 1) { d with D := d.D.put (key s) (fd (strOf l) 0) } := ⟨hbx2, hown2, h.used, h.room, h.left⟩
  have h3' := h2.used' (d.used - x.size + l.length) (wf_in (by omega))
  have hT3 := hT2.trans (Turned.set k b w2 1 (.int .i64 (d.used - x.size + l.length)))
  have hdone := done_any h3'
  obtain ⟨g0, g1, g2, g3⟩ := hbx2.cells4
  have fr2 := hbx2.free
  have HDN := hdone
  have HT3 : Hid (Turned k b w (w2.setCell ⟨k, 1, none⟩ (.int .i64 (d.used - x.size + l.length)))) := hT3
  clear hsgd hmd hown2 hturn hT2 hbx hbx2 h2 h3' hT3 hdone h
  go_enter Try.func18, Try.ntmps18
  go_wp2_with fail
  refine hdead.mono ?_
  rintro e w1 ⟨rfl, rfl⟩
  go_wp2_with fail
  refine hnm.mono ?_
  rintro e w1 ⟨rfl, rfl⟩
  clear hdead hnm
  go_wp2_with fail
  go_region
  go_wp2_with fail
  go_region
  go_wp2_with fail
  refine HDN.mono ?_
  rintro e w5 ⟨rfl, h5, hT5⟩
  go_wp2
  go_ret
  exact ⟨rfl, h5, HT3.out.trans hT5⟩
end Go.Proofs.Ytnokibjhkdaamaa
