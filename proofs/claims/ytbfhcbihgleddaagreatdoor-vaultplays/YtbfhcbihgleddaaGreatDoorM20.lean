/-
  Texts of the vault, in build order: DMap, DOps.
-/
import Derived.Test.YtbfhcbihgleddaaGreatDoorM19
import Derived.Maps.OwnSet
import Derived.Maps.OwnOps
import Derived.Maps.Ext
/-
  The program's disk as it lies: a box, and a map of files by names.
-/
namespace Go.Proofs.YtbfhcbihgleddaaGreatDoor
open Go.RowKit Go.Maps

/-- How a file reads. -/
def fileR (v : Value) : Option (DataW Unit × List MemPlace) :=
  match v with
  | .agg ⟨[.string s, .int .i64 n]⟩ => if s.size ≤ maxLen ∧ (Lit.int .i64 n).wf = true then some (.agg [.lit (.string s.data.toList), .lit (.int .i64 n)], []) else none
  | _ => none
/-- A file's datum. -/
def fd (s : ByteArray) (n : Int) : DataW Unit := .agg [.lit (.string s.data.toList), .lit (.int .i64 n)]
theorem fileR_mk {s : ByteArray} {n : Int} (hs : s.size ≤ maxLen) (hn : (Lit.int .i64 n).wf = true) : fileR (.agg #[.string s, .int .i64 n]) = some (fd s n, []) := by
  simp only [fileR, hs, hn, and_self, if_true, fd]
theorem fileR_inv {v : Value} {d : DataW Unit} {ps : List MemPlace} (h : fileR v = some (d, ps)) : ∃ s n, v = .agg #[.string s, .int .i64 n] ∧ d = fd s n ∧ s.size ≤ maxLen ∧ (Lit.int .i64 n).wf = true := by
  unfold fileR at h
  split at h
  · rename_i s n
    split at h
    · rename_i hc
      simp only [Option.some.injEq, Prod.mk.injEq] at h
      exact ⟨s, n, rfl, h.1.symm, hc.1, hc.2⟩
    · cases h
  · cases h
theorem fd_inj {s s' : ByteArray} {n n' : Int} (h : fd s n = fd s' n') : s = s' ∧ n = n' := by
  simp only [fd, DataW.agg.injEq, List.cons.injEq, DataW.lit.injEq, Lit.string.injEq, Lit.int.injEq, and_true, true_and] at h
  refine ⟨?_, h.2⟩
  have := h.1
  cases s with | mk a => cases s' with | mk b => cases a with | mk x => cases b with | mk y => simpa using this

/-- A disk: its files, and its three numbers. -/
structure Dk where
  D : DataW Unit
  used : Int
  room : Int
  left : Int
/-- The disk d lies in box k, its files in map b. -/
structure DiskAt (w : World) (k b n : Nat) (d : Dk) : Prop where
  box : BoxT 78 w k #[.map (some b), .int .i64 d.used, .int .i64 d.room, .int .i64 d.left]
  map : w.ownsMap Tryz.prog 9 fileR b n d.D
  used : (Lit.int .i64 d.used).wf = true
  room : (Lit.int .i64 d.room).wf = true
  left : (Lit.int .i64 d.left).wf = true
/-- Nothing but box k and map b has turned; there may be more. -/
structure Turned (k b : Nat) (w w' : World) : Prop where
  os : w'.os = w.os
  tape : w'.tape = w.tape
  output : w'.output = w.output
  size : w.heap.size ≤ w'.heap.size
  block : ∀ i, i < w.heap.size → i ≠ k → i ≠ b → w'.heap[i]? = w.heap[i]?
theorem Turned.refl (k b : Nat) (w : World) : Turned k b w w := ⟨rfl, rfl, rfl, Nat.le_refl _, fun _ _ _ _ => rfl⟩
theorem Turned.trans {k b : Nat} {u v w : World} (h : Turned k b u v) (h' : Turned k b v w) : Turned k b u w :=
  ⟨h'.os.trans h.os, h'.tape.trans h.tape, h'.output.trans h.output, Nat.le_trans h.size h'.size, fun i hi h1 h2 => (h'.block i (Nat.lt_of_lt_of_le hi h.size) h1 h2).trans (h.block i hi h1 h2)⟩
theorem Turned.below {k b : Nat} {w w' : World} (h : Below w.heap.size w w') : Turned k b w w' := ⟨h.os, h.tape, h.output, h.size, fun i hi _ _ => h.block i hi⟩
theorem Turned.set (k b : Nat) (w : World) (j : Nat) (u : Value) : Turned k b w (w.setCell ⟨k, j, none⟩ u) :=
  ⟨rfl, rfl, rfl, by simp, fun i _ h1 _ => Below.heap_setCell w ⟨k, j, none⟩ u i h1⟩
theorem Turned.map {k b : Nat} {w w' : World} (h : w.mapTurned w' b) : Turned k b w w' :=
  have g := h.grown
  ⟨g.os, g.tape, g.output, g.size, fun i hi _ h2 => g.block i hi (fun e => h2 (by simpa using e))⟩
theorem DiskAt.ne {w : World} {k b n : Nat} {d : Dk} (h : DiskAt w k b n d) : k ≠ b := by
  intro e
  subst e
  obtain ⟨es, clock, hb, _⟩ := h.map
  have := h.box
  unfold BoxT at this
  rw [this] at hb
  cases hb
theorem DiskAt.below {w w' : World} {k b n : Nat} {d : Dk} (h : DiskAt w k b n d) (hb : Below w.heap.size w w') : DiskAt w' k b n d := by
  refine ⟨?_, ?_, h.used, h.room, h.left⟩
  · have h1 := h.box
    have hl := h.box.lt
    unfold BoxT at *
    rw [hb.block k hl]; exact h1
  · obtain ⟨es, clock, h1, h2⟩ := h.map
    exact ⟨es, clock, (hb.block b h.map.lt).trans h1, h2⟩
theorem DiskAt.alloc {w : World} {k b n : Nat} {d : Dk} (h : DiskAt w k b n d) (o : Obj) : DiskAt (w.alloc o) k b n d := h.below ((Below.refl _ _).alloc (Nat.le_refl _) o)
theorem DiskAt.mono {w : World} {k b n n' : Nat} {d : Dk} (h : DiskAt w k b n d) (hn : n ≤ n') : DiskAt w k b n' d := ⟨h.box, h.map.mono hn, h.used, h.room, h.left⟩

set_option maxHeartbeats 400000 in
set_option maxRecDepth 100000 in
theorem Dead_any {w : World} {k b n : Nat} {d : Dk} (h : DiskAt w k b n d) :
    Calls Tryz.prog 22 #[.pointer (some ⟨k, 0, none⟩)] w fun e w' => e = .returned (.bool (d.left == 0)) ∧ w' = w := by
  obtain ⟨c0, c1, c2, c3⟩ := h.box.cells4
  go_enter Tryz.func22, Tryz.ntmps22
  go_wp2
  go_ret
  exact ⟨rfl, rfl⟩

set_option maxHeartbeats 400000 in
set_option maxRecDepth 100000 in
theorem Used_any {w : World} {k b n : Nat} {d : Dk} (h : DiskAt w k b n d) :
    Calls Tryz.prog 16 #[.pointer (some ⟨k, 0, none⟩)] w fun e w' => e = .returned (.int .i64 d.used) ∧ w' = w := by
  obtain ⟨c0, c1, c2, c3⟩ := h.box.cells4
  go_enter Tryz.func16, Tryz.ntmps16
  go_wp2
  go_ret
  exact ⟨rfl, rfl⟩

/-- A name of 1 to 32 bytes. -/
def isNm (s : ByteArray) : Bool := decide (1 ≤ s.size ∧ s.size ≤ 32)
set_option maxHeartbeats 400000 in
set_option maxRecDepth 100000 in
theorem isName_any (s : ByteArray) (w : World) : Calls Tryz.prog 54 #[.string s] w fun e w' => e = .returned (.bool (isNm s)) ∧ w' = w := by
  unfold isNm
  by_cases h1 : 1 ≤ s.size
  · by_cases h2 : s.size ≤ 32
    · go_enter Tryz.func54, Tryz.ntmps54
      go_wp2
      go_ret
      exact ⟨ret_bool0 (by rw [Bool.eq_iff_iff]; simp <;> omega), rfl⟩
    · go_enter Tryz.func54, Tryz.ntmps54
      go_wp2
      go_ret
      exact ⟨ret_bool0 (by rw [Bool.eq_iff_iff]; simp <;> omega), rfl⟩
  · go_enter Tryz.func54, Tryz.ntmps54
    go_wp2
    go_ret
    exact ⟨ret_bool0 rfl, rfl⟩

theorem Tryz.zero67 (w : World) : (zeroValue 99).run Tryz.prog w = .ok (.agg #[.string ByteArray.empty, .int .i64 0]) w := by
  have h : (Tryz.prog.info? 99).map (fun i => i.zero) = some (some (.agg #[.string ByteArray.empty, .int .i64 0])) := by kernel_rfl
  obtain ⟨i, hi, hz⟩ := Option.map_eq_some_iff.1 h
  simp [zeroValue, typeInfo, hi, hz]
def key (s : ByteArray) : Lit := .string s.data.toList
def nofile : DataW Unit := fd ByteArray.empty 0
/-- What find tells: the file's bytes, how many are synced, why there is none to be had. -/
def dFind (d : Dk) (s : ByteArray) : DataW Unit × Int :=
  if d.left = 0 then (nofile, 23) else if has d.D (key s) then (d.D.atKey (key s) nofile, 0) else (nofile, 20)
theorem keyOf_name {s : ByteArray} (hs : s.size ≤ maxLen) : keyOf Tryz.prog 9 (.string s) = some (key s) := WideMaps.keyOf_string_mk (P := Tryz.prog) Tryz.underlying9 hs
theorem nofile_R : fileR (.agg #[.string ByteArray.empty, .int .i64 0]) = some (nofile, []) := fileR_mk (by decide) (by decide)
theorem BoxT.two {t : TypeId} {w : World} {k : Nat} {c0 c1 : Value} (h : BoxT t w k #[c0, c1]) (u0 u1 : Value) : BoxT t ((w.setCell ⟨k, 0, none⟩ u0).setCell ⟨k, 1, none⟩ u1) k #[u0, u1] := by
  have h0 : BoxT t _ _ #[u0, c1] := h.set 0 u0
  exact h0.set 1 u1

set_option maxHeartbeats 2000000 in
set_option maxRecDepth 100000 in
theorem find_any {w : World} {k b n : Nat} {d : Dk} (h : DiskAt w k b n d) (s : ByteArray) (hs : s.size ≤ maxLen) :
    Calls Tryz.prog 52 #[.pointer (some ⟨k, 0, none⟩), .string s] w fun e w' => ∃ x m, e = .returned (.tuple #[.agg #[.string x, .int .i64 m], .int .i64 (dFind d s).2]) ∧ Hid ((dFind d s).1 = fd x m) ∧ Hid (x.size ≤ maxLen) ∧ Below w.heap.size w w' := by
  have h1 := h.alloc (.cells #[.string ByteArray.empty, .int .i64 0] 99)
  have bA := BoxT.new 99 w #[.string ByteArray.empty, .int .i64 0]
  have hb0 := (Below.refl w.heap.size w).alloc (Nat.le_refl _) (.cells #[.string ByteArray.empty, .int .i64 0] 99)
  obtain ⟨c0, c1, c2, c3⟩ := h1.box.cells4
  have hmap : Hid ((w.alloc (.cells #[.string ByteArray.empty, .int .i64 0] 99)).ownsMap Tryz.prog 9 fileR b n d.D) := h1.map
  obtain ⟨d0, d1⟩ := bA.cells2
  have fa := bA.free
  have hkl := h.box.lt
  by_cases hl : d.left = 0
  · have e1 : dFind d s = (nofile, 23) := by unfold dFind; rw [if_pos hl]
    rw [e1]
    have hd := Dead_any h1
    have e2 : (d.left == 0) = true := by simp [hl]
    rw [e2] at hd
    clear hmap
    go_enter Tryz.func52, Tryz.ntmps52
    go_wp2_with fail
    refine hd.mono ?_
    rintro e w1 ⟨rfl, rfl⟩
    clear hd
    go_wp2
    obtain ⟨x0, x1⟩ := bA.cells2
    exact bodyPost_ret (v := .tuple #[.agg #[.string ByteArray.empty, .int .i64 0], .int .i64 23]) (by simp [results, Tryz.results52, go_sem]; rfl) rfl ⟨_, _, rfl, rfl, by show _ ≤ _; decide, hb0⟩
  have e2 : (d.left == 0) = false := by simp [hl]
  have hd := Dead_any h1
  rw [e2] at hd
  generalize hh : has d.D (key s) = hb
  have HH : Hid (has d.D (key s) = hb) := hh
  cases hb
  · have e1 : dFind d s = (nofile, 20) := by unfold dFind; rw [if_neg hl, if_neg (by rw [hh]; decide)]
    rw [e1]
    clear hh
    go_enter Tryz.func52, Tryz.ntmps52
    go_wp2_with fail
    refine hd.mono ?_
    rintro e w1 ⟨rfl, rfl⟩
    clear hd
    go_wp2_with (first | (at_lookup; refine wpList_lookup_own_ok _ rfl _ _ 76 rfl 9 99 (string_keyed Tryz.underlying9) Tryz.underlying76 fileR (Tryz.zero67 _) nofile [] nofile_R b n d.D rfl hmap.out _ _ rfl (keyOf_name hs) ?_; intro v ps hv; rw [HH.out]; obtain ⟨x, m, rfl, hxm, hxs, hmw⟩ := fileR_inv hv) | fail)
    exact bodyPost_ret (v := .tuple #[.agg #[.string ByteArray.empty, .int .i64 0], .int .i64 20]) (by simp [results, Tryz.results52, go_sem]; rfl) rfl ⟨_, _, rfl, rfl, by show _ ≤ _; decide, hb0.alloc (by simp) _⟩
  · have e1 : dFind d s = (d.D.atKey (key s) nofile, 0) := by unfold dFind; rw [if_neg hl, if_pos hh]
    rw [e1]
    clear hh
    go_enter Tryz.func52, Tryz.ntmps52
    go_wp2_with fail
    refine hd.mono ?_
    rintro e w1 ⟨rfl, rfl⟩
    clear hd
    go_wp2_with (first | (at_lookup; refine wpList_lookup_own_ok _ rfl _ _ 76 rfl 9 99 (string_keyed Tryz.underlying9) Tryz.underlying76 fileR (Tryz.zero67 _) nofile [] nofile_R b n d.D rfl hmap.out _ _ rfl (keyOf_name hs) ?_; intro v ps hv; rw [HH.out]; obtain ⟨x, m, rfl, hxm, hxs, hmw⟩ := fileR_inv hv) | fail)
    have hb1 : Below w.heap.size w ((w.alloc (.cells #[.string x, .int .i64 m] 99)).alloc (.cells #[.string x, .int .i64 m] 99)) := ((Below.refl _ _).alloc (Nat.le_refl _) _).alloc (by simp) _
    exact bodyPost_ret (v := .tuple #[.agg #[.string x, .int .i64 m], .int .i64 0]) (by simp [results, Tryz.results52, go_sem]) rfl ⟨_, _, rfl, hxm, hxs, hb1⟩
end Go.Proofs.YtbfhcbihgleddaaGreatDoor
/-
  Walks over package disk: the small ones, New, Read.
-/
namespace Go.Proofs.YtbfhcbihgleddaaGreatDoor
open Go.RowKit Go.Maps

theorem DiskAt.left' {w : World} {k b n : Nat} {d : Dk} (h : DiskAt w k b n d) (x : Int) (hx : (Lit.int .i64 x).wf = true) : DiskAt (w.setCell ⟨k, 3, none⟩ (.int .i64 x)) k b n { d with left := x } :=
  ⟨h.box.set 3 _, h.map.setCell (by show b ≠ k; exact fun e => h.ne e.symm) _, h.used, h.room, hx⟩
theorem DiskAt.room' {w : World} {k b n : Nat} {d : Dk} (h : DiskAt w k b n d) (x : Int) (hx : (Lit.int .i64 x).wf = true) : DiskAt (w.setCell ⟨k, 2, none⟩ (.int .i64 x)) k b n { d with room := x } :=
  ⟨h.box.set 2 _, h.map.setCell (by show b ≠ k; exact fun e => h.ne e.symm) _, h.used, hx, h.left⟩
theorem DiskAt.used' {w : World} {k b n : Nat} {d : Dk} (h : DiskAt w k b n d) (x : Int) (hx : (Lit.int .i64 x).wf = true) : DiskAt (w.setCell ⟨k, 1, none⟩ (.int .i64 x)) k b n { d with used := x } :=
  ⟨h.box.set 1 _, h.map.setCell (by show b ≠ k; exact fun e => h.ne e.symm) _, hx, h.room, h.left⟩
theorem wf_in {x : Int} (h : -9223372036854775808 ≤ x ∧ x ≤ 9223372036854775807) : (Lit.int .i64 x).wf = true := by
  have h1 : IntKind.i64.min = -9223372036854775808 := rfl
  have h2 : IntKind.i64.max = 9223372036854775807 := rfl
  simp only [Lit.wf, Bool.and_eq_true, decide_eq_true_eq]
  omega
theorem wf_out {x : Int} (h : (Lit.int .i64 x).wf = true) : -9223372036854775808 ≤ x ∧ x ≤ 9223372036854775807 := by
  have h1 : IntKind.i64.min = -9223372036854775808 := rfl
  have h2 : IntKind.i64.max = 9223372036854775807 := rfl
  simp only [Lit.wf, Bool.and_eq_true, decide_eq_true_eq] at h
  omega
/-- One call more is done. -/
def Dk.done (d : Dk) : Dk := { d with left := if 0 < d.left then d.left - 1 else d.left }

set_option maxHeartbeats 400000 in
set_option maxRecDepth 100000 in
theorem done_any {w : World} {k b n : Nat} {d : Dk} (h : DiskAt w k b n d) :
    Calls Tryz.prog 53 #[.pointer (some ⟨k, 0, none⟩)] w fun e w' => e = .returned (.tuple #[]) ∧ DiskAt w' k b n d.done ∧ Turned k b w w' := by
  obtain ⟨c0, c1, c2, c3⟩ := h.box.cells4
  have f3 := h.box.free 3
  have hl := wf_out h.left
  unfold Dk.done
  by_cases h0 : 0 < d.left
  · rw [if_pos h0]
    have h2 := h.left' (d.left - 1) (wf_in (by omega))
    have HT := Turned.set k b w 3 (.int .i64 (d.left - 1))
    have hw : wrap64 (d.left - 1) = d.left - 1 := by unfold wrap64; omega
    go_enter Tryz.func53, Tryz.ntmps53
    go_wp2
    go_end0
    exact ⟨rfl, h2, HT⟩
  · rw [if_neg h0]
    go_enter Tryz.func53, Tryz.ntmps53
    go_wp2
    go_end0
    exact ⟨rfl, h, Turned.refl _ _ _⟩

set_option maxHeartbeats 400000 in
set_option maxRecDepth 100000 in
theorem Room_any {w : World} {k b n : Nat} {d : Dk} (h : DiskAt w k b n d) (x : Int) (hx : (Lit.int .i64 x).wf = true) :
    Calls Tryz.prog 19 #[.pointer (some ⟨k, 0, none⟩), .int .i64 x] w fun e w' => e = .returned (.tuple #[]) ∧ DiskAt w' k b n { d with room := max x 0 } ∧ Turned k b w w' := by
  obtain ⟨c0, c1, c2, c3⟩ := h.box.cells4
  have f3 := h.box.free 2
  have hl := wf_out hx
  have h2 := h.room' (max x 0) (wf_in (by omega))
  have HT := Turned.set k b w 2 (.int .i64 (max x 0))
  go_enter Tryz.func19, Tryz.ntmps19
  go_wp2
  all_goals
    go_end0
    first
      | (have em : max x 0 = x := by omega
         rw [em] at h2 HT ⊢
         exact ⟨rfl, h2, HT⟩)
      | (have em : max x 0 = 0 := by omega
         rw [em] at h2 HT ⊢
         exact ⟨rfl, h2, HT⟩)

set_option maxHeartbeats 400000 in
set_option maxRecDepth 100000 in
theorem Cut_any {w : World} {k b n : Nat} {d : Dk} (h : DiskAt w k b n d) (x : Int) (hx : (Lit.int .i64 x).wf = true) :
    Calls Tryz.prog 21 #[.pointer (some ⟨k, 0, none⟩), .int .i64 x] w fun e w' => e = .returned (.tuple #[]) ∧ DiskAt w' k b n { d with left := if d.left = 0 then 0 else max x (-1) } ∧ Turned k b w w' := by
  have hd := Dead_any h
  obtain ⟨c0, c1, c2, c3⟩ := h.box.cells4
  have f3 := h.box.free 3
  have hl := wf_out hx
  by_cases h0 : d.left = 0
  · rw [if_pos h0]
    have e2 : (d.left == 0) = true := by simp [h0]
    rw [e2] at hd
    go_enter Tryz.func21, Tryz.ntmps21
    go_wp2_with fail
    refine hd.mono ?_
    rintro e w1 ⟨rfl, rfl⟩
    go_wp2
    go_end0
    exact ⟨rfl, by rw [← h0]; exact h, Turned.refl _ _ _⟩
  · rw [if_neg h0]
    have e2 : (d.left == 0) = false := by simp [h0]
    rw [e2] at hd
    have h2 := h.left' (max x (-1)) (wf_in (by omega))
    have HT := Turned.set k b w 3 (.int .i64 (max x (-1)))
    go_enter Tryz.func21, Tryz.ntmps21
    go_wp2_with fail
    refine hd.mono ?_
    rintro e w1 ⟨rfl, rfl⟩
    go_wp2
    all_goals
      go_end0
      first
        | (have em : max x (-1) = x := by omega
           rw [em] at h2 HT ⊢
           exact ⟨rfl, h2, HT⟩)
        | (have em : max x (-1) = -1 := by omega
           rw [em] at h2 HT ⊢
           exact ⟨rfl, h2, HT⟩)

theorem New_made (w : World) (r : Int) (hr : -9223372036854775808 ≤ r ∧ r ≤ 9223372036854775807) : DiskAt ((w.alloc (.map #[] 0)).alloc (.cells #[.map (some w.heap.size), .int .i64 0, .int .i64 r, .int .i64 (-1)] 78)) (w.heap.size + 1) w.heap.size 0 ⟨.map [], 0, r, -1⟩ ∧ Below w.heap.size w ((w.alloc (.map #[] 0)).alloc (.cells #[.map (some w.heap.size), .int .i64 0, .int .i64 r, .int .i64 (-1)] 78)) := by
  refine ⟨⟨BoxT.new_at (by simp), (World.ownsMap_made w Tryz.prog 9 fileR).alloc _, wf_in (by dsimp only; omega), wf_in hr, wf_in (by dsimp only; omega)⟩, ?_⟩
  exact ((Below.refl w.heap.size w).alloc (Nat.le_refl _) (.map #[] 0)).alloc (by simp) _

set_option maxHeartbeats 400000 in
set_option maxRecDepth 100000 in
theorem New_any (w : World) (x : Int) (hx : (Lit.int .i64 x).wf = true) :
    Calls Tryz.prog 11 #[.int .i64 x] w fun e w' => e = .returned (.pointer (some ⟨w.heap.size + 1, 0, none⟩)) ∧ DiskAt w' (w.heap.size + 1) w.heap.size 0 ⟨.map [], 0, max x 0, -1⟩ ∧ Below w.heap.size w w' := by
  have hl := wf_out hx
  have hmk : (Instr.makeMap 76 none).run Tryz.prog w = .ok (.map (some w.heap.size)) (w.alloc (.map #[] 0)) := run_makeMap 76 w
  by_cases h0 : 0 ≤ x
  · have em : max x 0 = x := by omega
    rw [em]
    have HD : Hid _ := New_made w x hl
    go_enter Tryz.func11, Tryz.ntmps11
    go_wp2
    go_ret
    exact ⟨rfl, HD.out⟩
  · have em : max x 0 = 0 := by omega
    rw [em]
    have HD : Hid _ := New_made w 0 (by omega)
    have h1 : x ≤ 0 := by omega
    go_enter Tryz.func11, Tryz.ntmps11
    go_wp2
    go_ret
    exact ⟨rfl, HD.out⟩
end Go.Proofs.YtbfhcbihgleddaaGreatDoor
