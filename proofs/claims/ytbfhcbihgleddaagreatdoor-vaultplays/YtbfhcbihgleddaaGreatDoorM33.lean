/-
  Texts of the vault, in build order: VSort, VSortR, VNamesO, VOpen, VFound, VNam, VNam2, VKnownP, VWorld.
-/
import Derived.Test.YtbfhcbihgleddaaGreatDoorM31
import Derived.Test.YtbfhcbihgleddaaGreatDoorM32
import Derived.Test.YtbfhcbihgleddaaGreatDoorM30
/-
  The vault's snapshots sorted: slices.SortFunc by their numbers.
-/
namespace Go.Proofs.YtbfhcbihgleddaaGreatDoor
open Go.RowKit Go.Shelf Go.Lib Go.Sort

def cfS (x y : SpV) : Int := cmpv x.n y.n
set_option maxHeartbeats 1000000 in
set_option maxRecDepth 100000 in
/-- The comparison: two blocks are laid. -/
theorem cmpS_any (x y : SpV) (w : World) : Calls Tryz.prog 34 #[.agg (SpV.cs x).toArray, .agg (SpV.cs y).toArray] w fun e w' => e = .returned (.int .i64 (cfS x y)) ∧ w' = (w.alloc (.cells (SpV.cs x).toArray 84)).alloc (.cells (SpV.cs y).toArray 84) := by
  obtain ⟨xn, xep, xps, xap, xcp, xck, xac, xcc⟩ := x
  obtain ⟨yn, yep, yps, yap, ycp, yck, yac, ycc⟩ := y
  simp only [SpV.cs, SpV.vp, SpV.vc, cfS]
  go_enter Tryz.func34, Tryz.ntmps34
  go_wp2_with fail
  refine (Compare_any _ xn yn).mono ?_
  rintro e w1 ⟨rfl, rfl⟩
  go_wp2
  go_ret
  exact ⟨rfl, rfl⟩
theorem ltS (x y : SpV) : ltOf cfS x y = decide (x.n < y.n) := by
  unfold ltOf cfS cmpv
  by_cases h : x.n < y.n
  · rw [if_pos h]; simp [h]
  · rw [if_neg h]
    by_cases h2 : y.n < x.n
    · rw [if_pos h2]; simp [h]
    · rw [if_neg h2]; simp [h]
theorem swoS : SWO (ltOf cfS) :=
  ⟨fun x => by rw [ltS]; simp, fun x y z h1 h2 => by rw [ltS] at *; simp at *; omega, fun x y z h1 h2 => by rw [ltS] at *; simp at *; omega⟩
set_option maxHeartbeats 1000000 in
theorem sortRaw [Inhabited SpV] (blk off cap : Nat) (d : Array SpV) (w : World) (hH : HoldsK SpV.cs 4 w blk off d) (hblk : blk < w.heap.size) (hsz : d.size < 4611686018427387904) :
    Calls Tryz.prog 33 #[.slice (some ⟨blk, off, none⟩) d.size cap, .func (.func 34) #[] #[]] w fun e w' => e = .returned (.tuple #[]) ∧ ∃ d' n os, PermIn 0 d.size d d' ∧ SortedIn (ltOf cfS) 0 d.size d' ∧ w' = sortWorldK SpV.cs 4 w blk off n d' os := by
  have eg : ∀ args w, (callFunc 34 args).run Tryz.prog w = .ok (.enter 34 args) w := enters_of Tryz.func34 (by kernel_rfl) rfl
  exact AnyQ.slices_SortFunc Tryz.sortL 4 Tryz.isAgg84 Tryz.sizeOf84 SpV.cs (fun _ => rfl) (fun x v hv => by simp [SpV.cs] at hv; rcases hv with rfl | rfl | rfl | rfl <;> rfl) cfS swoS 34 #[] blk off cap d w eg
    (fun m os dk _ x y => (cmpS_any x y _).mono fun e w' h => ⟨h.1, 0, #[.cells (SpV.cs x).toArray 84, .cells (SpV.cs y).toArray 84], by rw [h.2, alloc_eq_grow, alloc_eq_grow, grow_grow]; rfl⟩) hH hblk hsz
end Go.Proofs.YtbfhcbihgleddaaGreatDoor
/-
  The vault's snapshots sorted, as a row.
-/
namespace Go.Proofs.YtbfhcbihgleddaaGreatDoor
open Go.RowKit Go.Shelf Go.Lib Go.Sort

theorem row_holds [Inhabited SpV] {w : World} {g off : Nat} {cur : Array Value} {th : List SpV} (hb : BoxT 84 w g cur) (hc : ∀ j u, (th.flatMap SpV.cs)[j]? = some u → cur[off + j]? = some u) : HoldsK SpV.cs 4 w g off th.toArray := by
  intro t ht
  rw [size_flatK] at ht
  have ht' : t < th.length * 4 := by simpa using ht
  refine ⟨?_, hb.free _⟩
  rw [get_flatK _ _ _ t ht, hb.cellAt]
  have hi : t / 4 < th.length := by omega
  obtain ⟨x, hx⟩ : ∃ x, th[t / 4]? = some x := ⟨_, List.getElem?_eq_getElem hi⟩
  have hxe : th.toArray[t / 4]! = x := by
    rw [getElem!_pos th.toArray (t / 4) (by simpa using hi)]
    rw [List.getElem?_eq_getElem hi] at hx
    simpa using Option.some.inj hx
  rw [hxe]
  have hlen : (SpV.cs x).length = 4 := rfl
  obtain ⟨u, hu⟩ : ∃ u, (SpV.cs x)[t % 4]? = some u := ⟨_, List.getElem?_eq_getElem (by rw [hlen]; omega)⟩
  have hue : (SpV.cs x)[t % 4]! = u := by
    rw [getElem!_pos (SpV.cs x) (t % 4) (by rw [hlen]; omega)]
    rw [List.getElem?_eq_getElem (by rw [hlen]; omega)] at hu
    exact Option.some.inj hu
  rw [hue]
  have := flat_get (sz := 4) (cs := SpV.cs) (fun _ => rfl) th (t / 4) (t % 4) x u hx hu
  rw [show t / 4 * 4 + t % 4 = t by omega] at this
  exact hc t u this
theorem sorted_heap [Inhabited SpV] (w : World) (g off n : Nat) (d : Array SpV) (os : Array Obj) (i : Nat) (hi : i < w.heap.size) (hne : i ≠ g) : (sortWorldK SpV.cs 4 w g off n d os).heap[i]? = w.heap[i]? := by
  simp only [sortWorldK, grow, putRowK, putRow, mapBlock]
  rw [Array.getElem?_append_left (by simpa using hi), Array.getElem?_modify, if_neg (fun e => hne e.symm)]
  rfl
theorem sorted_block [Inhabited SpV] {w : World} {g : Nat} {cur : Array Value} (hb : BoxT 84 w g cur) (off n : Nat) (d : Array SpV) (os : Array Obj) : BoxT 84 (sortWorldK SpV.cs 4 w g off n d os) g (putCells id off (flatK SpV.cs 4 d) cur) := by
  have hl := hb.lt
  unfold BoxT at *
  simp only [sortWorldK, grow, putRowK, putRow, mapBlock]
  rw [Array.getElem?_append_left (by simpa using hl), Array.getElem?_modify, if_pos rfl, show (Sort.ahead w n).heap[g]? = some (.cells cur 84 (0, 0)) from hb]
  rfl
/-- Rising, or equal. -/
def Rises (th : List SpV) : Prop := ∀ (i j : Nat) (x y : SpV), i < j → th[i]? = some x → th[j]? = some y → x.n ≤ y.n
set_option maxHeartbeats 1000000 in
/-- SortFunc over the vault's snapshots. -/
theorem sort_any {w : World} {base : Nat} {vt : Value} {th : List SpV} (hr : Row 84 4 SpV.cs base w vt th) (hl : th.length ≤ 1000000) :
    Calls Tryz.prog 33 #[vt, .func (.func 34) #[] #[]] w fun e w' => e = .returned (.tuple #[]) ∧ ∃ th', th'.Perm th ∧ Rises th' ∧ Row 84 4 SpV.cs base w' vt th' ∧ w.grownBy w' vt.ownBlock := by
  have _i : Inhabited SpV := ⟨⟨0, 0, [], none, 0, [], none, 0⟩⟩
  rcases hr with ⟨rfl, rfl⟩ | ⟨g, off, cap, cur, rfl, h2, h3, h4, h5, h6, h7⟩
  · refine (AnyF.slices_SortFunc_none Tryz.sortL none 0 _ w).mono ?_
    rintro e w' ⟨rfl, rfl⟩
    exact ⟨rfl, [], .refl _, fun i j x y _ h => by simp at h, Row.nil _ _ _ _ _, grownBy_refl _ _⟩
  · have hs := sortRaw g off cap th.toArray w (row_holds h3 h7) h3.lt (by simp; omega)
    simp only [List.size_toArray] at hs
    refine hs.mono ?_
    rintro e w' ⟨rfl, d', n, os, ⟨p1, p2, p3⟩, hso, rfl⟩
    have hsz : d'.size = th.length := by simpa using p1
    have hperm : d'.toList.Perm th := by
      have e1 : d'.extract 0 th.length = d' := by rw [← hsz]; simp
      have e2 : th.toArray.extract 0 th.length = th.toArray := by simp
      rw [e1, e2] at p3
      simpa using p3
    refine ⟨rfl, d'.toList, hperm, fun i j x y hij hx hy => ?_, .inr ⟨g, off, cap, _, by simp [hsz], h2, sorted_block h3 off n d' os, by rw [Array.length_toList, hsz]; exact h4, h5, by simpa [putCells] using h6, fun a u hu => ?_⟩, ⟨rfl, rfl, rfl, size_sortWorldK_c _ _ _ _ _ _ _ _, fun i hi hne => sorted_heap w g off n d' os i hi (fun e => hne (by rw [e]; rfl))⟩⟩
    · have hjl := (List.getElem?_eq_some_iff.1 hy).1
      rw [Array.length_toList] at hjl
      have h8 := hso i j (Nat.zero_le _) hij (by omega)
      rw [ltS] at h8
      have ei : d'[i]! = x := by
        rw [getElem!_pos d' i (by omega)]
        rw [Array.getElem?_toList, Array.getElem?_eq_getElem (by omega)] at hx
        exact Option.some.inj hx
      have ej : d'[j]! = y := by
        rw [getElem!_pos d' j hjl]
        rw [Array.getElem?_toList, Array.getElem?_eq_getElem hjl] at hy
        exact Option.some.inj hy
      rw [ei, ej] at h8
      have := of_decide_eq_false h8
      omega
    · have hal := (List.getElem?_eq_some_iff.1 hu).1
      rw [flat_size (sz := 4) (fun _ => rfl), Array.length_toList, hsz] at hal
      have h9 := holdsK_sortWorldK_c SpV.cs 4 w g off th.toArray d' n os (row_holds h3 h7) h3.lt (by simpa using hsz)
      have h10 := (h9 a (by rw [size_flatK, hsz]; exact hal)).1
      rw [(sorted_block h3 off n d' os).cellAt] at h10
      rw [h10]
      congr 1
      show (flatK SpV.cs 4 d')[a]! = u
      rw [get_flatK _ _ _ a (by rw [hsz]; exact hal)]
      have hi : a / 4 < d'.size := by omega
      rw [getElem!_pos d' (a / 4) hi]
      have hlen : (SpV.cs d'[a / 4]).length = 4 := rfl
      rw [getElem!_pos (SpV.cs d'[a / 4]) (a % 4) (by rw [hlen]; omega)]
      have h11 := flat_get (sz := 4) (cs := SpV.cs) (fun _ => rfl) d'.toList (a / 4) (a % 4) d'[a / 4] _ (by rw [Array.getElem?_toList, Array.getElem?_eq_getElem hi]) (List.getElem?_eq_getElem (by rw [hlen]; omega))
      rw [show a / 4 * 4 + a % 4 = a by omega, hu] at h11
      exact (Option.some.inj h11).symm
end Go.Proofs.YtbfhcbihgleddaaGreatDoor
/-
  The disk's List, as a row of the caller's own.
-/
namespace Go.Proofs.YtbfhcbihgleddaaGreatDoor
open Go.RowKit Go.Maps Go.Shelf Go.Sort Go.Lib

def mkS (s : List UInt8) : ByteArray := ⟨s.toArray⟩
set_option maxHeartbeats 1000000 in
set_option maxRecDepth 100000 in
theorem namesO_any {w : World} {k b n : Nat} {d : Dk} {l : List Fi} (h : DiskAt w k b n d) (hD : d.D = mkD l) (hr : Rise l) (hl : l.length ≤ 1000000) :
    Calls Tryz.prog 46 #[.pointer (some ⟨k, 0, none⟩)] w fun e w' => ∃ v, e = .returned v ∧ OwnS w.heap.size w' v ((l.map Fi.n).map mkS) ∧ Below w.heap.size w w' := by
  obtain ⟨c0, c1, c2, c3⟩ := h.box.cells4
  have hown := h.map
  rw [hD] at hown
  have hs := mkD_size l
  refine (callsIn_wide (n := 6)).1 ?_
  have hfK : Fence.wide.fn 77 := trivial
  have hfS : Fence.wide.fn 76 := trivial
  refine callsIn_of_wp Tryz.func46 rfl trivial ?_ rfl
  simp only [Tryz.ntmps46, List.size_toArray, List.length_cons, List.length_nil, Nat.reduceAdd, Nat.reduceSub, Array.replicate_succ, Array.replicate_zero, List.push_toArray, List.append_toArray, List.nil_append, List.cons_append]
  gi_wp2_with (first
    | (gi_at_call 77; refine (Tryz.keys_made _ _).mono ?_; rintro e w' ⟨rfl, rfl⟩)
    | (gi_at_call 76; refine (Tryz.keys_sorted b n (mkD l) fileR w hown (by rw [hs]; unfold maxLen; omega) (by rw [hs]; omega)).mono ?_; rintro e w' ⟨v, ss, rfl, hS, hrow, hb⟩))
  go_ret
  rw [mkD_keys] at hS
  rw [sort_names hr hS] at hrow
  have hlen : ss.length = (l.map Fi.n).length := hS.length_eq
  rw [hlen] at hrow
  refine ⟨v, rfl, ?_, ((Below.refl _ w).alloc (Nat.le_refl _) _).trans (hb.mono (by simp))⟩
  have h2 := ownsRow_base_a hrow (show w.heap.size ≤ _ by simp)
  show World.ownsRow _ _ 9 1 v ((l.map Fi.n).map mkS).length (((l.map Fi.n).map mkS).map Value.string)
  have e1 : ((l.map Fi.n).map mkS).length = (l.map Fi.n).length := List.length_map ..
  have e2 : ((l.map Fi.n).map mkS).map Value.string = (l.map Fi.n).map encStr := by rw [List.map_map]; rfl
  rw [e1, e2]
  exact h2
set_option maxHeartbeats 1000000 in
set_option maxRecDepth 100000 in
theorem ListO_any {w : World} {k b n : Nat} {p : Pd} (h : PdAt w k b n p) :
    Calls Tryz.prog 27 #[.pointer (some ⟨k, 0, none⟩)] w fun e w' => ∃ v, e = .returned v ∧ OwnS w.heap.size w' v ((pList p).map mkS) ∧ Below w.heap.size w w' := by
  have hd := Dead_any h.at_
  have hn := namesO_any h.at_ (l := p.l) rfl h.ok.rise (Nat.le_trans h.ok.len h.ok.many)
  unfold pList
  by_cases h0 : p.left = 0
  · rw [if_pos h0]
    have e2 : (p.dk.left == 0) = true := by simp [h0, Pd.dk]
    rw [e2] at hd
    go_enter Tryz.func27, Tryz.ntmps27
    go_wp2_with fail
    refine hd.mono ?_
    rintro e w1 ⟨rfl, rfl⟩
    go_wp2
    go_ret
    exact ⟨_, rfl, OwnS.nil _ _, Below.refl _ _⟩
  · rw [if_neg h0]
    have e2 : (p.dk.left == 0) = false := by simp [h0, Pd.dk]
    rw [e2] at hd
    go_enter Tryz.func27, Tryz.ntmps27
    go_wp2_with fail
    refine hd.mono ?_
    rintro e w1 ⟨rfl, rfl⟩
    go_wp2_with fail
    refine hn.mono ?_
    rintro e w2 ⟨v, rfl, h1, h3⟩
    go_wp2
    go_ret
    exact ⟨_, rfl, h1, h3⟩
end Go.Proofs.YtbfhcbihgleddaaGreatDoor
/-
  The vault's Open.
-/
namespace Go.Proofs.YtbfhcbihgleddaaGreatDoor
open Go.RowKit Go.Maps

/-- What Open finds, name by name. -/
def foundS (p : Pd) (names : List ByteArray) : List Sp := names.filterMap fun s => findS p (nm s)
theorem OwnS.there {w w' : World} {base base2 : Nat} {v vt : Value} {ss : List ByteArray} {th : List SpV} (h : OwnS base w v ss) (hr : Row 84 4 SpV.cs base2 w vt th) (hg : w.grownBy w' vt.ownBlock) : OwnS base w' v ss :=
  row_back h fun g e => by
    obtain ⟨cur, hc⟩ := row_has h g e
    refine hg.block g (Array.getElem?_eq_some_iff.1 hc).1 fun e2 => ?_
    obtain ⟨cur2, hc2⟩ := hr.has g e2.symm
    unfold BoxT at hc2
    rw [hc] at hc2
    simp at hc2
/-- The row of the snapshots turned in its place. -/
theorem VAt.reThere {w0 w w' : World} {V k b n : Nat} {p : Pd} {keep : Int} {vt vw : Value} {th th' : List SpV} {ws : List ByteArray} (h : VAt w0 w V k b n p keep vt vw th ws) (hr : Row 84 4 SpV.cs w0.heap.size w' vt th') (hg : w.grownBy w' vt.ownBlock)
    (hth : ∀ x ∈ th', x.ok w0.heap.size w ∧ ∀ g, vw.ownBlock = some g → x.vp.ownBlock ≠ some g) : VAt w0 w' V k b n p keep vt vw th' ws := by
  have hw : ∀ {t sz base m : Nat} {v : Value} {xs : List Value}, t ≠ 84 → w.ownsRow base t sz v m xs → w'.ownsRow base t sz v m xs := fun ht hh => row_back hh fun g e => by
    obtain ⟨cur, hc⟩ := row_has hh g e
    refine hg.block g (Array.getElem?_eq_some_iff.1 hc).1 fun e2 => ?_
    obtain ⟨cur2, hc2⟩ := h.tr.has g e2.symm
    unfold BoxT at hc2
    rw [hc] at hc2
    simp at hc2
    exact ht hc2.2
  exact ⟨h.st.rowed h.tr (by decide) hg, h.boxT hg, hr, h.wr.rowed (by decide) h.tr hg, fun x hx => ⟨hw (by decide) (hth x hx).1.p, hw (by decide) (hth x hx).1.c, fun c hc => hw (by decide) ((hth x hx).1.ks c hc)⟩, fun x hx => (hth x hx).2, h.lV⟩
/-- In the midst of Open. -/
structure OI (w0 w wr : World) (B V k b n : Nat) (p : Pd) (keep : Int) (vn vt : Value) (names : List ByteArray) (th : List SpV) (i : Nat) : Prop where
  v : VAt w0 wr V k b n p keep vt (.slice none 0 0) th []
  o : OwnS w0.heap.size wr vn names
  bel : Below B w wr
  nt : ∀ g, vt.ownBlock = some g → B ≤ g
  far : ∀ x ∈ th, ∀ g, vn.ownBlock = some g → x.vp.ownBlock ≠ some g
  is : th.map SpV.s = foundS p (names.take i)
set_option maxHeartbeats 2000000 in
set_option maxRecDepth 100000 in
theorem VOpenDead_any {w0 w : World} {k b n : Nat} {p : Pd} (h : St w0 w k b n p) (keep : Int) (h0 : p.left = 0) :
    Calls Tryz.prog 12 #[.pointer (some ⟨k, 0, none⟩), .int .i64 keep] w fun e w' => e = .returned (.tuple #[.pointer none, .int .i64 23]) ∧ w' = w := by
  have hd := Dead_any h.d.at_
  have e2 : (p.dk.left == 0) = true := by simp [h0, Pd.dk]
  rw [e2] at hd
  clear h
  go_enter Tryz.func12, Tryz.ntmps12
  go_wp2_with fail
  go_at_call 22
  refine hd.mono ?_
  rintro e w1 ⟨rfl, rfl⟩
  go_wp2
  go_ret2
  exact ⟨rfl, rfl⟩
set_option maxHeartbeats 2000000 in
set_option maxRecDepth 100000 in
theorem VOpen_any {w0 w : World} {k b n : Nat} {p : Pd} (h : St w0 w k b n p) (hg : Glob w0) (keep : Int) (h0 : p.left ≠ 0) (hnm : ∀ s ∈ p.l.map Fi.n, s.length ≤ 100) (hln : p.l.length ≤ 1000)
    (hfo : ∀ x ∈ foundS p ((p.l.map Fi.n).map mkS), x.n < 18446744073709551616 ∧ x.parts.length ≤ 900 ∧ ∀ s ∈ x.parts, s.size ≤ maxLen) :
    Calls Tryz.prog 12 #[.pointer (some ⟨k, 0, none⟩), .int .i64 keep] w fun e w' => ∃ V vt vw th, e = .returned (.tuple #[.pointer (some ⟨V, 0, none⟩), .int .i64 0]) ∧ VAt w0 w' V k b n p (max keep 1) vt vw th (wst (fls th) ((p.l.map Fi.n).map mkS)) ∧ (th.map SpV.s).Perm (foundS p ((p.l.map Fi.n).map mkS)) ∧ Rises th ∧ Below w.heap.size w w' := by
  have hd := Dead_any h.d.at_
  have e2 : (p.dk.left == 0) = false := by simp [h0, Pd.dk]
  rw [e2] at hd
  obtain ⟨kp, hkp⟩ : ∃ kp : Int, max keep 1 = kp := ⟨_, rfl⟩
  rw [hkp]
  have hba : Below w.heap.size w (w.alloc (.cells #[.pointer (some ⟨k, 0, none⟩), .int .i64 kp, .slice none 0 0, .slice none 0 0] 81)) := (Below.refl _ _).alloc (Nat.le_refl _) _
  have hz := h.since.size
  have HV0 : Hid (VAt w0 (w.alloc (.cells #[.pointer (some ⟨k, 0, none⟩), .int .i64 kp, .slice none 0 0, .slice none 0 0] 81)) w.heap.size k b n p kp (.slice none 0 0) (.slice none 0 0) [] []) :=
    ⟨h.below hba, BoxT.new _ _ _, Row.nil _ _ _ _ _, Row.nil _ _ _ _ _, (fun x hx => by cases hx), (fun x hx => by cases hx), hz⟩
  have HBA := hide hba
  clear hba h
  go_enter Tryz.func12, Tryz.ntmps12
  go_wp2_with fail
  go_at_call 22
  refine hd.mono ?_
  rintro e w1 ⟨rfl, rfl⟩
  clear hd
  go_wp2_with fail
  clear hkp
  generalize w1.alloc (.cells #[.pointer (some ⟨k, 0, none⟩), .int .i64 kp, .slice none 0 0, .slice none 0 0] 81) = w2 at *
  have hz2 := HBA.out.size
  generalize hV : w1.heap.size = V at *
  have HVE := hide hV
  clear hV
  go_at_call 27
  refine (ListO_any HV0.out.st.d).mono ?_
  rintro e w3 ⟨vn, rfl, on, b3⟩
  have hpl : pList p = p.l.map Fi.n := by unfold pList; rw [if_neg h0]
  rw [hpl] at on
  obtain ⟨names, hnames⟩ : ∃ names, (p.l.map Fi.n).map mkS = names := ⟨_, rfl⟩
  rw [hnames] at on
  have hnl : names.length ≤ 1000 := by rw [← hnames]; simpa using hln
  have hns : Hid (∀ s ∈ names, s.size ≤ 100) := fun s hs => by
    rw [← hnames] at hs
    obtain ⟨a, ha, rfl⟩ := List.mem_map.1 hs
    have := hnm a ha
    show a.toArray.size ≤ 100
    simpa using this
  have HNM := hide hnames
  have HFO : Hid (∀ x ∈ foundS p names, x.n < 18446744073709551616 ∧ x.parts.length ≤ 900 ∧ ∀ s ∈ x.parts, s.size ≤ maxLen) := by rw [← hnames]; exact hfo
  clear hfo
  have H0 : Hid (∃ vt th, OI w0 w1 w3 V V k b n p kp vn vt names th 0) :=
    ⟨_, [], HV0.out.below b3, OwnS.mono on (by have := HV0.out.st.since.size; exact this), HBA.out.trans (b3.mono hz2), (fun g e => by cases e), (fun x hx => by cases hx), rfl⟩
  have HNN : Hid (∀ g, vn.ownBlock = some g → V ≤ g) := fun g e => by have := (World.ownsRow.lt on g e).1; omega
  obtain ⟨na, nc, hvn⟩ := on.shape
  subst hvn
  clear on b3 hpl hnames HV0 HBA hnm hln h0
  have hgl : Hid (Glob w0) := hg
  clear hg
  go_wp2_with fail
  go_loopw [23] (fun iv wr => ∃ i : Nat, i ≤ names.length ∧ iv = .int .i64 i ∧ Hid (∃ vt th, OI w0 w1 wr V V k b n p kp (.slice na names.length nc) vt names th i)) (fun iv _ => names.length - (intOf iv).toNat)
  case atStart => exact ⟨0, Nat.zero_le _, rfl, H0.out⟩
  case round =>
    clear H0
    obtain ⟨i, hi, rfl, HI⟩ := hrel
    obtain ⟨vt, th, HO⟩ := HI.out
    obtain ⟨ta, tc, hvt⟩ := HO.v.tr.shape
    subst hvt
    replace HO := hide HO
    clear HI
    have hthl : th.length ≤ i := by
      have h1 : th.length = (foundS p (names.take i)).length := by rw [← HO.out.is, List.length_map]
      have h2 : (foundS p (names.take i)).length ≤ (names.take i).length := List.length_filterMap_le ..
      have h3 : (names.take i).length ≤ i := by rw [List.length_take]; omega
      omega
    by_cases hlt : i < names.length
    · obtain ⟨s, hs⟩ : ∃ s, names[i]? = some s := ⟨_, List.getElem?_eq_getElem hlt⟩
      obtain ⟨gn, cn, e, hbn, hcn⟩ := OwnS.put HO.out.o (by intro e; rw [e] at hlt; simp at hlt)
      cases e
      have k0 := hcn i s hs
      have hsz : s.size ≤ maxLen := by have := hns.out s (List.mem_of_getElem? hs); unfold maxLen; omega
      obtain ⟨r, hr⟩ : ∃ r, findS p (nm s) = r := ⟨_, rfl⟩
      have hfi := vfind_any HO.out.v.st (hgl.out.below HO.out.v.st.since hgl.out.1) s hsz r hr
      have hfs : Hid (foundS p (names.take (i + 1)) = foundS p (names.take i) ++ r.toList) := by
        show _ = _
        rw [List.take_succ_eq_append_getElem hlt]
        rw [List.getElem?_eq_getElem hlt] at hs
        rw [Option.some.inj hs]
        unfold foundS
        rw [List.filterMap_append]
        subst hr
        cases hr2 : findS p (nm s) <;> simp [hr2]
      clear hcn hs hr
      go_wp2_with fail
      refine hfi.mono ?_
      rintro e w4 h4
      clear hfi k0
      rcases h4 with ⟨x, rfl, rfl, xok, b4⟩ | ⟨rfl, rfl, b4⟩
      · obtain ⟨xn, xep, xps, xap, xcp, xck, xac, xcc⟩ := x
        simp only [SpV.vp, SpV.vc]
        have hz4 := HO.out.v.st.since.size
        have bal : Below w4.heap.size w4 (w4.alloc (.cells #[.int .u64 xn, .int .u64 xep, .slice xap xps.length xcp, .slice xac xck.length xcc] 84)) := (Below.refl _ _).alloc (Nat.le_refl _) _
        have bbx := BoxT.new 84 w4 #[.int .u64 xn, .int .u64 xep, .slice xap xps.length xcp, .slice xac xck.length xcc]
        have HXF : Hid (∀ g, (Value.slice (some ⟨gn, 0, none⟩) names.length nc).ownBlock = some g → (Value.slice xap xps.length xcp).ownBlock ≠ some g) := fun g e e2 => by
          have h1 := (World.ownsRow.lt xok.p g e2).1
          obtain ⟨cur, hcur⟩ := hbn
          have h2 := hcur.lt
          have h3 : gn = g := Option.some.inj e
          omega
        have HXO : Hid (SpV.ok w0.heap.size (w4.alloc (.cells #[.int .u64 xn, .int .u64 xep, .slice xap xps.length xcp, .slice xac xck.length xcc] 84)) ⟨xn, xep, xps, xap, xcp, xck, xac, xcc⟩) := by
          have h5 := xok.below bal
          exact ⟨OwnS.mono h5.p hz4, h5.c.mono hz4, fun c hc => Own.mono (h5.ks c hc) hz4⟩
        have HV5 := hide ((HO.out.v.below b4).below bal)
        have HO5 := hide (OwnS.below (OwnS.below HO.out.o b4) bal)
        have hV4 := HO.out.bel.size
        have hV5 := b4.size
        have HB5 := hide ((HO.out.bel.trans (b4.mono (by rw [← HVE.out]; exact hV4))).trans (bal.mono (by rw [← HVE.out]; omega)))
        clear xok b4 bal
        go_wp2_with fail
        generalize w4.alloc (.cells #[.int .u64 xn, .int .u64 xep, .slice xap xps.length xcp, .slice xac xck.length xcc] 84) = w5 at *
        generalize w4.heap.size = gs at *
        have ba : Below w5.heap.size w5 (w5.alloc (.cells #[.int .u64 xn, .int .u64 xep, .slice xap xps.length xcp, .slice xac xck.length xcc] 84)).drew := ((Below.refl _ _).alloc (Nat.le_refl _) _).drew
        have HV8 := hide (HV5.out.below ba)
        have HX8 := hide (HXO.out.below ba)
        have HO8 := hide (OwnS.below HO5.out ba)
        have hB5 := HB5.out.size
        have HB8 := hide (HB5.out.trans (ba.mono (by rw [← HVE.out]; exact hB5)))
        obtain ⟨c0, c1, c2, c3⟩ := HV5.out.box.cells4
        obtain ⟨q0, q1, q2, q3⟩ := bbx.cells4
        have cf := HV5.out.box.free
        have d2 : w5.drew.cell? ⟨V, 2, none⟩ = some (.slice ta th.length tc) := c2
        have e0 : w5.drew.cell? ⟨gs, 0, none⟩ = some (.int .u64 xn) := q0
        have e1 : w5.drew.cell? ⟨gs, 1, none⟩ = some (.int .u64 xep) := q1
        have e2 : w5.drew.cell? ⟨gs, 2, none⟩ = some (.slice xap xps.length xcp) := q2
        have e3 : w5.drew.cell? ⟨gs, 3, none⟩ = some (.slice xac xck.length xcc) := q3
        have hsz8 := HV8.out.st.since.size
        obtain ⟨-, -, f2, -⟩ := HV8.out.box.cells4
        have ff := HV8.out.box.free
        clear ba c0 c1 c3 bbx HV5 HXO HO5 HB5
        go_region_law (refine step_row Tryz.info84 Tryz.underlying79 rfl (by decide) (by decide) (fun _ => rfl) (fun z u hu => by simp [SpV.cs, SpV.vp, SpV.vc] at hu; rcases hu with rfl | rfl | rfl | rfl <;> rfl) rfl _ _ rfl w0.heap.size (.slice ta th.length tc) th rfl HV8.out.tr ⟨w5.heap.size, 0, none⟩ 1 ⟨xn, xep, xps, xap, xcp, xck, xac, xcc⟩ rfl (fun j u hu => by match j, hu with | 0, hu | 1, hu | 2, hu | 3, hu => simp [SpV.cs, SpV.vp, SpV.vc] at hu; subst hu; simp [Addr.add]) (by omega) hsz8 ?_; intro v9 w9 r9 g9 at9; obtain ⟨a9, c9, hv9⟩ := r9.shape; subst hv9; have B9 := hide (HV8.out.boxT g9); obtain ⟨s0, s1, s2, s3⟩ := B9.out.cells4; have sf := B9.out.free)
        all_goals
          have HT9 := hide (HV8.out.setThere r9 g9 (fun g e => (at9 g e).imp id (fun h => by simpa using h)) (fun y hy => by
            rcases List.mem_append.1 hy with hy | hy
            · exact ⟨HV8.out.oks y hy, HV8.out.far y hy⟩
            · rcases List.mem_singleton.1 hy with rfl
              exact ⟨HX8.out, fun g e => by cases e⟩))
          have HN9 : Hid (OI w0 w1 (w9.setCell ⟨V, 2, none⟩ (.slice a9 (th ++ [(⟨xn, xep, xps, xap, xcp, xck, xac, xcc⟩ : SpV)]).length c9)) V V k b n p kp (.slice (some ⟨gn, 0, none⟩) names.length nc) (.slice a9 (th ++ [(⟨xn, xep, xps, xap, xcp, xck, xac, xcc⟩ : SpV)]).length c9) names (th ++ [⟨xn, xep, xps, xap, xcp, xck, xac, xcc⟩]) (i + 1)) := by
            refine ⟨HT9.out.1, OwnS.setBox (OwnS.there HO8.out HV8.out.tr g9) B9.out (by decide) _ _, ?_, fun g e => ?_, fun y hy => ?_, ?_⟩
            · refine Below.setCell ?_ (p := ⟨V, 2, none⟩) (Nat.le_refl V) _
              exact ⟨g9.os.trans HB8.out.os, g9.tape.trans HB8.out.tape, g9.output.trans HB8.out.output, Nat.le_trans HB8.out.size g9.size, fun a ha => (g9.block a (by have := HB8.out.size; rw [HVE.out] at this; omega) (fun e => by have := HO.out.nt a e.symm; omega)).trans (HB8.out.block a ha)⟩
            · rcases at9 g e with h | h
              · exact HO.out.nt g h
              · simp at h
                rw [HVE.out] at hB5
                omega
            · rcases List.mem_append.1 hy with hy | hy
              · exact HO.out.far y hy
              · rcases List.mem_singleton.1 hy with rfl
                exact HXF.out
            · rw [List.map_append, HO.out.is, hfs.out]; rfl
          rw [show (th ++ [(⟨xn, xep, xps, xap, xcp, xck, xac, xcc⟩ : SpV)]).length = th.length + 1 from by simp] at HN9
          clear HT9 r9 g9 at9 HV8 HX8 HO8 HB8 B9
          go_wp2
          go_roundw
          case rel => exact ⟨i + 1, by omega, by go_num, _, _, HN9.out⟩
          case measure => simp [intOf]; omega
      · have hV4 := HO.out.bel.size
        have hV5 := b4.size
        have bal : Below w4.heap.size w4 (w4.alloc (.cells #[.int .u64 0, .int .u64 0, .slice none 0 0, .slice none 0 0] 84)) := (Below.refl _ _).alloc (Nat.le_refl _) _
        have HN9 : Hid (OI w0 w1 (w4.alloc (.cells #[.int .u64 0, .int .u64 0, .slice none 0 0, .slice none 0 0] 84)) V V k b n p kp (.slice (some ⟨gn, 0, none⟩) names.length nc) (.slice ta th.length tc) names th (i + 1)) :=
          ⟨(HO.out.v.below b4).below bal, OwnS.below (OwnS.below HO.out.o b4) bal, (HO.out.bel.trans (b4.mono (by rw [← HVE.out]; exact hV4))).trans (bal.mono (by rw [← HVE.out]; omega)), HO.out.nt, HO.out.far, by rw [HO.out.is, hfs.out]; simp⟩
        clear b4 bal HO
        go_wp2
        go_roundw
        case rel => exact ⟨i + 1, by omega, by go_num, _, _, HN9.out⟩
        case measure => simp [intOf]; omega
    · obtain rfl : i = names.length := by omega
      have hso := sort_any HO.out.v.tr (by omega)
      obtain ⟨c0, c1, c2, c3⟩ := HO.out.v.box.cells4
      go_wp2_with fail
      go_at_call 33
      refine hso.mono ?_
      rintro e w5 ⟨rfl, th', hpm, hri, r5, g5⟩
      have HV5 := hide (HO.out.v.reThere r5 g5 (fun x hx => ⟨HO.out.v.oks x (hpm.subset hx), fun g e => by cases e⟩))
      have HO5 := hide (OwnS.there HO.out.o HO.out.v.tr g5)
      have hth : ∀ x ∈ th', x.n < 18446744073709551616 ∧ x.parts.length ≤ 900 ∧ ∀ s ∈ x.parts, s.size ≤ maxLen := fun x hx => by
        have h1 : x.s ∈ foundS p names := by
          have h2 := HO.out.is
          rw [List.take_length] at h2
          rw [← h2]
          exact List.mem_map_of_mem (hpm.subset hx)
        exact HFO.out x.s h1
      have htl : th'.length = th.length := hpm.length_eq
      have hfl : ∀ l : List SpV, (∀ x ∈ l, x.parts.length ≤ 900) → (fls l).length ≤ l.length * 901 := fun l => by
        induction l with
        | nil => intro _; simp [fls]
        | cons y l ih =>
          intro h
          have h1 := ih (fun x hx => h x (List.mem_cons_of_mem _ hx))
          have h2 := h y (List.mem_cons_self ..)
          have h3 : fls (y :: l) = (wholeN y.n :: y.parts) ++ fls l := rfl
          rw [h3, List.length_append, List.length_cons, List.length_cons]
          omega
      have hwa := wasted_any HO5.out HV5.out.tr HV5.out.oks (fun s hs => by have := hns.out s hs; unfold maxLen; omega) (by omega) (fun x hx => ⟨(hth x hx).1, by have := (hth x hx).2.1; omega, by have := wholeN_size (hth x hx).1; unfold maxLen; omega, (hth x hx).2.2⟩) (by omega) (by have := hfl th' (fun x hx => (hth x hx).2.1); omega)
      have HFAR : Hid (∀ x ∈ th', ∀ g, (Value.slice na names.length nc).ownBlock = some g → x.vp.ownBlock ≠ some g) := fun x hx => HO.out.far x (hpm.subset hx)
      have HB5 : Hid (Below V w1 w5) := ⟨g5.os.trans HO.out.bel.os, g5.tape.trans HO.out.bel.tape, g5.output.trans HO.out.bel.output, Nat.le_trans HO.out.bel.size g5.size, fun a ha => (g5.block a (by have := HO.out.bel.size; rw [HVE.out] at this; omega) (fun e => by have := HO.out.nt a e.symm; omega)).trans (HO.out.bel.block a ha)⟩
      have HPM : Hid ((th'.map SpV.s).Perm (foundS p ((p.l.map Fi.n).map mkS))) := by
        show List.Perm _ _
        rw [HNM.out]
        have h2 := HO.out.is
        rw [List.take_length] at h2
        rw [← h2]
        exact hpm.map _
      have HRI := hide hri
      obtain ⟨d0, d1, d2, d3⟩ := HV5.out.box.cells4
      clear hth hfl r5 g5 hpm hri hso c0 c1 c2 c3 htl HO
      go_wp2_with fail
      go_at_call 36
      refine hwa.mono ?_
      rintro e w6 ⟨v6, rfl, o6, g6, a6⟩
      have HV6 := hide (HV5.out.grow9 HO5.out (Nat.le_refl _) (fun j e => ⟨(fun e2 => by cases e2), fun x hx => HFAR.out x hx j e⟩) g6)
      have HV7 := hide (HV6.out.newWaste o6 (Nat.le_refl _) (fun j e x hx => HFAR.out x hx j (a6 j e)))
      have HB7 : Hid (Below V w1 (w6.setCell ⟨V, 3, none⟩ v6)) := by
        refine Below.setCell ?_ (p := ⟨V, 3, none⟩) (Nat.le_refl V) _
        exact ⟨g6.os.trans HB5.out.os, g6.tape.trans HB5.out.tape, g6.output.trans HB5.out.output, Nat.le_trans HB5.out.size g6.size, fun a ha => (g6.block a (by have := HB5.out.size; rw [HVE.out] at this; omega) (fun e => by have := HNN.out a e.symm; omega)).trans (HB5.out.block a ha)⟩
      obtain ⟨s0, s1, s2, s3⟩ := HV6.out.box.cells4
      have sf := HV6.out.box.free
      obtain ⟨va, vc, hv6⟩ := o6.shape
      subst hv6
      clear o6 g6 a6 hwa d0 d1 d2 d3 HV5 HO5 HV6
      go_wp2
      go_ret2
      exact ⟨V, .slice ta th.length tc, .slice va (wst (fls th') names).length vc, th', rfl, by rw [HNM.out]; exact HV7.out, HPM.out, HRI.out, by rw [HVE.out]; exact HB7.out⟩
end Go.Proofs.YtbfhcbihgleddaaGreatDoor
/-
  What Open finds: bounds, and that its numbers differ.
-/
namespace Go.Proofs.YtbfhcbihgleddaaGreatDoor
open Go.RowKit Go.Maps

theorem findS_some {p : Pd} {n : Nat} (ho : Ok p n) {s : List UInt8} {x : Sp} (h : findS p s = some x) : x.n < 18446744073709551616 ∧ x.ep < 18446744073709551616 ∧ x.n ≠ 0 ∧ s = nm (wholeN x.n) ∧ x.parts.length ≤ 65535 ∧ ∀ f ∈ x.parts, f.size ≤ 1048576 := by
  unfold findS at h
  cases hm : rdM p s with
  | none => rw [hm] at h; cases h
  | some m =>
    rw [hm] at h
    dsimp only at h
    cases hc : chks p m.n 0 m.ss with
    | none => rw [hc] at h; cases h
    | some cs =>
      rw [hc] at h
      obtain rfl := Option.some.inj h
      exact rdM_some ho hm
theorem foundS_mem {p : Pd} {n : Nat} (ho : Ok p n) {names : List ByteArray} {x : Sp} (h : x ∈ foundS p names) : x.n < 18446744073709551616 ∧ x.parts.length ≤ 65535 ∧ ∀ f ∈ x.parts, f.size ≤ 1048576 := by
  obtain ⟨s, _, hs⟩ := List.mem_filterMap.1 h
  obtain ⟨h1, _, _, _, h5, h6⟩ := findS_some ho hs
  exact ⟨h1, h5, h6⟩
theorem foundS_apart {p : Pd} {n : Nat} (ho : Ok p n) {names : List ByteArray} (hn : names.Pairwise fun a b => nm a ≠ nm b) : (foundS p names).Pairwise fun x y => x.n ≠ y.n := by
  unfold foundS
  refine List.Pairwise.filterMap _ (fun a b hab x hx y hy e => ?_) hn
  have h1 := (findS_some ho hx).2.2.2.1
  have h2 := (findS_some ho hy).2.2.2.1
  rw [e] at h1
  exact hab (h1.trans h2.symm)
/-- What rises, and differs, is sorted. -/
theorem Rises.srt {th : List SpV} {l : List Sp} (h : Rises th) (hp : (th.map SpV.s).Perm l) (hl : l.Pairwise fun x y => x.n ≠ y.n) : Srt th := by
  have h1 : (th.map SpV.s).Pairwise fun x y => x.n ≠ y.n := (hp.symm.pairwise_iff (fun hxy e => hxy e.symm)).1 hl
  rw [List.pairwise_map] at h1
  intro i j x y hij hx hy
  have h2 := h i j x y hij hx hy
  obtain ⟨hi, rfl⟩ := List.getElem?_eq_some_iff.1 hx
  obtain ⟨hj, rfl⟩ := List.getElem?_eq_some_iff.1 hy
  have h3 : (th[i]).s.n ≠ (th[j]).s.n := List.pairwise_iff_getElem.1 h1 i j hi hj hij
  have h4 : (th[i]).n ≠ (th[j]).n := h3
  omega
end Go.Proofs.YtbfhcbihgleddaaGreatDoor
/-
  The vault's names differ where their numbers do.
-/
namespace Go.Proofs.YtbfhcbihgleddaaGreatDoor
open Go.RowKit Go.Maps

def un36 (c : Nat) : Nat := if c < 58 then c - 48 else c - 87
theorem un_ch : ∀ d, d < 36 → un36 (ch36 d) = d := by decide
theorem ch_ok : ∀ d, d < 36 → ch36 d ≠ 46 ∧ ch36 d < 256 := by decide
def val36 (l : List Nat) : Nat := l.foldl (fun a c => a * 36 + un36 c) 0
theorem val_d36 (u : Nat) : val36 (d36 u) = u := by
  induction u using Nat.strongRecOn with
  | _ u ih =>
    by_cases h : u < 36
    · rw [d36_small h]
      simp [val36, un_ch u h]
    · rw [d36_step (by omega)]
      have h1 := ih (u / 36) (by omega)
      unfold val36 at *
      rw [List.foldl_append, h1]
      simp only [List.foldl_cons, List.foldl_nil]
      rw [un_ch (u % 36) (by omega)]
      omega
theorem d36_inj {u v : Nat} (h : d36 u = d36 v) : u = v := by rw [← val_d36 u, h, val_d36 v]
theorem d36_ok (u : Nat) : ∀ c ∈ d36 u, c ≠ 46 ∧ c < 256 := by
  induction u using Nat.strongRecOn with
  | _ u ih =>
    intro c hc
    by_cases h : u < 36
    · rw [d36_small h] at hc
      rcases List.mem_singleton.1 hc with rfl
      exact ch_ok u h
    · rw [d36_step (by omega)] at hc
      rcases List.mem_append.1 hc with hc | hc
      · exact ih (u / 36) (by omega) c hc
      · rcases List.mem_singleton.1 hc with rfl
        exact ch_ok (u % 36) (by omega)
theorem split_dot {α : Type} {d : α} : ∀ {a a' b b' : List α}, d ∉ a → d ∉ a' → a ++ d :: b = a' ++ d :: b' → a = a' ∧ b = b' := by
  intro a
  induction a with
  | nil =>
    intro a' b b' _ h2 h
    cases a' with
    | nil => simp at h; exact ⟨rfl, h⟩
    | cons x a' =>
      simp at h
      exact absurd (h.1 ▸ List.mem_cons_self ..) h2
  | cons x a ih =>
    intro a' b b' h1 h2 h
    cases a' with
    | nil =>
      simp at h
      exact absurd (h.1 ▸ List.mem_cons_self ..) h1
    | cons y a' =>
      simp at h
      obtain ⟨rfl, h⟩ := h
      obtain ⟨rfl, rfl⟩ := ih (fun e => h1 (List.mem_cons_of_mem _ e)) (fun e => h2 (List.mem_cons_of_mem _ e)) h
      exact ⟨rfl, rfl⟩
theorem nm_app (a b : ByteArray) : nm (a ++ b) = nm a ++ nm b := by
  unfold nm
  simp
theorem nm_n36 (u : Nat) : nm (n36 u) = (d36 u).map UInt8.ofNat := by simp [nm, n36, strOf]
theorem n36_dot (u : Nat) : (46 : UInt8) ∉ nm (n36 u) := by
  rw [nm_n36]
  intro h
  obtain ⟨c, hc, he⟩ := List.mem_map.1 h
  have h1 := d36_ok u c hc
  have h2 : (UInt8.ofNat c).toNat = 46 := by rw [he]; rfl
  rw [UInt8.toNat_ofNat'] at h2
  omega
theorem n36_inj {u v : Nat} (h : nm (n36 u) = nm (n36 v)) : u = v := by
  rw [nm_n36, nm_n36] at h
  refine d36_inj ?_
  have hm : ∀ l : List Nat, (∀ c ∈ l, c ≠ 46 ∧ c < 256) → (l.map UInt8.ofNat).map UInt8.toNat = l := fun l hl => by
    rw [List.map_map]
    conv => rhs; rw [← List.map_id l]
    refine List.map_congr_left fun c hc => ?_
    have := (hl c hc).2
    simp [UInt8.toNat_ofNat']
    omega
  rw [← hm _ (d36_ok u), h, hm _ (d36_ok v)]
theorem wholeN_inj {u v : Nat} (h : nm (wholeN u) = nm (wholeN v)) : u = v := by
  unfold wholeN at h
  rw [nm_app, nm_app] at h
  exact n36_inj (List.append_cancel_left h)
theorem partN_inj {n i c n' i' c' : Nat} (h : nm (partN n i c) = nm (partN n' i' c')) : n = n' ∧ i = i' ∧ c = c' := by
  unfold partN at h
  simp only [nm_app, List.append_assoc] at h
  have h1 := List.append_cancel_left h
  obtain ⟨h2, h3⟩ := split_dot (d := (46 : UInt8)) (n36_dot n) (n36_dot n') h1
  obtain ⟨h4, h5⟩ := split_dot (d := (46 : UInt8)) (n36_dot i) (n36_dot i') h3
  exact ⟨n36_inj h2, n36_inj h4, n36_inj h5⟩
end Go.Proofs.YtbfhcbihgleddaaGreatDoor
/-
  What is found has no more parts than the disk has files.
-/
namespace Go.Proofs.YtbfhcbihgleddaaGreatDoor
open Go.RowKit Go.Maps

theorem len_of_subset {α : Type} [BEq α] [LawfulBEq α] : ∀ {l m : List α}, l.Nodup → (∀ x ∈ l, x ∈ m) → l.length ≤ m.length := by
  intro l
  induction l with
  | nil => intro m _ _; simp
  | cons a l ih =>
    intro m hn hs
    rw [List.nodup_cons] at hn
    have ha := hs a (List.mem_cons_self ..)
    have h1 := ih (m := m.erase a) hn.2 (fun x hx => (List.mem_erase_of_ne (a := x) (b := a) (fun e => by subst e; exact hn.1 hx)).2 (hs x (List.mem_cons_of_mem _ hx)))
    have h2 := List.length_erase_of_mem ha
    have h3 : 0 < m.length := List.length_pos_of_mem ha
    simp only [List.length_cons]
    omega
theorem rdF_mem {p : Pd} {s : List UInt8} {l : List Nat} (h : rdF p s = some l) : s ∈ p.l.map Fi.n := by
  unfold rdF at h
  cases hf : (pFind p s).1 with
  | none => rw [hf] at h; cases h
  | some f =>
    obtain ⟨h1, h2⟩ := fGet_mem (pFind_some hf).2.2
    exact List.mem_map.2 ⟨f, h1, h2⟩
theorem chks_get {p : Pd} {n : Nat} : ∀ {ss : List ByteArray} {i : Nat} {cs : List (List Nat)}, chks p n i ss = some cs → ∀ (j : Nat) (f : ByteArray), ss[j]? = some f → ∃ l, rdF p (nm f) = some l ∧ f = partN n (i + j) (crc l) := by
  intro ss
  induction ss with
  | nil => intro i cs _ j f hf; simp at hf
  | cons a ss ih =>
    intro i cs h j f hf
    simp only [chks] at h
    unfold chk1 at h
    cases hr : rdF p (nm a) with
    | none => rw [hr] at h; cases h
    | some l =>
      rw [hr] at h
      dsimp only at h
      split at h
      · rename_i hc
        cases hx : chks p n (i + 1) ss with
        | none => rw [hx] at h; cases h
        | some cs' =>
          match j, hf with
          | 0, hf =>
            obtain rfl : a = f := by simpa using hf
            exact ⟨l, hr, hc.1⟩
          | j + 1, hf =>
            obtain ⟨l', h1, h2⟩ := ih hx j f (by simpa using hf)
            exact ⟨l', h1, by rw [h2]; congr 1; omega⟩
      · cases h
theorem findS_parts {p : Pd} {s : List UInt8} {x : Sp} (h : findS p s = some x) : x.parts.length ≤ p.l.length := by
  unfold findS at h
  cases hm : rdM p s with
  | none => rw [hm] at h; cases h
  | some m =>
    rw [hm] at h
    dsimp only at h
    cases hc : chks p m.n 0 m.ss with
    | none => rw [hc] at h; cases h
    | some cs =>
      rw [hc] at h
      obtain rfl := Option.some.inj h
      have hg := chks_get hc
      have hnd : (m.ss.map nm).Nodup := by
        rw [List.nodup_iff_pairwise_ne, List.pairwise_map, List.pairwise_iff_getElem]
        intro i j hi hj hij e
        obtain ⟨l1, _, h2⟩ := hg i _ (List.getElem?_eq_getElem hi)
        obtain ⟨l3, _, h4⟩ := hg j _ (List.getElem?_eq_getElem hj)
        rw [h2, h4] at e
        have := (partN_inj e).2.1
        omega
      have hsub : ∀ y ∈ m.ss.map nm, y ∈ p.l.map Fi.n := fun y hy => by
        obtain ⟨f, hf, rfl⟩ := List.mem_map.1 hy
        obtain ⟨j, hj⟩ := List.getElem?_of_mem hf
        obtain ⟨l, h1, _⟩ := hg j f hj
        exact rdF_mem h1
      have := len_of_subset hnd hsub
      simpa using this
end Go.Proofs.YtbfhcbihgleddaaGreatDoor
/-
  The vault that is worked by hand in the law: its disk behind each step, by evaluation.
-/
namespace Go.Proofs.YtbfhcbihgleddaaGreatDoor
def ks : Sn := ⟨1, 2, 0, [], [], []⟩
def kc : List Nat := [0, 0, 0, 18, 72, 59, 181, 159, 0, 1, 0, 2, 0, 0, 0, 0, 0, 0, 0, 0, 0, 0, 0, 0, 0, 0]
def kp0 : Pd := ⟨[], 1048576, -1⟩
def kpart (n : UInt8) : ByteArray := ⟨#[112, 97, 114, 116, 46, n, 46, 48, 46, 49, 116, 118, 101, 53, 107, 97]⟩
def ksn (n ep : Nat) (c : UInt8) : Sp := ⟨n, ep, [kpart c], [kc]⟩
def kfp (c : UInt8) : Fi := ⟨[112, 97, 114, 116, 46, c, 46, 48, 46, 49, 116, 118, 101, 53, 107, 97], [0, 0, 0, 26, 237, 104, 54, 170, 0, 0, 0, 18, 72, 59, 181, 159, 0, 1, 0, 2, 0, 0, 0, 0, 0, 0, 0, 0, 0, 0, 0, 0, 0, 0], 34⟩
def kfw (c : UInt8) (x : List Nat) (n ep c2 : Nat) : Fi := ⟨[119, 104, 111, 108, 101, 46, c], [0, 0, 0, 35] ++ x ++ [0, 0, 0, 0, 0, 0, 0, n, 0, 0, 0, 0, 0, 0, 0, ep, 0, 1, 16, 112, 97, 114, 116, 46, c2, 46, 48, 46, 49, 116, 118, 101, 53, 107, 97], 43⟩
def kw1 := kfw 49 [49, 170, 218, 65] 1 1 49
def kw2 := kfw 50 [170, 150, 187, 103] 2 1 50
def kw5 := kfw 53 [40, 13, 16, 125] 5 2 53
theorem kpk : pk [] [] [ks] = ([kc], 0) := by kernel_rfl
theorem kput1 : pPut 2 kp0 [] [] 1 1 ([kc], 0) = (⟨[kfp 49, kw1], 1048576, -1⟩, 0, [ksn 1 1 49], []) := by kernel_rfl
theorem kput2 : pPut 2 ⟨[kfp 49, kw1], 1048576, -1⟩ [ksn 1 1 49] [] 2 1 ([kc], 0) = (⟨[kfp 49, kfp 50, kw1, kw2], 1048576, -1⟩, 0, [ksn 1 1 49, ksn 2 1 50], []) := by kernel_rfl
theorem kput5 : pPut 2 ⟨[kfp 49, kfp 50, kw1, kw2], 1048576, -1⟩ [ksn 1 1 49, ksn 2 1 50] [] 5 2 ([kc], 0) = (⟨[kfp 50, kfp 53, kw2, kw5], 1048576, -1⟩, 0, [ksn 2 1 50, ksn 5 2 53], []) := by kernel_rfl
theorem kput6 : pPut 2 ⟨[kfp 50, kfp 53, kw2, kw5], 1048576, -1⟩ [ksn 2 1 50, ksn 5 2 53] [] 5 2 ([kc], 0) = (⟨[kfp 50, kfp 53, kw2, kw5], 1048576, -1⟩, 31, [ksn 2 1 50, ksn 5 2 53], []) := by kernel_rfl
theorem kcrash : crashL [] [kfp 50, kfp 53, kw2, kw5] = [kfp 50, kfp 53, kw2, kw5] := by kernel_rfl
theorem kfound : foundS ⟨[kfp 50, kfp 53, kw2, kw5], 1048576, -1⟩ (([kfp 50, kfp 53, kw2, kw5].map Fi.n).map mkS) = [ksn 2 1 50, ksn 5 2 53] := by kernel_rfl
theorem kgot : gotS [kc] = [ks] := by kernel_rfl
end Go.Proofs.YtbfhcbihgleddaaGreatDoor
/-
  The law's world beside a vault and its disk: what stays where.
-/
namespace Go.Proofs.YtbfhcbihgleddaaGreatDoor
open Go.RowKit

theorem BoxT.apart {t t2 k g : Nat} {w : World} {ca cb : Array Value} (h : BoxT t w k ca) (h2 : BoxT t2 w g cb) (ht : t ≠ t2) : k ≠ g := by
  rintro rfl
  unfold BoxT at h h2
  rw [h] at h2
  simp at h2
  exact ht h2.2
theorem BoxT.turned {t k b g : Nat} {w w' : World} {cs : Array Value} (h : BoxT t w g cs) (ht : Turned k b w w') (h1 : g ≠ k) (h2 : g ≠ b) : BoxT t w' g cs := by
  have := h.lt
  unfold BoxT at *
  rw [ht.block g this h1 h2]; exact h
theorem BoxT.belowT {t g : Nat} {w w' : World} {cs : Array Value} (h : BoxT t w g cs) (hb : Below w.heap.size w w') : BoxT t w' g cs := by
  have := h.lt
  unfold BoxT at *
  rw [hb.block g this]; exact h
section
variable {w0 w w' : World} {V k b n : Nat} {p : Pd} {keep : Int} {vt vw vt' vw' : Value} {th : List SpV} {ws : List ByteArray} {B t : Nat} {cs : Array Value}
/-- Another box stays behind a Put. -/
theorem BoxT.pt (hB : BoxT t w B cs) (h : VAt w0 w V k b n p keep vt vw th ws) (ht : PT V k b vt vw vt' vw' w w') (h1 : t ≠ 78) (h2 : t ≠ 81) (h3 : t ≠ 84) (h4 : t ≠ 9) : BoxT t w' B cs := by
  have hne : w'.heap[B]? = w.heap[B]? := ht.block B hB.lt (hB.apart h.st.d.at_.box h1) (BoxT.notMap hB h.st.d.at_.map) (hB.apart h.box h2)
    (fun e => by obtain ⟨cur, hc⟩ := h.tr.has B e; exact hB.apart hc h3 rfl) (fun e => by obtain ⟨cur, hc⟩ := h.wr.has B e; exact hB.apart hc h4 rfl)
  unfold BoxT at *
  rw [hne]; exact hB
theorem row_box {t2 sz base m : Nat} {v : Value} {xs : List Value} (hr : w.ownsRow base t2 sz v m xs) (hB : BoxT t w B cs) (ht : Turned B B w w') (h1 : t ≠ t2) : w'.ownsRow base t2 sz v m xs :=
  row_back hr fun g e => by
    obtain ⟨cur, hc⟩ := row_has hr g e
    have hne := (hB.apart (show BoxT t2 w g cur from hc) h1).symm
    exact ht.block g (Array.getElem?_eq_some_iff.1 hc).1 hne hne
/-- A vault stays where another box is written. -/
theorem VAt.law (h : VAt w0 w V k b n p keep vt vw th ws) (hB : BoxT t w B cs) (hb : w0.heap.size ≤ B) (ht : Turned B B w w') (h1 : t ≠ 78) (h2 : t ≠ 81) (h3 : t ≠ 84) (h4 : t ≠ 9) (h5 : t ≠ 22) (h6 : t ≠ 5) : VAt w0 w' V k b n p keep vt vw th ws := by
  have hk := (hB.apart h.st.d.at_.box h1).symm
  have hV := (hB.apart h.box h2).symm
  refine ⟨h.st.other' ht hk (BoxT.notMap hB h.st.d.at_.map).symm hb, h.box.turned ht hV hV, h.tr.back (fun g e => ?_), h.wr.back (fun g e => ?_), fun x hx => ⟨row_box (h.oks x hx).p hB ht h4, row_box (h.oks x hx).c hB ht h5, fun c hc => row_box ((h.oks x hx).ks c hc) hB ht h6⟩, h.far, h.lV⟩
  · obtain ⟨cur, hc⟩ := h.tr.has g e
    have hne := (hB.apart hc h3).symm
    exact ht.block g hc.lt hne hne
  · obtain ⟨cur, hc⟩ := h.wr.has g e
    have hne := (hB.apart hc h4).symm
    exact ht.block g hc.lt hne hne
end
/-- The law's world, as it lies: the disk, the vault, keep, the list, the list that may be, the greatest number, cut, dead, fine. -/
def wld (k : Nat) (vv : Value) (kp : Int) (l mb top cut dead fine : Value) : Array Value := #[.pointer (some ⟨k, 0, none⟩), vv, .int .i64 kp, l, mb, top, cut, dead, fine]
theorem wld_cells {w : World} {B k : Nat} {vv l mb top cut dead fine : Value} {kp : Int} (h : BoxT 52 w B (wld k vv kp l mb top cut dead fine)) :
    w.cell? ⟨B, 0, none⟩ = some (.pointer (some ⟨k, 0, none⟩)) ∧ w.cell? ⟨B, 1, none⟩ = some vv ∧ w.cell? ⟨B, 2, none⟩ = some (.int .i64 kp) ∧ w.cell? ⟨B, 3, none⟩ = some l ∧ w.cell? ⟨B, 4, none⟩ = some mb ∧ w.cell? ⟨B, 5, none⟩ = some top ∧ w.cell? ⟨B, 6, none⟩ = some cut ∧ w.cell? ⟨B, 7, none⟩ = some dead ∧ w.cell? ⟨B, 8, none⟩ = some fine := by
  unfold BoxT wld at h
  simp [World.cell?, h]
set_option maxHeartbeats 1000000 in
set_option maxRecDepth 100000 in
theorem open_ok {w0 w : World} {B k b n : Nat} {p : Pd} {vv l mb top dead : Value} {kp : Int} (h : St w0 w k b n p) (hg : Glob w0) (h0 : p.left ≠ 0) (hnm : ∀ s ∈ p.l.map Fi.n, s.length ≤ 100) (hln : p.l.length ≤ 1000)
    (hfo : ∀ x ∈ foundS p ((p.l.map Fi.n).map mkS), x.n < 18446744073709551616 ∧ x.parts.length ≤ 900 ∧ ∀ s ∈ x.parts, s.size ≤ maxLen)
    (hB : BoxT 52 w B (wld k vv kp l mb top (.bool false) dead (.bool true))) (hBl : w0.heap.size ≤ B) :
    Calls Tryz.prog 31 #[.pointer (some ⟨B, 0, none⟩)] w fun e w' => e = .returned (.tuple #[]) ∧ ∃ V vt vw th, BoxT 52 w' B (wld k (.pointer (some ⟨V, 0, none⟩)) kp l mb top (.bool false) dead (.bool true)) ∧ VAt w0 w' V k b n p (max kp 1) vt vw th (wst (fls th) ((p.l.map Fi.n).map mkS)) ∧ (th.map SpV.s).Perm (foundS p ((p.l.map Fi.n).map mkS)) ∧ Rises th ∧ Turned B B w w' := by
  have hop := hide (VOpen_any (h.below ((Below.refl _ _).drew)) hg kp h0 hnm hln hfo)
  obtain ⟨c0, c1, c2, c3, c4, c5, c6, c7, c8⟩ := wld_cells hB
  have hbl := hB.lt
  have HB := hide hB
  clear h h0 hnm hln hfo hB hg
  go_enter Tryz.func31, Tryz.ntmps31
  go_wp2_with fail
  go_region_law (go_simp; go_at_call 12; refine hop.out.mono ?_; rintro e w2 ⟨V, vt, vw, th, rfl, hv, hp, hr, b2⟩; have B2 := hide (((Below.refl w.heap.size w).drew).trans b2); have HV := hide (And.intro hv (And.intro hp hr)); have X2 := hide (HB.out.belowT B2.out); obtain ⟨d0, d1, d2, d3, d4, d5, d6, d7, d8⟩ := wld_cells X2.out; have df := X2.out.free; clear hv hp hr b2)
  all_goals
    go_wp2_with fail
    go_end0
    have hX : BoxT 52 ((w2.setCell ⟨B, 1, none⟩ (.pointer (some ⟨V, 0, none⟩))).setCell ⟨B, 8, none⟩ (.bool true)) B (wld k (.pointer (some ⟨V, 0, none⟩)) kp l mb top (.bool false) dead (.bool true)) := by
      simpa [wld] using (X2.out.set 1 (.pointer (some ⟨V, 0, none⟩))).set 8 (.bool true)
    have hT : Turned B B w2 ((w2.setCell ⟨B, 1, none⟩ (.pointer (some ⟨V, 0, none⟩))).setCell ⟨B, 8, none⟩ (.bool true)) := (Turned.set B B _ 1 _).trans (Turned.set B B _ 8 _)
    exact ⟨rfl, V, vt, vw, th, hX, HV.out.1.law X2.out hBl hT (by decide) (by decide) (by decide) (by decide) (by decide) (by decide), HV.out.2.1, HV.out.2.2, (Turned.below B2.out).trans hT⟩
set_option maxHeartbeats 1000000 in
set_option maxRecDepth 100000 in
theorem begun_any (w : World) (hg : Glob w) (kp : Int) :
    Calls Tryz.prog 17 #[.int .i64 kp] w fun e w' => ∃ B k V b vt vw, e = .returned (.pointer (some ⟨B, 0, none⟩)) ∧ w.heap.size ≤ B ∧ BoxT 52 w' B (wld k (.pointer (some ⟨V, 0, none⟩)) (max kp 1) (.slice none 0 0) (.slice none 0 0) (.int .u64 0) (.bool false) (.bool false) (.bool true)) ∧ VAt w w' V k b 0 ⟨[], 1048576, -1⟩ (max kp 1) vt vw [] [] ∧ Below w.heap.size w w' := by
  have hnew := hide (kNew w w (Below.refl _ _) 1048576 (by decide))
  have hmm : max (max kp 1) 1 = max kp 1 := by omega
  go_enter Tryz.func17, Tryz.ntmps17
  go_wp2_with (first | (go_at_call 11; refine hnew.out.mono ?_; rintro e w2 ⟨k, b, rfl, h2, hk, hb, b2⟩; have H2 := hide h2; have B2 := hide b2; clear h2 b2) | fail)
  have h3 := H2.out.below (w' := w2.alloc (.cells (wld k (.pointer none) (max kp 1) (.slice none 0 0) (.slice none 0 0) (.int .u64 0) (.bool false) (.bool false) (.bool true)) 52)) ((Below.refl _ _).alloc (Nat.le_refl _) _)
  have x3 : BoxT 52 (w2.alloc (.cells (wld k (.pointer none) (max kp 1) (.slice none 0 0) (.slice none 0 0) (.int .u64 0) (.bool false) (.bool false) (.bool true)) 52)) w2.heap.size (wld k (.pointer none) (max kp 1) (.slice none 0 0) (.slice none 0 0) (.int .u64 0) (.bool false) (.bool false) (.bool true)) := BoxT.new _ _ _
  have hop := open_ok h3 hg (by decide) (fun s hs => by cases hs) (by simp) (fun x hx => by cases hx) x3 B2.out.size
  refine hop.mono ?_
  rintro e w4 ⟨rfl, V, vt, vw, th, x4, v4, p4, r4, t4⟩
  have hth : th = [] := by
    have := p4.length_eq
    simp [foundS] at this
    exact this
  subst hth
  rw [hmm] at v4
  have hb4 : Below w.heap.size w w4 := by
    have hs2 := B2.out.size
    have hb3 := B2.out.alloc B2.out.size (.cells (wld k (.pointer none) (max kp 1) (.slice none 0 0) (.slice none 0 0) (.int .u64 0) (.bool false) (.bool false) (.bool true)) 52)
    exact ⟨t4.os.trans hb3.os, t4.tape.trans hb3.tape, t4.output.trans hb3.output, Nat.le_trans hb3.size t4.size, fun i hi => (t4.block i (Nat.lt_of_lt_of_le hi hb3.size) (by omega) (by omega)).trans (hb3.block i hi)⟩
  have HF := hide (And.intro x4 (And.intro v4 hb4))
  have hB2 := B2.out.size
  clear x4 v4 p4 r4 t4 hop h3 x3 hb4
  go_wp2
  go_ret
  exact ⟨_, k, V, b, vt, vw, rfl, hB2, HF.out.1, HF.out.2.1, HF.out.2.2⟩
end Go.Proofs.YtbfhcbihgleddaaGreatDoor
