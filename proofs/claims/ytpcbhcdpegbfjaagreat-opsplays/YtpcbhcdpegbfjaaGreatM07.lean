/-
  Texts in build order: WSort.
-/
import Derived.Test.YtpcbhcdpegbfjaaGreatM03
import Derived.Test.YtpcbhcdpegbfjaaGreatM05
import Derived.Test.YtpcbhcdpegbfjaaGreatM06
/-
 Sort: panes in order.
-/
namespace Go.Proofs.YtpcbhcdpegbfjaaGreat
set_option maxHeartbeats 16000000
set_option maxRecDepth 100000
open Go.RowKit Go.Shelf Go.Lib Go.Sort
theorem ltP (x y : Pn) : ltOf cfP x y = !plb y x := by
 have h1 : ∀ a b : Int, cmpv a b < 0 ↔ a < b := by intro a b; unfold cmpv; split <;> (try split) <;> omega
 have h2 : ∀ a b : Int, cmpv a b = 0 ↔ a = b := by intro a b; unfold cmpv; split <;> (try split) <;> omega
 have h3 : ∀ b : Bool, ∀ p : Prop, (b = true ↔ p) → ∀ c : Bool, (c = true ↔ ¬ p) → b = !c := by intro b p h c h'; cases b <;> cases c <;> simp_all
 refine h3 _ (cfP x y < 0) (by simp [ltOf]) _ ?_
 rw [plb_iff]
 unfold cfP orv orv orv orv orv
 simp only [h2]
 by_cases k1 : x.k = y.k
 ·rw [if_pos k1]
  by_cases k2 : x.f = y.f
  ·rw [if_pos k2]
   by_cases k3 : x.t = y.t
   ·rw [if_pos k3]
    by_cases k4 : x.a = y.a
    ·rw [if_pos k4]; omega
    ·rw [if_neg k4, h1]; omega
   ·rw [if_neg k3, h1]; omega
  ·rw [if_neg k2, h1]; omega
 ·rw [if_neg k1, h1]; omega
theorem swoP : SWO (ltOf cfP) := by
 have e : ∀ b : Bool, (!b) = true ↔ ¬ b = true := by intro b; cases b <;> simp
 have e' : ∀ b : Bool, (!b) = false ↔ b = true := by intro b; cases b <;> simp
 refine ⟨fun x => ?_, fun x y z h1 h2 => ?_, fun x y z h1 h2 => ?_⟩
 ·rw [ltP, e', plb_iff]; omega
 ·rw [ltP, e, plb_iff] at *; omega
 ·rw [ltP, e', plb_iff] at *; omega
theorem sortRaw [Inhabited Pn] (blk off cap : Nat) (d : Array Pn) (w : World) (hH : HoldsK Pn.cs 4 w blk off d) (hblk : blk < w.heap.size) (hsz : d.size < 4611686018427387904) :
  Calls Tryz.prog 121 #[.slice (some ⟨blk, off, none⟩) d.size cap, .func (.func 112) #[] #[]] w fun e w' => e = .returned (.tuple #[]) ∧ ∃ d' n os, PermIn 0 d.size d d' ∧ SortedIn (ltOf cfP) 0 d.size d' ∧ w' = sortWorldK Pn.cs 4 w blk off n d' os := by
 have eg : ∀ args w, (callFunc 112 args).run Tryz.prog w = .ok (.enter 112 args) w := enters_of Tryz.func112 (by kernel_rfl) rfl
 exact AnyQ.slices_SortFunc Tryz.sortL 4 Tryz.isAgg79 Tryz.sizeOf79 Pn.cs (fun _ => rfl) (fun x v hv => by simp [Pn.cs] at hv; rcases hv with rfl | rfl | rfl | rfl <;> rfl) cfP swoP 112 #[] blk off cap d w eg
  (fun m os dk _ x y => (byKey_any x y _).mono fun e w' h => ⟨h.1, 1, h.2⟩) hH hblk hsz
theorem row_holds [Inhabited Pn] {w : World} {g off : Nat} {cur : Array Value} {th : List Pn} (hb : BoxT 79 w g cur) (hc : ∀ j u, (th.flatMap Pn.cs)[j]? = some u → cur[off + j]? = some u) : HoldsK Pn.cs 4 w g off th.toArray := by
 intro t ht
 rw [size_flatK] at ht
 have ht' : t < th.length * 4 := by simpa using ht
 refine ⟨?_, hb.free _⟩
 rw [get_flatK _ _ _ t ht, hb.cellAt]
 have hi : t / 4 < th.length := by omega
 obtain ⟨x, hx⟩ : ∃ x, th[t / 4]? = some x := ⟨_, List.getElem?_eq_getElem hi⟩
 have hxe : th.toArray[t / 4]! = x := by
  rw [getElem!_pos th.toArray (t / 4) (by simpa using hi)]
  rw [List.getElem?_eq_getElem hi] at hx
  simpa using Option.some.inj hx
 rw [hxe]
 have hlen : (Pn.cs x).length = 4 := rfl
 obtain ⟨u, hu⟩ : ∃ u, (Pn.cs x)[t % 4]? = some u := ⟨_, List.getElem?_eq_getElem (by rw [hlen]; omega)⟩
 have hue : (Pn.cs x)[t % 4]! = u := by
  rw [getElem!_pos (Pn.cs x) (t % 4) (by rw [hlen]; omega)]
  rw [List.getElem?_eq_getElem (by rw [hlen]; omega)] at hu
  exact Option.some.inj hu
 rw [hue]
 have := flat_get (sz := 4) (cs := Pn.cs) (fun _ => rfl) th (t / 4) (t % 4) x u hx hu
 rw [show t / 4 * 4 + t % 4 = t by omega] at this
 exact hc t u this
theorem sorted_heap [Inhabited Pn] (w : World) (g off n : Nat) (d : Array Pn) (os : Array Obj) (i : Nat) (hi : i < w.heap.size) (hne : i ≠ g) : (sortWorldK Pn.cs 4 w g off n d os).heap[i]? = w.heap[i]? := by
 simp only [sortWorldK, grow, putRowK, putRow, mapBlock]
 rw [Array.getElem?_append_left (by simpa using hi), Array.getElem?_modify, if_neg (fun e => hne e.symm)]
 rfl
theorem sorted_block [Inhabited Pn] {w : World} {g : Nat} {cur : Array Value} (hb : BoxT 79 w g cur) (off n : Nat) (d : Array Pn) (os : Array Obj) : BoxT 79 (sortWorldK Pn.cs 4 w g off n d os) g (putCells id off (flatK Pn.cs 4 d) cur) := by
 have hl := hb.lt
 unfold BoxT at *
 simp only [sortWorldK, grow, putRowK, putRow, mapBlock]
 rw [Array.getElem?_append_left (by simpa using hl), Array.getElem?_modify, if_pos rfl, show (Sort.ahead w n).heap[g]? = some (.cells cur 79 (0, 0)) from hb]
 rfl
def Rises (th : List Pn) : Prop := ∀ (i j : Nat) (x y : Pn), i < j → th[i]? = some x → th[j]? = some y → plb x y = true
theorem sort_any {w : World} {base : Nat} {vt : Value} {th : List Pn} (hr : Row 79 4 Pn.cs base w vt th) (hl : th.length ≤ 1000000) :
  Calls Tryz.prog 121 #[vt, .func (.func 112) #[] #[]] w fun e w' => e = .returned (.tuple #[]) ∧ ∃ th', th'.Perm th ∧ Rises th' ∧ Row 79 4 Pn.cs base w' vt th' ∧ w.grownBy w' vt.ownBlock := by
 have _i : Inhabited Pn := ⟨⟨0, 0, 0, 0⟩⟩
 rcases hr with ⟨rfl, rfl⟩ | ⟨g, off, cap, cur, rfl, h2, h3, h4, h5, h6, h7⟩
 ·refine (AnyF.slices_SortFunc_none Tryz.sortL none 0 _ w).mono ?_
  rintro e w' ⟨rfl, rfl⟩
  exact ⟨rfl, [], .refl _, fun i j x y _ h => by simp at h, Row.nil _ _ _ _ _, grownBy_refl _ _⟩
 ·have hs := sortRaw g off cap th.toArray w (row_holds h3 h7) h3.lt (by simp; omega)
  simp only [List.size_toArray] at hs
  refine hs.mono ?_
  rintro e w' ⟨rfl, d', n, os, ⟨p1, p2, p3⟩, hso, rfl⟩
  have hsz : d'.size = th.length := by simpa using p1
  have hperm : d'.toList.Perm th := by
   have e1 : d'.extract 0 th.length = d' := by rw [← hsz]; simp
   have e2 : th.toArray.extract 0 th.length = th.toArray := by simp
   rw [e1, e2] at p3
   simpa using p3
  refine ⟨rfl, d'.toList, hperm, fun i j x y hij hx hy => ?_, .inr ⟨g, off, cap, _, by simp [hsz], h2, sorted_block h3 off n d' os, by rw [Array.length_toList, hsz]; exact h4, h5, by simpa [putCells] using h6, fun a u hu => ?_⟩, ⟨rfl, rfl, rfl, size_sortWorldK_c _ _ _ _ _ _ _ _, fun i hi hne => sorted_heap w g off n d' os i hi (fun e => hne (by rw [e]; rfl))⟩⟩
  ·have hjl := (List.getElem?_eq_some_iff.1 hy).1
   rw [Array.length_toList] at hjl
   have h8 := hso i j (Nat.zero_le _) hij (by omega)
   rw [ltP] at h8
   have ei : d'[i]! = x := by
    rw [getElem!_pos d' i (by omega)]
    rw [Array.getElem?_toList, Array.getElem?_eq_getElem (by omega)] at hx
    exact Option.some.inj hx
   have ej : d'[j]! = y := by
    rw [getElem!_pos d' j hjl]
    rw [Array.getElem?_toList, Array.getElem?_eq_getElem hjl] at hy
    exact Option.some.inj hy
   rw [ei, ej] at h8
   simpa using h8
  ·have hal := (List.getElem?_eq_some_iff.1 hu).1
   rw [flat_size (sz := 4) (fun _ => rfl), Array.length_toList, hsz] at hal
   have h9 := holdsK_sortWorldK_c Pn.cs 4 w g off th.toArray d' n os (row_holds h3 h7) h3.lt (by simpa using hsz)
   have h10 := (h9 a (by rw [size_flatK, hsz]; exact hal)).1
   rw [(sorted_block h3 off n d' os).cellAt] at h10
   rw [h10]
   congr 1
   show (flatK Pn.cs 4 d')[a]! = u
   rw [get_flatK _ _ _ a (by rw [hsz]; exact hal)]
   have hi : a / 4 < d'.size := by omega
   rw [getElem!_pos d' (a / 4) hi]
   have hlen : (Pn.cs d'[a / 4]).length = 4 := rfl
   rw [getElem!_pos (Pn.cs d'[a / 4]) (a % 4) (by rw [hlen]; omega)]
   have h11 := flat_get (sz := 4) (cs := Pn.cs) (fun _ => rfl) d'.toList (a / 4) (a % 4) d'[a / 4] _ (by rw [Array.getElem?_toList, Array.getElem?_eq_getElem hi]) (List.getElem?_eq_getElem (by rw [hlen]; omega))
   rw [show a / 4 * 4 + a % 4 = a by omega, hu] at h11
   exact (Option.some.inj h11).symm
theorem rises_rising {l : List Pn} (h : Rises l) : Rising l := by
 unfold Rising
 rw [List.pairwise_iff_getElem]
 intro i j hi hj hij
 exact h i j _ _ hij (List.getElem?_eq_getElem hi) (List.getElem?_eq_getElem hj)
theorem sorted_any {w : World} {v : Value} {l : List Pn} (hl : LSeg 4 Pn.cs w.heap.size w v l) (hn : l.length ≤ 1000000) : Calls Tryz.prog 111 #[v, .func (.func 112) #[] #[]] w fun e w' => ∃ u, e = .returned u ∧ Row 79 4 Pn.cs w.heap.size w' u (srt l) ∧ Below w.heap.size w w' := by
 have HC := hide (copied_any hl hn)
 obtain ⟨ao, cap, rfl⟩ := hl.shapeOf
 have HN := hide hn
 clear hl hn
 go_enter Tryz.func111, Tryz.ntmps111
 go_wp2_with (first
  | (go_at_call 120; refine HC.out.mono ?_; rintro e w1 ⟨u, rfl, o1, b1⟩; have O1 := hide o1; have B1 := hide b1; clear o1 b1)
  | (go_at_call 121; refine (sort_any (Row.of_own O1.out) HN.out).mono ?_; rintro e w2 ⟨rfl, th, p2, r2, o2, g2⟩))
 go_ret
 refine ⟨_, rfl, ?_, B1.out.grown g2 B1.out.size (fun k e => O1.out.at k e)⟩
 rw [← srt_of p2 (rises_rising r2)]
 exact o2
theorem Sort_any {w : World} {v : Value} {l : List Pn} (hl : LSeg 4 Pn.cs w.heap.size w v l) (hn : l.length ≤ 1000000) : Calls Tryz.prog 98 #[v] w fun e w' => ∃ u, e = .returned u ∧ Row 79 4 Pn.cs w.heap.size w' u (srt l) ∧ Below w.heap.size w w' := by
 have HC := hide (sorted_any hl hn)
 obtain ⟨ao, cap, rfl⟩ := hl.shapeOf
 clear hl hn
 go_enter Tryz.func98, Tryz.ntmps98
 go_wp2_with (go_at_call 111; refine HC.out.mono ?_; rintro e w1 ⟨u, rfl, o1, b1⟩; have O1 := hide o1; have B1 := hide b1; clear o1 b1)
 go_ret
 exact ⟨_, rfl, O1.out, B1.out⟩
end Go.Proofs.YtpcbhcdpegbfjaaGreat
