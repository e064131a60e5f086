/-
  The law NetHeard, walked.
-/
import Derived.Test.YtcjjhgfjfeecmaaNKnown
import Derived.Test.YtcjjhgfjfeecmaaNClMI
import Derived.Test.YtcjjhgfjfeecmaaNAll
import Derived.Test.YtcjjhgfjfeecmaaNOpen
import Derived.Deep.CutBlock
import Derived.Deep.CutRange
namespace Go.Proofs.Ytcjjhgfjfeecmaa
open Go.RowKit

/-- The a-th message. -/
def msg (a : Nat) : Int × Int := (((a % 3 : Nat) : Int), (a : Int))
def hcell (h : Nat) : Value := .int .i64 (h : Int)
/-- A cloud made behind W. -/
structure CW (W w : World) (K : Nat) (fp : List Nat) (ids : List Nat) : Prop where
  cl : ClMI w fp K (ids.map msg)
  bel : Below W.heap.size W w
  new : ∀ i ∈ fp, W.heap.size ≤ i
theorem CW.turn {W w w' : World} {K : Nat} {fp fp' : List Nat} {ids ids' : List Nat} (H : CW W w K fp ids) (hl : ClMI w' fp' K (ids'.map msg)) (ht : TurnedL fp w w') (hg : Grew fp fp' w) : CW W w' K fp' ids' := by
  have hs := H.bel.size
  refine ⟨hl, ht.below H.bel H.new, fun i hi => ?_⟩
  rcases hg i hi with h | h
  · exact H.new i h
  · omega
/-- .. and how often each was heard, in block g: hs. -/
structure HW (W w : World) (K g m : Nat) (fp : List Nat) (ids hs : List Nat) (db : Nat) : Prop where
  cw : CW W w K fp ids
  box : BoxT 3 w g (hs.map hcell).toArray
  gf : g ∉ fp
  gw : W.heap.size ≤ g
  len : hs.length = m
  ltm : ∀ a ∈ ids, a < m
  each : ∀ (a h : Nat), hs[a]? = some h → a ∈ ids ∨ 1 ≤ h
  sum : hs.sum + ids.length = m + db
theorem sum_set (l : List Nat) : ∀ (i v : Nat) (h : Nat), l[i]? = some h → (l.set i v).sum + h = l.sum + v := by
  induction l with
  | nil => intro i v h e; simp at e
  | cons x l ih =>
    intro i v h e
    match i, e with
    | 0, e =>
      obtain rfl : x = h := by simpa using e
      simp only [List.set_cons_zero, List.sum_cons]; omega
    | i + 1, e =>
      have := ih i v h (by simpa using e)
      simp only [List.set_cons_succ, List.sum_cons]; omega
theorem set_cells (hs : List Nat) (a v : Nat) : ((hs.map hcell).toArray).setIfInBounds a (.int .i64 (v : Int)) = ((hs.set a v).map hcell).toArray := by
  apply Array.ext'
  rw [Array.toList_setIfInBounds]
  simp [List.map_set, hcell]
/-- One heard; it stays. -/
theorem HW.heard {W w w' : World} {K g m : Nat} {fp : List Nat} {ids hs : List Nat} {db a h : Nat} (H : HW W w K g m fp ids hs db) (hb : Below w.heap.size w w') (ha : hs[a]? = some h) :
    HW W (w'.setCell ⟨g, a, none⟩ (.int .i64 ((h + 1 : Nat) : Int))) K g m fp ids (hs.set a (h + 1)) (db + 1) := by
  have hgl := H.box.lt
  have bx : BoxT 3 w' g (hs.map hcell).toArray := by have := H.box; unfold BoxT at *; rw [hb.block g hgl]; exact this
  have hsz := hb.size
  refine ⟨⟨(H.cw.cl.below hb).back (by simp) (fun i hi => Below.heap_setCell _ ⟨g, a, none⟩ _ i (fun e => H.gf (by have e2 : i = g := e; rw [← e2]; exact hi))), (H.cw.bel.trans (hb.mono H.cw.bel.size)).setCell (p := ⟨g, a, none⟩) H.gw _, H.cw.new⟩, by rw [← set_cells]; exact bx.set a _, H.gf, H.gw, by simpa using H.len, H.ltm, fun b v hv => ?_, ?_⟩
  · by_cases e : a = b
    · subst e
      rw [List.getElem?_set_self (List.getElem?_eq_some_iff.1 ha).1] at hv
      cases hv
      exact .inr (by omega)
    · rw [List.getElem?_set_ne e] at hv
      exact H.each b v hv
  · have := sum_set hs a (h + 1) h ha
    have := H.sum
    omega
/-- One heard, and gone. -/
theorem HW.gone {W w w' : World} {K g m : Nat} {fp fp' : List Nat} {i1 i2 hs : List Nat} {db a h : Nat} (H : HW W w K g m fp (i1 ++ a :: i2) hs db) (hl : ClMI w' fp' K ((i1 ++ i2).map msg)) (ht : TurnedL fp w w') (hg : Grew fp fp' w) (ha : hs[a]? = some h) :
    HW W (w'.setCell ⟨g, a, none⟩ (.int .i64 ((h + 1 : Nat) : Int))) K g m fp' (i1 ++ i2) (hs.set a (h + 1)) db := by
  have hgl := H.box.lt
  have hgf : g ∉ fp' := fun hm => by
    rcases hg g hm with h | h
    · exact H.gf h
    · omega
  have bx : BoxT 3 w' g (hs.map hcell).toArray := H.box.turnedL ht H.gf
  have c1 := H.cw.turn hl ht hg
  refine ⟨⟨c1.cl.back (by simp) (fun i hi => Below.heap_setCell _ ⟨g, a, none⟩ _ i (fun e => hgf (by have e2 : i = g := e; rw [← e2]; exact hi))), c1.bel.setCell (p := ⟨g, a, none⟩) H.gw _, c1.new⟩, by rw [← set_cells]; exact bx.set a _, hgf, H.gw, by simpa using H.len, fun b hb => H.ltm b (by simp only [List.mem_append, List.mem_cons] at hb ⊢; rcases hb with hb | hb; exact .inl hb; exact .inr (.inr hb)), fun b v hv => ?_, ?_⟩
  · by_cases e : a = b
    · subst e
      rw [List.getElem?_set_self (List.getElem?_eq_some_iff.1 ha).1] at hv
      cases hv
      exact .inr (by omega)
    · rw [List.getElem?_set_ne e] at hv
      rcases H.each b v hv with h | h
      · simp only [List.mem_append, List.mem_cons] at h ⊢
        rcases h with h | h | h
        · exact .inl (.inl h)
        · exact absurd h.symm e
        · exact .inl (.inr h)
      · exact .inr h
  · have h1 := sum_set hs a (h + 1) h ha
    have h2 := H.sum
    simp only [List.length_append, List.length_cons] at h2 ⊢
    omega
theorem makeZ (w : World) (n : Nat) (hn : n ≤ 1000000) : (Instr.makeSlice 27 (.int .i64 (n : Int)) (.int .i64 (n : Int))).run Try.prog w = .ok (.slice (some ⟨w.heap.size, 0, none⟩) n n) (w.alloc (.cells ((List.replicate n 0).map hcell).toArray 3)) := by
  obtain ⟨i0, hi, hz0, hz1, hz2⟩ := info_parts Try.info3'
  have := run_make (P := Try.prog) w 27 3 i0 (.int .i64 0) Try.underlying27 hi hz0 .i64 .i64 (n : Int) (n : Int) (by omega) (Int.le_refl _) (by rw [hz2]; omega) (by omega)
  rw [hz1, Nat.mul_one, Int.toNat_natCast] at this
  have e : madeCells (Value.int .i64 0).cells n = ((List.replicate n 0).map hcell).toArray := by
    apply Array.ext
    · simp [size_madeCells]
    · intro i h1 h2
      simp [madeCells, Value.cells, hcell, Nat.mod_one]
  rw [e] at this
  exact this
set_option maxHeartbeats 16000000 in
set_option maxRecDepth 100000 in
theorem NetHeard_walk (w : World) (n : Int) (ao : Option Addr) (cap : Nat) (ps : List Int) (hs : Hid (LSeg 1 i8cs w.heap.size w (.slice ao ps.length cap) ps)) (hwf : Hid (∀ x ∈ ps, (Lit.int .i8 x).wf = true)) :
    Calls Try.prog 5 #[.int .i64 n, .slice ao ps.length cap] w fun e w' => e = .returned (.bool true) ∧ Below w.heap.size w w' := by
  have hknown := known_any w
  have hlen : ps.length ≤ 140737488355328 := by obtain ⟨_, _, e, h2, _⟩ := hs.out; exact h2
  go_enter Try.func5, Try.ntmps5
  go_wp2_with fail
  refine hknown.mono ?_
  rintro e w1 ⟨rfl, hb1⟩
  clear hknown
  have HB1 := hide hb1
  clear hb1
  go_wp2_with fail
  go_at_call 18
  refine (Place_any w1 n 40 (by omega) (by omega)).mono ?_
  rintro e w1' ⟨rfl, rfl⟩
  obtain ⟨m, hm⟩ : ∃ m : Nat, n % 40 = (m : Int) := ⟨(n % 40).toNat, by omega⟩
  have hm40 : m < 40 := by omega
  rw [hm]
  by_cases hl : ps.length ≤ 200
  rotate_left
  · go_wp2
    go_ret
    exact ⟨rfl, HB1.out⟩
  go_wp2_with fail
  go_at_call 15
  refine (cNewMI w1').mono ?_
  rintro e w3 ⟨rfl, r3, l3⟩
  have hsz := HB1.out.size
  have HT : Hid (∃ fp, CW w w3 w1'.heap.size fp []) := ⟨_, r3, HB1.out.trans (l3.mono hsz), fun i hi => by rw [List.mem_singleton.1 hi]; exact hsz⟩
  clear r3 l3 hsz HB1 hm
  generalize w1'.heap.size = K at *
  go_wp2_with fail
  go_loopw [6] (fun iv wr => ∃ i : Nat, i ≤ m ∧ iv = .int .i64 i ∧ Hid (∃ fp, CW w wr K fp (List.range i))) (fun iv _ => m - (intOf iv).toNat)
  case atStart => exact ⟨0, Nat.zero_le _, rfl, HT.out⟩
  case round =>
    obtain ⟨i, hi, rfl, fp, HI⟩ := hrel
    replace HI := hide HI
    by_cases hlt : i < m
    · have hmd := tmod_nat i 3
      have hsd := hide (cSendMI HI.out.cl (by simp; omega) (msg i))
      unfold msg at hsd
      go_wp2_with (first
        | (go_at_call 16; refine hsd.out.mono ?_; rintro r w4 ⟨rfl, fp4, l4, t4, g4⟩; have H4 := hide (HI.out.turn (ids' := List.range (i + 1)) (by rw [List.range_succ, List.map_append]; exact l4) t4 g4); clear l4 t4 g4)
        | fail)
      go_roundw
      case rel => exact ⟨i + 1, by omega, by go_num, _, H4.out⟩
      case measure => simp [intOf]; omega
    · obtain rfl : i = m := by omega
      have hmk := makeZ wr i (by omega)
      have ba : Below wr.heap.size wr (wr.alloc (.cells ((List.replicate i 0).map hcell).toArray 3)) := (Below.refl _ _).alloc (Nat.le_refl _) _
      have HZ : Hid (∃ fp hs, HW w (wr.alloc (.cells ((List.replicate i 0).map hcell).toArray 3)) K wr.heap.size i fp (List.range i) hs 0) :=
        ⟨fp, List.replicate i 0, ⟨HI.out.cl.below ba, HI.out.bel.trans (ba.mono HI.out.bel.size), HI.out.new⟩, BoxT.new _ _ _, fun h => Nat.lt_irrefl _ (HI.out.cl.lt _ h), HI.out.bel.size, by simp, fun a ha => List.mem_range.1 ha, fun a h hh => .inl (List.mem_range.2 (by have := (List.getElem?_eq_some_iff.1 hh).1; simpa using this)), by simp⟩
      clear ba HI HT
      generalize wr.alloc (.cells ((List.replicate i 0).map hcell).toArray 3) = w5 at *
      generalize hgg : wr.heap.size = g at *
      go_wp2_with fail
      clear hmk hgg
      go_loopw [8, 9] (fun dv jv wq => ∃ (j db : Nat) (ids hs : List Nat) (fp : List Nat), jv = .int .i64 j ∧ dv = .int .i64 db ∧ db ≤ j ∧ ids.length ≤ i ∧ (ps.length ≤ j → ids.length + (j - ps.length) ≤ i) ∧ j ≤ 300 ∧ Hid (HW w wq K g i fp ids hs db)) (fun _ jv _ => 400 - (intOf jv).toNat)
      case atStart =>
        obtain ⟨fp, hs0, H⟩ := HZ.out
        exact ⟨0, 0, List.range i, hs0, fp, rfl, rfl, Nat.le_refl _, by simp, fun h => by simp, by omega, H⟩
      case round =>
        clear HZ
        obtain ⟨j, db, ids, hs0, fp, rfl, rfl, hdb, hil, hjl, hj3, HH⟩ := hrel
        have hLn := hide (cLenMI HH.out.cw.cl)
        rw [List.length_map] at hLn
        by_cases hne : ids = []
        · subst hne
          simp only [List.length_nil] at hLn
          have HSM := hide HH.out.sum
          have hse := HH.out.len
          have hbel := hide HH.out.cw.bel
          have HE := hide HH.out.each
          have hbx := hide HH.out.box
          clear HH hjl
          go_wp2_with (first | (go_at_call 19; refine hLn.out.mono ?_; rintro r w6 ⟨rfl, rfl⟩) | fail)
          clear hLn
          go_loopw [16, 17] (fun sv kv wz => ∃ k : Nat, k ≤ i ∧ kv = .int .i64 k ∧ sv = .int .i64 ((hs0.take k).sum : Nat) ∧ wz = w6) (fun _ kv _ => i - (intOf kv).toNat)
          case atStart => exact ⟨0, Nat.zero_le _, rfl, rfl, rfl⟩
          case round =>
            obtain ⟨k, hk, rfl, rfl, rfl⟩ := hrel
            by_cases hkl : k < i
            · obtain ⟨h, hh⟩ : ∃ h, hs0[k]? = some h := ⟨_, List.getElem?_eq_getElem (by rw [hse]; exact hkl)⟩
              have c1 : wr.cell? ⟨g, k, none⟩ = some (.int .i64 (h : Int)) := by
                rw [hbx.out.cellAt]
                simp [hh, hcell]
              have h1 : 1 ≤ h := by
                rcases HE.out k h hh with h9 | h9
                · simp at h9
                · exact h9
              have hsum : (hs0.take (k + 1)).sum = (hs0.take k).sum + h := by
                rw [List.take_add_one, hh, List.sum_append]; simp
              have hsb : (hs0.take (k + 1)).sum ≤ 1000 := by
                have h2 := HSM.out
                have h3 : (hs0.take (k + 1)).sum + (hs0.drop (k + 1)).sum = hs0.sum := by rw [← List.sum_append, List.take_append_drop]
                simp only [List.length_nil] at h2
                omega
              have hn0 : ((h : Int) == 0) = false := by simp; omega
              generalize (hs0.take k).sum = S at *
              rw [hsum] at hsb
              have HS := hide hsum
              clear hsum hh
              go_wp2
              go_roundw
              case rel => exact ⟨k + 1, by omega, by go_num, (by rw [HS.out]; go_num), trivial⟩
              case measure => simp [intOf]; omega
            · obtain rfl : k = i := by omega
              have hfin : (hs0.take k).sum = k + db := by
                have h2 := HSM.out
                rw [List.take_of_length_le (by omega)]
                simpa using h2
              rw [hfin]
              go_wp2
              go_ret
              exact ⟨by simp, hbel.out⟩
        · have hpos : 0 < ids.length := List.length_pos_iff.2 hne
          have hp2 : (0 : Int) < (ids.length : Int) := by omega
          go_upto_if 46 with (first | (go_at_call 19; refine hLn.out.mono ?_; rintro r w6 ⟨rfl, rfl⟩) | fail)
          clear hLn
          have hj31 : j ≤ 241 := by
            by_cases h : ps.length ≤ j
            · have := hjl h; omega
            · omega
          generalize hd : decide (j < ps.length) = dd
          go_cut [10, 11] from 47 to 54 (fun kv hv wx => ∃ (p : Int) (hb : Bool), kv = .int .i64 p ∧ hv = .int .i64 (if hb then 1 else 0) ∧ wx = w6 ∧ (dd = false → hb = false))
          case first =>
            cases dd
            · go_wp2
              go_meet
              exact ⟨0, false, rfl, rfl, rfl, fun _ => rfl⟩
            · have hjp : j < ps.length := of_decide_eq_true hd
              obtain ⟨p, hp⟩ : ∃ p, ps[j]? = some p := ⟨_, List.getElem?_eq_getElem hjp⟩
              have hw := hwf.out p (List.mem_of_getElem? hp)
              obtain ⟨ao', cap', e, h2, h4⟩ := hs.out.below HH.out.cw.bel
              cases e
              rcases h4 with h4 | ⟨b1, o1, rfl, l1, h1⟩
              · subst h4; simp at hp
              have c1 : w6.cell? ⟨b1, o1 + j, none⟩ = some (.int .i8 p) := by simpa using h1 j p hp 0 _ rfl
              have hwp : IntKind.i64.wrap p = p := by
                rw [IntKind.wrap_i64]
                simp [Lit.wf] at hw
                rw [show IntKind.i8.min = -128 from rfl, show IntKind.i8.max = 127 from rfl] at hw
                omega
              clear h1 hp hw
              by_cases h3 : p.tmod 3 = 0
              · have h3' : (p.tmod 3 == 0) = true := by simp [h3]
                go_wp2
                go_meet
                exact ⟨p, true, rfl, rfl, rfl, fun h => (by cases h)⟩
              · have h3' : (p.tmod 3 == 0) = false := by simp [h3]
                go_wp2
                go_meet
                exact ⟨p, false, rfl, rfl, rfl, fun h => (by cases h)⟩
          case rest =>
            obtain ⟨p, hb, rfl, rfl, rfl, hbf⟩ := hcut
            have hbf2 : ps.length ≤ j → hb = false := fun h => hbf (by rw [← hd]; simp; omega)
            clear hbf hd
            obtain ⟨jj, hjj⟩ : ∃ jj : Nat, p % (ids.length : Int) = (jj : Int) := ⟨(p % (ids.length : Int)).toNat, (Int.toNat_of_nonneg (Int.emod_nonneg _ (by omega))).symm⟩
            have hjjl : jj < ids.length := by have := Int.emod_lt_of_pos p hp2; omega
            obtain ⟨a, ha⟩ : ∃ a, ids[jj]? = some a := ⟨_, List.getElem?_eq_getElem hjjl⟩
            have ham : a < i := HH.out.ltm a (List.mem_of_getElem? ha)
            obtain ⟨h, hh⟩ : ∃ h, hs0[a]? = some h := ⟨_, List.getElem?_eq_getElem (by rw [HH.out.len]; exact ham)⟩
            have hhb : h ≤ 1000 := by
              have h1 := HH.out.sum
              have h2 := sum_set hs0 a 0 h hh
              omega
            have hmd := tmod_nat a 3
            have hcell0 : ∀ wx : World, BoxT 3 wx g (hs0.map hcell).toArray → wx.cell? ⟨g, a, none⟩ = some (.int .i64 (h : Int)) := fun wx hx => by
              rw [hx.cellAt]
              simp [hh, hcell]
            cases hb
            · have hsp : ids = ids.take jj ++ a :: ids.drop (jj + 1) := by
                rw [← (List.getElem?_eq_some_iff.1 ha).2, ← List.drop_eq_getElem_cons hjjl, List.take_append_drop]
              have hlt2 : (ids.take jj).length = jj := by simp; omega
              have hld2 : (ids.drop (jj + 1)).length = ids.length - (jj + 1) := by simp
              have HC : Hid (ClMI wc fp K ((ids.take jj).map msg ++ msg a :: (ids.drop (jj + 1)).map msg)) := by
                rw [← List.map_cons, ← List.map_append, ← hsp]; exact hide HH.out.cw.cl
              have HH2 : Hid (HW w wc K g i fp (ids.take jj ++ a :: ids.drop (jj + 1)) hs0 db) := by rw [← hsp]; exact HH
              have hll : ((ids.take jj).map msg ++ msg a :: (ids.drop (jj + 1)).map msg).length = ids.length := by rw [List.length_append, List.length_cons, List.length_map, List.length_map]; omega
              have hpk := hide (cPickMI HC.out (by rw [List.length_map, List.length_map]; omega) p 0 (by rw [hll, List.length_map, hlt2]; exact hjj) (by decide))
              rw [if_neg (by decide)] at hpk
              have hls : (ids.take jj ++ ids.drop (jj + 1)).length = ids.length - 1 := by rw [List.length_append]; omega
              unfold msg at hpk
              dsimp only at hpk
              have HLS := hide hls
              clear hsp hlt2 hld2 HC hll hls
              go_wp2_with (first
                | (go_at_call 17; refine hpk.out.mono ?_; rintro r w7 ⟨rfl, fp7, l7, t7, g7⟩; have bx7 : BoxT 3 w7 g (hs0.map hcell).toArray := HH.out.box.turnedL t7 HH.out.gf; have e7 := hcell0 w7 bx7; have f7 := bx7.free; have H7 := hide (HH2.out.gone (by rw [List.map_append]; exact l7) t7 g7 hh); clear l7 t7 g7 bx7)
                | fail)
              have hls := HLS.out
              exact ⟨⟨j + 1, db, ids.take jj ++ ids.drop (jj + 1), hs0.set a (h + 1), fp7, by go_num, rfl, by omega, by omega, fun hh => (by
                by_cases h9 : ps.length ≤ j
                · have := hjl h9; omega
                · omega), by omega, by simpa using H7⟩, by simp [intOf]; omega⟩
            · have hpk := hide (cPick1MI (q := ids.map msg) (x := msg a) (j := jj) HH.out.cw.cl (by rw [List.length_map]; omega) p (by rw [List.length_map]; exact hjj) (by rw [List.getElem?_map, ha]; rfl))
              unfold msg at hpk
              dsimp only at hpk
              go_wp2_with (first
                | (go_at_call 17; refine hpk.out.mono ?_; rintro r w7 ⟨rfl, b7⟩; have bx7 : BoxT 3 w7 g (hs0.map hcell).toArray := (by have hx := HH.out.box; have hl := hx.lt; unfold BoxT at *; rw [b7.block _ hl]; exact hx); have e7 := hcell0 w7 bx7; have f7 := bx7.free; have H7 := hide (HH.out.heard b7 hh); clear b7 bx7)
                | fail)
              have hjlt : j < ps.length := Nat.lt_of_not_le (fun h9 => by cases hbf2 h9)
              exact ⟨⟨j + 1, db + 1, ids, hs0.set a (h + 1), fp, by go_num, by go_num, by omega, hil, fun _ => (by omega), by omega, by simpa using H7⟩, by simp [intOf]; omega⟩
end Go.Proofs.Ytcjjhgfjfeecmaa
