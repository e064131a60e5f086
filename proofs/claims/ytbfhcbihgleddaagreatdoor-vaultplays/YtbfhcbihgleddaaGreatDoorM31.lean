/-
  Texts of the vault, in build order: VDel, VWst.
-/
import Derived.Test.YtbfhcbihgleddaaGreatDoorM30
/-
  slices.IndexFunc and DeleteFunc over the vault's names.
-/
namespace Go.Proofs.YtbfhcbihgleddaaGreatDoor
open Go.RowKit Go.Maps

set_option maxHeartbeats 1000000 in
set_option maxRecDepth 100000 in
/-- IndexFunc: the first name of which it is so, or -1. -/
theorem index_any {w : World} {c mb n g cap : Nat} {hd ss : List ByteArray} (h : HS w c mb n hd) (hss : ∀ s ∈ ss, s.size ≤ maxLen) (hl : ss.length ≤ 1000000) (hgl : g < w.heap.size) (hcell : ∀ (i : Nat) (s : ByteArray), ss[i]? = some s → w.cell? ⟨g, i, none⟩ = some (.string s)) :
    Calls Tryz.prog 95 #[.slice (some ⟨g, 0, none⟩) ss.length cap, .func (.func 63) #[] #[.pointer (some ⟨c, 0, none⟩)]] w fun e w' => (∃ r : Int, e = .returned (.int .i64 r) ∧ ((r = -1 ∧ ∀ s ∈ ss, isW hd s = false) ∨ ∃ k : Nat, r = (k : Int) ∧ k < ss.length ∧ (∀ i s, i < k → ss[i]? = some s → isW hd s = false) ∧ ∀ s, ss[k]? = some s → isW hd s = true)) ∧ Below w.heap.size w w' := by
  have HH := hide h
  have HS := hide hss
  have HC := hide hcell
  clear h hss hcell
  generalize hlm : ss.length = m at *
  have HL := hide hlm
  clear hlm
  go_enter Tryz.func95, Tryz.ntmps95
  go_wp2_with fail
  go_loopw [8] (fun iv wr => ∃ i : Nat, i ≤ m ∧ iv = .int .i64 i ∧ Hid (Below w.heap.size w wr ∧ ∀ a s, a < i → ss[a]? = some s → isW hd s = false)) (fun iv _ => m - (intOf iv).toNat)
  case atStart => exact ⟨0, Nat.zero_le _, rfl, Below.refl _ _, fun a s ha => by omega⟩
  case round =>
    obtain ⟨i, hi, rfl, HI⟩ := hrel
    by_cases hlt : i < m
    · obtain ⟨s, hs⟩ : ∃ s, ss[i]? = some s := ⟨_, List.getElem?_eq_getElem (by rw [HL.out]; exact hlt)⟩
      have k0 : wr.cell? ⟨g, i, none⟩ = some (.string s) := (HI.out.1.cell (p := ⟨g, i, none⟩) hgl).trans (HC.out i s hs)
      have hka := keep_any (HH.out.below HI.out.1) s (HS.out s (List.mem_of_getElem? hs))
      have hz := HI.out.1.size
      have HSS := hide hs
      clear hs
      go_wp2_with fail
      refine hka.mono ?_
      rintro e w2 ⟨rfl, b2⟩
      have B2 := hide (HI.out.1.trans (b2.mono hz))
      clear hka k0 b2
      cases hw : isW hd s
      · go_wp2
        go_roundw
        case rel =>
          refine ⟨i + 1, by omega, by go_num, B2.out, fun a t ha ht => ?_⟩
          by_cases e : a = i
          · subst e
            have := HSS.out
            rw [this] at ht
            cases ht
            exact hw
          · exact HI.out.2 a t (by omega) ht
        case measure => simp [intOf]; omega
      · go_wp2
        go_ret
        exact ⟨⟨i, rfl, .inr ⟨i, rfl, hlt, HI.out.2, fun t ht => by have := HSS.out; rw [this] at ht; cases ht; exact hw⟩⟩, B2.out⟩
    · obtain rfl : i = m := by omega
      go_wp2
      go_ret
      refine ⟨⟨-1, rfl, .inl ⟨rfl, fun s hs => ?_⟩⟩, HI.out.1⟩
      obtain ⟨a, ha⟩ := List.getElem?_of_mem hs
      exact HI.out.2 a s (by rw [← HL.out]; exact (List.getElem?_eq_some_iff.1 ha).1) ha
/-- The names that are waste. -/
def wst (hd ss : List ByteArray) : List ByteArray := ss.filter fun s => !isW hd s
/-- In the midst of DeleteFunc. -/
structure DI (w wr : World) (c mb n g cap : Nat) (hd ss : List ByteArray) (j : Nat) : Prop where
  hs : HS wr c mb n hd
  gr : w.grownBy wr (some g)
  box : ∃ cur : Array Value, BoxT 9 wr g cur ∧ cur.size = cap ∧ (∀ (a : Nat) (s : ByteArray), (wst hd (ss.take j))[a]? = some s → cur[a]? = some (.string s)) ∧ (∀ (a : Nat) (s : ByteArray), j ≤ a → ss[a]? = some s → cur[a]? = some (.string s)) ∧ ∀ a, a < cap → ∃ u, cur[a]? = some u
theorem HS.set {w : World} {c mb n g j : Nat} {hd : List ByteArray} {cur : Array Value} (h : HS w c mb n hd) (hb : BoxT 9 w g cur) (u : Value) : HS (w.setCell ⟨g, j, none⟩ u) c mb n hd := by
  refine h.back (Below.heap_setCell w ⟨g, j, none⟩ u c fun e => ?_) (Below.heap_setCell w ⟨g, j, none⟩ u mb fun e => ?_)
  · have h1 := h.box
    unfold BoxT at h1 hb
    have e : c = g := e
    rw [e, hb] at h1
    simp at h1
  · obtain ⟨D, ⟨es, clock, h1, _⟩, _⟩ := h.map
    unfold BoxT at hb
    have e : mb = g := e
    rw [e, hb] at h1
    cases h1
theorem wst_take {hd ss : List ByteArray} {j : Nat} {s : ByteArray} (hs : ss[j]? = some s) : wst hd (ss.take (j + 1)) = if isW hd s then wst hd (ss.take j) else wst hd (ss.take j) ++ [s] := by
  have hlt := (List.getElem?_eq_some_iff.1 hs).1
  have e : ss[j] = s := by rw [List.getElem?_eq_getElem hlt] at hs; exact Option.some.inj hs
  rw [List.take_succ_eq_append_getElem hlt, e]
  unfold wst
  rw [List.filter_append]
  cases h : isW hd s <;> simp [h]
theorem wst_le (hd ss : List ByteArray) (j : Nat) : (wst hd (ss.take j)).length ≤ j := by
  have h1 : (wst hd (ss.take j)).length ≤ (ss.take j).length := List.length_filter_le ..
  have h2 : (ss.take j).length ≤ j := by rw [List.length_take]; omega
  omega
theorem DI.skip {w wr w' : World} {c mb n g cap : Nat} {hd ss : List ByteArray} {j : Nat} {s : ByteArray} (h : DI w wr c mb n g cap hd ss j) (hb : Below wr.heap.size wr w') (hs : ss[j]? = some s) (hw : isW hd s = true) : DI w w' c mb n g cap hd ss (j + 1) := by
  obtain ⟨cur, h1, h2, h3, h4, h5⟩ := h.box
  refine ⟨h.hs.below hb, ⟨hb.os.trans h.gr.os, hb.tape.trans h.gr.tape, hb.output.trans h.gr.output, Nat.le_trans h.gr.size hb.size, fun i hi hne => (hb.block i (Nat.lt_of_lt_of_le hi h.gr.size)).trans (h.gr.block i hi hne)⟩, cur, ?_, h2, fun a t ht => ?_, fun a t ha ht => h4 a t (by omega) ht, h5⟩
  · have := h1.lt
    unfold BoxT at *
    rw [hb.block g this]; exact h1
  · rw [wst_take hs, if_pos hw] at ht
    exact h3 a t ht
theorem DI.move {w wr w' : World} {c mb n g cap : Nat} {hd ss : List ByteArray} {j : Nat} {s : ByteArray} (h : DI w wr c mb n g cap hd ss j) (hb : Below wr.heap.size wr w') (hs : ss[j]? = some s) (hw : isW hd s = false) (hlt : (wst hd (ss.take j)).length < j) :
    DI w (w'.setCell ⟨g, (wst hd (ss.take j)).length, none⟩ (.string s)) c mb n g cap hd ss (j + 1) := by
  obtain ⟨cur, h1, h2, h3, h4, h5⟩ := h.box
  have h1' : BoxT 9 w' g cur := by
    have := h1.lt
    unfold BoxT at *
    rw [hb.block g this]; exact h1
  have hgr : w.grownBy w' (some g) := ⟨hb.os.trans h.gr.os, hb.tape.trans h.gr.tape, hb.output.trans h.gr.output, Nat.le_trans h.gr.size hb.size, fun i hi hne => (hb.block i (Nat.lt_of_lt_of_le hi h.gr.size)).trans (h.gr.block i hi hne)⟩
  have hjl : j < cap := by
    have := h4 j s (Nat.le_refl _) hs
    have := (Array.getElem?_eq_some_iff.1 this).1
    omega
  refine ⟨(h.hs.below hb).set h1' _, grownBy_trans hgr (grownBy_set w' g _ _), _, h1'.set _ _, by simpa using h2, fun a t ht => ?_, fun a t ha ht => ?_, fun a ha => ?_⟩
  · rw [wst_take hs, hw] at ht
    simp only [Bool.false_eq_true, if_false] at ht
    by_cases e : a < (wst hd (ss.take j)).length
    · rw [List.getElem?_append_left e] at ht
      rw [Array.getElem?_setIfInBounds_ne (by omega)]
      exact h3 a t ht
    · have ha : a = (wst hd (ss.take j)).length := by
        have := (List.getElem?_eq_some_iff.1 ht).1
        simp at this; omega
      subst ha
      simp at ht
      subst ht
      have : (wst hd (ss.take j)).length < cur.size := by omega
      simp [this]
  · rw [Array.getElem?_setIfInBounds_ne (by omega)]
    exact h4 a t (by omega) ht
  · by_cases e : (wst hd (ss.take j)).length = a
    · subst e
      have : (wst hd (ss.take j)).length < cur.size := by omega
      exact ⟨.string s, by simp [this]⟩
    · rw [Array.getElem?_setIfInBounds_ne e]; exact h5 a ha
set_option maxRecDepth 100000 in
theorem index_nil (w : World) (fv : Value) : Calls Tryz.prog 95 #[.slice none 0 0, fv] w fun e w' => e = .returned (.int .i64 (-1)) ∧ w' = w := by
  go_enter Tryz.func95, Tryz.ntmps95
  go_wp2_with fail
  go_loopw [8] (fun iv wr => iv = .int .i64 0 ∧ wr = w) (fun _ _ => 0)
  case atStart => exact ⟨rfl, rfl⟩
  case round =>
    obtain ⟨rfl, rfl⟩ := hrel
    go_wp2
    go_ret
    exact ⟨rfl, rfl⟩
theorem Tryz.zero9 (w : World) : (zeroValue 9).run Tryz.prog w = .ok (.string ⟨#[]⟩) w := by
  have h : (Tryz.prog.info? 9).map (fun i => i.zero) = some (some (.string ⟨#[]⟩)) := by kernel_rfl
  obtain ⟨i, hi, hz⟩ := Option.map_eq_some_iff.1 h
  simp [zeroValue, typeInfo, hi, hz]
theorem wst_all {hd ss : List ByteArray} (h : ∀ s ∈ ss, isW hd s = false) : wst hd ss = ss := by
  unfold wst
  rw [List.filter_eq_self]
  intro s hs
  rw [h s hs]; rfl
theorem wst_lt {hd ss : List ByteArray} {k : Nat} {s : ByteArray} (hs : ss[k]? = some s) (hw : isW hd s = true) (j : Nat) (hj : k < j) (hjl : j ≤ ss.length) : (wst hd (ss.take j)).length < j := by
  have h1 : s ∈ ss.take j := by
    refine List.mem_of_getElem? (i := k) ?_
    rw [List.getElem?_take, if_pos hj]; exact hs
  have h2 : (wst hd (ss.take j)).length < (ss.take j).length := by
    unfold wst
    exact List.length_filter_lt_length_iff_exists.2 ⟨s, h1, by rw [hw]; decide⟩
  rw [List.length_take] at h2
  omega
set_option maxHeartbeats 2000000 in
set_option maxRecDepth 100000 in
theorem delete_any {w : World} {c mb n base : Nat} {vn : Value} {hd ss : List ByteArray} (h : HS w c mb n hd) (ho : OwnS base w vn ss) (hss : ∀ s ∈ ss, s.size ≤ maxLen) (hl : ss.length ≤ 1000000) :
    Calls Tryz.prog 62 #[vn, .func (.func 63) #[] #[.pointer (some ⟨c, 0, none⟩)]] w fun e w' => ∃ v', e = .returned v' ∧ OwnS base w' v' (wst hd ss) ∧ w.grownBy w' vn.ownBlock ∧ (∀ g, v'.ownBlock = some g → vn.ownBlock = some g) := by
  rcases ho.2 with ⟨rfl, h0⟩ | ⟨g, cap, cur, rfl, hbg, hgb, hcl, hcm, hcs, hct⟩
  · have h0 : ss = [] := List.length_eq_zero_iff.1 h0
    subst h0
    clear h hss hl
    go_enter Tryz.func62, Tryz.ntmps62
    go_wp2_with fail
    go_at_call 95
    refine (index_nil w _).mono ?_
    rintro e w1 ⟨rfl, rfl⟩
    go_wp2
    go_ret
    exact ⟨_, rfl, ho, grownBy_refl _ _, fun g e => e⟩
  · have hbx : BoxT 9 w g cur := hgb
    have hcell : ∀ (i : Nat) (s : ByteArray), ss[i]? = some s → cur[i]? = some (.string s) := fun i s hs => by
      have h2 : (ss.map Value.string)[i]? = some (.string s) := by rw [List.getElem?_map, hs]; rfl
      rw [← hct, List.getElem?_take] at h2
      split at h2
      · simpa using h2
      · cases h2
    have hcw : ∀ (i : Nat) (s : ByteArray), ss[i]? = some s → w.cell? ⟨g, i, none⟩ = some (.string s) := fun i s hs => (hbx.cellAt i).trans (hcell i s hs)
    have hix := index_any h hss hl hbx.lt hcw (cap := cap)
    have HO := hide ho
    have HH := hide h
    have HSS := hide hss
    have HB := hide hbx
    have HCE := hide hcell
    have hcs' : cur.size = cap := by omega
    have HCS := hide hcs'
    clear h hss hgb hct hbx hcell hcw ho hcs hcs'
    generalize hlm : ss.length = m at *
    have HL := hide hlm
    clear hlm
    go_enter Tryz.func62, Tryz.ntmps62
    go_wp2_with fail
    go_at_call 95
    refine hix.mono ?_
    rintro e w1 ⟨⟨r, rfl, hr⟩, b1⟩
    clear hix
    rcases hr with ⟨rfl, hall⟩ | ⟨k, rfl, hkl, hbef, hat⟩
    · have hwa := wst_all hall
      clear hall
      have HWA := hide hwa
      have HN : Hid (OwnS base w1 (.slice (some ⟨g, 0, none⟩) m cap) ss) := OwnS.below HO.out b1
      clear hwa
      go_wp2
      go_ret
      exact ⟨_, rfl, by rw [HWA.out]; exact HN.out, ⟨b1.os, b1.tape, b1.output, b1.size, fun i hi _ => b1.block i hi⟩, fun g e => e⟩
    · obtain ⟨s0, hs0⟩ : ∃ s, ss[k]? = some s := ⟨_, List.getElem?_eq_getElem (by rw [HL.out]; exact hkl)⟩
      have hw0 := hat s0 hs0
      have hwk : wst hd (ss.take k) = ss.take k := wst_all (fun s hs => by
        obtain ⟨a, ha⟩ := List.getElem?_of_mem hs
        rw [List.getElem?_take] at ha
        split at ha
        · rename_i hak; exact hbef a s hak ha
        · cases ha)
      have hwk1 : wst hd (ss.take (k + 1)) = ss.take k := by rw [wst_take hs0, if_pos hw0, hwk]
      have hlk1 : (wst hd (ss.take (k + 1))).length = k := by rw [hwk1, List.length_take, HL.out]; omega
      have HLT := hide (fun j hj hjl => wst_lt hs0 hw0 j hj hjl)
      have H0 : Hid (DI w w1 c mb n g cap hd ss (k + 1)) := by
        refine ⟨HH.out.below b1, ⟨b1.os, b1.tape, b1.output, b1.size, fun i hi _ => b1.block i hi⟩, cur, ?_, HCS.out, fun a s hs => ?_, fun a s _ hs => HCE.out a s hs, fun a ha => ⟨_, Array.getElem?_eq_getElem (by rw [HCS.out]; exact ha)⟩⟩
        · have h1 := HB.out.lt
          have h2 := HB.out
          unfold BoxT at *
          rw [b1.block g h1]; exact h2
        · rw [hwk1, List.getElem?_take] at hs
          split at hs
          · exact HCE.out a s hs
          · cases hs
      have HL1 := hide hlk1
      clear hat hbef hwk hwk1 hlk1 hs0 hw0 b1 HB HCE HH
      have hkm : ((k : Int) == -1) = false := by simp
      go_wp2_with fail
      go_loopw [5, 6, 7] (fun iv jv _ wr => ∃ j i : Nat, k < j ∧ j ≤ m ∧ i < j ∧ iv = .int .i64 i ∧ jv = .int .i64 j ∧ Hid ((wst hd (ss.take j)).length = i) ∧ Hid (DI w wr c mb n g cap hd ss j)) (fun _ jv _ _ => m - (intOf jv).toNat)
      case atStart => exact ⟨k + 1, k, by omega, by omega, by omega, rfl, by go_num, HL1.out, H0.out⟩
      case round =>
        clear H0
        obtain ⟨j, i, hkj, hjm, hwl, rfl, rfl, HIL, HD⟩ := hrel
        obtain ⟨cur2, q1, q2, q3, q4, q5⟩ := HD.out.box
        by_cases hlt : j < m
        · obtain ⟨s, hs⟩ : ∃ s, ss[j]? = some s := ⟨_, List.getElem?_eq_getElem (by rw [HL.out]; exact hlt)⟩
          have k0 : wr.cell? ⟨g, j, none⟩ = some (.string s) := (q1.cellAt j).trans (q4 j s (Nat.le_refl _) hs)
          have hka := keep_any HD.out.hs s (HSS.out s (List.mem_of_getElem? hs))
          have HQ1 := hide q1
          have hcm2 : m ≤ cap := hcl
          obtain ⟨u1, hu1⟩ := q5 i (by omega)
          have k1 := (q1.cellAt _).trans hu1
          have HS2 := hide hs
          have HWT : Hid (wst hd (ss.take (j + 1)) = if isW hd s then wst hd (ss.take j) else wst hd (ss.take j) ++ [s]) := wst_take hs
          clear q1 q2 q3 q4 q5 hs hu1
          go_wp2_with fail
          refine hka.mono ?_
          rintro e w2 ⟨rfl, b2⟩
          have k2 : w2.cell? ⟨g, i, none⟩ = some u1 := (b2.cell (p := ⟨g, i, none⟩) HQ1.out.lt).trans k1
          have k3 : w2.frozen? ⟨g, i, none⟩ = false := by
            have h5 : BoxT 9 w2 g cur2 := by
              have h6 := HQ1.out.lt
              have h7 := HQ1.out
              unfold BoxT at *
              rw [b2.block _ h6]; exact h7
            exact h5.free i
          have B2 := hide b2
          clear hka k0 k1 b2
          cases hw : isW hd s
          · have HN := hide (HD.out.move B2.out HS2.out hw (by rw [HIL.out]; exact hwl))
            rw [HIL.out] at HN
            have hlen : (wst hd (ss.take (j + 1))).length = i + 1 := by rw [HWT.out, hw]; simp [HIL.out]
            have HLE := hide hlen
            clear hlen HD
            go_wp2
            go_roundw
            case rel => exact ⟨j + 1, i + 1, by omega, by omega, by omega, by go_num, by go_num, HLE.out, HN.out⟩
            case measure => simp [intOf]; omega
          · have HN := hide (HD.out.skip B2.out HS2.out hw)
            have hlen : (wst hd (ss.take (j + 1))).length = i := by rw [HWT.out, hw]; simp [HIL.out]
            have HLE := hide hlen
            clear hlen HD
            go_wp2
            go_roundw
            case rel => exact ⟨j + 1, i, by omega, by omega, by omega, rfl, by go_num, HLE.out, HN.out⟩
            case measure => simp [intOf]; omega
        · obtain rfl : j = m := by omega
          have HWS : Hid (wst hd (ss.take j) = wst hd ss) := by show _ = _; rw [List.take_of_length_le (by rw [HL.out]; exact Nat.le_refl _)]
          have hclr : ∀ ty, (Builtin.clear_ #[69] ty #[.slice (some ⟨g, 0 + i, none⟩) (j - i) (cap - i)]).run Tryz.prog wr = .ok (.tuple #[]) (wr.setCells g (0 + i) (List.replicate (j - i) (.string ⟨#[]⟩))) :=
            fun ty => Lib.run_clear_slice wr 69 9 ty (.string ⟨#[]⟩) Tryz.underlying69 Tryz.zero9 rfl rfl g (0 + i) (j - i) (cap - i) (by omega) (fun a ha => by
              obtain ⟨u, hu⟩ := q5 (0 + i + a) (by omega)
              rw [q1.cellAt, hu]; rfl) (fun a _ => q1.free _)
          rw [Nat.zero_add] at hclr
          have HBX := hide (q1.setCells (j := i) (List.replicate (j - i) (.string ⟨#[]⟩)))
          have HGR := hide (grownBy_trans HD.out.gr (grown_setCells g (List.replicate (j - i) (.string ⟨#[]⟩)) wr i))
          have HQ := hide (And.intro q2 q3)
          clear q1 q2 q3 q4 q5
          go_wp2
          go_ret
          refine ⟨_, rfl, ?_, HGR.out, fun g e => e⟩
          have hil : (wst hd ss).length = i := by rw [← HWS.out]; exact HIL.out
          have hcell : ∀ (a : Nat) (s : ByteArray), (wst hd ss)[a]? = some s → (setL cur2 i (List.replicate (j - i) (.string ⟨#[]⟩)))[a]? = some (.string s) := fun a s hs => by
            have hal := (List.getElem?_eq_some_iff.1 hs).1
            rw [setL_out _ _ _ _ (.inl (by omega))]
            exact HQ.out.2 a s (by rw [HWS.out]; exact hs)
          have hsz : (setL cur2 i (List.replicate (j - i) (.string ⟨#[]⟩))).size = cap := by rw [setL_size]; exact HQ.out.1
          show World.ownsRow _ base 9 1 (.slice (some ⟨g, 0, none⟩) i cap) (wst hd ss).length ((wst hd ss).map Value.string)
          rw [hil]
          refine ⟨by simp [hil], .inr ⟨g, cap, _, rfl, hbg, HBX.out, by omega, hcm, by rw [hsz]; omega, ?_⟩⟩
          apply List.ext_getElem?
          intro a
          rw [List.getElem?_take, List.getElem?_map]
          by_cases ha : a < i
          · obtain ⟨s, hs⟩ : ∃ s, (wst hd ss)[a]? = some s := ⟨_, List.getElem?_eq_getElem (by omega)⟩
            rw [if_pos (by omega), hs]
            simpa using hcell a s hs
          · rw [if_neg (by omega), List.getElem?_eq_none (by omega)]
            rfl
end Go.Proofs.YtbfhcbihgleddaaGreatDoor
/-
  The vault's wasted.
-/
namespace Go.Proofs.YtbfhcbihgleddaaGreatDoor
open Go.RowKit Go.Maps

/-- One more name. -/
theorem HS.add {w : World} {c mb n : Nat} {hd : List ByteArray} (h : HS w c mb n hd) (s : ByteArray) (hs : s.size ≤ maxLen) (hn : n < maxLen) :
    ∃ w', (Instr.mapUpdate 119 (.map (some mb)) (.string s) (.agg #[])).run Tryz.prog w = .ok () w' ∧ HS w' c mb (n + 1) (hd ++ [s]) ∧ w.grownBy w' (some mb) := by
  obtain ⟨D, hm, hD⟩ := h.map
  obtain ⟨w2, hst, hown, hturn⟩ := hm.store (string_keyed Tryz.underlying9) Tryz.underlying119 hn (keyOf_name hs) unitR_mk
  have hg := hturn.grown
  have hcm : c ≠ mb := fun e => by
    obtain ⟨es, clock, h1, _⟩ := hm
    have h2 := h.box
    unfold BoxT at h2
    rw [e, h1] at h2
    cases h2
  refine ⟨w2, hst, ⟨?_, _, hown, fun t ht => ?_⟩, hg⟩
  · have h2 := h.box
    have hl := h.box.lt
    unfold BoxT at *
    rw [hg.block c hl (by simpa using hcm)]; exact h2
  · unfold inH
    rw [List.any_append]
    by_cases e : nm t = nm s
    · have ek : key t = key s := by unfold key; exact congrArg Lit.string e
      rw [ek, has_put_same hm.isMap (by trivial)]
      simp [e]
    · have ek : key t ≠ key s := fun e2 => e (by unfold key at e2; exact Lit.string.inj e2)
      rw [has_put_other ek, hD t ht]
      unfold inH
      have : (nm s == nm t) = false := by simp; exact fun e2 => e e2.symm
      simp [this]
theorem OwnS.put {base : Nat} {w : World} {v : Value} {ss : List ByteArray} (h : OwnS base w v ss) (hne : ss ≠ []) : ∃ g cap, v = .slice (some ⟨g, 0, none⟩) ss.length cap ∧ (∃ cur, BoxT 9 w g cur) ∧ ∀ (a : Nat) (s : ByteArray), ss[a]? = some s → w.cell? ⟨g, a, none⟩ = some (.string s) := by
  rcases h.2 with ⟨_, h0⟩ | ⟨g, cap, cur, h1, h2, h3, h4, h5, h6, h7⟩
  · exact absurd (List.length_eq_zero_iff.1 h0) hne
  · have hb : BoxT 9 w g cur := h3
    refine ⟨g, cap, h1, ⟨cur, hb⟩, fun a s hs => ?_⟩
    rw [hb.cellAt]
    have h2 : (ss.map Value.string)[a]? = some (.string s) := by rw [List.getElem?_map, hs]; rfl
    rw [← h7, List.getElem?_take] at h2
    split at h2
    · simpa using h2
    · cases h2
/-- In the midst of wasted. -/
structure WI (w wr : World) (c mb : Nat) (hd : List ByteArray) : Prop where
  hs : HS wr c mb hd.length hd
  bel : Below w.heap.size w wr
  hc : w.heap.size ≤ c
  hm : w.heap.size ≤ mb
theorem WI.add {w wr w' : World} {c mb : Nat} {hd : List ByteArray} {s : ByteArray} (h : WI w wr c mb hd) (h1 : HS w' c mb (hd.length + 1) (hd ++ [s])) (hg : wr.grownBy w' (some mb)) : WI w w' c mb (hd ++ [s]) :=
  ⟨by rw [List.length_append]; exact h1, ⟨hg.os.trans h.bel.os, hg.tape.trans h.bel.tape, hg.output.trans h.bel.output, Nat.le_trans h.bel.size hg.size, fun i hi => (hg.block i (Nat.lt_of_lt_of_le hi h.bel.size) (by have := h.hm; simp; omega)).trans (h.bel.block i hi)⟩, h.hc, h.hm⟩
theorem WI.below {w wr w' : World} {c mb : Nat} {hd : List ByteArray} (h : WI w wr c mb hd) (hb : Below wr.heap.size wr w') : WI w w' c mb hd := ⟨h.hs.below hb, h.bel.trans (hb.mono h.bel.size), h.hc, h.hm⟩
theorem fls_take {th : List SpV} {i : Nat} {x : SpV} (hx : th[i]? = some x) : fls (th.take (i + 1)) = fls (th.take i) ++ (wholeN x.n :: x.parts) := by
  have hlt := (List.getElem?_eq_some_iff.1 hx).1
  have e : th[i] = x := by rw [List.getElem?_eq_getElem hlt] at hx; exact Option.some.inj hx
  rw [List.take_succ_eq_append_getElem hlt, e]
  simp [fls]
theorem fls_len_take (th : List SpV) (i : Nat) : (fls (th.take i)).length ≤ (fls th).length := by
  have h : (fls th).length = (fls (th.take i)).length + (fls (th.drop i)).length := by
    conv => lhs; rw [← List.take_append_drop i th]
    simp only [fls, List.flatMap_append, List.length_append]
  omega
set_option maxHeartbeats 2000000 in
set_option maxRecDepth 100000 in
theorem wasted_any {w : World} {base : Nat} {vn vt : Value} {names : List ByteArray} {th : List SpV} (ho : OwnS base w vn names) (hr : Row 84 4 SpV.cs base w vt th) (hok : ∀ x ∈ th, x.ok base w) (hnn : ∀ s ∈ names, s.size ≤ maxLen) (hln : names.length ≤ 1000000)
    (hth : ∀ x ∈ th, x.n < 18446744073709551616 ∧ x.parts.length ≤ 100000 ∧ (wholeN x.n).size ≤ maxLen ∧ ∀ s ∈ x.parts, s.size ≤ maxLen) (htl : th.length ≤ 1000000) (hfl : (fls th).length ≤ 1000000) :
    Calls Tryz.prog 36 #[vn, vt] w fun e w' => ∃ v', e = .returned v' ∧ OwnS base w' v' (wst (fls th) names) ∧ w.grownBy w' vn.ownBlock ∧ (∀ g, v'.ownBlock = some g → vn.ownBlock = some g) := by
  have hmk : (Instr.makeMap 119 none).run Tryz.prog w = .ok (.map (some w.heap.size)) (w.alloc (.map #[] 0)) := run_makeMap 119 w
  have hmf : ∀ (fn : Fn) (first cap : Array Value) (w : World), (Instr.makeFunc fn first cap).run Tryz.prog w = .ok (.func fn first cap) w := fun _ _ _ _ => rfl
  have hb0 : Below w.heap.size w ((w.alloc (.map #[] 0)).alloc (.cells #[.map (some w.heap.size)] 119)) := ((Below.refl _ _).alloc (Nat.le_refl _) _).alloc (by simp) _
  have H0 : Hid (WI w ((w.alloc (.map #[] 0)).alloc (.cells #[.map (some w.heap.size)] 119)) (w.heap.size + 1) w.heap.size (fls (th.take 0))) :=
    ⟨⟨BoxT.new_at (by simp), _, (World.ownsMap_made w Tryz.prog 9 unitR).alloc _, fun s _ => rfl⟩, hb0, by omega, by omega⟩
  obtain ⟨ta, tc, hvt⟩ := hr.shape
  subst hvt
  obtain ⟨na, nc, hvn⟩ := ho.shape
  subst hvn
  have HR := hide hr
  have HO := hide ho
  have HK := hide hok
  have HT := hide hth
  have HN := hide hnn
  clear hr ho hok hth hnn hb0
  go_enter Tryz.func36, Tryz.ntmps36
  go_wp2_with fail
  generalize (w.alloc (.map #[] 0)).alloc (.cells #[.map (some w.heap.size)] 119) = w1 at *
  clear hmk
  generalize w.heap.size + 1 = c at *
  obtain ⟨mb, hmb⟩ : ∃ mb, Hid (WI w w1 c mb (fls (th.take 0))) := ⟨_, H0⟩
  clear H0
  go_loopw [13] (fun iv wr => ∃ i : Nat, i ≤ th.length ∧ iv = .int .i64 i ∧ Hid (WI w wr c mb (fls (th.take i)))) (fun iv _ => th.length - (intOf iv).toNat)
  case atStart => exact ⟨0, Nat.zero_le _, rfl, hmb.out⟩
  case round =>
    clear hmb
    obtain ⟨i, hi, rfl, HI⟩ := hrel
    by_cases hlt : i < th.length
    · obtain ⟨x, hx⟩ : ∃ x, th[i]? = some x := ⟨_, List.getElem?_eq_getElem hlt⟩
      have hxm := List.mem_of_getElem? hx
      obtain ⟨g, off, cap, e, hrd⟩ := (HR.out.below HI.out.bel).read (fun _ => rfl) hx
      cases e
      have r0 := hrd 0 _ rfl
      have r1 := hrd 1 _ rfl
      have r2 := hrd 2 _ rfl
      have r3 := hrd 3 _ rfl
      simp only [Nat.add_zero, ← Nat.add_assoc] at r0 r1 r2 r3
      obtain ⟨t1, t2, t3, t4⟩ := HT.out x hxm
      have HF := hide (fls_take hx)
      have hfl2 := fls_len_take th (i + 1)
      rw [HF.out, List.length_append, List.length_cons] at hfl2
      have hz := HI.out.bel.size
      have bal : Below wr.heap.size wr (wr.alloc (.cells #[.int .u64 x.n, .int .u64 x.ep, x.vp, x.vc] 84)) := (Below.refl _ _).alloc (Nat.le_refl _) _
      have hfi := files_any (base := base) x (wr.alloc (.cells #[.int .u64 x.n, .int .u64 x.ep, x.vp, x.vc] 84)) (OwnS.below (OwnS.below (HK.out x hxm).p HI.out.bel) bal) t2 t1
      have HI2 := hide (HI.out.below bal)
      have HT3 : Hid (∀ s ∈ wholeN x.n :: x.parts, s.size ≤ maxLen) := fun s hs => by
        rcases List.mem_cons.1 hs with rfl | hs
        · exact t3
        · exact t4 s hs
      obtain ⟨vp, hvp⟩ : ∃ v, x.vp = v := ⟨_, rfl⟩
      obtain ⟨vc, hvc⟩ : ∃ v, x.vc = v := ⟨_, rfl⟩
      obtain ⟨p1, p2, hvp2⟩ : ∃ a c, vp = .slice a x.parts.length c := ⟨_, _, hvp.symm⟩
      obtain ⟨q1, q2, q3, hvc2⟩ : ∃ a l c, vc = .slice a l c := ⟨_, _, _, hvc.symm⟩
      rw [hvp] at r2 hfi HI2
      rw [hvc] at r3 hfi HI2
      subst hvp2 hvc2
      clear hrd hx hxm t1 t2 t3 t4 HI bal hvp hvc
      go_wp2_with fail
      generalize wr.alloc (.cells #[.int .u64 x.n, .int .u64 x.ep, .slice p1 x.parts.length p2, .slice q1 q2 q3] 84) = w2 at *
      refine hfi.mono ?_
      rintro e w3 ⟨v3, rfl, o3, b3⟩
      have HI3 : Hid (WI w w3 c mb (fls (th.take i) ++ (wholeN x.n :: x.parts).take 0)) := by rw [List.take_zero, List.append_nil]; exact HI2.out.below b3
      obtain ⟨gl, cl, hv3, hbl, hcl⟩ := OwnS.put o3 (by simp)
      obtain ⟨fl, hfl3⟩ : ∃ fl, wholeN x.n :: x.parts = fl := ⟨_, rfl⟩
      have hlen3 : x.parts.length + 1 = fl.length := by rw [← hfl3]; rfl
      rw [hfl3] at hcl HI3 HT3 HF hv3
      subst hv3
      have HCL : Hid ((∃ cur, BoxT 9 w3 gl cur) ∧ ∀ (a : Nat) (s : ByteArray), fl[a]? = some s → w3.cell? ⟨gl, a, none⟩ = some (.string s)) := ⟨hbl, hcl⟩
      have hfl4 : (fls (th.take i)).length + fl.length ≤ 1000000 := by omega
      clear hfi o3 b3 hcl hbl HI2 hfl3 hlen3 hfl2 r0 r1 r2 r3
      go_wp2_with fail
      go_loopw [20] (fun jv wq => ∃ a : Nat, a ≤ fl.length ∧ jv = .int .i64 a ∧ Hid (WI w wq c mb (fls (th.take i) ++ fl.take a)) ∧ Hid ((∃ cur, BoxT 9 wq gl cur) ∧ ∀ (a : Nat) (s : ByteArray), fl[a]? = some s → wq.cell? ⟨gl, a, none⟩ = some (.string s))) (fun jv _ => fl.length - (intOf jv).toNat)
      case atStart => exact ⟨0, Nat.zero_le _, rfl, HI3.out, HCL.out⟩
      case round =>
        clear HI3 HCL
        obtain ⟨a, ha, rfl, HJ, HC⟩ := hrel
        by_cases hal : a < fl.length
        · obtain ⟨s, hs⟩ : ∃ s, fl[a]? = some s := ⟨_, List.getElem?_eq_getElem hal⟩
          have k0 := HC.out.2 a s hs
          have htk : fl.take (a + 1) = fl.take a ++ [s] := by
            rw [List.take_succ_eq_append_getElem hal]
            rw [List.getElem?_eq_getElem hal] at hs
            rw [Option.some.inj hs]
          have hlk : (fls (th.take i) ++ fl.take a).length = (fls (th.take i)).length + a := by rw [List.length_append, List.length_take]; omega
          obtain ⟨w5, hst, hs5, hg5⟩ := HJ.out.hs.add s (HT3.out s (List.mem_of_getElem? hs)) (by rw [hlk]; unfold maxLen; omega)
          have k1 := HJ.out.hs.box
          have k2 := (k1.cellAt 0)
          have HN : Hid (WI w w5 c mb (fls (th.take i) ++ fl.take (a + 1))) := by rw [htk, ← List.append_assoc]; exact HJ.out.add hs5 hg5
          have HC5 : Hid ((∃ cur, BoxT 9 w5 gl cur) ∧ ∀ (a : Nat) (s : ByteArray), fl[a]? = some s → w5.cell? ⟨gl, a, none⟩ = some (.string s)) := by
            obtain ⟨⟨cur, hcur⟩, hcc⟩ := HC.out
            have hne : gl ≠ mb := fun e => by
              obtain ⟨D, ⟨es, clock, h1, _⟩, _⟩ := HJ.out.hs.map
              have h2 := hcur
              unfold BoxT at h2
              rw [e, h1] at h2
              cases h2
            have hbk := hg5.block gl hcur.lt (by simpa using hne)
            refine ⟨⟨cur, by unfold BoxT at *; rw [hbk]; exact hcur⟩, fun a s h => (World.cell?_of_block hbk).trans (hcc a s h)⟩
          clear hs htk hlk hs5 hg5 k1 HJ HC
          simp only [List.getElem?_toArray, List.getElem?_cons_zero] at k2
          go_wp2
          go_roundw
          case rel => exact ⟨a + 1, by omega, by go_num, HN.out, HC5.out⟩
          case measure => simp [intOf]; omega
        · obtain rfl : a = fl.length := by omega
          rw [List.take_length, ← HF.out] at HJ
          clear HC
          go_wp2
          go_roundw
          case rel => exact ⟨i + 1, by omega, by go_num, HJ.out⟩
          case measure => simp [intOf]; omega
    · obtain rfl : i = th.length := by omega
      rw [List.take_length] at HI
      have hde := delete_any (base := base) HI.out.hs (OwnS.below HO.out HI.out.bel) HN.out hln
      have HB := hide HI.out.bel
      clear HI
      go_wp2_with fail
      refine hde.mono ?_
      rintro e w5 ⟨v5, rfl, o5, g5, a5⟩
      go_wp2
      go_ret
      exact ⟨v5, rfl, o5, ⟨g5.os.trans HB.out.os, g5.tape.trans HB.out.tape, g5.output.trans HB.out.output, Nat.le_trans HB.out.size g5.size, fun i hi hne => (g5.block i (Nat.lt_of_lt_of_le hi HB.out.size) hne).trans (HB.out.block i hi)⟩, a5⟩
end Go.Proofs.YtbfhcbihgleddaaGreatDoor
