/-
  The document's Check of any job, and fit: what they take the program takes too.
-/
import Derived.Test.YtfiafbfbiidnlaaPRWts
import Derived.Test.YtfiafbfbiidnlaaERef
import Derived.Test.YtfiafbfbiidnlaaJLight
namespace Go.Proofs.Ytfiafbfbiidnlaa
open Go.RowKit

/-- What the document takes. -/
structure CkOk (ns : List Nd) : Prop where
  lt : LtOk ns
  wt : ∀ x ∈ wtsD ns, x ≤ 64
  sk : ∃ n ∈ ns, n.kind = 8
theorem wtsD_len (ns : List Nd) : (wtsD ns).length = ns.length := by
  unfold wtsD
  rw [wtsL_len, List.length_replicate]
set_option maxHeartbeats 4000000 in
set_option maxRecDepth 100000 in
theorem rcheckA {w : World} {v : Value} {ns : List Nd} (hj : JobIn w.heap.size w v ns) (hx : ExR w ns) :
    Calls Try.prog 28 #[.agg #[v]] w fun e w' => ∃ c : Int, e = .returned (.int .i64 c) ∧ (c = 0 → CkOk ns) ∧ Below w.heap.size w w' := by
  obtain ⟨na, ncp, rfl⟩ := hj.shape
  have hlen := hj.seg.len
  have hb := below_box w (.cells #[.slice na ns.length ncp] 24)
  have HB := hide hb
  have HX := hide (BoxT.new 24 w #[.slice na ns.length ncp])
  have HLI := hide (rlightA ((hj.below hb).mono hb.size) (hx.below hb))
  have HJ := hide hj
  have HEX := hide hx
  clear hj hb hx
  go_enter Try.func28, Try.ntmps28
  go_wp2_with fail
  refine HLI.out.mono ?_
  rintro e w1 ⟨c, rfl, hc, b1⟩
  have B1 := hide (HB.out.trans (b1.mono HB.out.size))
  have X1 := hide (HX.out.below b1)
  have cx1 : w1.cell? ⟨w.heap.size, 0, none⟩ = some (.slice na ns.length ncp) := by rw [X1.out.cellAt]; rfl
  by_cases hc0 : c = 0
  rotate_left
  · have hcn : (c != 0) = true := by simp [hc0]
    have HC0 := hide hc0
    clear hc hc0
    as_aux_lemma =>
    go_wp2_with fail
    go_ret
    exact ⟨c, rfl, (fun h => absurd h HC0.out), B1.out⟩
  subst hc0
  clear hc b1
  have HWT := hide (rwtsA ((HJ.out.below B1.out).mono B1.out.size) (HEX.out.below B1.out))
  go_wp2_with fail
  refine HWT.out.mono ?_
  rintro e w2 ⟨u, rfl, hu, b2⟩
  have B2 := hide (B1.out.trans (b2.mono B1.out.size))
  have X2 := hide (X1.out.below b2)
  clear b2 cx1
  rcases hu with rfl | ⟨hlt, G, rfl, hG⟩
  · as_aux_lemma =>
    go_wp2_with fail
    go_loopg [5, 6] 2 (fun g sv iv wr => iv = .int .i64 0 ∧ sv = .int .i64 0 ∧ 1 ≤ g ∧ w2 = wr)
    case atStart => exact ⟨rfl, rfl, by omega, rfl⟩
    case round =>
      obtain ⟨rfl, rfl, hg, rfl⟩ := hrel
      go_wp2_with fail
      go_ret
      exact ⟨80, rfl, (fun h => by cases h), B2.out⟩
  have hwl := wtsD_len ns
  obtain ⟨wl, hwd⟩ : ∃ l, wtsD ns = l := ⟨_, rfl⟩
  rw [hwd] at hG hwl
  have HOK : Hid ((∀ x ∈ wl, x ≤ 64) → (∃ n ∈ ns, n.kind = 8) → CkOk ns) := fun h1 h2 => ⟨hlt, by rw [hwd]; exact h1, h2⟩
  have HG := hide hG
  have hl12 := hlt.l2
  have HWL := hide hwl
  clear hG hwd hlt hwl
  as_aux_lemma =>
  go_wp2_with fail
  go_loopg [5, 6] (ns.length + 1) (fun g sv iv wr => ∃ t s : Nat, iv = .int .i64 (t : Int) ∧ sv = .int .i64 (s : Int) ∧ t ≤ ns.length ∧ s ≤ t ∧ ns.length + 1 ≤ g + t ∧ Hid (∀ j < t, ∀ x, wl[j]? = some x → x ≤ 64) ∧ Hid (0 < s → ∃ n ∈ ns, n.kind = 8) ∧ w2 = wr)
  case atStart => exact ⟨0, 0, rfl, rfl, by omega, by omega, by omega, (fun j hj => by omega), (fun h => by omega), rfl⟩
  case round =>
    obtain ⟨t, s, rfl, rfl, ht, hst, hg, GW, GS, rfl⟩ := hrel
    obtain ⟨go, rfl⟩ : ∃ go, gk = go + 1 := ⟨gk - 1, by omega⟩
    by_cases hlt : t < ns.length
    · obtain ⟨n, hn⟩ := get_of_lt hlt
      have bt : (t : Int) < (ns.length : Int) := by omega
      obtain ⟨x, hx⟩ := get_of_lt (l := wl) (i := t) (by rw [HWL.out]; exact hlt)
      have cw : w2.cell? ⟨G, t, none⟩ = some (.int .i64 (x : Int)) := by rw [HG.out.cellAt]; simp [hx]
      have cx : w2.cell? ⟨w.heap.size, 0, none⟩ = some (.slice na ns.length ncp) := by rw [X2.out.cellAt]; rfl
      obtain ⟨nb, no, hna, nlt, d0, -⟩ := (HJ.out.below B2.out).at_ hn
      subst hna
      have HN := hide (List.mem_of_getElem? hn)
      have HXX := hide hx
      clear hn hx
      by_cases h64 : (64 : Int) < (x : Int)
      · clear GW GS
        go_wp2_with fail
        go_ret
        exact ⟨88, rfl, (fun h => by cases h), B2.out⟩
      · have GW2 : Hid (∀ j < t + 1, ∀ x, wl[j]? = some x → x ≤ 64) := fun j hj y hy => by
          rcases Nat.lt_succ_iff_lt_or_eq.1 hj with h1 | h1
          · exact GW.out j h1 y hy
          · subst h1
            rw [HXX.out] at hy
            cases hy
            omega
        by_cases h8 : n.kind = 8
        · have g8 : (n.kind == 8) = true := by simp [h8]
          have GS2 : Hid (0 < s + 1 → ∃ n ∈ ns, n.kind = 8) := fun _ => ⟨n, HN.out, h8⟩
          clear h8 GW GS
          go_wp2_with fail
          go_roundg go
          case rel => exact ⟨t + 1, s + 1, by go_num, by go_num, by omega, by omega, by omega, GW2, GS2, rfl⟩
          case measure => omega
        · have g8 : (n.kind == 8) = false := by simp [h8]
          clear h8 GW
          go_wp2_with fail
          go_roundg go
          case rel => exact ⟨t + 1, s, by go_num, rfl, by omega, by omega, by omega, GW2, GS, rfl⟩
          case measure => omega
    · have bt : ¬ (t : Int) < (ns.length : Int) := by omega
      have hall : ∀ x ∈ wl, x ≤ 64 := fun x hx => by
        obtain ⟨j, hj⟩ := List.getElem?_of_mem hx
        exact GW.out j (by have := lt_of_get hj; rw [HWL.out] at this; omega) x hj
      have HA := hide hall
      clear hall GW
      by_cases hs0 : s = 0
      · have gs : ((s : Int) == 0) = true := by simp [hs0]
        clear hs0
        go_wp2_with fail
        go_ret
        exact ⟨80, rfl, (fun h => by cases h), B2.out⟩
      · have gs : ((s : Int) == 0) = false := by simp [hs0]
        have HF := hide (HOK.out HA.out (GS.out (by omega)))
        clear hs0
        go_wp2_with fail
        go_ret
        exact ⟨0, rfl, (fun _ => HF.out), B2.out⟩

/-- What fit answers. -/
def FtP (ns : List Nd) (u : Value) : Prop := u = .bool false ∨ (u = .bool true ∧ ns.length ≤ 40 ∧ (∀ n ∈ ns, lgOk n) ∧ CkOk ns)
theorem exR_of {w : World} {ns : List Nd} (h : ∀ n ∈ ns, lgOk n) (he : ExIn w ns) : ExR w ns := fun n hn w' hb => by
  have hl := h n hn
  have hk := (lgt_ok n.e 100 40 (by decide)).2.2 hl.2
  have h2 := hl.2
  exact rCheck_any n.e ((he n hn).below hb) (by omega) (by omega)
set_option maxHeartbeats 4000000 in
set_option maxRecDepth 100000 in
theorem fit_any {w : World} {v : Value} {ns : List Nd} (hj : JobIn w.heap.size w v ns) (hE : ExIn w ns) :
    Calls Try.prog 9 #[.agg #[v]] w fun e w' => ∃ u, e = .returned u ∧ FtP ns u ∧ Below w.heap.size w w' := by
  obtain ⟨na, ncp, rfl⟩ := hj.shape
  have hlen := hj.seg.len
  have hb : Below w.heap.size w (w.alloc (.cells #[.slice na ns.length ncp] 24)) := (Below.refl _ _).alloc (Nat.le_refl _) _
  have HB := hide hb
  have HX := hide (BoxT.new 24 w #[.slice na ns.length ncp])
  have HJ := hide hj
  have HE := hide hE
  clear hb hj hE
  by_cases h40 : ns.length ≤ 40
  · have c40 : (ns.length : Int) ≤ 40 := by omega
    go_enter Try.func9, Try.ntmps9
    go_wp2_with fail
    go_loopg [3] (ns.length + 1) (fun g iv wr => ∃ t : Nat, iv = .int .i64 (t : Int) ∧ t ≤ ns.length ∧ ns.length + 1 ≤ g + t ∧ Hid (∀ n ∈ ns.take t, lgOk n) ∧ Hid (Below w.heap.size w wr) ∧ Hid (BoxT 24 wr w.heap.size #[.slice na ns.length ncp]))
    case atStart => exact ⟨0, rfl, by omega, by omega, (fun n hn => by simp at hn), HB, HX⟩
    case round =>
      obtain ⟨t, rfl, ht, hg, GA, GB, GX⟩ := hrel
      obtain ⟨go, rfl⟩ : ∃ go, gk = go + 1 := ⟨gk - 1, by omega⟩
      have cx : wr.cell? ⟨w.heap.size, 0, none⟩ = some (.slice na ns.length ncp) := by rw [GX.out.cellAt]; rfl
      by_cases hlt : t < ns.length
      · obtain ⟨n, hn⟩ := get_of_lt hlt
        have bt : (t : Int) < (ns.length : Int) := by omega
        obtain ⟨nb, no, rfl, nlt, d0, d1, d2, d3, d4, d5, d6, d7, d8, d9⟩ := (HJ.out.below GB.out).at_ hn
        have hnm := List.mem_of_getElem? hn
        have hil := (HJ.out.ins n hnm).len
        have HLT := hide (Light_any n.e wr 100 40 (((HE.out n hnm).below GB.out)) (by omega) (by omega) (by omega) (by omega))
        have hok := lgt_ok n.e 100 40 (by omega)
        have HTK : Hid (lgOk n → ∀ m ∈ ns.take (t + 1), lgOk m) := fun h m hm => by
          have hl := lt_of_get hn
          rw [List.take_succ_eq_append_getElem hl] at hm
          rw [List.getElem?_eq_getElem hl] at hn
          cases hn
          rcases List.mem_append.1 hm with hm | hm
          · exact GA.out m hm
          · rcases List.mem_singleton.1 hm with rfl
            exact h
        have hlg : lgOk n = (n.ins.length ≤ 40 ∧ lgt n.e 100 40 ≤ 100) := rfl
        rw [hlg] at HTK
        clear hlg hn hnm
        obtain ⟨kd, ia, icp, ins, par, ⟨eo, en, ea, ec, el⟩, ag, wk, ws, wl⟩ := n
        unfold Ex.val at HLT
        simp only at d0 d1 d2 d3 d4 d5 d6 d7 d8 d9 HLT hok HTK hil
        generalize lgt ⟨eo, en, ea, ec, el⟩ 100 40 = q at *
        obtain ⟨hq1, hq2, -⟩ := hok
        by_cases hi40 : ins.length ≤ 40
        · have ci : (ins.length : Int) ≤ 40 := by omega
          by_cases hq : q ≤ 100
          · have HT2 := hide (HTK.out ⟨hi40, hq⟩)
            clear HTK
            go_wp2_with (go_at_call 27; refine HLT.out.mono ?_; rintro e w1 ⟨rfl, b1⟩)
            go_roundg go
            case rel => exact ⟨t + 1, by go_num, by omega, by omega, HT2, GB.out.trans (b1.mono GB.out.size), GX.out.below b1⟩
            case measure => omega
          · clear HTK
            go_wp2_with (go_at_call 27; refine HLT.out.mono ?_; rintro e w1 ⟨rfl, b1⟩)
            go_ret
            exact ⟨_, rfl, .inl rfl, GB.out.trans (b1.mono GB.out.size)⟩
        · have ci : ¬ (ins.length : Int) ≤ 40 := by omega
          clear HTK
          go_wp2_with fail
          go_ret
          exact ⟨_, rfl, .inl rfl, GB.out⟩
      · have bt : ¬ (t : Int) < (ns.length : Int) := by omega
        have HT : Hid (∀ n ∈ ns, lgOk n) := by
          have := GA.out
          rw [List.take_of_length_le (by omega)] at this
          exact this
        have HCK := hide (rcheckA ((HJ.out.below GB.out).mono GB.out.size) (exR_of HT.out (HE.out.below GB.out)))
        go_wp2_with (go_at_call 28; refine HCK.out.mono ?_; rintro e w2 ⟨c, rfl, hc, b2⟩; have HCC := hide hc; clear hc)
        go_ret
        by_cases hc0 : c = 0
        · exact ⟨_, rfl, .inr ⟨by subst hc0; rfl, h40, HT.out, HCC.out hc0⟩, GB.out.trans (b2.mono GB.out.size)⟩
        · exact ⟨_, rfl, .inl (by simp [hc0]), GB.out.trans (b2.mono GB.out.size)⟩
  · have c40 : ¬ (ns.length : Int) ≤ 40 := by omega
    go_enter Try.func9, Try.ntmps9
    go_wp2_with fail
    go_ret
    exact ⟨_, rfl, .inl rfl, HB.out⟩
end Go.Proofs.Ytfiafbfbiidnlaa
