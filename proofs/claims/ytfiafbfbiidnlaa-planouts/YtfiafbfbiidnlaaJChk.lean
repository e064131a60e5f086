/-
  One node is checked.
-/
import Derived.Test.YtfiafbfbiidnlaaJFit
import Derived.Test.YtfiafbfbiidnlaaJLook
namespace Go.Proofs.Ytfiafbfbiidnlaa
open Go.RowKit

set_option maxRecDepth 100000 in
theorem sink_any (n : Nd) (w : World) : Calls Try.prog 44 #[n.val] w fun e w' => e = .returned (.bool (decide (n.kind = 8))) ∧ Below w.heap.size w w' := by
  obtain ⟨kd, ia, icp, ins, par, ⟨eo, en, ea, ec, el⟩, ag, wk, ws, wl⟩ := n
  unfold Nd.val
  simp only
  have hb : Below w.heap.size w (w.alloc (.cells #[.int .i64 kd, .slice ia ins.length icp, .int .i64 par, .int .i64 eo, .int .i64 en, .slice ea el.length ec, .int .i64 ag, .int .i64 wk, .int .i64 ws, .int .i64 wl] 54)) := (Below.refl _ _).alloc (Nat.le_refl _) _
  have HB := hide hb
  clear hb
  by_cases h : kd = 8
  · subst h
    go_enter Try.func44, Try.ntmps44
    go_wp2
    go_ret
    exact ⟨ret_bool (by simp), HB.out⟩
  · have h1 : (kd == 8) = false := by simp [h]
    have h2 : decide (kd = 8) = false := by simp [h]
    rw [h2]
    clear h h2
    go_enter Try.func44, Try.ntmps44
    go_wp2
    go_ret
    exact ⟨rfl, HB.out⟩

def cntOk (k : Int) (m : Nat) : Bool := if k = 1 then decide (m = 0) else if k = 5 then decide (1 ≤ m ∧ m ≤ 4) else decide (m = 1)
def okIn (ks : List Int) (x : Int) : Bool := decide (0 ≤ x ∧ x < (ks.length : Int)) && decide (ks.getD x.toNat 0 ≠ 8)
def inB (ks : List Int) (k : Int) (ins : List Int) : Bool := cntOk k ins.length && ins.all (okIn ks)
theorem all_take {f : Int → Bool} {l : List Int} {t : Nat} {x : Int} (hx : l[t]? = some x) (h : (l.take t).all f = true) : (l.take (t + 1)).all f = f x := by
  have hl := lt_of_get hx
  rw [List.take_succ_eq_append_getElem hl, List.all_append, h]
  rw [List.getElem?_eq_getElem hl] at hx
  cases hx
  simp
theorem all_not {f : Int → Bool} {l : List Int} {t : Nat} {x : Int} (hx : l[t]? = some x) (h : f x = false) : l.all f = false := by
  rw [List.all_eq_false]
  exact ⟨x, List.mem_of_getElem? hx, by simp [h]⟩

set_option maxHeartbeats 4000000 in
set_option maxRecDepth 100000 in
theorem inputs_any {B : Nat} {w : World} {v : Value} {ns : List Nd} (n : Nd) (hj : JobIn B w v ns) (hi : LSeg 1 ic B w (.slice n.ia n.ins.length n.ic) n.ins) (hB : B ≤ w.heap.size) :
    Calls Try.prog 58 #[n.val, v] w fun e w' => e = .returned (.bool (inB (ns.map Nd.kind) n.kind n.ins)) ∧ Below w.heap.size w w' := by
  obtain ⟨na, ncp, rfl⟩ := hj.shape
  obtain ⟨kd, ia, icp, ins, par, ⟨eo, en, ea, ec, el⟩, ag, wk, ws, wl⟩ := n
  unfold Nd.val
  simp only at hi ⊢
  have hil : ins.length ≤ 140737488355328 := by
    obtain ⟨_, _, _, h2, _⟩ := hi
    exact h2
  have hb : Below w.heap.size w (w.alloc (.cells #[.int .i64 kd, .slice ia ins.length icp, .int .i64 par, .int .i64 eo, .int .i64 en, .slice ea el.length ec, .int .i64 ag, .int .i64 wk, .int .i64 ws, .int .i64 wl] 54)) := (Below.refl _ _).alloc (Nat.le_refl _) _
  have HB := hide hb
  have HJ := hide hj
  have HI := hide hi
  have HW := hide hB
  clear hb hj hi hB
  cases hc : cntOk kd ins.length
  · have hr : inB (ns.map Nd.kind) kd ins = false := by unfold inB; rw [hc]; rfl
    rw [hr]
    unfold cntOk at hc
    by_cases k1 : kd = 1
    · rw [if_pos k1] at hc
      subst k1
      have h0 : ¬ (ins.length : Int) ≤ 0 := by simp at hc; have := List.length_pos_iff.2 hc; omega
      clear hc hr
      go_enter Try.func58, Try.ntmps58
      go_wp2_with fail
      go_ret
      exact ⟨rfl, HB.out⟩
    · rw [if_neg k1] at hc
      have q1 : (kd == 1) = false := by simp [k1]
      by_cases k5 : kd = 5
      · rw [if_pos k5] at hc
        subst k5
        have h0 : (ins.length : Int) < 1 ∨ ¬ (ins.length : Int) ≤ 4 := by
          have := of_decide_eq_false hc
          omega
        clear hc hr k1
        rcases h0 with h0 | h0
        · go_enter Try.func58, Try.ntmps58
          go_wp2_with fail
          go_ret
          exact ⟨rfl, HB.out⟩
        · have h1 : ¬ (ins.length : Int) < 1 := by omega
          go_enter Try.func58, Try.ntmps58
          go_wp2_with fail
          go_ret
          exact ⟨rfl, HB.out⟩
      · rw [if_neg k5] at hc
        have q5 : (kd == 5) = false := by simp [k5]
        have h0 : (ins.length : Int) < 1 ∨ ¬ (ins.length : Int) ≤ 1 := by
          have := of_decide_eq_false hc
          omega
        clear hc hr k1 k5
        rcases h0 with h0 | h0
        · go_enter Try.func58, Try.ntmps58
          go_wp2_with fail
          go_ret
          exact ⟨rfl, HB.out⟩
        · have h1 : ¬ (ins.length : Int) < 1 := by omega
          go_enter Try.func58, Try.ntmps58
          go_wp2_with fail
          go_ret
          exact ⟨rfl, HB.out⟩
  · have hr : inB (ns.map Nd.kind) kd ins = ins.all (okIn (ns.map Nd.kind)) := by unfold inB; rw [hc]; rfl
    rw [hr]
    clear hr
    have key : (kd = 1 ∧ ¬ (ins.length : Int) < 0 ∧ (ins.length : Int) ≤ 0) ∨ ((kd == 1) = false ∧ kd = 5 ∧ ¬ (ins.length : Int) < 1 ∧ (ins.length : Int) ≤ 4) ∨ ((kd == 1) = false ∧ (kd == 5) = false ∧ ¬ (ins.length : Int) < 1 ∧ (ins.length : Int) ≤ 1) := by
      unfold cntOk at hc
      by_cases k1 : kd = 1
      · rw [if_pos k1] at hc
        have := of_decide_eq_true hc
        exact .inl ⟨k1, by omega, by omega⟩
      · rw [if_neg k1] at hc
        by_cases k5 : kd = 5
        · rw [if_pos k5] at hc
          have := of_decide_eq_true hc
          exact .inr (.inl ⟨by simp [k1], k5, by omega, by omega⟩)
        · rw [if_neg k5] at hc
          have := of_decide_eq_true hc
          exact .inr (.inr ⟨by simp [k1], by simp [k5], by omega, by omega⟩)
    obtain ⟨R, hR⟩ : ∃ R, ins.all (okIn (ns.map Nd.kind)) = R := ⟨_, rfl⟩
    rw [hR]
    have HR := hide hR
    clear hR hc
    rcases key with ⟨rfl, l1, l2⟩ | ⟨q1, rfl, l1, l2⟩ | ⟨q1, q5, l1, l2⟩
    all_goals
      go_enter Try.func58, Try.ntmps58
      go_wp2_with fail
      go_loopg [30] (ins.length + 1) (fun g iv wr => ∃ t : Nat, iv = .int .i64 (t : Int) ∧ t ≤ ins.length ∧ ins.length + 1 ≤ g + t ∧ Hid ((ins.take t).all (okIn (ns.map Nd.kind)) = true) ∧ Hid (Below w.heap.size w wr))
      case atStart => exact ⟨0, rfl, by omega, by omega, rfl, HB⟩
      case round =>
        obtain ⟨t, rfl, ht, hg, HA, GB⟩ := hrel
        obtain ⟨go, rfl⟩ : ∃ go, gk = go + 1 := ⟨gk - 1, by omega⟩
        by_cases hlt : t < ins.length
        · obtain ⟨x, hx⟩ := get_of_lt hlt
          obtain ⟨xb, xo, rfl, -, cx⟩ := (HI.out.below (GB.out.mono HW.out)).num hx
          have bt : (t : Int) < (ins.length : Int) := by omega
          have HTH := hide (there_any wr x na ns.length ncp)
          have HX := hide hx
          by_cases hth : x < 0 ∨ (ns.length : Int) ≤ x
          · have hok : okIn (ns.map Nd.kind) x = false := by
              unfold okIn
              rw [show decide (0 ≤ x ∧ x < ((ns.map Nd.kind).length : Int)) = false from by simp; omega]; rfl
            have hR2 : Hid (R = false) := HR.out.symm.trans (all_not hx hok)
            have hd : decide (¬ (x < 0 ∨ (ns.length : Int) ≤ x)) = false := by simp; omega
            rw [hd] at HTH
            clear hx hok hd hth
            go_wp2_with (go_at_call 66; refine HTH.out.mono ?_; rintro e w1 ⟨rfl, rfl⟩)
            go_ret
            exact ⟨ret_bool hR2.out.symm, GB.out⟩
          · obtain ⟨f, rfl⟩ : ∃ f : Nat, x = (f : Int) := ⟨x.toNat, by omega⟩
            obtain ⟨nf, hnf⟩ := get_of_lt (l := ns) (i := f) (by omega)
            obtain ⟨nb, no, rfl, -, d0, d1, d2, d3, d4, d5, d6, d7, d8, d9⟩ := (HJ.out.below (GB.out.mono HW.out)).at_ hnf
            have bf : (f : Int) < (ns.length : Int) := by omega
            have hok : okIn (ns.map Nd.kind) (f : Int) = !decide (nf.kind = 8) := by
              unfold okIn
              rw [show decide (0 ≤ (f : Int) ∧ (f : Int) < ((ns.map Nd.kind).length : Int)) = true from by simp; omega, Int.toNat_natCast, getD_of (show (ns.map Nd.kind)[f]? = some nf.kind by rw [List.getElem?_map, hnf]; rfl)]
              simp
            have hd : decide (¬ ((f : Int) < 0 ∨ (ns.length : Int) ≤ (f : Int))) = true := by simp; omega
            rw [hd] at HTH
            have HSK : Hid (Calls Try.prog 44 #[nf.val] wr fun e w' => e = .returned (.bool (decide (nf.kind = 8))) ∧ Below wr.heap.size wr w') := sink_any nf wr
            unfold Nd.val at HSK
            have HOK := hide hok
            obtain ⟨fk, fia, fic, fins, fpar, ⟨fo, fn, fea, fec, fel⟩, fag, fwk, fws, fwl⟩ := nf
            simp only at d0 d1 d2 d3 d4 d5 d6 d7 d8 d9 HSK HOK
            clear hx hok hd hth hnf
            by_cases h8 : fk = 8
            · have hd8 : decide (fk = 8) = true := by simp [h8]
              rw [hd8] at HSK HOK
              have hR2 : Hid (R = false) := HR.out.symm.trans (all_not HX.out HOK.out)
              clear hd8 h8
              go_wp2_with (first
                | (go_at_call 66; refine HTH.out.mono ?_; rintro e w1 ⟨rfl, rfl⟩)
                | (go_at_call 44; refine HSK.out.mono ?_; rintro e w2 ⟨rfl, b2⟩))
              go_ret
              exact ⟨ret_bool hR2.out.symm, GB.out.trans (b2.mono GB.out.size)⟩
            · have hd8 : decide (fk = 8) = false := by simp [h8]
              rw [hd8] at HSK HOK
              clear hd8 h8
              go_wp2_with (first
                | (go_at_call 66; refine HTH.out.mono ?_; rintro e w1 ⟨rfl, rfl⟩)
                | (go_at_call 44; refine HSK.out.mono ?_; rintro e w2 ⟨rfl, b2⟩))
              go_roundg go
              case rel => exact ⟨t + 1, by go_num, by omega, by omega, (all_take HX.out HA.out).trans HOK.out, GB.out.trans (b2.mono GB.out.size)⟩
              case measure => omega
        · have hR2 : Hid (R = true) := by
            have := HA.out
            rw [List.take_of_length_le (by omega)] at this
            exact HR.out.symm.trans this
          have bt : ¬ (t : Int) < (ins.length : Int) := by omega
          go_wp2_with fail
          go_ret
          exact ⟨ret_bool hR2.out.symm, GB.out⟩
end Go.Proofs.Ytfiafbfbiidnlaa
